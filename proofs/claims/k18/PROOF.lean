import PyProof.Rows.All
import Wide.All
import OpenK.AllK
import Wide.FinOn
import Lean
import PyProof.EqAt
import PyProof.EqKinds
import PyProof.TupleCall
import PySem.Challenge.RW_guesscode_k18_nothing_is_kept
set_option Elab.async false
set_option linter.all false
set_option maxRecDepth 100000
set_option maxHeartbeats 4000000
abbrev wB:=@PySem.wpAny_bind
abbrev wP:=@PySem.wpAny_pure
abbrev cY:=@List.getElem?_eq_getElem
abbrev iI:=@List.getD_eq_getElem?_getD
abbrev gH:=@PySem.Heap.get?_push_of_some
abbrev jS:=@PySem.Heap.get?_push_size
abbrev fS:=@PySem.Heap.lt_size
abbrev ke:=@List.mem_cons_of_mem
abbrev lN:=@List.mem_cons_self
abbrev lx:=@Nat.lt_of_lt_of_le
abbrev CC:=@PySem.Heap.get?_update_other
abbrev K5:=@PySem.Heap.get?_update_self
abbrev An:=@Nat.le_of_lt
abbrev lO:=@Nat.ne_of_lt
abbrev vV:=@Nat.ne_of_gt
abbrev zA:=@List.getElem?_cons_zero
abbrev zB:=@List.getElem?_cons_succ
abbrev zC:=@List.length_cons
abbrev zD:=@Option.bind_some
abbrev zE:=@List.set_cons_zero
abbrev zF:=@List.set_cons_succ
abbrev zG:=@Option.map_some
abbrev zH:=@List.length_nil
abbrev zI:=@List.map_cons
abbrev zJ:=@List.length_map
abbrev zK:=@List.getElem?_map
abbrev zL:=@List.map_nil
abbrev zM:=@List.size_toArray
abbrev zN:=@Bool.false_eq_true
abbrev Fg:=@PySem.W.Frag
abbrev zO:=@List.map_map
abbrev zP:=@List.mem_map_of_mem
abbrev zQ:=@List.length_append
abbrev zR:=@List.mem_of_find?_eq_some
abbrev zT:=@Nat.lt_irrefl
abbrev zU:=@Nat.zero_le
abbrev zV:=@Option.some.inj
abbrev Q0:=@Option.map_eq_some_iff
abbrev Q1:=@Nat.le_refl
abbrev Q2:=@List.nil_append
abbrev Q3:=@List.cons_append
abbrev Q4:=@List.mem_cons
abbrev Q5:=@Bool.and_eq_true
abbrev Q6:=@List.length_set
abbrev Q7:=@Nat.le_trans
abbrev Q8:=@Bool.false_ne_true
abbrev Q9:=@List.all_eq_true
abbrev Qa:=@List.append_nil
abbrev Qb:=@List.getElem?_append_left
abbrev Qc:=@List.getElem_mem
abbrev Qd:=@List.mem_map
abbrev Qe:=@List.getElem?_append_right
abbrev Qf:=@List.mem_singleton
abbrev wg:=@Array.length_toList
abbrev yI:=@List.mem_append_right
abbrev Ao:=@List.getElem?_replicate
abbrev Ap:=@List.getElem?_set_self
abbrev Ic:=@List.take_succ_eq_append_getElem
abbrev Al:=@List.getElem?_set_ne
abbrev ux:=@List.map_append
abbrev yG:=@Int.toNat_natCast
abbrev Ec:=@List.getElem?_eq_some_iff
abbrev wj:=@List.lookup_cons
abbrev Ed:=@List.find?_cons_of_neg
abbrev Aq:=@List.take_length
abbrev At:=@List.length_take
abbrev DK:=@List.pairwise_cons
abbrev Eg:=@Array.getElem?_toList
abbrev DM:=@List.length_range
abbrev Ie:=@List.find?_cons_of_pos
abbrev Eh:=@List.map_congr_left
abbrev CD:=@List.mem_append
abbrev CF:=@PySem.Heap.size_push
abbrev Ij:=@List.length_replicate
abbrev Ik:=@List.mem_of_getElem?
abbrev DN:=@Bool.not_true
abbrev Il:=@Nat.lt_of_le_of_lt
abbrev Im:=@List.getElem_range
abbrev Ig:=@Nat.lt_succ_self
abbrev LF:=@List.length_singleton
abbrev Io:=@Nat.le_add_right
abbrev K6:=@Nat.lt_succ_of_lt
abbrev K7:=@List.getElem_map
abbrev M7:=@Array.perm_iff_toList_perm
abbrev M8:=@Array.getElem?_eq_getElem
abbrev M1:=@Bool.and_eq_true_iff
abbrev Ip:=@List.any_cons
namespace L2
open PySem PySem.Spec PyProof.Rows
noncomputable abbrev bx:=Sum Int Str
noncomputable def vW:bx->Value->Bool
 | .inl k,v=>Value.isInt k v
 | .inr x,v=>Value.isStrOf x v
noncomputable def Na(w:World):bx->Int
 | .inl k=>hashInt k
 | .inr x=>hashStr w x
theorem cw:∀{k:bx} {v:Value},vW k v=true->(∃i t,k=Sum.inl i/\v=Value.int i t)\/(∃x t,k=Sum.inr x/\v=Value.str x t)
 | .inl i,v,h=>by
  obtain⟨t,e⟩:=Value.isInt_shape (k:=i) (v:=v) h;exact .inl ⟨i,t,rfl,e⟩
 | .inr x,v,h=>by
  obtain⟨t,e⟩:=Value.isStrOf_shape (x:=x) (v:=v) h;exact .inr ⟨x,t,rfl,e⟩
theorem DO(i:Int)(t:Tok):vW (.inl i) (.int i t)=true:=by simp [vW,Value.isInt]
theorem DP(x:Str)(t:Tok):vW (.inr x) (.str x t)=true:=by simp [vW,Value.isStrOf]
theorem LG(a b:Int):decide ((Sum.inl a:bx)=Sum.inl b)=(a==b):=by
 by_cases e:a=b
 · subst e;simp
 · have h:¬(Sum.inl a:bx)=Sum.inl b:=λq=>e (Sum.inl.inj q);rw [decide_eq_false h];exact(beq_eq_false_iff_ne.mpr e).symm
theorem LH(a b:Str):decide ((Sum.inr a:bx)=Sum.inr b)=decide (a=b):=by
 by_cases e:a=b
 · subst e;simp
 · have h:¬(Sum.inr a:bx)=Sum.inr b:=λq=>e (Sum.inr.inj q);rw [decide_eq_false h,decide_eq_false e]
theorem LI(a:Int)(b:Str):decide ((Sum.inl a:bx)=Sum.inr b)=false:=decide_eq_false (λq=>nomatch q)
theorem LJ(a:Str)(b:Int):decide ((Sum.inr a:bx)=Sum.inl b)=false:=decide_eq_false (λq=>nomatch q)
noncomputable def be(prog:Program)(w:World):PySem.KeyKind prog w bx where
 is:=vW
 hash:=Na w
 inj:=λv a b ha hb=>by
  rcases cw ha with⟨i,t,rfl,rfl⟩|⟨x,t,rfl,rfl⟩
  · rcases cw hb with⟨j,u,rfl,e⟩|⟨y,u,rfl,e⟩
    · injection e with e1 _;rw [e1]
    · exact nomatch e
  · rcases cw hb with⟨j,u,rfl,e⟩|⟨y,u,rfl,e⟩
    · exact nomatch e
    · injection e with e1 _;rw [e1]
 byValue:=λk v h=>by
  rcases cw h with⟨i,t,rfl,rfl⟩|⟨x,t,rfl,rfl⟩<;>rfl
 pyHash:=λhv h=>by
  rcases cw hv with⟨i,t,rfl,rfl⟩|⟨x,t,rfl,rfl⟩
  · exact wpAny_pyHash_int h
  · exact wpAny_pyHash_str h
 eqBool:=λhu hv h=>by
  rcases cw hu with⟨i,t,rfl,rfl⟩|⟨x,t,rfl,rfl⟩
  · rcases cw hv with⟨j,u,rfl,rfl⟩|⟨y,u,rfl,rfl⟩
    · rw [LG]at h;exact wpAny_eqBool_int h
    · rw [LI]at h;exact SeqAt.EqAt.int_str i t y u _ _ _ _ h
  · rcases cw hv with⟨j,u,rfl,rfl⟩|⟨y,u,rfl,rfl⟩
    · rw [LJ]at h;exact SeqAt.EqAt.str_int x t j u _ _ _ _ h
    · rw [LH]at h;exact wpAny_eqBool_str h
 «strs»:=λk x t v h=>by
  rcases cw h with⟨i,u,rfl,e⟩|⟨y,u,rfl,e⟩
  · exact nomatch e
  · injection e with e1 _
    subst e1;cases v<;>rfl
theorem yJ(prog:Program)(w:World)(i:Int)(t:Tok):(be prog w).is (.inl i) (.int i t)=true:=DO i t
theorem yK(prog:Program)(w:World)(x:Str)(t:Tok):(be prog w).is (.inr x) (.str x t)=true:=DP x t
inductive V where
 |non|bl (b:Bool)|int (i:Int)|str (x:Str)|byt (b:Array UInt8)|flt (b:UInt64)|ref (a:Addr)|ty (n:String)
 deriving DecidableEq
noncomputable def RelV:V->Value->Prop
 | .non,u=>u=Value.none
 | .bl b,u=>u=Value.bool b
 | .int i,u=>∃t,u=Value.int i t
 | .str x,u=>∃t,u=Value.str x t
 | .byt b,u=>∃t,u=Value.bytes b t
 | .flt b,u=>∃t,u=Value.float b t
 | .ref a,u=>u=Value.ref a
 | .ty n,u=>u=Value.type n
abbrev Vals:List V->List Value->Prop:=Paired RelV
theorem Vals.length {xs:List V}{us:List Value}(r:Vals xs us):xs.length=us.length:=Paired.length r
theorem Vals.get:∀{xs:List V} {us:List Value} {i:Nat} {x:V},Vals xs us->xs[i]? =some x->∃u,us[i]? =some u/\RelV x u
 |_,_,_,_,.nil,e=>by simp at e
 |_,_,0,_,.cons r _,e=>by simp at e;subst e;exact⟨_,rfl,r⟩
 |_,_,i+1,x,.cons _ t,e=>by
  obtain⟨u,h1,h2⟩:=Vals.get (i:=i) (x:=x) t (by simpa using e)
  exact⟨u,by simpa using h1,h2⟩
theorem Vals.set {x:V}{u:Value}(r:RelV x u):∀{xs:List V} {us:List Value} (i:Nat),Vals xs us->Vals (xs.set i x) (us.set i u)
 |_,_,_,.nil=>.nil
 |_,_,0,.cons _ t=>.cons r t
 |_,_,i+1,.cons q t=>.cons q (Vals.set r i t)
theorem Vals.append {xs ys:List V}{us ws:List Value}(h:Vals xs us)(s:Vals ys ws):Vals (xs++ys) (us++ws):=by
 induction h with
 |nil=>exact s
 |cons r t ih=>exact .cons r ih
theorem Vals.take:∀{xs:List V} {us:List Value} (n:Nat),Vals xs us->Vals (xs.take n) (us.take n)
 |_,_,0,_=>.nil
 |_,_,_+1,.nil=>.nil
 |_,_,n+1,.cons r t=>.cons r (Vals.take n t)
theorem Vals.drop:∀{xs:List V} {us:List Value} (n:Nat),Vals xs us->Vals (xs.drop n) (us.drop n)
 |_,_,0,r=>r
 |_,_,_+1,.nil=>.nil
 |_,_,n+1,.cons _ t=>Vals.drop n t
noncomputable def RelO:Option V->Option Value->Prop
 |some v,some u=>RelV v u
 |none,none=>True
 |_,_=>False
def KV {κ:Type}:List (κ×V)->List (κ×Value)->Prop:=Paired λ(p:κ×V) (q:κ×Value)=>p.1=q.1/\RelV p.2 q.2
noncomputable def kV:bx->V
 | .inl i=>.int i
 | .inr x=>.str x
inductive HO where
 |lst (xs:List V)
 |tup (xs:List V)
 |dK (kvs:List (bx×V))|dT (kvs:List (List bx×V))
 |set (S:Int->Bool) (n:Nat)
 |ins (C dx:Addr) (fs:List (Str×V))
 |own (x:Addr)
 |xd (fs:List (Str×V))
 |met (f x:Addr)
 |rng (lo hi:Int)
 |frz (o:Obj) (u:HO)
 |tbl (ps:Array Value)
 |ext (φ:Heap->Prop)
noncomputable abbrev Hp:=Addr->Option HO
def bv(H:Hp)(a:Addr)(o:HO):Hp:=λb=>if b=a then some o else H b
theorem aS {H:Hp}{a:Addr}{o:HO}:bv H a o a=some o:=by unfold bv;rw [if_pos rfl]
theorem aN {H:Hp}{a b:Addr}{o:HO}(h:b≠a):bv H a o b=H b:=by unfold bv;rw [if_neg h]
theorem M9 {H:Hp}{a b:Addr}{o u:HO}(h:H a=some o)(h':H b=some u)(d:o≠u):a≠b:=by
 intro e;subst e;rw [h]at h';exact d (zV h')
theorem aQ {H:Hp}{a b:Addr}{o:HO}(h:H a=some o)(h':H b=none):a≠b:=by
 intro e;subst e;rw [h]at h';cases h'
section
variable (P:Program) (w:World)
noncomputable def ObjOk(H:Hp)(h:Heap)(a:Addr):HO->Prop
 | .lst xs=>xs.length<=sizeLine/\∃(its:List Value) (n:Nat),Vals xs its/\h.get? a=some {cls:=.type "list",data:=.seq its.toArray n}
 | .tup xs=>xs.length<=sizeLine/\∃its:List Value,Vals xs its/\IsTup h a its.toArray/\∃ob,h.get? a=some ob/\ob.dict=none
 | .dK kvs=>kvs.length<=sizeLine/\(a==sysModules)=false/\∃vs,KV kvs vs/\h.DictOf (be P w) a vs
 | .dT kvs=>kvs.length<=sizeLine/\(a==sysModules)=false/\∃xs:List (List bx×Addr×Value),
  Paired (λ(p:List bx×V) (q:List bx×Addr×Value)=>p.1=q.1/\H q.2.1=some (.tup (p.1.map kV))/\RelV p.2 q.2.2) kvs xs/\
  ∃o es ep,h.get? a=some o/\o.ExactDict/\o.data=.dict es ep/\es.toList=xs.map (entryOfKey (tupleKind (be P w)))/\(xs.map (·.1)).Nodup/\ep=xs.length
 | .set S n=>h.SetOf (intKind P w) a S n
 | .ins C dx fs=>H dx=some (.own a)/\fs.length<=1000/\dx≠a/\h.get? a=some (PySem.W.instObj C dx)/\
  ∃mA,h.Ns1 dx mA/\(∀f,RelO (fs.lookup f) (mA f))/\PySem.Within mA (fs.map (·.1))
 | .own _=>∃o,h.get? a=some o
 | .xd fs=>∃mA,h.Ns1 a mA/\∀f,RelO (fs.lookup f) (mA f)
 | .rng lo hi=>∃t u v,h.get? a=some {cls:=.type "range",data:=.fields #[.int lo t,.int hi u,.int 1 v]}
 | .frz o u=>h.get? a=some o/\ObjOk H h a u
 | .tbl ps=>h.get? a=some {cls:=.none,data:=.fields #[]}\/∃(c':Addr) (o:Obj) (u:HO) (l c:Value) (q:Str) (t t2:Tok) (vs:Array Value),ps= #[l,c,.str q t]/\h.get? a=some {cls:=.none,data:=.fields #[l,c,.ref c']}/\H c'=some (.frz o u)/\o.data=.fields vs/\vs[1]? =some (.str q t2)
 | .met f x=>h.get? a=some (PySem.W.methodObj (.ref f) (.ref x))
 | .ext φ=>φ h/\(∃o,h.get? a=some o)/\∀h1 h2:Heap,φ h1->(∀o,h1.get? a=some o->h2.get? a=some o)->φ h2
def HOk(H:Hp)(h:Heap):Prop:=∀a o,H a=some o->ObjOk P w H h a o
end
section
variable {P:Program} {w:World} {H H':Hp} {h h':Heap} {a:Addr} {o:HO}
theorem ObjOk.lt(x:ObjOk P w H h a o):a < h.objs.size:=by
 cases o with
 |lst xs=>obtain⟨_,_,_,_,e⟩:=x;exact fS e
 |tup xs=>obtain⟨_,_,_,p,_⟩:=x;exact p.lt
 |dK kvs=>obtain⟨_,_,_,_,o,_,_,e,_⟩:=x;exact fS e
 |dT kvs=>obtain⟨_,_,_,_,o,_,_,e,_⟩:=x;exact fS e
 |set S n=>obtain⟨o,_,_,_,e,_⟩:=x;exact fS e
 |ins C dx fs=>obtain⟨_,_,_,e,_⟩:=x;exact fS e
 |own y=>obtain⟨_,e⟩:=x;exact fS e
 |xd fs=>obtain⟨_,⟨_,_,_,e,_⟩,_⟩:=x;exact fS e
 |rng lo hi=>obtain⟨_,_,_,e⟩:=x;exact fS e
 |frz ob u=>obtain⟨e,_⟩:=x;exact fS e
 |tbl ps=>
  rcases x with e|⟨c',o,u,l,c,q,t,t2,vs,_,e,_⟩
  · exact fS e
  · exact fS e
 |met f y=>exact fS (show h.get? a=some _ from x)
 |ext φ=>obtain⟨_,⟨_,e⟩,_⟩:=x;exact fS e
theorem Paired.mapP {α β:Type}{F G:α->β->Prop}{l₁:List α}{l₂:List β}(h:Paired F l₁ l₂)(f:∀a b,F a b->G a b):Paired G l₁ l₂:=by
 induction h with
 |nil=>exact .nil
 |cons r t ih=>exact .cons (f _ _ r) ih
theorem ObjOk.stay(x:ObjOk P w H h a o)(k:∀b u,(b=a\/H b=some (.own a))->h.get? b=some u->h'.get? b=some u)
 (ho:∀b,H b=some (.own a)->H' b=some (.own a)) (ht:∀b xs,H b=some (.tup xs)->H' b=some (.tup xs)) (hf:∀b o u,H b=some (.frz o u)->H' b=some (.frz o u)):ObjOk P w H' h' a o:=by
 induction o with
 |lst xs=>obtain⟨z,its,n,r,e⟩:=x;exact⟨z,its,n,r,k _ _ (.inl rfl) e⟩
 |tup xs=>obtain⟨z,its,r,⟨ob,e,c⟩,o2,e2,c2⟩:=x;exact⟨z,its,r,⟨ob,k _ _ (.inl rfl) e,c⟩,o2,k _ _ (.inl rfl) e2,c2⟩
 |dK kvs=>obtain⟨z,y,vs,r,ob,es,ep,e,c⟩:=x;exact⟨z,y,vs,r,ob,es,ep,k _ _ (.inl rfl) e,c⟩
 |dT kvs=>
  obtain⟨z,y,xs,r,ob,es,ep,e,c⟩:=x;exact⟨z,y,xs,Paired.mapP r λp q z=>⟨z.1,ht _ _ z.2.1,z.2.2⟩,ob,es,ep,k _ _ (.inl rfl) e,c⟩
 |set S n=>obtain⟨ob,es,ep,t,e,c⟩:=x;exact⟨ob,es,ep,t,k _ _ (.inl rfl) e,c⟩
 |ins C dx fs=>
  obtain⟨d,z,ne,e,mA,⟨od,es,ep,e2,c⟩,r⟩:=x;exact⟨ho _ d,z,ne,k _ _ (.inl rfl) e,mA,⟨od,es,ep,k _ _ (.inr d) e2,c⟩,r⟩
 |own y=>obtain⟨ob,e⟩:=x;exact⟨ob,k _ _ (.inl rfl) e⟩
 |xd fs=>obtain⟨mA,⟨od,es,ep,e,c⟩,r⟩:=x;exact⟨mA,⟨od,es,ep,k _ _ (.inl rfl) e,c⟩,r⟩
 |rng lo hi=>obtain⟨t,u,v,e⟩:=x;exact⟨t,u,v,k _ _ (.inl rfl) e⟩
 |frz ob u ih=>obtain⟨e,q⟩:=x;exact⟨k _ _ (.inl rfl) e,ih q⟩
 |tbl ps=>
  rcases x with e|⟨c',o,u,l,c,q,t,t2,vs,e1,e2,e3,r⟩
  · exact Or.inl (k _ _ (.inl rfl) e)
  · exact Or.inr ⟨c',o,u,l,c,q,t,t2,vs,e1,k _ _ (.inl rfl) e2,hf _ _ _ e3,r⟩
 |met f y=>
  have e:h.get? a=some (PySem.W.methodObj (.ref f) (.ref y)):=x;show h'.get? a=some (PySem.W.methodObj (.ref f) (.ref y));exact k a _ (.inl rfl) e
 |ext φ=>obtain⟨p,⟨o,e⟩,st⟩:=x;exact⟨st _ _ p λo q=>k _ _ (.inl rfl) q,⟨o,k _ _ (.inl rfl) e⟩,st⟩
theorem HOk.lt(x:HOk P w H h)(e:H a=some o):a < h.objs.size:=(x a o e).lt
theorem HOk.fresh(x:HOk P w H h)(e:h.objs.size<=a):H a=none:=by
 cases q:H a with
 |none=>rfl
 |some u=>exact absurd (lx (x.lt q) e) (zT _)
theorem HOk.kept(x:HOk P w H h)(k:∀b u,h.get? b=some u->h'.get? b=some u):HOk P w H h':=λa o e=>
 (x a o e).stay (λb u _ q=>k b u q) (λ_ q=>q) (λ_ _ q=>q) λ_ _ _ q=>q
theorem HOk.laid(x:HOk P w H h)(k:∀b u,h.get? b=some u->h'.get? b=some u)(hp:h.objs.size<=a)(new:ObjOk P w (bv H a o) h' a o):HOk P w (bv H a o) h':=λb u e=>by
 have hn:=x.fresh hp
 by_cases hb:b=a
 · subst hb;rw [aS]at e;cases e;exact new
 · rw [aN hb]at e;exact(x b u e).stay (λc v _ q=>k c v q) (λc q=>by rw [aN (aQ q hn)];exact q) (λc xs q=>by rw [aN (aQ q hn)];exact q) λc ob xs q=>by rw [aN (aQ q hn)];exact q
end
def Rd(H:Hp)(a:Addr)(u:HO):Prop:=H a=some u\/∃o,H a=some (.frz o u)
theorem Rd.ok {P:Program}{w:World}{H:Hp}{h:Heap}{a:Addr}{u:HO}(r:Rd H a u)(x:HOk P w H h):ObjOk P w H h a u:=by
 rcases r with r|⟨o,r⟩
 · exact x a u r
 · obtain⟨_,q⟩:=x a _ r;exact q
noncomputable def Ma:Option HO->Prop
 |some (.lst _)=>True
 |some (.dK _)=>True
 |some (.dT _)=>True
 |some (.set _ _)=>True
 |some (.ins _ _ _)=>True
 |some (.ext _)=>True
 |_=>False
section
variable {P:Program} {w:World} {H:Hp} {h h':Heap} {x e:Addr} {o':HO}
theorem HOk.write(ok:HOk P w H h)(mu:Ma (H x))(he:e=x\/H e=some (.own x))(k:∀b u,b≠e->h.get? b=some u->h'.get? b=some u)(heo:∃u,h'.get? e=some u)
 (new:ObjOk P w (bv H x o') h' x o'):HOk P w (bv H x o') h':=λb u q=>by
 have nown:∀c y,H c=some (.own y)->c≠x:=λc y r z=>by subst z;rw [r]at mu;exact mu
 have ntup:∀c xs,H c=some (.tup xs)->c≠x:=λc xs r z=>by subst z;rw [r]at mu;exact mu
 have nfrz:∀c ob xs,H c=some (.frz ob xs)->c≠x:=λc ob xs r z=>by subst z;rw [r]at mu;exact mu
 by_cases hb:b=x
 · subst hb;rw [aS]at q;cases q;exact new
 · rw [aN hb]at q
   by_cases hbe:b=e
   · have q':H b=some (.own x):=by
      rcases he with z|z
      · exact absurd (hbe.trans z) hb
      · rw [hbe];exact z
     rw [q]at q';cases q';obtain⟨v,hv⟩:=heo;exact⟨v,by rw [hbe];exact hv⟩
   · refine(ok b u q).stay (λc v hc r=>k c v ?_ r) (λc r=>by rw [aN (nown c b r)];exact r) (λc xs r=>by rw [aN (ntup c xs r)];exact r) λc ob xs r=>by rw [aN (nfrz c ob xs r)];exact r
     rcases hc with rfl|hc
     · exact hbe
     · rintro rfl
       rcases he with z|z
       · exact nown c b hc z
       · rw [hc]at z;cases z;exact hb rfl
end
structure Un (fs ex:List Addr) (H H':Hp) (h h':Heap):Prop where
 keep:∀b o,h.get? b=some o->H b=none->b ∉ fs->b ∉ ex->h'.get? b=some o
 slot:∀b o,h.get? b=some o->H b=none->b∈fs->b ∉ ex->∃sl,h'.get? b=some {o with slots:=sl}
 free:∀b o,h.get? b=some o->H b=none->b ∉ ex->H' b=none
 there:∀b o,h.get? b=some o->b ∉ ex->∃o',h'.get? b=some o'
 tups:∀b xs,H b=some (.tup xs)->H' b=some (.tup xs)
 frzs:∀b o u,H b=some (.frz o u)->H' b=some (.frz o u)
 tbls:∀b ps,H b=some (.tbl ps)->∃more,H' b=some (.tbl (ps++more))
section
variable {fs fs' ex ex':List Addr} {H H1 H2:Hp} {h h1 h2 h':Heap} {a x e:Addr} {o:HO}
theorem Un.any(u:Un fs ex H H1 h h1){b:Addr}{ob:Obj}(q:h.get? b=some ob)(n:H b=none)(hx:b ∉ ex):∃sl,h1.get? b=some {ob with slots:=sl}:=by
 by_cases hb:b∈fs
 · exact u.slot b ob q n hb hx
 · exact⟨ob.slots,u.keep b ob q n hb hx⟩
theorem Un.kept(k:∀b u,h.get? b=some u->h'.get? b=some u):Un fs ex H H h h':=
 ⟨λb ob q _ _ _=>k b ob q,λb ob q _ _ _=>⟨ob.slots,k b ob q⟩,λ_ _ _ n _=>n,λb ob q _=>⟨ob,k b ob q⟩,λ_ _ q=>q,λ_ _ _ q=>q,λ_ ps q=>⟨#[],by rw [q];simp⟩⟩
theorem Un.refl:Un fs ex H H h h:=Un.kept λ_ _ q=>q
theorem Un.laid(k:∀b u,h.get? b=some u->h'.get? b=some u)(hp:h.objs.size<=a)(hn:H a=none):Un fs ex H (bv H a o) h h' where
 keep:=λb u q _ _ _=>k b u q
 slot:=λb u q _ _ _=>⟨u.slots,k b u q⟩
 free:=λb u q n _=>by rw [aN (lO (lx (fS q) hp))];exact n
 there:=λb u q _=>⟨u,k b u q⟩
 tups:=λb xs q=>by rw [aN (aQ q hn)];exact q
 frzs:=λb u xs q=>by rw [aN (aQ q hn)];exact q
 tbls:=λb ps q=>⟨#[],by rw [aN (aQ q hn),q];simp⟩
theorem Un.write(mu:Ma (H x))(he:e=x\/H e=some (.own x))(k:∀b u,b≠e->h.get? b=some u->h'.get? b=some u)(heo:∃u,h'.get? e=some u):Un fs ex H (bv H x o) h h':=by
 have hx:∀b,H b=none->b≠x:=λb n z=>by subst z;rw [n]at mu;exact mu
 have hb:∀b,H b=none->b≠e:=λb n z=>by
  subst z
  rcases he with r|r
  · exact hx b n r
  · rw [n]at r;cases r
 have hm:∀b u,H b=some u->¬Ma (some u)->b≠x:=λb u q nm z=>by subst z;rw [q]at mu;exact nm mu
 refine⟨λb u q n _ _=>k b u (hb b n) q,λb u q n _ _=>⟨u.slots,k b u (hb b n) q⟩,λb u q n _=>by rw [aN (hx b n)];exact n,λb u q _=>?_,
  λb xs q=>by rw [aN (hm b _ q λz=>z)];exact q,λb u xs q=>by rw [aN (hm b _ q λz=>z)];exact q,λb ps q=>⟨#[],by rw [aN (hm b _ q λz=>z),q];simp⟩⟩
 by_cases hbe:b=e
 · subst hbe;exact heo
 · exact⟨u,k b u hbe q⟩
end
noncomputable def N1(h:Heap)(H:Hp):List Addr:=(List.range h.objs.size).filter λa=>(H a).isSome
noncomputable def wk(h:Heap)(H:Hp):Heap:=PySem.W.hideAll h (N1 h H)
theorem DQ(h:Heap)(H:Hp):(wk h H).objs.size=h.objs.size:=PySem.W.hideAll_size _ _
theorem sP {h:Heap}{H:Hp}{b:Addr}{o:Obj}(e:h.get? b=some o)(n:H b=none):(wk h H).get? b=some o:=
 PySem.W.hideAll_get _ e λhm=>by
  have q:(H b).isSome=true:=(List.mem_filter.mp hm).2;rw [n]at q;simp at q
theorem Iq {h:Heap}{H:Hp}{b:Addr}{o:Obj}(e:(wk h H).get? b=some o):h.get? b=some o/\H b=none:=by
 have e':h.get? b=some o:=PySem.W.of_hideAll (N1 h H) e;refine⟨e',?_⟩;cases q:H b with
 |none=>rfl
 |some x=>
  have hm:b∈N1 h H:=List.mem_filter.mpr ⟨List.mem_range.mpr (fS e'),by simp [q]⟩
  have z:(wk h H).get? b=none:=PySem.W.hideAll_none (N1 h H) hm;rw [z]at e;cases e
noncomputable def Ir(g h:Heap)(L:Addr):List (Addr×Obj):=(List.range h.objs.size).filterMap λa=>if a=L\/(g.get? a).isSome=true then none else(h.get? a).map λo=>(a,o)
noncomputable def iM(g h:Heap)(L d:Addr):List (Addr×Obj):=(Ir g h L).filter λp=>decide (p.1≠d)
structure Mod (K:Fg) (mg:Str->Option Value) (base:Heap):Prop where
 kin:K.In base
 glob:base.Ns mainGlobals mg
 blt:∃mb,base.Ns builtinsNs mb/\∀x:Str,x≠ "__name__"->mb x=bootBuiltins x
 nolimit:base.NoLimit
structure Cx where
 prog:Program
 w:World
 K:Fg
 mg:Str->Option Value
 base:Heap
 A:Around
 N:List Str
 s₀:Shared
 H₀:Hp
 env:Env
 outer:List Env
 stack:List Env
 ex:List Addr
 fn:Str->Bool
 calm:Bool
 pn:List (Addr×Obj)
 xe:Value->Shared->Prop
noncomputable def Am(l:List Env):List Addr:=l.filterMap (·.frame)
noncomputable abbrev Cx.fs (X:Cx):List Addr:=Am X.outer
def N2(sc:Scope)(x:Str):Prop:=sc.names.lookup x=some .local\/sc.names.lookup x=some .cell\/sc.names.lookup x=some .free
def K8(sc:Scope)(x:Str):Prop:=sc.names.lookup x=some .local\/sc.names.lookup x=some .cell
def Nb(env:Env)(h:Heap)(m:Str->Option Value)(x:Str)(u:Value):Prop:=
 (env.kindOf x=some .local/\m x=some u)\/((env.kindOf x=some .cell\/env.kindOf x=some .free)/\∃c,env.cells.lookup x=some c/\h.IsCell c (some u))
structure Cx.Ok (X:Cx):Prop where
 mod:Mod X.K X.mg X.base
 kind:X.env.scope.kind=.function
 glob:X.env.globals=mainGlobals
 blt:X.env.builtins=builtinsNs
 above:X.s₀.heap.objs.size<=X.env.locals
 inj:∀x y c,X.env.cells.lookup x=some c->X.env.cells.lookup y=some c->x=y
 has:∀x,(X.env.kindOf x=some .cell\/X.env.kindOf x=some .free)->∃c,X.env.cells.lookup x=some c
 cab:∀x c,X.fn x=true->X.env.cells.lookup x=some c->X.s₀.heap.objs.size<=c
 hd:X.calm=true->X.A.handled=none
 frames:X.A.frames=some X.stack
 stk:X.stack=X.outer\/(X.stack=X.env::X.outer/\X.env.frame=some X.env.locals)
 exf:∀b∈X.ex,b≠X.env.locals/\∀x c,X.env.cells.lookup x=some c->c≠b
 bs:∀b o,X.base.get? b=some o->X.s₀.heap.get? b=some o/\X.H₀ b=none
 bsz:X.base.objs.size<=X.s₀.heap.objs.size
 noex:∀b o,X.base.get? b=some o->b ∉ X.ex
 exfs:∀b∈X.ex,b ∉ X.fs
 funs:X.s₀.heap.FunFrames X.base X.outer
 frf:∀b∈X.fs,X.H₀ b=none
structure Inv (X:Cx) (pins:List (Addr×Obj)) (σ:List (Option V)) (H:Hp) (s:Shared):Prop where
 ok:X.Ok
 os:s.os=X.s₀.os
 bare:AllBare s.gens
 base:Un X.fs X.ex X.H₀ H X.s₀.heap s.heap
 loc:∃m,s.heap.Ns X.env.locals m/\∀(i:Nat) (x:Str) (v:V),X.N[i]? =some x->σ[i]? =some (some v)->N2 X.env.scope x->∃u,RelV v u/\Nb X.env s.heap m x u
 cell:∀x c,X.env.cells.lookup x=some c->∃v,s.heap.IsCell c v
 free:H X.env.locals=none
 freeC:∀x c,X.env.cells.lookup x=some c->H c=none
 pin:∀p∈X.pn++pins,s.heap.get? p.1=some p.2/\H p.1=none/\p.1≠X.env.locals/\p.1 ∉ X.fs/\∀v,p.2.data≠ .cell v
 hok:HOk X.prog X.w H s.heap
 len:σ.length=X.N.length
section
variable {X:Cx} {pins:List (Addr×Obj)} {σ:List (Option V)} {H H':Hp} {s:Shared} {h':Heap}
theorem Cx.Ok.nofr(ok:X.Ok){b:Addr}{o:Obj}(e:X.base.get? b=some o):b ∉ X.fs:=λhb=>by
 have:=(ok.funs.mem hb).1;rw [e]at this;cases this
theorem Inv.bs(I:Inv X pins σ H s):∀b o,X.base.get? b=some o->s.heap.get? b=some o/\H b=none:=λb o e=>
 ⟨I.base.keep b o (I.ok.bs b o e).1 (I.ok.bs b o e).2 (I.ok.nofr e) (I.ok.noex b o e),I.base.free b o (I.ok.bs b o e).1 (I.ok.bs b o e).2 (I.ok.noex b o e)⟩
theorem Inv.bk(I:Inv X pins σ H s):∀b o,X.base.get? b=some o->s.heap.get? b=some o:=λb o e=>(I.bs b o e).1
theorem Inv.mod(I:Inv X pins σ H s):Mod X.K X.mg X.base:=I.ok.mod
theorem Inv.kIn(I:Inv X pins σ H s):X.K.In s.heap:=I.ok.mod.kin.keeps I.bk
theorem Inv.nolimit(I:Inv X pins σ H s):s.heap.NoLimit:=I.ok.mod.nolimit.keeps I.bk
theorem Inv.lt(I:Inv X pins σ H s):X.env.locals < s.heap.objs.size:=let ⟨_,hn,_⟩:=I.loc;hn.lt
theorem Inv.sz(I:Inv X pins σ H s):X.s₀.heap.objs.size<=s.heap.objs.size:=Q7 I.ok.above (An I.lt)
theorem Inv.nofs(I:Inv X pins σ H s){a:Addr}(h:s.heap.objs.size<=a):a ∉ X.fs:=λhb=>by
 obtain⟨_,o,ho,_⟩:=I.ok.funs.mem hb;exact absurd (lx (fS ho) (Q7 I.sz h)) (zT _)
theorem Inv.cne(I:Inv X pins σ H s):∀x c,X.env.cells.lookup x=some c->c≠X.env.locals:=λx c e z=>by
 obtain⟨v,o,ho,hd⟩:=I.cell x c e;obtain⟨m,⟨o',es,ep,ho',hd',_⟩,_⟩:=I.loc;rw [z,ho']at ho;cases ho;rw [hd']at hd;cases hd
theorem Inv.funs(I:Inv X pins σ H s):s.heap.FunFrames X.base X.outer:=by
 have all:∀(l:List Env),(∀b∈Am l,b∈X.fs)->X.s₀.heap.FunFrames X.base l->s.heap.FunFrames X.base l:=by
  intro l
  induction l with
  |nil=>intro _ _;trivial
  |cons env r ih=>
   intro hs hl;obtain⟨hk,⟨L,o,hf,hn,ho,hd⟩,hr⟩:=hl;have hL:L∈X.fs:=hs L (by unfold Am;rw [List.filterMap_cons,hf];exact lN)
   obtain⟨sl,e⟩:=I.base.slot L o ho (I.ok.frf L hL) hL λz=>I.ok.exfs L z hL;exact⟨hk,⟨L,_,hf,hn,e,hd⟩,ih (λb hb=>hs b (by unfold Am;rw [List.filterMap_cons,hf];exact ke _ hb)) hr⟩
 exact all X.outer (λ_ hb=>hb) I.ok.funs
theorem Inv.stack(I:Inv X pins σ H s):s.heap.FunFrames X.base X.stack:=by
 rcases I.ok.stk with e|⟨e,hf⟩
 · rw [e];exact I.funs
 · rw [e];obtain⟨m,hn,_⟩:=I.loc;refine .cons (by rw [I.ok.kind];decide) hf hn ?_ I.funs
   exact Heap.get?_none_of_le (Q7 I.ok.bsz I.ok.above)
theorem Inv.stkSub(I:Inv X pins σ H s):∀b∈Am X.stack,b∈X.env.locals::X.fs:=λb hb=>by
 rcases I.ok.stk with e|⟨e,hf⟩
 · rw [e]at hb;exact ke _ hb
 · rw [e]at hb;unfold Am at hb;rw [List.filterMap_cons,hf]at hb;exact hb
theorem Inv.stkFree(I:Inv X pins σ H s):∀b∈Am X.stack,H b=none:=λb hb=>by
 rcases Q4.mp (I.stkSub b hb)with e|hb
 · rw [e];exact I.free
 · obtain⟨_,o,ho,_⟩:=I.ok.funs.mem hb;exact I.base.free b o ho (I.ok.frf b hb) λz=>I.ok.exfs b z hb
theorem Inv.step {g':Array GenState}{t':Nat}{d':Drawn}{ch:List Addr}(I:Inv X pins σ H s)
 (hch:∀b∈ch,(b∈X.ex\/X.s₀.heap.objs.size<=b)/\b≠X.env.locals/\(∀x c,X.env.cells.lookup x=some c->c≠b)/\∀p∈X.pn++pins,p.1≠b)
 (keep:∀b o,b≠X.env.locals->b ∉ X.fs->b ∉ ch->s.heap.get? b=some o->H b=none->h'.get? b=some o)
 (slot:∀b o,b≠X.env.locals->b∈X.fs->b ∉ ch->s.heap.get? b=some o->H b=none->∃sl,h'.get? b=some {o with slots:=sl}) (free:∀b o,b ∉ ch->s.heap.get? b=some o->H b=none->H' b=none)
 (there:∀b o,b ∉ ch->s.heap.get? b=some o->∃o',h'.get? b=some o')
 (tups:∀b xs,H b=some (.tup xs)->H' b=some (.tup xs)) (frzs:∀b o u,H b=some (.frz o u)->H' b=some (.frz o u)) (tbls:∀b ps,H b=some (.tbl ps)->∃more,H' b=some (.tbl (ps++more)))
 (ns:∀m,s.heap.Ns X.env.locals m->h'.Ns X.env.locals m) (hok:HOk X.prog X.w H' h') (hg:AllBare g'):
 Inv X pins σ H' {s with heap:=h',gens:=g',drawn:=d',toks:=t'}:=by
 have neL:∀b o,X.s₀.heap.get? b=some o->b≠X.env.locals:=λb o e=>lO (lx (fS e) I.ok.above);have neC:∀b o,X.s₀.heap.get? b=some o->b ∉ X.ex->b ∉ ch:=λb o e hx hb=>by
  rcases(hch b hb).1 with z|z
  · exact hx z
  · exact absurd (lx (fS e) z) (zT _)
 have cellK:∀x c,X.env.cells.lookup x=some c->∀v,s.heap.IsCell c v->h'.IsCell c v:=λx c e v ⟨o,ho,hd⟩=>by
  have nch:c ∉ ch:=λz=>(hch c z).2.2.1 x c e rfl
  by_cases hc:c∈X.fs
  · obtain⟨sl,q⟩:=slot c o (I.cne x c e) hc nch ho (I.freeC x c e);exact⟨_,q,hd⟩
  · exact⟨o,keep c o (I.cne x c e) hc nch ho (I.freeC x c e),hd⟩
 refine⟨I.ok,I.os,hg,⟨λb o e n hb hx=>?_,λb o e n hb hx=>?_,λb o e n hx=>?_,λb o e hx=>?_,λb xs e=>tups b xs (I.base.tups b xs e),λb o xs e=>frzs b o xs (I.base.frzs b o xs e),λb ps e=>?_⟩,?_,λx c e=>?_,?_,λx c e=>?_,λp hp=>?_,hok,I.len⟩
 · exact keep b o (neL b o e) hb (neC b o e hx) (I.base.keep b o e n hb hx) (I.base.free b o e n hx)
 · obtain⟨sl,e1⟩:=I.base.slot b o e n hb hx;obtain⟨sl',e2⟩:=slot b _ (neL b o e) hb (neC b o e hx) e1 (I.base.free b o e n hx);exact⟨sl',e2⟩
 · obtain⟨o',e1⟩:=I.base.there b o e hx;exact free b o' (neC b o e hx) e1 (I.base.free b o e n hx)
 · obtain⟨o',e1⟩:=I.base.there b o e hx;exact there b o' (neC b o e hx) e1
 · obtain⟨m1,e1⟩:=I.base.tbls b ps e;obtain⟨m2,e2⟩:=tbls b _ e1;exact⟨m1++m2,by rw [e2,Array.append_assoc]⟩
 · obtain⟨m,hn,hl⟩:=I.loc;refine⟨m,ns m hn,λi x v e1 e2 e3=>?_⟩;obtain⟨u,r,l⟩:=hl i x v e1 e2 e3;refine⟨u,r,?_⟩
   rcases l with l|⟨k,c,e,z⟩
   · exact .inl l
   · exact .inr ⟨k,c,e,cellK x c e _ z⟩
 · obtain⟨v,z⟩:=I.cell x c e;exact⟨v,cellK x c e v z⟩
 · obtain⟨m,⟨o,_,_,ho,_⟩,_⟩:=I.loc;exact free _ o (λz=>(hch _ z).2.1 rfl) ho I.free
 · obtain⟨v,o,ho,hd⟩:=I.cell x c e;exact free c o (λz=>(hch c z).2.2.1 x c e rfl) ho (I.freeC x c e)
 · obtain⟨e,n,ne,nf,d⟩:=I.pin p hp;have nch:p.1 ∉ ch:=λz=>(hch p.1 z).2.2.2 p hp rfl;exact⟨keep p.1 p.2 ne nf nch e n,free p.1 p.2 nch e n,ne,nf,d⟩
theorem Inv.un {t':Nat}(I:Inv X pins σ H s)(u:Un X.fs [] H H' s.heap h')(hok:HOk X.prog X.w H' h'):Inv X pins σ H' {s with heap:=h',toks:=t'}:=by
 obtain⟨m,⟨o,es,ep,ho,r⟩,_⟩:=id I.loc;obtain⟨sl,hL⟩:=u.any ho I.free (by simp)
 exact I.step (g':=s.gens) (d':=s.drawn) (ch:=[]) (λ_ z=>nomatch z) (λb o _ hb _ e n=>u.keep b o e n hb (by simp)) (λb o _ hb _ e n=>u.slot b o e n hb (by simp)) (λb o _ e n=>u.free b o e n (by simp)) (λb o _ e=>u.there b o e (by simp)) u.tups u.frzs u.tbls (λm' hm=>by
  obtain⟨o',es',ep',ho',r'⟩:=hm;rw [ho]at ho';cases ho';exact⟨_,es',ep',hL,r'⟩) hok I.bare
theorem Inv.call {g':Array GenState}{t':Nat}{d':Drawn}{ch:List Addr}(I:Inv X pins σ H s)(u:Un (Am X.stack) ch H H' s.heap h')(hok:HOk X.prog X.w H' h')(hg:AllBare g')
 (hch:∀b∈ch,(b∈X.ex\/X.s₀.heap.objs.size<=b)/\b≠X.env.locals/\(∀x c,X.env.cells.lookup x=some c->c≠b)/\∀p∈X.pn++pins,p.1≠b):
 Inv X pins σ H' {s with heap:=h',gens:=g',drawn:=d',toks:=t'}:=by
 obtain⟨m,⟨o,es,ep,ho,r⟩,_⟩:=id I.loc;obtain⟨sl,hL⟩:=u.any ho I.free λz=>(hch _ z).2.1 rfl;exact I.step (ch:=ch) hch (λb o hL hb hc e n=>u.keep b o e n (λz=>(Q4.mp (I.stkSub b z)).elim hL hb) hc) (λb o _ _ hc e n=>u.any e n hc) (λb o hc e n=>u.free b o e n hc) (λb o hc e=>u.there b o e hc) u.tups u.frzs u.tbls (λm' hm=>by
  obtain⟨o',es',ep',ho',r'⟩:=hm;rw [ho]at ho';cases ho';exact⟨_,es',ep',hL,r'⟩) hok hg
theorem Inv.turned {t':Nat}{it:Addr}(I:Inv X pins σ H s)(k:∀b o,b≠it->s.heap.get? b=some o->h'.get? b=some o)(hn:H it=none)(hL:it≠X.env.locals)
 (h1:it∈X.ex\/X.s₀.heap.objs.size<=it) (h2:∀x c,X.env.cells.lookup x=some c->c≠it) (h3:∀p∈X.pn++pins,p.1≠it):Inv X pins σ H {s with heap:=h',toks:=t'}:=by
 have nit:∀b u,H b=some u->b≠it:=λb u e z=>by rw [z,hn]at e;cases e
 refine I.step (g':=s.gens) (d':=s.drawn) (ch:=[it]) (λb hb=>?_) (λb o _ _ hc e _=>k b o (λz=>hc (by simp [z])) e) (λb o _ _ hc e _=>⟨o.slots,k b o (λz=>hc (by simp [z])) e⟩) (λ_ _ _ _ n=>n)
  (λb o hc e=>⟨o,k b o (λz=>hc (by simp [z])) e⟩) (λ_ _ e=>e) (λ_ _ _ e=>e) (λb ps e=>⟨#[],by rw [e];simp⟩) (λm hm=>?_) (λb u e=>?_) I.bare
 · have e:b=it:=by simpa using hb
   subst e;exact⟨h1,hL,h2,h3⟩
 · obtain⟨o,es,ep,ho,r⟩:=hm;exact⟨o,es,ep,k _ o (Ne.symm hL) ho,r⟩
 · refine(I.hok b u e).stay (λc v hc q=>k c v ?_ q) (λ_ q=>q) (λ_ _ q=>q) λ_ _ _ q=>q
   rcases hc with z|z
   · rw [z];exact nit b u e
   · exact nit c _ z
theorem Inv.tok(I:Inv X pins σ H s)(t:Nat):Inv X pins σ H {s with toks:=t}:=I.un (h':=s.heap) (t':=t) Un.refl I.hok
theorem Inv.kept {t':Nat}(I:Inv X pins σ H s)(k:∀b u,s.heap.get? b=some u->h'.get? b=some u):Inv X pins σ H {s with heap:=h',toks:=t'}:=I.un (Un.kept k) (I.hok.kept k)
theorem Inv.laid {a:Addr}{o:HO}{t':Nat}(I:Inv X pins σ H s)(k:∀b u,s.heap.get? b=some u->h'.get? b=some u)(hp:s.heap.objs.size<=a)(new:ObjOk X.prog X.w (bv H a o) h' a o):
 Inv X pins σ (bv H a o) {s with heap:=h',toks:=t'}:=I.un (Un.laid k hp (I.hok.fresh hp)) (I.hok.laid k hp new)
theorem Inv.write {x e:Addr}{o:HO}{t':Nat}(I:Inv X pins σ H s)(mu:Ma (H x))(he:e=x\/H e=some (.own x))(k:∀b u,b≠e->s.heap.get? b=some u->h'.get? b=some u)(heo:∃u,h'.get? e=some u)
 (new:ObjOk X.prog X.w (bv H x o) h' x o):Inv X pins σ (bv H x o) {s with heap:=h',toks:=t'}:=I.un (Un.write mu he k heo) (I.hok.write mu he k heo new)
theorem Inv.pins_of {pins':List (Addr×Obj)}(I:Inv X pins σ H s)(h:∀p∈pins',s.heap.get? p.1=some p.2/\H p.1=none/\p.1≠X.env.locals/\p.1 ∉ X.fs/\∀v,p.2.data≠ .cell v):Inv X pins' σ H s:=
 ⟨I.ok,I.os,I.bare,I.base,I.loc,I.cell,I.free,I.freeC,λp hp=>(CD.mp hp).elim (λz=>I.pin p (List.mem_append_left _ z)) (h p),I.hok,I.len⟩
theorem yL {N:List Str}(hN:N.Nodup){i j:Nat}{x:Str}(a:N[i]? =some x)(b:N[j]? =some x):i=j:=by
 obtain⟨h1,e1⟩:=Ec.mp a;obtain⟨h2,e2⟩:=Ec.mp b;exact(List.getElem_inj hN).mp (e1.trans e2.symm)
theorem vX {M:Model}{A:Around}{E:Value->Shared->Prop}{i:Nat}{x:Str}{v:V}{u:Value}{Q:Unit->Shared->Prop}(I:Inv X pins σ H s)(hN:X.N.Nodup)(hi:X.N[i]? =some x)(hx:K8 X.env.scope x)(r:RelV v u)
 (h:∀s',Inv X pins (σ.set i (some v)) H s'->(∃a,Heap.SameBut a s.heap s'.heap/\(a=X.env.locals\/X.env.cells.lookup x=some a))->Q () s') (hf:X.fn x=true\/X.env.scope.names.lookup x=some .local:=by first|exact .inl rfl|exact .inr rfl|assumption):wpAny M A (storeName X.env x u) Q E s:=by
 obtain⟨m,hn,hl⟩:=id I.loc;have hcls:(X.env.scope.kind== .class||(X.env.scope.kind== .module&&X.env.locals != X.env.globals))=false:=by rw [I.ok.kind];rfl
 have hiσ:i < σ.length:=by rw [I.len];exact(Ec.mp hi).1
 have cne:=I.cne;have tracked:∀{a:Addr} {h':Heap},(∃o,s.heap.get? a=some o/\H a=none)->Heap.SameBut a s.heap h'->HOk X.prog X.w H h':=λ{a h'} ha hs b ob e=>by
  obtain⟨_,_,hfree⟩:=ha;refine(I.hok b ob e).stay (λc w' hc q=>(hs.2 c ?_).trans q) (λ_ q=>q) (λ_ _ q=>q) λ_ _ _ q=>q;rintro rfl
  rcases hc with rfl|hc
  · rw [hfree]at e;cases e
  · rw [hfree]at hc;cases hc
 rcases hx with hk|hk
 · refine wpAny_storeName_local hk hn (λh' hn' hs=>?_) hcls;obtain⟨oL,_,_,hoL,_⟩:=id hn;refine h _ ⟨I.ok,I.os,I.bare,⟨λb o e n hb hx=>?_,λb o e n hb hx=>?_,I.base.free,λb o e hx=>?_,I.base.tups,I.base.frzs,I.base.tbls⟩,⟨_,hn',λj y v' e1 e2 e3=>?_⟩,λy c e=>?_,I.free,I.freeC,λp hp=>?_,tracked ⟨oL,hoL,I.free⟩ hs,by simpa using I.len⟩ ⟨_,hs,.inl rfl⟩
   · exact(hs.2 b (lO (lx (fS e) I.ok.above))).trans (I.base.keep b o e n hb hx)
   · obtain⟨sl,e1⟩:=I.base.slot b o e n hb hx;exact⟨sl,(hs.2 b (lO (lx (fS e) I.ok.above))).trans e1⟩
   · obtain⟨o',e1⟩:=I.base.there b o e hx;exact⟨o',(hs.2 b (lO (lx (fS e) I.ok.above))).trans e1⟩
   · by_cases hj:j=i
     · subst hj;rw [hi]at e1;cases e1;rw [Ap hiσ]at e2;cases e2;exact⟨u,r,.inl ⟨hk,by simp⟩⟩
     · rw [Al (Ne.symm hj)]at e2;obtain⟨u',r',q⟩:=hl j y v' e1 e2 e3;refine⟨u',r',?_⟩
       rcases q with⟨k,e⟩|⟨k,c,e,z⟩
       · refine .inl ⟨k,?_⟩;have:y≠x:=λe=>hj (yL hN e1 (e▸hi));simp [this,e]
       · exact .inr ⟨k,c,e,z.sameBut hs (cne y c e)⟩
   · obtain⟨w',z⟩:=I.cell y c e;exact⟨w',z.sameBut hs (cne y c e)⟩
   · obtain⟨e,n,ne,nf,d⟩:=I.pin p hp;exact⟨(hs.2 p.1 ne).trans e,n,ne,nf,d⟩
 · have hfn:X.fn x=true:=by
    rcases hf with z|z
    · exact z
    · rw [z]at hk;cases hk
   obtain⟨c,hc⟩:=I.ok.has x (.inl hk);obtain⟨w',z⟩:=I.cell x c hc;refine wpAny_storeName_cell I.ok.kind hk hc z (λh' hc' hs=>?_);obtain⟨oc,hoc,hocd⟩:=id z;refine h {s with heap:=h'} ⟨I.ok,I.os,I.bare,⟨λb o e n hb hx=>?_,λb o e n hb hx=>?_,I.base.free,λb o e hx=>?_,I.base.tups,I.base.frzs,I.base.tbls⟩,⟨m,hn.sameBut hs (Ne.symm (cne x c hc)),λj y v' e1 e2 e3=>?_⟩,λy c' e=>?_,I.free,I.freeC,λp hp=>?_,tracked ⟨oc,hoc,I.freeC x c hc⟩ hs,by simpa using I.len⟩ ⟨c,hs,.inr hc⟩
   · exact(hs.2 b (lO (lx (fS e) (I.ok.cab x c hfn hc)))).trans (I.base.keep b o e n hb hx)
   · obtain⟨sl,e1⟩:=I.base.slot b o e n hb hx;exact⟨sl,(hs.2 b (lO (lx (fS e) (I.ok.cab x c hfn hc)))).trans e1⟩
   · obtain⟨o',e1⟩:=I.base.there b o e hx;exact⟨o',(hs.2 b (lO (lx (fS e) (I.ok.cab x c hfn hc)))).trans e1⟩
   · by_cases hj:j=i
     · subst hj;rw [hi]at e1;cases e1;rw [Ap hiσ]at e2;cases e2;exact⟨u,r,.inr ⟨.inl hk,c,hc,hc'⟩⟩
     · rw [Al (Ne.symm hj)]at e2;obtain⟨u',r',q⟩:=hl j y v' e1 e2 e3;refine⟨u',r',?_⟩
       rcases q with q|⟨k,c',e,z'⟩
       · exact .inl q
       · refine .inr ⟨k,c',e,z'.sameBut hs ?_⟩;rintro rfl;exact hj (yL hN e1 (I.ok.inj _ _ _ e hc▸hi))
   · by_cases hcc:c'=c
     · subst hcc;exact⟨_,hc'⟩
     · obtain⟨w2,z2⟩:=I.cell y c' e;exact⟨w2,z2.sameBut hs hcc⟩
   · obtain⟨e,n,ne,nf,d⟩:=I.pin p hp;refine⟨(hs.2 p.1 ?_).trans e,n,ne,nf,d⟩;intro q;rw [q,hoc]at e;have q':oc=p.2:=zV e;exact d w' (by rw [<-q'];exact hocd)
theorem sQ {M:Model}{A:Around}{E:Value->Shared->Prop}{i:Nat}{x:Str}{v:V}{u:Value}{Q:Unit->Shared->Prop}(I:Inv X pins σ H s)(hN:X.N.Nodup)(hi:X.N[i]? =some x)(hx:K8 X.env.scope x)(r:RelV v u)
 (h:∀s',Inv X pins (σ.set i (some v)) H s'->Q () s') (hf:X.fn x=true\/X.env.scope.names.lookup x=some .local:=by first|exact .inl rfl|exact .inr rfl|assumption):wpAny M A (storeName X.env x u) Q E s:=
 vX I hN hi hx r (λs' I' _=>h s' I') hf
theorem Inv.call' {s':Shared}{ch:List Addr}(I:Inv X pins σ H s)(ho:s'.os=s.os)(u:Un (Am X.stack) ch H H' s.heap s'.heap)(hok:HOk X.prog X.w H' s'.heap)(hg:AllBare s'.gens)
 (hch:∀b∈ch,(b∈X.ex\/X.s₀.heap.objs.size<=b)/\b≠X.env.locals/\(∀x c,X.env.cells.lookup x=some c->c≠b)/\∀p∈X.pn++pins,p.1≠b):Inv X pins σ H' s':=by
 obtain⟨h',g',d',t',o'⟩:=s';have e:o'=s.os:=ho;subst e;exact I.call (g':=g') (t':=t') (d':=d') u hok hg hch
end
noncomputable abbrev XK:=Value->Option Addr->Hp->Prop
noncomputable abbrev St:=List (Option V)
noncomputable abbrev VK:=V->Hp->Prop
noncomputable abbrev TE:=St->Hp->VK->Prop
noncomputable abbrev TT:=St->Hp->(Bool->Hp->Prop)->Prop
noncomputable abbrev TA:=St->Hp->(List V->Hp->Prop)->Prop
structure Ends where
 nx:St->Hp->Prop
 rt:VK
 bk:St->Hp->Prop:=λ_ _=>False
 ct:St->Hp->Prop:=λ_ _=>False
noncomputable abbrev TS:=Ends->St->Hp->Prop
def EP(X:Cx)(pins:List (Addr×Obj))(σ:St)(Q:VK)(u:Value)(s':Shared):Prop:=∃v H',Inv X pins σ H' s'/\RelV v u/\Q v H'
def TP(X:Cx)(pins:List (Addr×Obj))(σ:St)(Q:Bool->Hp->Prop)(b:Bool)(s':Shared):Prop:=∃H',Inv X pins σ H' s'/\Q b H'
def AP(X:Cx)(pins:List (Addr×Obj))(σ:St)(Q:List V->Hp->Prop)(us:List Value)(s':Shared):Prop:=∃vs H',Inv X pins σ H' s'/\Vals vs us/\Q vs H'
def SP(X:Cx)(pins:List (Addr×Obj))(D:Ends)(f:Flow)(s':Shared):Prop:=
 match f with
 | .next=>∃σ' H',Inv X pins σ' H' s'/\D.nx σ' H'
 | .brk=>∃σ' H',Inv X pins σ' H' s'/\D.bk σ' H'
 | .cont=>∃σ' H',Inv X pins σ' H' s'/\D.ct σ' H'
 | .ret u=>∃v σ' H',Inv X pins σ' H' s'/\RelV v u/\D.rt v H'
def PE(X:Cx)(e:Expr)(t:TE):Prop:=
 ∀(pins:List (Addr×Obj)) (s:Shared) (σ:St) (H:Hp) (Q:VK),Inv X pins σ H s->t σ H Q->wpAny (model X.prog X.w) X.A (eval e X.env) (EP X pins σ Q) X.xe s
def PT(X:Cx)(e:Expr)(t:TT):Prop:=
 ∀(pins:List (Addr×Obj)) (s:Shared) (σ:St) (H:Hp) (Q:Bool->Hp->Prop),Inv X pins σ H s->t σ H Q->wpAny (model X.prog X.w) X.A (isTrue e X.env (eval e X.env)) (TP X pins σ Q) X.xe s
def PW(X:Cx)(e:Expr)(t:TT):Prop:=
 ∀(whole:Sem Value) (pins:List (Addr×Obj)) (s:Shared) (σ:St) (H:Hp) (Q:Bool->Hp->Prop),Inv X pins σ H s->t σ H Q->wpAny (model X.prog X.w) X.A (isTrue e X.env whole) (TP X pins σ Q) X.xe s
theorem PW.pt {X:Cx}{e:Expr}{t:TT}(h:PW X e t):PT X e t:=h _
def PA(X:Cx)(es:List Expr)(t:TA):Prop:=
 ∀(pos:Pos) (pins:List (Addr×Obj)) (s:Shared) (σ:St) (H:Hp) (Q:List V->Hp->Prop),Inv X pins σ H s->t σ H Q->wpAny (model X.prog X.w) X.A (spliced (backTo pos (starEach es X.env))) (AP X pins σ Q) X.xe s
def PS(X:Cx)(st:Stmt)(t:TS):Prop:=
 ∀(pins:List (Addr×Obj)) (s:Shared) (σ:St) (H:Hp) (D:Ends),Inv X pins σ H s->t D σ H->wpAny (model X.prog X.w) X.A (exec st X.env) (SP X pins D) X.xe s
def PSs(X:Cx)(st:List Stmt)(t:TS):Prop:=
 ∀(pins:List (Addr×Obj)) (s:Shared) (σ:St) (H:Hp) (D:Ends),Inv X pins σ H s->t D σ H->wpAny (model X.prog X.w) X.A (execs st X.env) (SP X pins D) X.xe s
theorem dN {α:Type}{t:Sem α}{Q Q':α->Shared->Prop}{M:Model}{A:Around}{E:Value->Shared->Prop}{s:Shared}(h:wpAny M A t Q E s)(hQ:∀a s,Q a s->Q' a s):wpAny M A t Q' E s:=wpAny_mono h hQ λ_ _ x=>x
section
variable {X:Cx}
def bX(i:Nat):TE:=λσ H Q=>∃v,σ[i]? =some (some v)/\Q v H
def tC(v:V):TE:=λ_ H Q=>Q v H
theorem LK {i:Nat}{x:Str}{pos:Pos}(hN:X.N[i]? =some x)(hv:N2 X.env.scope x)(hd:(x==("__debug__":Str))=false:=by decide)(hcd:(x==("__classdict__":Str))=false:=by decide):PE X (.Name x pos) (bX i):=by
 intro pins s σ H Q I h;obtain⟨v,e,h⟩:=h;obtain⟨m,hn,hl⟩:=I.loc;obtain⟨u,r,l⟩:=hl i x v hN e hv;have fin:EP X pins σ Q u s:=⟨v,H,I,r,h⟩
 rcases l with⟨hk,hm⟩|⟨hk,c,hc,hcell⟩
 · exact wpAny_Name (wpAny_loadName_local I.ok.kind hk hn hm fin) hd
 · rcases hk with hk|hk
   · exact wpAny_Name (wpAny_loadName_cell I.ok.kind hk hc hcell fin) hd
   · exact wpAny_Name (wpAny_loadName_free I.ok.kind hk hc hcell fin hcd) hd
theorem af {i j pos}:PE X (.Constant (.int i) j pos) (tC (.int i)):=λ_ _ _ H _ I h=>wpAny_Constant_int ⟨.int i,H,I.tok _,⟨_,rfl⟩,h⟩
theorem rA {b j pos}:PE X (.Constant (.bool b) j pos) (tC (.bl b)):=λ_ _ _ H _ I h=>Constant_bool ⟨.bl b,H,I,rfl,h⟩
theorem qM {j pos}:PE X (.Constant .none j pos) (tC .non):=λ_ _ _ H _ I h=>Constant_none ⟨.non,H,I,rfl,h⟩
theorem LL {x j pos}:PE X (.Constant (.str x) j pos) (tC (.str x)):=λ_ _ _ H _ I h=>Calls.Constant_str ⟨.str x,H,I.tok _,⟨_,rfl⟩,h⟩
def Gl(X:Cx)(x:Str):Prop:=X.env.kindOf x=some .globalImplicit
theorem CG {E:Value->Shared->Prop}{pins:List (Addr×Obj)}{s:Shared}{σ:St}{H:Hp}{x:Str}{u:Value}{pos:Pos}{Q:Value->Shared->Prop}(I:Inv X pins σ H s)(hg:Gl X x)(hm:X.mg x=some u)(h:Q u s)
 (hd:(x==("__debug__":Str))=false:=by decide):wpAny (model X.prog X.w) X.A (eval (.Name x pos) X.env) Q E s:=
 Calls.Name_function_global I.ok.kind hg (Calls.loadGlobal_global (by rw [I.ok.glob];exact I.mod.glob.keeps I.bk) hm h) hd
theorem lQ {E:Value->Shared->Prop}{pins:List (Addr×Obj)}{s:Shared}{σ:St}{H:Hp}{x:Str}{u:Value}{pos:Pos}{Q:Value->Shared->Prop}(I:Inv X pins σ H s)(hg:Gl X x)(hm:X.mg x=none)(hv:bootBuiltins x=some u)(h:Q u s)
 (hn:x≠ "__name__":=by decide) (hd:(x==("__debug__":Str))=false:=by decide):wpAny (model X.prog X.w) X.A (eval (.Name x pos) X.env) Q E s:=by
 obtain⟨mb,h1,h2⟩:=I.mod.blt;exact Calls.Name_function_global I.ok.kind hg (Calls.loadGlobal_builtin (by rw [I.ok.glob];exact I.mod.glob.keeps I.bk) hm (by rw [I.ok.blt];exact h1.keeps I.bk) ((h2 x hn).trans hv) h) hd
theorem nJ {x:Str}{v:V}{u:Value}{pos:Pos}(hg:Gl X x)(hm:X.mg x=some u)(r:RelV v u)(hd:(x==("__debug__":Str))=false:=by decide):PE X (.Name x pos) (tC v):=
 λ_ _ _ H _ I h=>CG I hg hm ⟨v,H,I,r,h⟩ hd
theorem ie {x:Str}{v:V}{u:Value}{pos:Pos}(hg:Gl X x)(hm:X.mg x=none)(hv:bootBuiltins x=some u)(r:RelV v u)(hn:x≠ "__name__":=by decide)(hd:(x==("__debug__":Str))=false:=by decide):PE X (.Name x pos) (tC v):=
 λ_ _ _ H _ I h=>lQ I hg hm hv ⟨v,H,I,r,h⟩ hn hd
variable {a b:Expr} {ta tb:TE} {pos:Pos}
def PC(X:Cx)(op:CmpOp)(a b:Expr)(t:TE):Prop:=
 ∀(pins:List (Addr×Obj)) (s:Shared) (σ:St) (H:Hp) (Q:VK),Inv X pins σ H s->t σ H Q->
  wpAny (model X.prog X.w) X.A (eval a X.env) (λv s₁=>wpAny (model X.prog X.w) X.A (eval b X.env) (λu s₂=>wpAny (model X.prog X.w) X.A (compareOp op v u) (EP X pins σ Q) X.xe s₂) X.xe s₁) X.xe s
def tB(t:TE):TT:=λσ H Q=>t σ H λx H1=>∃c,x=.bl c/\Q c H1
theorem LM {op:CmpOp}{t:TE}(h:PC X op a b t)(h1:behindInMarks op b=false:=by first|exact nobehind _ (by decide) (by decide)|rfl):PT X (.Compare a [op] [b] pos) (tB t):=by
 intro pins s σ H Q I hw;refine wpAny_isTrue_Compare1 (dN (h pins s σ H _ I hw) λv s1 h1=>dN h1 λu s2 h2=>dN h2 λc s3 q_=>?_) h1;obtain⟨x,H1,I1,r1,q1⟩:=q_;obtain⟨d,rfl,q⟩:=q1;cases r1;exact wpAny_truthy_bool ⟨H1,I1,q⟩
variable {tA tB':TT} {iM:List Expr}
def OE(t u:TT):TT:=λσ H Q=>t σ H λc H1=>if c=true then Q true H1 else u σ H1 Q
def Iu(t:TT):TT:=λσ H Q=>t σ H λc H1=>Q (!c) H1
theorem wm(ha:PT X a tA):PW X (.BoolOp .Or [a] pos) tA:=by
 intro wh pins s σ H Q I h;refine isTrue_or (dN (ha pins s σ H Q I h) λc s1 e=>?_);cases c with
 |false=>exact isTrue_or_nil e
 |true=>exact e
theorem CH(ha:PT X a tA)(hb:PW X (.BoolOp .Or (b::iM) pos) tB'):PW X (.BoolOp .Or (a::b::iM) pos) (OE tA tB'):=by
 intro wh pins s σ H Q I h;refine isTrue_or (dN (ha pins s σ H _ I h) λc s1 q_=>?_);obtain⟨H1,I1,q1⟩:=q_;cases c with
 |true=>exact⟨H1,I1,q1⟩
 |false=>exact hb wh pins s1 σ H1 Q I1 q1
theorem j3(ha:PT X a tA):PT X (.UnaryOp .Not a pos) (Iu tA):=by
 intro pins s σ H Q I h;exact isTrue_not (ha pins s σ H (λc H1=>Q (!c) H1) I h)
def K9(ta tb:TE):TE:=λσ H Q=>ta σ H λx H1=>∃c,x=.bl c/\if c=true then tb σ H1 Q else Q (.bl false) H1
def Ka(ta:TE):TE:=λσ H Q=>ta σ H λx H1=>∃c,x=.bl c/\Q (.bl (!c)) H1
theorem sR {op}{t:TE}(h:PE X a t):PE X (.BoolOp op [a] pos) t:=λpins s σ H Q I hw=>BoolOp_one (h pins s σ H Q I hw)
theorem oK(ha:PE X a ta)(hb:PE X (.BoolOp .And (b::iM) pos) tb):PE X (.BoolOp .And (a::b::iM) pos) (K9 ta tb):=by
 intro pins s σ H Q I h;refine BoolOp_and (dN (ha pins s σ H _ I h) λv s1 q_=>?_);obtain⟨x,H1,I1,r1,q1⟩:=q_;obtain⟨c,rfl,q1⟩:=q1;cases r1;refine wpAny_truthy_bool ?_;cases c with
 |true=>exact hb pins s1 σ H1 Q I1 q1
 |false=>exact⟨.bl false,H1,I1,rfl,q1⟩
theorem LN(ha:PE X a ta):PE X (.UnaryOp .Not a pos) (Ka ta):=by
 intro pins s σ H Q I h;refine UnaryOp_ (dN (ha pins s σ H _ I h) λv s1 q_=>?_);obtain⟨x,H1,I1,r1,q1⟩:=q_;obtain⟨c,rfl,q1⟩:=q1;cases r1;exact not_of (wpAny_truthy_bool ⟨.bl (!c),H1,I1,rfl,q1⟩)
def OF(t:TT)(ta tb:TE):TE:=λσ H Q=>t σ H λc H1=>if c=true then ta σ H1 Q else tb σ H1 Q
theorem Ei {c:Expr}(hc:PT X c tA)(ha:PE X a ta)(hb:PE X b tb):PE X (.IfExp c a b pos) (OF tA ta tb):=by
 intro pins s σ H Q I h;refine wpAny_IfExp (dN (hc pins s σ H _ I h) λd s1 q_=>?_);obtain⟨H1,I1,q1⟩:=q_;cases d with
 |true=>exact ha pins s1 σ H1 Q I1 q1
 |false=>exact hb pins s1 σ H1 Q I1 q1
end
def SqL(K:Fg)(H:Hp)(a:Addr)(xs:List V):Prop:=
 Rd H a (.lst xs)\/
  ∃(o:Obj) (its:Array Value) (n:Nat),K.lookup a=some o/\o.cls=.type "list"/\o.dict=none/\o.data=.seq its n/\its.size<=sizeLine/\Vals xs its.toList
def SqT(K:Fg)(H:Hp)(a:Addr)(xs:List V):Prop:=
 Rd H a (.tup xs)\/
  ∃(o:Obj) (its:Array Value) (n:Nat),K.lookup a=some o/\o.cls=.type "tuple"/\o.data=.seq its n/\its.size<=sizeLine/\Vals xs its.toList
noncomputable def Nc:Value->Option V
 | .none=>some .non
 | .bool b=>some (.bl b)
 | .int i _=>some (.int i)
 | .str x _=>some (.str x)
 | .bytes b _=>some (.byt b)
 | .float b _=>some (.flt b)
 | .ref a=>some (.ref a)
 | .type n=>some (.ty n)
 |_=>none
theorem RelV.abs {x:V}{u:Value}(r:RelV x u):Nc u=some x:=by
 cases x with
 |non=>cases r;rfl
 |bl _=>cases r;rfl
 |int _=>obtain⟨t,rfl⟩:=r;rfl
 |str _=>obtain⟨t,rfl⟩:=r;rfl
 |byt _=>obtain⟨t,rfl⟩:=r;rfl
 |flt _=>obtain⟨t,rfl⟩:=r;rfl
 |ref _=>cases r;rfl
 |ty _=>cases r;rfl
theorem RelV.inj {x y:V}{u:Value}(r:RelV x u)(q:RelV y u):x=y:=zV (r.abs.symm.trans q.abs)
theorem Vals.inj {xs ys:List V}{us:List Value}(h:Vals xs us)(k:Vals ys us):xs=ys:=by
 induction h generalizing ys with
 |nil=>cases k;rfl
 |cons r t ih=>cases k with
  |cons r' t'=>rw [r.inj r',ih t']
section
variable {X:Cx} {pins:List (Addr×Obj)} {σ:St} {H:Hp} {s:Shared} {a:Addr} {xs ys:List V}
theorem SqL.of {K:Fg}(h:H a=some (.lst xs)):SqL K H a xs:=.inl (.inl h)
theorem SqT.of {K:Fg}(h:H a=some (.tup xs)):SqT K H a xs:=.inl (.inl h)
theorem Inv.list(I:Inv X pins σ H s)(h:SqL X.K H a xs):∃its:List Value,Vals xs its/\PlainL s.heap a its.toArray/\xs.length<=sizeLine:=by
 rcases h with h|⟨o,its,n,hk,hc,hd,hs,hz,r⟩
 · obtain⟨z,its,n,r,e⟩:=h.ok I.hok;exact⟨its,r,⟨_,n,e,rfl,rfl,rfl⟩,z⟩
 · refine⟨its.toList,r,⟨o,n,I.kIn a o hk,hc,hd,by simpa using hs⟩,?_⟩
   have e:=r.length;simp only [wg]at e;omega
theorem Inv.tuple(I:Inv X pins σ H s)(h:SqT X.K H a xs):∃its:List Value,Vals xs its/\IsTup s.heap a its.toArray/\xs.length<=sizeLine:=by
 rcases h with h|⟨o,its,n,hk,hc,hs,hz,r⟩
 · obtain⟨z,its,r,p,_⟩:=h.ok I.hok;exact⟨its,r,p,z⟩
 · refine⟨its.toList,r,⟨o,I.kIn a o hk,hc,n,by simpa using hs⟩,?_⟩
   have e:=r.length;simp only [wg]at e;omega
theorem Inv.list_inj(I:Inv X pins σ H s)(h:SqL X.K H a xs)(h':SqL X.K H a ys):xs=ys:=by
 obtain⟨its,r,⟨o,n,e,_,_,d⟩,_⟩:=I.list h;obtain⟨its',r',⟨o',n',e',_,_,d'⟩,_⟩:=I.list h';rw [e]at e';cases e';rw [d]at d';injection d' with d1 _
 have:its=its':=by simpa using congrArg Array.toList d1
 subst this;exact r.inj r'
theorem Inv.tuple_inj(I:Inv X pins σ H s)(h:SqT X.K H a xs)(h':SqT X.K H a ys):xs=ys:=by
 obtain⟨its,r,⟨o,e,_,n,d⟩,_⟩:=I.tuple h;obtain⟨its',r',⟨o',e',_,n',d'⟩,_⟩:=I.tuple h';rw [e]at e';cases e';rw [d]at d';injection d' with d1 _
 have:its=its':=by simpa using congrArg Array.toList d1
 subst this;exact r.inj r'
end
abbrev Cx.wish(X:Cx)(E:Value->Shared->Prop):Cx:={X with xe:=E}
abbrev Cx.nox(X:Cx):Cx:=X.wish λ_ _=>False
theorem Cx.Ok.wish {X:Cx}(ok:X.Ok)(E:Value->Shared->Prop):(X.wish E).Ok:=
 ⟨ok.mod,ok.kind,ok.glob,ok.blt,ok.above,ok.inj,ok.has,ok.cab,ok.hd,ok.frames,ok.stk,ok.exf,ok.bs,ok.bsz,ok.noex,ok.exfs,ok.funs,ok.frf⟩
theorem Cx.Ok.unwish {X:Cx}{E:Value->Shared->Prop}(ok:(X.wish E).Ok):X.Ok:=
 ⟨ok.mod,ok.kind,ok.glob,ok.blt,ok.above,ok.inj,ok.has,ok.cab,ok.hd,ok.frames,ok.stk,ok.exf,ok.bs,ok.bsz,ok.noex,ok.exfs,ok.funs,ok.frf⟩
section
variable {X:Cx} {pins:List (Addr×Obj)} {σ:St} {H:Hp} {s:Shared} {E:Value->Shared->Prop}
theorem Inv.wish(I:Inv X pins σ H s)(E:Value->Shared->Prop):Inv (X.wish E) pins σ H s:=⟨I.ok.wish E,I.os,I.bare,I.base,I.loc,I.cell,I.free,I.freeC,I.pin,I.hok,I.len⟩
theorem Inv.unwish(I:Inv (X.wish E) pins σ H s):Inv X pins σ H s:=⟨I.ok.unwish,I.os,I.bare,I.base,I.loc,I.cell,I.free,I.freeC,I.pin,I.hok,I.len⟩
theorem SP.unwish {D:Ends}{f:Flow}{s':Shared}(h:SP (X.wish E) pins D f s'):SP X pins D f s':=by
 cases f with
 |next=>obtain⟨σ',H',I,q⟩:=h;exact⟨σ',H',I.unwish,q⟩
 |brk=>obtain⟨σ',H',I,q⟩:=h;exact⟨σ',H',I.unwish,q⟩
 |cont=>obtain⟨σ',H',I,q⟩:=h;exact⟨σ',H',I.unwish,q⟩
 |ret u=>obtain⟨v,σ',H',I,r,q⟩:=h;exact⟨v,σ',H',I.unwish,r,q⟩
theorem PSs.nox {st:List Stmt}{t:TS}(h:PSs X.nox st t):PSs X st t:=λpins s σ H D I hw=>
 wpAny_mono (h pins s σ H D (I.wish _) hw) (λ_ _ q=>q.unwish) λ_ _ z=>False.elim z
end
section
variable {X:Cx} {st:Stmt} {iM:List Stmt} {t u:TS} {e:Expr} {te:TE} {pos:Pos}
def vY:TS:=λD σ H=>D.nx σ H
def kf(t u:TS):TS:=λD σ H=>t {D with nx:=u D} σ H
theorem br:PSs X [] vY:=λ_ _ σ H _ I h=>wpAny_execs_nil ⟨σ,H,I,h⟩
theorem aM(h1:PS X st t)(h2:PSs X iM u):PSs X (st::iM) (kf t u):=by
 intro pins s σ H D I h;refine wpAny_execs_cons (dN (h1 pins s σ H {D with nx:=u D} I h) λf s1 q=>?_)
 cases f with
 |next=>
  obtain⟨σ',H',I',q⟩:=q;exact h2 pins s1 σ' H' D I' q
 |ret v=>exact q
 |brk=>exact q
 |cont=>exact q
theorem aR(h1:PS X st t):PSs X [st] t:=by
 intro pins s σ H D I h;refine wpAny_execs_cons (dN (h1 pins s σ H D I h) λf s1 q=>?_);cases f with
 |next=>exact wpAny_execs_nil q
 |ret v=>exact q
 |brk=>exact q
 |cont=>exact q
theorem Inv.quiet {pins:List (Addr×Obj)}{σ:St}{H:Hp}{s:Shared}(I:Inv X pins σ H s):interactive X.env=false:=by simp [interactive,I.ok.kind]
def ly(te:TE):TS:=λD σ H=>te σ H λ_ H1=>D.nx σ H1
theorem bz(he:PE X e te)(hs:swapsWith e none pos.line X.env=pure false:=by rfl):PS X (.Expr e pos) (ly te):=by
 intro pins s σ H D I h;exact wpAny_Expr_any (dN (he pins s σ H _ I h) λv s1 q_=>by obtain⟨x,H1,I1,r1,q1⟩:=q_;exact⟨σ,H1,I1,q1⟩) I.quiet hs
def yM(te:TE):TS:=λD σ H=>te σ H D.rt
theorem bA(he:PE X e te):PS X (.Return (some e) pos) (yM te):=by
 intro pins s σ H D I h;exact wpAny_Return_some (dN (he pins s σ H _ I h) λv s1 q_=>by obtain⟨x,H1,I1,r1,q1⟩:=q_;exact⟨x,σ,H1,I1,r1,q1⟩)
def sS(c:TT)(t u:TS):TS:=λD σ H=>c σ H λb H1=>if b=true then t D σ H1 else u D σ H1
theorem dY {c:Expr}{a b:List Stmt}{tc:TT}(hc:PT X c tc)(ha:PSs X a t)(hb:PSs X b u):PS X (.If c a b pos) (sS tc t u):=by
 intro pins s σ H D I h;refine wpAny_If (dN (hc pins s σ H _ I h) λd s1 q_=>?_);obtain⟨H1,I1,q1⟩:=q_;cases d with
 |true=>exact ha pins s1 σ H1 D I1 q1
 |false=>exact hb pins s1 σ H1 D I1 q1
def Ej:TS:=λ_ _ _=>False
theorem mS:PS X st Ej:=λ_ _ _ _ _ _ h=>h.elim
end
noncomputable abbrev TG:=V->St->Hp->(St->Hp->Prop)->Prop
noncomputable abbrev El:=List V->St->Hp->(St->Hp->Prop)->Prop
def PG(X:Cx)(target:Expr)(t:TG):Prop:=
 ∀(pins:List (Addr×Obj)) (s:Shared) (σ:St) (H:Hp) (v:V) (u:Value) (Q:St->Hp->Prop),Inv X pins σ H s->RelV v u->t v σ H Q->
  wpAny (model X.prog X.w) X.A (assign target X.env u) (λ_ s'=>∃σ' H',Inv X pins σ' H' s'/\Q σ' H') X.xe s
def Mb(X:Cx)(ts:List Expr)(t:El):Prop:=
 ∀(pins:List (Addr×Obj)) (s:Shared) (σ:St) (H:Hp) (vs:List V) (us:List Value) (Q:St->Hp->Prop),Inv X pins σ H s->Vals vs us->t vs σ H Q->
  wpAny (model X.prog X.w) X.A (assignInOrder ((assignEach ts X.env).map (·.2)) us) (λ_ s'=>∃σ' H',Inv X pins σ' H' s'/\Q σ' H') X.xe s
noncomputable abbrev Nd:=V->V->Hp->VK->Prop
def OM(X:Cx)(op:Operator)(t:Nd):Prop:=
 ∀(pins:List (Addr×Obj)) (s:Shared) (σ:St) (H:Hp) (x y:V) (v u:Value) (Q:VK),Inv X pins σ H s->RelV x v->RelV y u->t x y H Q->
  wpAny (model X.prog X.w) X.A (inplaceOp op v u) (EP X pins σ Q) X.xe s
section
variable {X:Cx} {pos:Pos}
def eE(i:Nat):TG:=λv σ H Q=>Q (σ.set i (some v)) H
theorem bC {i:Nat}{x:Str}(hN:X.N.Nodup)(hi:X.N[i]? =some x)(hx:K8 X.env.scope x)(hf:X.fn x=true\/X.env.scope.names.lookup x=some .local:=by first|exact .inl rfl|exact .inr rfl|assumption):PG X (.Name x pos) (eE i):=by
 intro pins s σ H v u Q I r h;exact wpAny_assign_Name (sQ I hN hi hx r (λs' I'=>⟨_,H,I',h⟩) hf)
def Mc:El:=λvs σ H Q=>vs=[]/\Q σ H
def Kb(t:TG)(u:El):El:=λvs σ H Q=>∃v r,vs=v::r/\t v σ H λσ' H'=>u r σ' H' Q
theorem sE:Mb X [] Mc:=by
 intro pins s σ H vs us Q I r h;obtain⟨e,h⟩:=h;subst e;cases r;exact assignInOrder_nil ⟨σ,H,I,h⟩
theorem iq {e:Expr}{es:List Expr}{t:TG}{u:El}(h1:PG X e t)(h2:Mb X es u)
 (hs:(assignEach (e::es) X.env).map (·.2)=assign e X.env::(assignEach es X.env).map (·.2):=by rfl):Mb X (e::es) (Kb t u):=by
 intro pins s σ H vs us Q I r h;obtain⟨v,vr,e1,h⟩:=h;subst e1;cases r with
 |cons r rr=>
  rw [hs];refine assignInOrder_cons (dN (h1 pins s σ H _ _ _ I r h) λ_ s1 q_=>?_);obtain⟨σ1,H1,I1,q1⟩:=q_;exact h2 pins s1 σ1 H1 _ _ Q I1 rr q1
def LO(K:Fg)(n:Nat)(t:El):TG:=λv σ H Q=>∃a xs,v=.ref a/\SqT K H a xs/\xs.length=n/\t xs σ H Q
theorem LP {es:List Expr}{k:Nat}{t:El}{n:Nat}(hc:X.calm=true)(h:Mb X es t)
 (hn:(assignEach es X.env).length=n:=by rfl) (hst:(assignEach es X.env).findIdx? (·.1)=none:=by rfl):PG X (.Tuple es k pos) (LO X.K n t):=by
 intro pins s σ H v u Q I r hw;obtain⟨a,xs,e1,hq,hl,hw⟩:=hw;subst e1;cases r;obtain⟨its,rv,ht,hz⟩:=I.tuple hq;refine assign_Tuple_tuple (I.ok.hd hc) ht (by simp [hn, <-hl,rv.length]) hst λh' hx=>?_
 have I1:Inv X pins σ H {s with heap:=h'}:=I.kept (t':=s.toks) λb o e=>hx b o (lO (fS e)) e
 exact h pins _ σ H xs _ Q I1 (by simpa using rv) hw
def oM(te:TE)(g:TG):TS:=λD σ H=>te σ H λx H1=>g x σ H1 D.nx
theorem Em {i:Nat}{x:Str}{e:Expr}{te:TE}{pos':Pos}(hN:X.N.Nodup)(hi:X.N[i]? =some x)(hx:K8 X.env.scope x)(he:PE X e te)(hs:swapsWith e (some (.Name x pos')) pos.line X.env=pure false:=by rfl)(hf:X.fn x=true\/X.env.scope.names.lookup x=some .local:=by first|exact .inl rfl|exact .inr rfl|assumption):
 PS X (.Assign [.Name x pos'] e pos) (oM te (eE i)):=by
 intro pins s σ H D I h;refine wpAny_Assign_Name (dN (he pins s σ H _ I h) λv s1 q_=>?_) hs;obtain⟨y,H1,I1,r1,q1⟩:=q_;exact sQ I1 hN hi hx r1 (λs2 I2=>⟨_,H1,I2,q1⟩) hf
def Md(i:Nat)(te:TE)(ti:Nd):TS:=λD σ H=>∃x,σ[i]? =some (some x)/\te σ H λy H1=>ti x y H1 λz H2=>D.nx (σ.set i (some z)) H2
theorem wn {i:Nat}{x:Str}{e:Expr}{te:TE}{op:Operator}{ti:Nd}{pos':Pos}(hN:X.N.Nodup)(hi:X.N[i]? =some x)(hx:K8 X.env.scope x)(he:PE X e te)(ho:OM X op ti)(hf:X.fn x=true\/X.env.scope.names.lookup x=some .local:=by first|exact .inl rfl|exact .inr rfl|assumption):
 PS X (.AugAssign (.Name x pos') op e pos) (Md i te ti):=by
 intro pins s σ H D I h;obtain⟨v,e1,h⟩:=h;obtain⟨m,hn,hl⟩:=I.loc;have vis:N2 X.env.scope x:=by rcases hx with k|k;exact .inl k;exact .inr (.inl k)
 obtain⟨u,r,l⟩:=hl i x v hi e1 vis;refine wpAny_AugAssign_Name ?_;have go:wpAny (model X.prog X.w) X.A (eval e X.env) (λw s₂=>wpAny (model X.prog X.w) X.A (inplaceOp op u w) (λr s₃=>wpAny (model X.prog X.w) X.A (storeName X.env x r) (λ_=>SP X pins D .next) X.xe s₃) X.xe s₂) X.xe s:=by
  refine dN (he pins s σ H _ I h) λw s1 q_=>?_;obtain⟨y,H1,I1,r1,q1⟩:=q_;refine dN (ho pins s1 σ H1 v y u w _ I1 r r1 q1) λz s2 q_=>?_;obtain⟨zv,H2,I2,r2,q2⟩:=q_;exact sQ I2 hN hi hx r2 (λs3 I3=>⟨_,H2,I3,q2⟩) hf
 rcases l with⟨hk,hm⟩|⟨hk,c,hc,hcell⟩
 · exact wpAny_loadName_local I.ok.kind hk hn hm go
 · rcases hk with hk|hk
   · exact wpAny_loadName_cell I.ok.kind hk hc hcell go
   · rcases hx with k|k
     · have:X.env.scope.names.lookup x=some .free:=hk;rw [k]at this;cases this
     · have:X.env.scope.names.lookup x=some .free:=hk;rw [k]at this;cases this
end
section
variable {X:Cx} {pos:Pos}
def Eo(c:TT)(tb:TS):TS:=λD σ H=>∃W:Nat->St->Hp->Prop,(∃m,W m σ H)/\∀m σ H,W m σ H->
 c σ H λb H1=>if b=true then ∃N:St->Hp->Prop,(∀σ' H',N σ' H'->∃m',m' < m/\W m' σ' H')/\tb {D with nx:=N,ct:=N,bk:=D.nx} σ H1 else D.nx σ H1
theorem yN {c:Expr}{body:List Stmt}{tc:TT}{tb:TS}(hp:PassesOwn (model X.prog X.w) X.A X.env X.xe)(hc:PT X c tc)(hb:PSs X body tb):PS X (.While c body [] pos) (Eo tc tb):=by
 intro pins s σ H D I h;obtain⟨W,⟨m0,w0⟩,turn⟩:=h;refine wpAny_While (codeAny_whileLoop (λn s'=>∃σ' H',Inv X pins σ' H' s'/\W n σ' H') ?_ m0 ⟨σ,H,I,w0⟩);rintro n s1 ⟨σ1,H1,I1,w1⟩;refine wpAny_passesOwn hp (dN (hc pins s1 σ1 H1 _ I1 (turn n σ1 H1 w1)) λb s2 q_=>?_);obtain⟨H2,I2,q2⟩:=q_;cases b with
 |true=>
  obtain⟨N,hN,q2⟩:=q2;rw [if_pos rfl];refine wpAny_passesOwn hp (dN (hb pins s2 σ1 H2 _ I2 q2) λf s3 q3=>?_);cases f with
  |next=>
   obtain⟨σ3,H3,I3,n3⟩:=q3;obtain⟨m',hm,w3⟩:=hN σ3 H3 n3;exact⟨m',hm,σ3,H3,I3,w3⟩
  |cont=>
   obtain⟨σ3,H3,I3,n3⟩:=q3;obtain⟨m',hm,w3⟩:=hN σ3 H3 n3;exact⟨m',hm,σ3,H3,I3,w3⟩
  |brk=>exact q3
  |ret v=>exact q3
 |false=>
  rw [if_neg Q8];exact wpAny_execs_nil ⟨σ1,H2,I2,q2⟩
end
structure It where
 go:Nat->Hp->Prop
 yld:Nat->Hp->V->Hp->Prop
 stop:Nat->Hp->Prop
def mP(X:Cx)(pins:List (Addr×Obj))(H:Hp)(b:Addr):Prop:=
 H b=none/\b≠X.env.locals/\b ∉ X.fs/\(b∈X.ex\/X.s₀.heap.objs.size<=b)/\(∀x c,X.env.cells.lookup x=some c->c≠b)/\∀p∈X.pn++pins,p.1≠b
theorem Inv.fpOk {X:Cx}{pins:List (Addr×Obj)}{σ:St}{H H':Hp}{s:Shared}{b:Addr}(I:Inv X pins σ H s)(hb:s.heap.objs.size<=b)(hn:H' b=none):mP X pins H' b:=by
 refine⟨hn,vV (lx I.lt hb),I.nofs hb,.inr (Q7 I.sz hb),λx c e z=>?_,λp hp z=>?_⟩
 · obtain⟨v,q⟩:=I.cell x c e;exact absurd (lx q.lt (by rw [z];exact hb)) (zT _)
 · exact absurd (lx (fS (I.pin p hp).1) (by rw [z];exact hb)) (zT _)
structure Turn (P:Program) (w:World) (K:Fg) (tg:Expr) (J:It) (fp:List Addr) (it:Addr) (tn:Nat->Heap->Prop):Prop where
 mem:it∈fp
 obj:∀i h,tn i h->∀b∈fp,∃o,h.get? b=some o/\∀v,o.data≠ .cell v
 keep:∀i h h',tn i h->(∀b∈fp,∀o,h.get? b=some o->h'.get? b=some o)->tn i h'
 item:∀(X:Cx),X.prog=P->X.w=w->X.K=K->X.calm=true->∀(i:Nat) (pins:List (Addr×Obj)) (s:Shared) (σ:St) (H:Hp) (E:Value->Shared->Prop),Inv X pins σ H s->(∀b∈fp,mP X pins H b)->tn i s.heap->J.go i H->
  wpAny (model P w) X.A (pyNext (.ref it)) (λr s1=>∃u,r=some u/\
   wpAny (model P w) X.A (letOwnedTupleGo tg (.ref it) u) (λ_ s2=>∃x H',Inv X pins σ H' s2/\RelV x u/\J.yld i H x H'/\tn (i+1) s2.heap/\∀b∈fp,H' b=none) E s1) E s
 done:∀(X:Cx),X.prog=P->X.w=w->X.K=K->X.calm=true->∀(i:Nat) (pins:List (Addr×Obj)) (s:Shared) (σ:St) (H:Hp) (E:Value->Shared->Prop),Inv X pins σ H s->(∀b∈fp,mP X pins H b)->tn i s.heap->J.stop i H->
  wpAny (model P w) X.A (pyNext (.ref it)) (λr s1=>r=none/\Inv X pins σ H s1) E s
 self:∀(A:Around) (i:Nat) (s:Shared) (Q:Value->Shared->Prop) (E:Value->Shared->Prop),tn i s.heap->Q (.ref it) s->wpAny (model P w) A (pyIter (.ref it)) Q E s
noncomputable abbrev TI:=St->Hp->(It->Hp->Prop)->Prop
def Nf(X:Cx)(pins:List (Addr×Obj))(σ:St)(tg:Expr)(R:It->Hp->Prop)(itv:Value)(s2:Shared):Prop:=
 ∃(it:Addr) (fp:List Addr) (tn:Nat->Heap->Prop) (J:It) (H':Hp),itv=.ref it/\Inv X pins σ H' s2/\Turn X.prog X.w X.K tg J fp it tn/\tn 0 s2.heap/\(∀b∈fp,mP X pins H' b)/\R J H'
def PI(X:Cx)(tg iter:Expr)(wi:TI):Prop:=
 ∀(pins:List (Addr×Obj)) (s:Shared) (σ:St) (H:Hp) (R:It->Hp->Prop),Inv X pins σ H s->wi σ H R->
  wpAny (model X.prog X.w) X.A (eval iter X.env) (λv s1=>wpAny (model X.prog X.w) X.A (pyIter v) (Nf X pins σ tg R) X.xe s1) X.xe s
theorem Ep {M:Model}{A:Around}{E:Value->Shared->Prop}{s:Shared}{tg:Expr}{it:Addr}{u:Value}{o:Obj}{n:String}{vs:Array Value}{Q:Unit->Shared->Prop}(ho:s.heap.get? it=some o)(hc:o.cls=.type n)(hd:o.data=.fields vs)
 (hn:["enumerate","zip","dict_itemiterator","dict_reverseitemiterator","odict_iterator","itertools.zip_longest","itertools.pairwise"].contains n=false) (hQ:Q () s):wpAny M A (letOwnedTupleGo tg (.ref it) u) Q E s:=by
 unfold letOwnedTupleGo;cases tg<;>first
  |exact wP hQ
  |(cases u<;>first
   |exact wP hQ
   | (refine wB (wpAny_load ho ?_)
      rw [hc,hd];show wpAny M A (if(["enumerate","zip","dict_itemiterator","dict_reverseitemiterator","odict_iterator","itertools.zip_longest","itertools.pairwise"].contains n&&vs[0]? ==some (rawInt _))=true then _ else _) Q E s;rw [if_neg (by intro h;rw [hn,Bool.false_and]at h;cases h)]
      exact wP hQ))
def Ng(K:Fg)(a:Addr):It:=
 ⟨λi H=>∃xs x,SqL K H a xs/\xs[i]? =some x,λi H x H'=>H'=H/\∀xs,SqL K H a xs->xs[i]? =some x,λi H=>∃xs,SqL K H a xs/\xs.length<=i⟩
def Nh(K:Fg)(a:Addr):It:=
 ⟨λi H=>∃xs x,SqT K H a xs/\xs[i]? =some x,λi H x H'=>H'=H/\∀xs,SqT K H a xs->xs[i]? =some x,λi H=>∃xs,SqT K H a xs/\xs.length<=i⟩
def Me(lo:Int)(n:Nat):It:=⟨λi _=>i < n,λi H x H'=>H'=H/\x=.int (lo+i),λi _=>n<=i⟩
theorem DR {P:Program}{w:World}{K:Fg}{tg:Expr}(a it:Addr):Turn P w K tg (Ng K a) [it] it (λi h=>h.IsListIter it a i) where
 mem:=by simp
 obj:=λi h st b hb=>by
  have e:b=it:=by simpa using hb
  subst e;obtain⟨o,e,c,d⟩:=st;exact⟨o,e,λv z=>by rw [d]at z;cases z⟩
 keep:=λi h h' st k=>st.at λo e=>k it (by simp) o e
 item:=by
  intro X hP hw hK hc i pins s σ H E I hf st hg;subst hP hw hK;obtain⟨xs,x,hq,hx⟩:=hg;obtain⟨its,rv,p,hz⟩:=I.list hq;obtain⟨u,hu,ru⟩:=rv.get hx;obtain⟨f0,f1,f2,f3,f4,f5⟩:=hf it (by simp)
  refine wpAny_pyNext_list_item st p.isList (x:=u) (by simpa using hu) λh' st' sb=>?_
  have I1:Inv X pins σ H {s with heap:=h'}:=I.turned (t':=s.toks) (λb o hb e=>(sb.2 b hb).trans e) f0 f1 f3 f4 f5
  obtain⟨o,e,c,d⟩:=id st';exact⟨u,rfl,Ep (s:={s with heap:=h'}) e c d (by decide) ⟨x,H,I1,ru,⟨rfl,λys hy=>by rw [I.list_inj hy hq];exact hx⟩,st',λb hb=>(hf b hb).1⟩⟩
 done:=by
  intro X hP hw hK hc i pins s σ H E I hf st hg;subst hP hw hK;obtain⟨xs,hq,hx⟩:=hg;obtain⟨its,rv,p,hz⟩:=I.list hq;obtain⟨f0,f1,f2,f3,f4,f5⟩:=hf it (by simp)
  have hl:=rv.length;exact wpAny_pyNext_list_end (I.ok.hd hc) st p.isList (by simp;omega) λh' eb=>⟨rfl,I.turned (t':=s.toks) (λb o hb e=>eb b o hb e) f0 f1 f3 f4 f5⟩
 self:=λ_ _ _ _ _ st h=>wpAny_pyIter_listiter st h
theorem Au {P:Program}{w:World}{K:Fg}{tg:Expr}(a it:Addr):Turn P w K tg (Nh K a) [it] it (λi h=>h.IsTupleIter it a i) where
 mem:=by simp
 obj:=λi h st b hb=>by
  have e:b=it:=by simpa using hb
  subst e;obtain⟨o,e,c,d⟩:=st;exact⟨o,e,λv z=>by rw [d]at z;cases z⟩
 keep:=λi h h' st k=>st.at λo e=>k it (by simp) o e
 item:=by
  intro X hP hw hK hc i pins s σ H E I hf st hg;subst hP hw hK;obtain⟨xs,x,hq,hx⟩:=hg;obtain⟨its,rv,p,hz⟩:=I.tuple hq;obtain⟨u,hu,ru⟩:=rv.get hx;obtain⟨f0,f1,f2,f3,f4,f5⟩:=hf it (by simp)
  refine wpAny_pyNext_tuple_item st (show s.heap.IsTuple a its.toArray from p) (x:=u) (by simpa using hu) λh' st' sb=>?_
  have I1:Inv X pins σ H {s with heap:=h'}:=I.turned (t':=s.toks) (λb o hb e=>(sb.2 b hb).trans e) f0 f1 f3 f4 f5
  obtain⟨o,e,c,d⟩:=id st';exact⟨u,rfl,Ep (s:={s with heap:=h'}) e c d (by decide) ⟨x,H,I1,ru,⟨rfl,λys hy=>by rw [I.tuple_inj hy hq];exact hx⟩,st',λb hb=>(hf b hb).1⟩⟩
 done:=by
  intro X hP hw hK hc i pins s σ H E I hf st hg;subst hP hw hK;obtain⟨xs,hq,hx⟩:=hg;obtain⟨its,rv,p,hz⟩:=I.tuple hq;obtain⟨f0,f1,f2,f3,f4,f5⟩:=hf it (by simp)
  have hl:=rv.length;exact wpAny_pyNext_tuple_end (I.ok.hd hc) st (show s.heap.IsTuple a its.toArray from p) (by simp;omega) λh' eb=>⟨rfl,I.turned (t':=s.toks) (λb o hb e=>eb b o hb e) f0 f1 f3 f4 f5⟩
 self:=λ_ _ _ _ _ st h=>wpAny_pyIter_tupleiter st h
theorem Av {P:Program}{w:World}{K:Fg}{tg:Expr}(it:Addr)(lo:Int)(n:Nat):Turn P w K tg (Me lo n) [it] it (λi h=>IsRangeIter h it (lo+(i:Nat)*1) ((n:Int) - (i:Nat)) 1) where
 mem:=by simp
 obj:=λi h st b hb=>by
  have e:b=it:=by simpa using hb
  subst e;exact⟨_,st,λv z=>by
   have z':Data.fields _=Data.cell v:=z;cases z'⟩
 keep:=λi h h' st k=>k it (by simp) _ st
 item:=by
  intro X hP hw hK hc i pins s σ H E I hf st hg;subst hP hw hK;obtain⟨f0,f1,f2,f3,f4,f5⟩:=hf it (by simp)
  have W:=Walks.range (prog:=X.prog) (w:=X.w) (I.ok.hd hc) it lo 1 n;refine W.item i s _ _ hg st λv h' tk hv st' kk=>?_;obtain⟨t,rfl⟩:=hv;have I1:Inv X pins σ H {s with heap:=h',toks:=tk}:=I.turned (λb o hb e=>kk b o (by simpa using hb) e) f0 f1 f3 f4 f5
  refine⟨_,rfl,Ep (s:={s with heap:=h',toks:=tk}) (n:="range_iterator") st' rfl rfl (by decide) ⟨.int (lo+i),H,I1,⟨t,?_⟩,⟨rfl,rfl⟩,st',λb hb=>(hf b hb).1⟩⟩
  rw [Int.mul_one]
 done:=by
  intro X hP hw hK hc i pins s σ H E I hf st hg;subst hP hw hK;obtain⟨f0,f1,f2,f3,f4,f5⟩:=hf it (by simp)
  exact wpAny_pyNext_range_end (I.ok.hd hc) st (by have:n<=i:=hg;omega) λh' eb=>⟨rfl,I.turned (t':=s.toks) (λb o hb e=>eb b o hb e) f0 f1 f3 f4 f5⟩
 self:=λ_ _ _ _ _ st h=>wpAny_pyIter_rangeiter st h
section
variable {X:Cx} {tg:Expr}
theorem yO {pins:List (Addr×Obj)}{σ:St}{H:Hp}{s:Shared}{R:It->Hp->Prop}{E:Value->Shared->Prop}{lo hi:Int}{t u v:Tok}{tk:Nat}(I:Inv X pins σ H s)(h1: -(2 ^ 62)<=lo)(h2:lo < 2 ^ 62)(h3: -(2 ^ 62)<=hi)(h4:hi < 2 ^ 62)
 (q:R (Me lo (hi - lo).toNat) H):wpAny (model X.prog X.w) X.A (pyIter (.ref s.heap.objs.size)) (Nf X pins σ tg R) E {s with heap:=s.heap.push {cls:=.type "range",data:=.fields #[.int lo t,.int hi u,.int 1 v]},toks:=tk}:=by
 refine wpAny_pyIter_range (IsRange.new ..) (small_one h1 h2 h3 h4) ?_;have I1:Inv X pins σ H {s with heap:=s.heap.push {cls:=.type "range",data:=.fields #[.int lo t,.int hi u,.int 1 v]},toks:=tk}:=I.kept λb o e=>gH _ e
 refine⟨(s.heap.push {cls:=.type "range",data:=.fields #[.int lo t,.int hi u,.int 1 v]}).objs.size,[(s.heap.push {cls:=.type "range",data:=.fields #[.int lo t,.int hi u,.int 1 v]}).objs.size],_,_,H,rfl,
  I1.kept (t':=tk) λb o e=>gH _ e,Av _ lo (hi - lo).toNat,?_,λb hb=>?_,q⟩
 · have e1:lo+((0:Nat):Int)*1=lo:=by simp
   have e2:(((hi - lo).toNat:Nat):Int) - ((0:Nat):Int)=Builtin.Range.rangeSize lo hi 1:=by rw [rangeSize_one];split<;>omega
   show IsRangeIter _ _ (lo+((0:Nat):Int)*1) ((((hi - lo).toNat:Nat):Int) - ((0:Nat):Int)) 1;rw [e1,e2];exact jS _ rfl
 · have e:b=(s.heap.push {cls:=.type "range",data:=.fields #[.int lo t,.int hi u,.int 1 v]}).objs.size:=by simpa using hb
   subst e;exact I1.fpOk (Q1 _) (I1.hok.fresh (Q1 _))
def Kc(ta:TA):TI:=λσ H R=>ta σ H λvs H1=>∃j:Int,vs=[.int j]/\ -(2 ^ 62)<=j/\j < 2 ^ 62/\R (Me 0 j.toNat) H1
def Kd(ta:TA):TI:=λσ H R=>ta σ H λvs H1=>∃i j:Int,vs=[.int i,.int j]/\(-(2 ^ 62)<=i/\i < 2 ^ 62/\ -(2 ^ 62)<=j/\j < 2 ^ 62)/\R (Me i (j - i).toNat) H1
theorem fH {a:Expr}{ta:TA}{p pos:Pos}(hg:Gl X "range")(hm:X.mg "range"=none)(ha:PA X [a] ta)(hs:starEach [a] X.env=[(false,eval a X.env)]:=by rfl):PI X tg (.Call (.Name "range" p) [a] [] pos) (Kc ta):=by
 intro pins s σ H R I h;refine Call_ (lQ I hg hm boot_range (PyProof.Rows.callWith_type1 (dN (ha pos pins s σ H _ I h) λus s1 q_=>?_) hs rfl));obtain⟨vs,H1,I1,r1,q1⟩:=q_;obtain⟨j,e,q1,q2,q⟩:=q1;subst e;cases r1 with
 |cons r rr=>
  cases rr;obtain⟨t,rfl⟩:=r;exact call_range_1 (yO I1 (by omega) (by omega) q1 q2 (by simpa using q))
theorem vZ {a b:Expr}{ta:TA}{p pos:Pos}(hg:Gl X "range")(hm:X.mg "range"=none)(ha:PA X [a,b] ta)(hs:starEach [a,b] X.env=[(false,eval a X.env),(false,eval b X.env)]:=by rfl)(hs2:starEach [b] X.env=[(false,eval b X.env)]:=by rfl):
 PI X tg (.Call (.Name "range" p) [a,b] [] pos) (Kd ta):=by
 intro pins s σ H R I h;refine Call_ (lQ I hg hm boot_range (PyProof.Rows.callWith_type1 (dN (ha pos pins s σ H _ I h) λus s1 q_=>?_) (by rw [hs,hs2]) (by rw [hs2];rfl)))
 obtain⟨vs,H1,I1,r1,q1⟩:=q_;obtain⟨i,j,e,⟨q1,q2,q3,q4⟩,q⟩:=q1;subst e;cases r1 with
 |cons r rr=>
  cases rr with
  |cons r' rr=>
   cases rr;obtain⟨t,rfl⟩:=r;obtain⟨t',rfl⟩:=r';exact call_range_2 (yO I1 q1 q2 q3 q4 q)
def Aw(wi:TI)(g:TG)(tb:TS):TS:=λD σ H=>wi σ H λJ H1=>∃W:Nat->Nat->St->Hp->Prop,(∃m,W 0 m σ H1)/\∀i m σ H,W i m σ H->
 (J.stop i H/\D.nx σ H)\/(J.go i H/\∃N:St->Hp->Prop,(∀σ' H',N σ' H'->∃m',m' < m/\W (i+1) m' σ' H')/\∀x H',J.yld i H x H'->g x σ H' λσ2 H2=>tb {D with nx:=N,ct:=N,bk:=D.nx} σ2 H2)
noncomputable def sT(fp:List Addr)(h:Heap):List (Addr×Obj):=fp.filterMap λb=>(h.get? b).map λo=>(b,o)
theorem iN {fp:List Addr}{h:Heap}{b:Addr}{o:Obj}(hb:b∈fp)(e:h.get? b=some o):(b,o)∈sT fp h:=List.mem_filterMap.mpr ⟨b,hb,by rw [e];rfl⟩
theorem DS {fp:List Addr}{h:Heap}{p:Addr×Obj}(hp:p∈sT fp h):p.1∈fp/\h.get? p.1=some p.2:=by
 obtain⟨b,hb,e⟩:=List.mem_filterMap.mp hp;cases q:h.get? b with
 |none=>rw [q]at e;cases e
 |some o=>
  rw [q]at e;have e':(b,o)=p:=zV e;subst e';exact⟨hb,q⟩
theorem Inv.pinned {pins:List (Addr×Obj)}{σ:St}{H:Hp}{s:Shared}{fp:List Addr}(I:Inv X pins σ H s)(hf:∀b∈fp,mP X pins H b)(ho:∀b∈fp,∃o,s.heap.get? b=some o/\∀v,o.data≠ .cell v):Inv X (pins++sT fp s.heap) σ H s:=
 I.pins_of λp hp=>(CD.mp hp).elim (λz=>I.pin p (yI _ z)) λz=>by
  obtain⟨hb,e⟩:=DS z;obtain⟨f0,f1,f2,_⟩:=hf p.1 hb;obtain⟨o,e',d⟩:=ho p.1 hb;rw [e]at e';cases e';exact⟨e,f0,f1,f2,d⟩
theorem Inv.unpinned {pins pl:List (Addr×Obj)}{σ:St}{H:Hp}{s:Shared}(I:Inv X (pins++pl) σ H s):Inv X pins σ H s:=I.pins_of λp hp=>I.pin p (yI _ (List.mem_append_left _ hp))
theorem cN {iter:Expr}{body:List Stmt}{wi:TI}{g:TG}{tb:TS}{pos:Pos}(hp:PassesOwn (model X.prog X.w) X.A X.env X.xe)(hc:X.calm=true)(hi:PI X tg iter wi)(hg:PG X tg g)(hb:PSs X body tb)
 (hs:∀x,foldedSetIterable iter X.env x=pure x:=by intro _;rfl):PS X (.For tg iter body [] pos) (Aw wi g tb):=by
 intro pins s σ H D I h;refine wpAny_For (dN (hi pins s σ H _ I h) λv s1 h1=>dN h1 λitv s2 h2=>?_) hs;obtain⟨it,fp,tn,J,H2,e,I2,T,st2,f2,W,⟨m0,w0⟩,turn⟩:=h2;subst e;have stat:∀{H':Hp},(∀b∈fp,H' b=none)->∀b∈fp,mP X pins H' b:=λhn b hb=>⟨hn b hb,(f2 b hb).2⟩;refine codeAny_forLoop_any (λn s'=>∃i σ' H',Inv X pins σ' H' s'/\tn i s'.heap/\(∀b∈fp,H' b=none)/\W i n σ' H') ?_ m0 ⟨0,σ,H2,I2,st2,λb hb=>(f2 b hb).1,w0⟩;rintro n s3 ⟨i,σ3,H3,I3,st3,fr3,w3⟩
 rcases turn i n σ3 H3 w3 with⟨stop,qn⟩|⟨go,N,hN,step⟩
 · refine wpAny_passesOwn hp (dN (T.done X rfl rfl rfl hc i pins s3 σ3 H3 X.xe I3 (stat fr3) st3 stop) λr s4 q_=>?_);obtain⟨hr,I4⟩:=q_;subst hr;exact wpAny_execs_nil ⟨σ3,H3,I4,qn⟩
 · refine wpAny_passesOwn hp (dN (T.item X rfl rfl rfl hc i pins s3 σ3 H3 X.xe I3 (stat fr3) st3 go) λr s4 q_=>?_);obtain⟨u,hr,h4⟩:=q_;subst hr;refine wpAny_passesOwn hp (dN h4 λ_ s5 q_=>?_);obtain⟨x,H5,I5,r5,y5,st5,fr5⟩:=q_;have I5':=I5.pinned (stat fr5) (T.obj _ _ st5);refine wpAny_passesOwn hp (dN (hg _ s5 σ3 H5 x u _ I5' r5 (step x H5 y5)) λ_ s6 q_=>?_);obtain⟨σ6,H6,I6,q6⟩:=q_;refine wpAny_passesOwn hp (dN (hb _ s6 σ6 H6 _ I6 q6) λf s7 q7=>?_);have again:∀{σ7:St} {H7:Hp},Inv X (pins++sT fp s5.heap) σ7 H7 s7->N σ7 H7->∃m,m < n/\∃i σ' H',Inv X pins σ' H' s7/\tn i s7.heap/\(∀b∈fp,H' b=none)/\W i m σ' H':=λ{σ7 H7} I7 n7=>by
    obtain⟨m',hm,w7⟩:=hN σ7 H7 n7;refine⟨m',hm,i+1,σ7,H7,I7.unpinned,T.keep _ _ _ st5 λb hb o e=>(I7.pin (b,o) (yI _ (yI _ (iN hb e)))).1,λb hb=>?_,w7⟩;obtain⟨o,e,d⟩:=T.obj _ _ st5 b hb;exact(I7.pin (b,o) (yI _ (yI _ (iN hb e)))).2.1
   cases f with
   |next=>obtain⟨σ7,H7,I7,n7⟩:=q7;exact again I7 n7
   |cont=>obtain⟨σ7,H7,I7,n7⟩:=q7;exact again I7 n7
   |brk=>obtain⟨σ7,H7,I7,q7⟩:=q7;exact⟨σ7,H7,I7.unpinned,q7⟩
   |ret v=>obtain⟨x7,σ7,H7,I7,r7,q7⟩:=q7;exact⟨x7,σ7,H7,I7.unpinned,r7,q7⟩
end
noncomputable abbrev R2:=V->V->Hp->VK->Prop
def OpR(X:Cx)(f:Value->Value->Sem Value)(r:R2):Prop:=
 ∀(pins:List (Addr×Obj)) (s:Shared) (σ:St) (H:Hp) (x y:V) (v u:Value) (Q:VK),Inv X pins σ H s->RelV x v->RelV y u->r x y H Q->
  wpAny (model X.prog X.w) X.A (f v u) (EP X pins σ Q) X.xe s
def Ni(X:Cx)(f:Value->Sem Value)(r:V->Hp->VK->Prop):Prop:=
 ∀(pins:List (Addr×Obj)) (s:Shared) (σ:St) (H:Hp) (x:V) (v:Value) (Q:VK),Inv X pins σ H s->RelV x v->r x H Q->
  wpAny (model X.prog X.w) X.A (f v) (EP X pins σ Q) X.xe s
def hV(X:Cx)(f:Value)(r:List V->Hp->VK->Prop):Prop:=
 ∀(pins:List (Addr×Obj)) (s:Shared) (σ:St) (H:Hp) (xs:List V) (us:List Value) (Q:VK),Inv X pins σ H s->Vals xs us->r xs H Q->
  wpAny (model X.prog X.w) X.A (call f us) (EP X pins σ Q) X.xe s
def Nj(X:Cx)(r:V->Hp->(Bool->Hp->Prop)->Prop):Prop:=
 ∀(pins:List (Addr×Obj)) (s:Shared) (σ:St) (H:Hp) (x:V) (v:Value) (Q:Bool->Hp->Prop),Inv X pins σ H s->RelV x v->r x H Q->
  wpAny (model X.prog X.w) X.A (truthy v) (TP X pins σ Q) X.xe s
def Ke(r:R2)(ta tb:TE):TE:=λσ H Q=>ta σ H λx H1=>tb σ H1 λy H2=>r x y H2 Q
def OG(r:V->Hp->VK->Prop)(ta:TE):TE:=λσ H Q=>ta σ H λx H1=>r x H1 Q
def rI(C:Int->Int->Prop)(g:Int->Int->V):R2:=λx y H Q=>∃i j,x=.int i/\y=.int j/\C i j/\Q (g i j) H
def Ax(g:Int->Int->V):R2:=λx y H Q=>∃i j,x=.int i/\y=.int j/\Q (g i j) H
def rU(g:Int->V):V->Hp->VK->Prop:=λx H Q=>∃i,x=.int i/\Q (g i) H
section
variable {X:Cx} {a b c:Expr} {ta tb tc:TE} {pos:Pos}
theorem LQ(ha:PE X a ta)(hb:PE X b tb){pins:List (Addr×Obj)}{s:Shared}{σ:St}{H:Hp}{R:V->V->Hp->Prop}(I:Inv X pins σ H s)
 (h:ta σ H λx H1=>tb σ H1 λy H2=>R x y H2) {Q:Value->Shared->Prop} {f:Value->Value->Sem Value}
 (hf:∀v u s2 x y H2,Inv X pins σ H2 s2->RelV x v->RelV y u->R x y H2->wpAny (model X.prog X.w) X.A (f v u) Q X.xe s2):
 wpAny (model X.prog X.w) X.A (eval a X.env) (λv s₁=>wpAny (model X.prog X.w) X.A (eval b X.env) (λu s₂=>wpAny (model X.prog X.w) X.A (f v u) Q X.xe s₂) X.xe s₁) X.xe s:=by
 refine dN (ha pins s σ H _ I h) λv s1 q_=>?_;obtain⟨x,H1,I1,r1,q1⟩:=q_;refine dN (hb pins s1 σ H1 _ I1 q1) λu s2 q_=>?_;obtain⟨y,H2,I2,r2,q2⟩:=q_;exact hf v u s2 x y H2 I2 r1 r2 q2
theorem cz {op:Operator}{r:R2}(ho:OpR X (binaryOp op) r)(ha:PE X a ta)(hb:PE X b tb):PE X (.BinOp a op b pos) (Ke r ta tb):=by
 intro pins s σ H Q I h;exact wpAny_BinOp (LQ ha hb I h λv u s2 x y H2 I2 rx ry q=>ho pins s2 σ H2 x y v u Q I2 rx ry q)
theorem Mf {op:UnaryOp}{r:V->Hp->VK->Prop}(ho:Ni X (unaryOp op) r)(ha:PE X a ta):PE X (.UnaryOp op a pos) (OG r ta):=by
 intro pins s σ H Q I h;exact UnaryOp_ (dN (ha pins s σ H _ I h) λv s1 q_=>by obtain⟨x,H1,I1,r1,q1⟩:=q_;exact ho pins s1 σ H1 x v Q I1 r1 q1)
theorem Nk {f:Value->Value->Sem Value}{C:Int->Int->Prop}{g:Int->Int->Int}
 (rule:∀(i j:Int) (t u:Tok) (s:Shared) (Q:Value->Shared->Prop) (E:Value->Shared->Prop),C i j->Q (.int (g i j) s.toks) {s with toks:=s.toks+1}->wpAny (model X.prog X.w) X.A (f (.int i t) (.int j u)) Q E s):
 OpR X f (rI C λi j=>.int (g i j)):=by
 intro pins s σ H x y v u Q I rx ry h;obtain⟨i,j,rfl,rfl,hc,q⟩:=h;obtain⟨t,rfl⟩:=rx;obtain⟨t',rfl⟩:=ry;exact rule i j t t' s _ _ hc ⟨.int (g i j),H,I.tok _,⟨_,rfl⟩,q⟩
theorem LR {f:Value->Value->Sem Value}{g:Int->Int->Int}
 (rule:∀(i j:Int) (t u:Tok) (s:Shared) (Q:Value->Shared->Prop) (E:Value->Shared->Prop),Q (.int (g i j) s.toks) {s with toks:=s.toks+1}->wpAny (model X.prog X.w) X.A (f (.int i t) (.int j u)) Q E s):
 OpR X f (Ax λi j=>.int (g i j)):=by
 intro pins s σ H x y v u Q I rx ry h;obtain⟨i,j,rfl,rfl,q⟩:=h;obtain⟨t,rfl⟩:=rx;obtain⟨t',rfl⟩:=ry;exact rule i j t t' s _ _ ⟨.int (g i j),H,I.tok _,⟨_,rfl⟩,q⟩
theorem LS {f:Value->Value->Sem Value}{g:Int->Int->Bool}
 (rule:∀(i j:Int) (t u:Tok) (s:Shared) (Q:Value->Shared->Prop) (E:Value->Shared->Prop),Q (.bool (g i j)) s->wpAny (model X.prog X.w) X.A (f (.int i t) (.int j u)) Q E s):
 OpR X f (Ax λi j=>.bl (g i j)):=by
 intro pins s σ H x y v u Q I rx ry h;obtain⟨i,j,rfl,rfl,q⟩:=h;obtain⟨t,rfl⟩:=rx;obtain⟨t',rfl⟩:=ry;exact rule i j t t' s _ _ ⟨.bl (g i j),H,I,rfl,q⟩
def CMul(i j:Int):Prop:=(-(2 ^ 64) < i/\i < 2 ^ 64)\/(-(2 ^ 64) < j/\j < 2 ^ 64)
theorem CMul.ok {i j:Int}(h:CMul i j):IntMulOk i j:=by
 rcases h with⟨h1,h2⟩|⟨h1,h2⟩
 · exact .of_left (intBits_le_64 h1 h2)
 · exact .of_right (intBits_le_64 h1 h2)
theorem LT:OpR X (binaryOp .Add) (Ax λi j=>.int (i+j)):=LR λ_ _ _ _ _ _ _ q=>add_int q
theorem Er:OpR X (binaryOp .Sub) (Ax λi j=>.int (i - j)):=LR λ_ _ _ _ _ _ _ q=>sub_int q
theorem qN:OpR X (binaryOp .Mult) (rI CMul λi j=>.int (i*j)):=Nk λ_ _ _ _ _ _ _ hc q=>mul_int q hc.ok
theorem Et:OpR X (binaryOp .Mod) (rI (λ_ j=>0 < j) λi j=>.int (i % j)):=Nk λi j _ _ _ _ _ hc q=>by
 have h1:(0:Int) < j:=hc;exact mod_int' (by omega) (by rw [Int.fmod_eq_emod_of_nonneg i (by omega)];exact q)
theorem wo:OpR X (inplaceOp .Add) (Ax λi j=>.int (i+j)):=LR λ_ _ _ _ _ _ _ q=>iadd_int q
theorem Iv:OpR X (inplaceOp .Mult) (rI CMul λi j=>.int (i*j)):=Nk λ_ _ _ _ _ _ _ hc q=>imul_int q hc.ok
theorem ON {f:Value->Sem Value}{g:Int->Int}
 (rule:∀(i:Int) (t:Tok) (s:Shared) (Q:Value->Shared->Prop) (E:Value->Shared->Prop),Q (.int (g i) s.toks) {s with toks:=s.toks+1}->wpAny (model X.prog X.w) X.A (f (.int i t)) Q E s):
 Ni X f (rU λi=>.int (g i)):=by
 intro pins s σ H x v Q I rx h;obtain⟨i,rfl,q⟩:=h;obtain⟨t,rfl⟩:=rx;exact rule i t s _ _ ⟨.int (g i),H,I.tok _,⟨_,rfl⟩,q⟩
theorem LU:Ni X (unaryOp .USub) (rU λi=>.int (-i)):=ON λ_ _ _ _ _ q=>neg_int q
end
section
variable {X:Cx} {a b c:Expr} {ta tb tc:TE} {pos:Pos}
theorem Eu {pins:List (Addr×Obj)}{σ:St}{H:Hp}{s:Shared}{Q:VK}{k k':Bool}(I:Inv X pins σ H s)(q:Q (.bl k) H)(e:k=k'):EP X pins σ Q (.bool k') s:=by
 subst e;exact⟨.bl k,H,I,rfl,q⟩
theorem Mg:OpR X (compareOp .Lt) (Ax λi j=>.bl (decide (i < j))):=LS λ_ _ _ _ _ _ _ q=>lt_int q
theorem Ev:OpR X (compareOp .LtE) (Ax λi j=>.bl (decide (i<=j))):=LS λ_ _ _ _ _ _ _ q=>le_int q
theorem Ew:OpR X (compareOp .Gt) (Ax λi j=>.bl (decide (j < i))):=LS λ_ _ _ _ _ _ _ q=>gt_int q
theorem Ey:OpR X (compareOp .Is) (λx y H Q=>y=.non/\Q (.bl (decide (x=.non))) H):=by
 intro pins s σ H x y v u Q I rx ry h;obtain⟨rfl,q⟩:=h;cases ry;refine is_none_gen (Eu I q ?_);cases x<;>first
  |(cases rx;rfl)
  |(obtain⟨t,rfl⟩:=rx;rfl)
theorem Iw:OpR X (compareOp .IsNot) (λx y H Q=>y=.non/\Q (.bl (!decide (x=.non))) H):=by
 intro pins s σ H x y v u Q I rx ry h;obtain⟨rfl,q⟩:=h;cases ry;refine isnot_none_gen (Eu I q ?_);cases x<;>first
  |(cases rx;rfl)
  |(obtain⟨t,rfl⟩:=rx;rfl)
theorem OpR.or {f:Value->Value->Sem Value}{r r':R2}(h:OpR X f r)(h':OpR X f r'):OpR X f (λx y H Q=>r x y H Q\/r' x y H Q):=by
 intro pins s σ H x y v u Q I rx ry q
 rcases q with q|q
 · exact h pins s σ H x y v u Q I rx ry q
 · exact h' pins s σ H x y v u Q I rx ry q
theorem eQ(b:Expr){op:CmpOp}(h:op≠ .In:=by decide)(h2:op≠ .NotIn:=by decide):behindInMarks op b=false:=by
 have e1:(op==CmpOp.In)=false:=by cases op<;>first|rfl|exact absurd rfl h
 have e2:(op==CmpOp.NotIn)=false:=by cases op<;>first|rfl|exact absurd rfl h2
 cases b<;>simp [behindInMarks,e1,e2]
theorem nK {op:CmpOp}{r:R2}(ho:OpR X (compareOp op) r)(ha:PE X a ta)(hb:PE X b tb)(hm:behindInMarks op b=false):PE X (.Compare a [op] [b] pos) (Ke r ta tb):=by
 intro pins s σ H Q I h;exact wpAny_Compare1 (LQ ha hb I h λv u s2 x y H2 I2 rx ry q=>ho pins s2 σ H2 x y v u Q I2 rx ry q) hm
def yP(t:TE):TT:=λσ H Q=>t σ H λx H'=>∃k,x=.bl k/\Q k H'
theorem dO {op:CmpOp}{r:R2}(ho:OpR X (compareOp op) r)(ha:PE X a ta)(hb:PE X b tb)(hm:behindInMarks op b=false):PT X (.Compare a [op] [b] pos) (yP (Ke r ta tb)):=by
 intro pins s σ H Q I h;refine wpAny_isTrue_Compare1 (dN (ha pins s σ H _ I h) λv s1 ⟨x,H1,I1,r1,q1⟩=>dN (hb pins s1 σ H1 _ I1 q1) λu s2 ⟨y,H2,I2,r2,q2⟩=>
  dN (ho pins s2 σ H2 x y v u _ I2 r1 r2 q2) λc s3 ⟨z,H3,I3,r3,k,e,q3⟩=>?_) hm
 subst e;cases r3;exact wpAny_truthy_bool ⟨H3,I3,q3⟩
def Ez(r r':R2)(ta tb tc:TE):TE:=λσ H Q=>ta σ H λx H1=>tb σ H1 λy H2=>r x y H2 λz H3=>∃k,z=.bl k/\
 (if k=true then tc σ H3 λw' H4=>r' y w' H4 Q else Q (.bl false) H3)
theorem FA {op op':CmpOp}{r r':R2}(ho:OpR X (compareOp op) r)(ho':OpR X (compareOp op') r')(ha:PE X a ta)(hb:PE X b tb)(hc:PE X c tc)
 (hm:lastMarks [op,op'] [b,c]=false:=by with_unfolding_all rfl):PE X (.Compare a [op,op'] [b,c] pos) (Ez r r' ta tb tc):=by
 intro pins s σ H Q I h;refine Compare_chain (dN (ha pins s σ H _ I h) λv s1 ⟨x,H1,I1,r1,q1⟩=>chain_link (dN (hb pins s1 σ H1 _ I1 q1) λu s2 ⟨y,H2,I2,r2,q2⟩=>
  dN (ho pins s2 σ H2 x y v u _ I2 r1 r2 q2) λd s3 ⟨z,H3,I3,r3,k,e,q3⟩=>?_)) hm
 subst e;cases r3;refine wpAny_truthy_bool ?_;cases k with
 |false=>exact ite_ff ⟨.bl false,H3,I3,rfl,q3⟩
 |true=>exact ite_tt (chain_last (dN (hc pins s3 σ H3 _ I3 q3) λw' s4 q_=>by obtain⟨z',H4,I4,r4,q4⟩:=q_;exact ho' pins s4 σ H4 y z' u w' Q I4 r2 r4 q4))
def Ix(K:Fg)(x:V)(H:Hp)(k:Bool):Prop:=
 match x with
 | .non=>k=false
 | .bl b=>k=b
 | .int i=>k=(i != 0)
 | .str y=>y.length<=sizeLine/\k=((y.length:Int) != 0)
 | .byt y=>y.size<=sizeLine/\k=((y.size:Int) != 0)
 | .ref p=>(∃xs,SqL K H p xs/\k= !xs.isEmpty)\/(∃xs,SqT K H p xs/\k= !xs.isEmpty)\/∃kvs,H p=some (.dK kvs)/\k= !kvs.isEmpty
 |_=>False
theorem Ay {κ:Type}{kvs:List (κ×V)}{vs:List (κ×Value)}(r:KV kvs vs):(!vs.isEmpty)= !kvs.isEmpty:=by
 cases r<;>rfl
theorem sU {xs:List V}{its:List Value}(r:Vals xs its):(!its.toArray.isEmpty)= !xs.isEmpty:=by
 cases r<;>simp
theorem sV:(sizeLine:Nat) < 2 ^ 63:=by rw [sizeLine_eq];decide
theorem LV:Nj X (λx H Q=>∃k,Ix X.K x H k/\Q k H):=by
 intro pins s σ H x v Q I rx h;obtain⟨k,e,q⟩:=h;have hl:=sV;have hs:sizeLine=16777216:=sizeLine_eq;cases x with
 |non=>
  cases rx;have e':k=false:=e;subst e';exact truthy_none ⟨H,I,q⟩
 |bl b=>
  cases rx;have e':k=b:=e;subst e';exact wpAny_truthy_bool ⟨H,I,q⟩
 |int i=>
  obtain⟨t,rfl⟩:=rx;have e':k=(i != 0):=e;subst e';exact PySem.P.truthy_int ⟨H,I,q⟩
 |str y=>
  obtain⟨t,rfl⟩:=rx;obtain⟨hy,e'⟩:y.length<=sizeLine/\k=((y.length:Int) != 0):=e;subst e';exact PySem.P.truthy_str (by omega) ⟨H,I.tok _,q⟩
 |byt y=>
  obtain⟨t,rfl⟩:=rx;obtain⟨hy,e'⟩:y.size<=sizeLine/\k=((y.size:Int) != 0):=e;subst e';exact PySem.W.truthy_bytes (by omega) ⟨H,I.tok _,q⟩
 |ref p=>
  cases rx;have e':(∃xs,SqL X.K H p xs/\k= !xs.isEmpty)\/(∃xs,SqT X.K H p xs/\k= !xs.isEmpty)\/∃kvs,H p=some (.dK kvs)/\k= !kvs.isEmpty:=e
  rcases e' with⟨xs,hx,e'⟩|⟨xs,hx,e'⟩|⟨kvs,hx,e'⟩
  · subst e';obtain⟨its,r,pl,hz⟩:=I.list hx;have hlen:=r.length;exact wpAny_truthy_list pl.isList (by simp only [zM];omega) ⟨H,I.tok _,by rw [sU r];exact q⟩
  · subst e';obtain⟨its,r,pl,hz⟩:=I.tuple hx;have hlen:=r.length;exact truthy_tuple pl (by simp only [zM];omega) ⟨H,I.tok _,by rw [sU r];exact q⟩
  · subst e';obtain⟨hz,hS,vs,r,m⟩:kvs.length<=sizeLine/\(p==sysModules)=false/\∃vs,KV kvs vs/\s.heap.DictOf (be X.prog X.w) p vs:=I.hok p _ hx;have hlen:kvs.length=vs.length:=Paired.length r;exact wpAny_truthy_dict hS m (by omega) ⟨H,I.tok _,by rw [Ay r];exact q⟩
 |_=>exact(show False from e).elim
theorem FB(ha:PE X a ta)(he:∀whole,isTrue a X.env whole=(do let v<-whole;standAt a.pos;holding [v] (truthy v))):
 PT X a (λσ H Q=>ta σ H λx H'=>∃k,Ix X.K x H' k/\Q k H'):=by
 intro pins s σ H Q I h;exact isTrue_plain (dN (ha pins s σ H _ I h) λv s1 q_=>by obtain⟨x,H1,I1,r1,q1⟩:=q_;exact LV pins s1 σ H1 x v Q I1 r1 q1) (he _)
theorem Az:OpR X (binaryOp .Add) (λx y H Q=>∃i j,x=.str i/\y=.str j/\i.length+j.length<=sizeLine/\Q (.str (i++j)) H):=by
 intro pins s σ H x y v u Q I rx ry h;obtain⟨i,j,rfl,rfl,hz,q⟩:=h;obtain⟨t,rfl⟩:=rx;obtain⟨t',rfl⟩:=ry;exact add_str (λt' tk=>⟨.str (i++j),H,I.tok _,⟨_,rfl⟩,q⟩) hz
theorem rB {x:V}{us:List Value}(r:Vals [x] us):∃u,us=[u]/\RelV x u:=by
 cases r with
 |cons r1 r2=>cases r2;exact⟨_,rfl,r1⟩
def LW(K:Fg)(x:V)(H:Hp)(n:Nat):Prop:=
 match x with
 | .str y=>y.length<=sizeLine/\n=y.length
 | .byt y=>y.size<=sizeLine/\n=y.size
 | .ref p=>(∃xs,SqL K H p xs/\n=xs.length)\/∃xs,SqT K H p xs/\n=xs.length
 |_=>False
theorem FC:hV X (.builtin "len") (λxs H Q=>∃x n,xs=[x]/\LW X.K x H n/\Q (.int n) H):=by
 intro pins s σ H xs us Q I r h;obtain⟨x,n,rfl,e,q⟩:=h;obtain⟨u,rfl,rx⟩:=rB r;have hl:=sV;have hs:sizeLine=16777216:=sizeLine_eq;cases x with
 |str y=>
  obtain⟨t,rfl⟩:=rx;obtain⟨hy,e'⟩:y.length<=sizeLine/\n=y.length:=e;subst e';exact len_str (by omega) ⟨.int _,H,I.tok _,⟨_,rfl⟩,q⟩
 |byt y=>
  obtain⟨t,rfl⟩:=rx;obtain⟨hy,e'⟩:y.size<=sizeLine/\n=y.size:=e;subst e';exact PySem.W.len_bytes (by omega) ⟨.int _,H,I.tok _,⟨_,rfl⟩,q⟩
 |ref p=>
  cases rx;have e':(∃xs,SqL X.K H p xs/\n=xs.length)\/∃xs,SqT X.K H p xs/\n=xs.length:=e
  rcases e' with⟨xs,hx,e'⟩|⟨xs,hx,e'⟩
  · subst e';obtain⟨its,r',pl,hz⟩:=I.list hx;have hlen:=r'.length;exact Calls.call_len_list pl.isList (by simp only [zM];omega) ⟨.int xs.length,H,I.tok _,⟨_,by simp only [zM];rw [hlen]⟩,q⟩
  · subst e';obtain⟨its,r',pl,hz⟩:=I.tuple hx;have hlen:=r'.length;exact len_tuple pl (by simp only [zM];omega) ⟨.int xs.length,H,I.tok _,⟨_,by simp only [zM];rw [hlen]⟩,q⟩
 |_=>exact(show False from e).elim
end
structure ObjM (h:Heap) (x dx C:Addr) (mA:Str->Option Value):Prop where
 obj:h.get? x=some (PySem.W.instObj C dx)
 ns:h.Ns1 dx mA
 ne:dx≠x
theorem DT {h:Heap}{dx:Addr}{mA:Str->Option Value}(n:h.Ns1 dx mA):∃od,h.get? dx=some od/\∀name,PySem.W.lookIn name od=some (mA name):=by
 obtain⟨o,es,ep,ho,hd,hk,_,hm⟩:=n;refine⟨o,ho,λname=>?_⟩;have e:=hm name;unfold nsFind findBy at e;rw [<-Array.find?_toList]at e;unfold PySem.W.lookIn;rw [hd]
 dsimp only
 split
 · rename_i y q;rw [q]at e;exact congrArg some e
 · rename_i q;rw [q]at e;have a:es.toList.any (·.refKey)=false:=by
    rw [List.any_eq_false];intro y hy;obtain⟨z,t,hkey⟩:=hk y (Array.mem_toList_iff.mp hy);simp [DictEntry.refKey,hkey]
   have a':¬es.toList.any (·.refKey)=true:=by rw [a];exact Q8
   rw [if_neg a'];exact congrArg some e
theorem ObjM.look {h:Heap}{x dx C:Addr}{mA:Str->Option Value}(I:ObjM h x dx C mA):∃od,PySem.W.InstAt h x (PySem.W.instObj C dx) C (some od)/\∀name,PySem.W.lookIn name od=some (mA name):=
 let ⟨od,ho,hl⟩:=DT I.ns
 ⟨od,⟨I.obj,rfl,rfl,ho⟩,hl⟩
section
variable {prog:Program} {w:World} {A:Around} {E:Value->Shared->Prop} {s:Shared} {K:Fg} {x dx C f:Addr} {mA:Str->Option Value} {name:Str} {v:Value}
end
section
variable {P:Program} {w:World} {H H':Hp} {h h':Heap} {a C dx:Addr} {fs fs':List (Str×V)}
theorem Iy(hok:HOk P w H h)(e:H a=some (.ins C dx fs)):∃mA,ObjM h a dx C mA/\(∀f,RelO (fs.lookup f) (mA f))/\PySem.Within mA (fs.map (·.1))/\fs.length<=1000/\H dx=some (.own a):=by
 obtain⟨d,z,ne,ob,mA,n,r,q⟩:=(show ObjOk P w H h a (.ins C dx fs)from hok a _ e)
 exact⟨mA,⟨ob,n,ne⟩,r,q,z,d⟩
end
structure Cls (K:Fg) (C:Addr):Prop where
 pg:PySem.W.plainGet K C Str.empty=true
 hd:PySem.W.hasDictIn K C=true
 po:PySem.W.plainOver K C=true
 sa:PySem.W.findIn K (.ref C) "__setattr__"=some (some (.builtin "object.__setattr__"))
theorem Cls.get {K:Fg}{C:Addr}(c:Cls K C)(f:Str):PySem.W.plainGet K C f=true:=c.pg
section
variable {X:Cx} {pins:List (Addr×Obj)} {σ:St} {H:Hp} {s:Shared} {a C dx:Addr} {fs:List (Str×V)} {f:Str} {v:V} {A:Around} {E:Value->Shared->Prop}
end
section
variable {X:Cx} {o e value:Expr} {f:Str} {pos pos' tpos:Pos} {ta tv:TE}
end
section
variable {X:Cx} {pins:List (Addr×Obj)} {σ:St} {H:Hp} {s:Shared} {A:Around} {E:Value->Shared->Prop} {Q:Value->Shared->Prop} {c:Value} {b:Bool}
inductive TyOf (K:Fg) (H:Hp):V->Value->Prop where
 |non:TyOf K H .non (.type "NoneType")
 |bl (x:Bool):TyOf K H (.bl x) (.type "bool")
 |int (i:Int):TyOf K H (.int i) (.type "int")
 |str (x:Str):TyOf K H (.str x) (.type "str")
 |flt (x:UInt64):TyOf K H (.flt x) (.type "float")
 |lst {a:Addr} {xs:List V} (e:H a=some (.lst xs)):TyOf K H (.ref a) (.type "list")
 |frz {a:Addr} {o:Obj} {xs:List V} (e:H a=some (.frz o (.lst xs))):TyOf K H (.ref a) (.type "list")
 |tup {a:Addr} {xs:List V} (e:H a=some (.tup xs)):TyOf K H (.ref a) (.type "tuple")
 |dK {a:Addr} {kvs:List (bx×V)} (e:H a=some (.dK kvs)):TyOf K H (.ref a) (.type "dict")
 |dT {a:Addr} {kvs:List (List bx×V)} (e:H a=some (.dT kvs)):TyOf K H (.ref a) (.type "dict")
 |ins {a C dx:Addr} {fs:List (Str×V)} (e:H a=some (.ins C dx fs)) (cl:Cls K C) (ha:PySem.W.findIn K (.ref C) "__class__"=some (some (.builtin "object.__class__")))
  (hn:PySem.W.specialIn K (.builtin "object.__class__") "__get__"=some (some (.builtin "getset_descriptor.__get__"))) (htk:PySem.W.takesIn K (.builtin "object.__class__")=some true)
  (hm:PySem.W.mroIn K C (.type "object")=some true):TyOf K H (.ref a) (.ref C)
theorem jT {x:V}{u t:Value}(I:Inv X pins σ H s)(rx:RelV x u)(ty:TyOf X.K H x t)(e:PySem.W.kitOne X.K t c=some b)(h:∀tk,Q (.bool b) {s with toks:=tk}):
 wpAny (model X.prog X.w) A (call (.builtin "isinstance") [u,c]) Q E s:=by
 cases ty with
 |non=>cases(show u=Value.none from rx);exact PySem.W.kia_one PySem.W.kitx_none I.kIn True.intro e (λz=>nomatch z) h
 |bl y=>cases(show u=Value.bool y from rx);exact PySem.W.kia_one PySem.W.kitx_bool I.kIn True.intro e (λz=>nomatch z) h
 |int i=>obtain⟨t,q⟩:=(show ∃t,u=Value.int i t from rx);cases q;exact PySem.W.kia_one PySem.W.kitx_int I.kIn True.intro e (λz=>nomatch z) h
 |str y=>obtain⟨t,q⟩:=(show ∃t,u=Value.str y t from rx);cases q;exact PySem.W.kia_one PySem.W.kitx_str I.kIn True.intro e (λz=>nomatch z) h
 |flt y=>obtain⟨t,q⟩:=(show ∃t,u=Value.float y t from rx);cases q;exact PySem.W.kia_one PySem.W.kitx_float I.kIn True.intro e (λz=>nomatch z) h
 | @lst a xs ea=>
  cases(show u=Value.ref a from rx)
  obtain⟨_,_,n,_,h1⟩:=(show ObjOk X.prog X.w H s.heap a (.lst xs)from I.hok a _ ea)
  exact PySem.W.kia_one PySem.W.kitx_list I.kIn ⟨_,h1,rfl⟩ e (λz=>nomatch z) h
 | @frz a ob xs ea=>
  cases(show u=Value.ref a from rx)
  obtain⟨_,_,_,n,_,h1⟩:=(show ObjOk X.prog X.w H s.heap a (.frz ob (.lst xs))from I.hok a _ ea)
  exact PySem.W.kia_one PySem.W.kitx_list I.kIn ⟨_,h1,rfl⟩ e (λz=>nomatch z) h
 | @tup a xs ea=>
  cases(show u=Value.ref a from rx)
  obtain⟨_,_,_,p,_⟩:=(show ObjOk X.prog X.w H s.heap a (.tup xs)from I.hok a _ ea)
  obtain⟨o,h1,h2,_⟩:=p;exact PySem.W.kia_one PySem.W.kitx_tuple I.kIn ⟨o,h1,h2⟩ e (λz=>nomatch z) h
 | @dK a kvs ea=>
  cases(show u=Value.ref a from rx)
  obtain⟨_,_,vs,_,p⟩:=(show ObjOk X.prog X.w H s.heap a (.dK kvs)from I.hok a _ ea)
  obtain⟨o,es,ep,h1,h2,_⟩:=p;exact PySem.W.kia_one PySem.W.kitx_dict I.kIn ⟨o,h1,h2.1⟩ e (λz=>nomatch z) h
 | @dT a kvs ea=>
  cases(show u=Value.ref a from rx)
  obtain⟨_,_,xs,_,o,es,ep,h1,h2,_⟩:=(show ObjOk X.prog X.w H s.heap a (.dT kvs)from I.hok a _ ea)
  exact PySem.W.kia_one PySem.W.kitx_dict I.kIn ⟨o,h1,h2.1⟩ e (λz=>nomatch z) h
 | @ins a C dx fs ea cl ha hn htk hm=>
  cases(show u=Value.ref a from rx)
  obtain⟨mA,O,_⟩:=Iy I.hok ea;obtain⟨od,J,_⟩:=O.look;exact PySem.W.kia_one (PySem.W.kitx_own (cl.get _) cl.hd ha hn htk hm) I.kIn J e (λz=>nomatch z) h
end
structure Room (k:Nat) (A:Around):Prop where
 hd:A.handled=none
 dp:A.depth+3*k+5 < recursionLimit
 un:A.units+16*k+200 < cLine
theorem Room.mono {j k:Nat}{A:Around}(r:Room k A)(h:j<=k):Room j A:=⟨r.hd,by have:=r.dp;omega,by have:=r.un;omega⟩
theorem Room.deeper {k:Nat}{A:Around}(r:Room (k+1) A)(env:Env):Room k (A.deeper env):=
 ⟨r.hd,by have:=r.dp;show A.depth+1+3*k+5 < _;omega,by have:=r.un;show A.units+3+16*k+200 < _;omega⟩
theorem Room.in1 {k:Nat}{A:Around}(r:Room (k+1) A):Room k A.in1:=
 ⟨r.hd,by have:=r.dp;show A.depth+3*k+5 < _;omega,by have:=r.un;show A.units+1+16*k+200 < _;omega⟩
theorem Room.depth {k:Nat}{A:Around}(r:Room k A):A.depth < recursionLimit:=by have:=r.dp;omega
theorem Room.units {k:Nat}{A:Around}(r:Room k A):A.units+64 < cLine:=by have:=r.un;omega
def dM:TA:=λ_ H Q=>Q [] H
def bH(ta:TE)(tr:TA):TA:=λσ H Q=>ta σ H λx H1=>tr σ H1 λxs H2=>Q (x::xs) H2
section
variable {X:Cx} {e:Expr} {es:List Expr} {te:TE} {t:TA} {pos:Pos}
theorem aK:PA X [] dM:=λ_ _ _ _ H Q I h=>Calls.spliced_nil ⟨[],H,I,.nil,h⟩
theorem aD(ha:PE X e te)(hr:PA X es t)(hs:starEach (e::es) X.env=(false,eval e X.env)::starEach es X.env:=by rfl):PA X (e::es) (bH te t):=by
 intro pos pins s σ H Q I h;rw [hs];show wpAny _ _ (spliced ((false,eval e X.env)::backTo pos (starEach es X.env))) _ _ s;refine Calls.spliced_cons (dN (ha pins s σ H _ I h) λu s1 q_=>?_);obtain⟨x,H1,I1,r1,q1⟩:=q_;exact dN (hr pos pins s1 σ H1 _ I1 q1) λus s2 q_=>by obtain⟨xs,H2,I2,r2,q2⟩:=q_;exact⟨x::xs,H2,I2,.cons r1 r2,q2⟩
def FD(t:TA):TE:=λσ H Q=>t σ H λxs H1=>xs.length<=sizeLine/\∀p,H1 p=none->Q (.ref p) (bv H1 p (.tup xs))
def BA(t:TA):TE:=λσ H Q=>t σ H λxs H1=>xs.length<=sizeLine/\∀p,H1 p=none->Q (.ref p) (bv H1 p (.lst xs))
theorem jD {x1}(h:PA X es t):PE X (.Tuple es x1 pos) (FD t):=by
 intro pins s σ H Q I hq;refine wpAny_Tuple_spliced (dN (h pos pins s σ H _ I hq) λus s1 ⟨xs,H1,I1,r,z,q⟩=>⟨by rw [<-r.length];exact z,?_⟩)
 have hf:H1 s1.heap.objs.size=none:=I1.hok.fresh (Q1 _);refine⟨.ref s1.heap.objs.size,bv H1 s1.heap.objs.size (.tup xs),I1.laid (t':=s1.toks) (λb u e=>gH _ e) (Q1 _) ?_,rfl,q _ hf⟩;exact⟨z,us,r,⟨_,jS _ rfl,rfl,_,rfl⟩,_,jS _ rfl,rfl⟩
theorem de(h:PA X es t):PE X (.List es pos) (BA t):=by
 intro pins s σ H Q I hq;refine wpAny_List_spliced (dN (h pos pins s σ H _ I hq) λus s1 ⟨xs,H1,I1,r,z,q⟩=>⟨by rw [<-r.length];exact z,?_⟩)
 have hf:H1 s1.heap.objs.size=none:=I1.hok.fresh (Q1 _);refine⟨.ref s1.heap.objs.size,bv H1 s1.heap.objs.size (.lst xs),I1.laid (t':=s1.toks) (λb u e=>gH _ e) (Q1 _) ?_,rfl,q _ hf⟩;exact⟨z,us,0,r,jS _ rfl⟩
end
noncomputable abbrev Sp:=List V->Hp->VK->XK->Prop
noncomputable abbrev FE:=List Env->Hp->Shared->XK->Value->Shared->Prop
structure Env0 (P:Program) (w:World) (K:Fg) (mg:Str->Option Value) (base:Heap) (A:Around) (outer:List Env) (s:Shared) (H:Hp):Prop where
 frames:A.frames=some outer
 mod:Mod K mg base
 bs:∀b o,base.get? b=some o->s.heap.get? b=some o/\H b=none
 bsz:base.objs.size<=s.heap.objs.size
 funs:s.heap.FunFrames base outer
 frf:∀b∈Am outer,H b=none
 hok:HOk P w H s.heap
 bare:AllBare s.gens
def CE(outer:List Env)(P:Program)(w:World)(H:Hp)(s:Shared)(Q:VK)(u:Value)(s':Shared):Prop:=
 ∃v H',s'.os=s.os/\AllBare s'.gens/\Un (Am outer) [] H H' s.heap s'.heap/\HOk P w H' s'.heap/\RelV v u/\Q v H'
def CR(CX:FE)(outer:List Env)(P:Program)(w:World)(H:Hp)(s:Shared)(Q:VK)(E:XK)(r:Result)(s':Shared):Prop:=
 match r with
 | .ok (.ret u)=>CE outer P w H s Q u s'
 | .ok _=>False
 | .error e=>CX outer H s E e s'
structure FnOk (P:Program) (w:World) (K:Fg) (mg:Str->Option Value) (base:Heap) (CX:FE) (k:Nat) (f:Addr) (fd:FuncData) (ps:List Str) (sp:Sp):Prop where
 len:∀vs H Q E,sp vs H Q E->vs.length=ps.length
 run:∀(A:Around) (outer:List Env) (s:Shared) (H:Hp) (args:Args) (us:List Value) (vs:List V) (Q:VK) (E:XK),Room k A->Env0 P w K mg base A outer s H->BindsTo s fd args (ps.zip us)->Vals vs us->sp vs H Q E->
  codeAny (model P w) A (.call (.ref f) args) (CR CX outer P w H s Q E) s
section
variable {X:Cx} {pins:List (Addr×Obj)} {σ:St} {H:Hp} {s s':Shared}
theorem Inv.env0(I:Inv X pins σ H s):Env0 X.prog X.w X.K X.mg X.base X.A X.stack s H:=
 ⟨I.ok.frames,I.ok.mod,I.bs,Q7 I.ok.bsz I.sz,I.stack,I.stkFree,I.hok,I.bare⟩
theorem Inv.after {Q:VK}{u:Value}(I:Inv X pins σ H s)(h:CE X.stack X.prog X.w H s Q u s'):EP X pins σ Q u s':=by
 obtain⟨v,H',os,bare,un,hok,r,q⟩:=h;obtain⟨hh,g,d,t,os'⟩:=s';obtain rfl:os'=s.os:=os;exact⟨v,H',I.call (h':=hh) (g':=g) (d':=d) (t':=t) (ch:=[]) un hok bare (λb z=>absurd z (by simp)),r,q⟩
end
def eF(sp:Sp)(dvs:List V)(E:XK)(t:TA):TE:=λσ H Q=>t σ H λvs H1=>sp (vs++dvs) H1 Q E
def Binds(K:Fg)(fd:FuncData)(ps:List Str)(ds:List Value):Prop:=
 ∀(s:Shared) (us:List Value),K.In s.heap->(us++ds).length=ps.length->BindsTo s fd ⟨us,[]⟩ (ps.zip (us++ds))
theorem Binds.all {K:Fg}{fd:FuncData}{ps:List Str}(h:∀us:List Value,us.length=ps.length->bindArgs fd ⟨us,[]⟩=pure (ps.zip us)):Binds K fd ps []:=λs us _ hl=>by
 rw [Qa]at hl ⊢;exact .of_eq (h us hl)
def BB(CX:FE)(X:Cx)(E:XK):Prop:=∀(pins:List (Addr×Obj)) (σ:St) (H:Hp) (s:Shared) (e:Value) (s':Shared),Inv X pins σ H s->CX X.stack H s E e s'->X.xe e s'
section
variable {X:Cx} {CX:FE} {k:Nat} {f C:Addr} {fd:FuncData} {ps:List Str} {sp:Sp} {dvs:List V} {ds:List Value} {E:XK} {x m:Str} {p pos apos:Pos} {e o:Expr} {es:List Expr} {ta:TE} {t:TA}
theorem FF {pins:List (Addr×Obj)}{σ:St}{H:Hp}{s:Shared}{Q:VK}{us:List Value}{vs:List V}(F:FnOk X.prog X.w X.K X.mg X.base CX k f fd ps sp)(hr:Room k X.A)(hb:Binds X.K fd ps ds)(hd:Vals dvs ds)(hx:BB CX X E)
 (I:Inv X pins σ H s) (r:Vals vs us) (h:sp (vs++dvs) H Q E):wpAny (model X.prog X.w) X.A (call (.ref f) us) (EP X pins σ Q) X.xe s:=by
 have r2:Vals (vs++dvs) (us++ds):=r.append hd;have hl:(us++ds).length=ps.length:=by rw [<-r2.length];exact F.len _ _ _ _ h
 refine wpAny_call (codeAny_mono (F.run X.A X.stack s H ⟨us,[]⟩ (us++ds) (vs++dvs) Q E hr I.env0 (hb s us I.kIn hl) r2 h) λr s' hq=>?_);cases r with
 |error e=>exact hx pins σ H s e s' I hq
 |ok fl=>
  cases fl with
  |ret u=>exact I.after hq
  |next=>exact False.elim hq
  |brk=>exact False.elim hq
  |cont=>exact False.elim hq
theorem Iz(F:FnOk X.prog X.w X.K X.mg X.base CX k f fd ps sp)(hr:Room k X.A)(hg:Gl X x)(hm:X.mg x=some (.ref f))(hk:PySem.W.keepIn X.K (.ref f)=true)(hb:Binds X.K fd ps ds)(hd:Vals dvs ds)(hx:BB CX X E)
 (ha:PA X (e::es) t) (hdb:(x==("__debug__":Str))=false:=by decide) (he:starEach (e::es) X.env=(false,eval e X.env)::starEach es X.env:=by rfl) (hpl:(backTo pos (starEach es X.env)).any (·.1)=false:=by rfl):
 PE X (.Call (.Name x p) (e::es) [] pos) (eF sp dvs E t):=by
 intro pins s σ H Q I h;refine wpAny_Call_Name_kw (CG I hg hm ?_ hdb);refine PySem.W.callWith_K (h₀:=X.base) I.ok.mod.kin hk (dN (ha pos pins s σ H _ I h) λus s1 ⟨vs,H1,I1,r,q⟩=>⟨I1.kIn,?_⟩) he hpl;exact FF F hr hb hd hx I1 r q
end
section
variable {X:Cx} {CX:FE} {k:Nat} {f C:Addr} {fd:FuncData} {ps ks:List Str} {sp:Sp} {E:XK} {x m:Str} {p pos apos kpos:Pos} {e o:Expr} {es:List Expr} {kws:List Keyword} {te ta:TE} {t tk:TA} {nm:Option Str}
variable {g:List Value->List Value->List Value} {gV:List V->List V->List V}
end
structure FnScope (N P:List Str) (sc:Scope):Prop where
 kind:sc.kind=.function
 co:sc.isCoroutine=false
 gen:sc.isGenerator=false
 nd:N.Nodup
 pre:N.take P.length=P
 par:∀x∈P,sc.names.lookup x=some .local\/sc.names.lookup x=some .cell
 nofree:∀y∈sc.names,y.2≠ .free
theorem v0 {kindOf:Str->Option NameKind}{x:Str}:∀{binds:List (Str×Value)} {m:Str->Option Value},(∀v,(x,v) ∉ binds)->bindL kindOf binds m x=m x
 |[],_,_=>rfl
 |(n,v)::r,m,h=>by
  unfold bindL;rw [v0 λw hw=>h w (ke _ hw)];split
  · have:x≠n:=by rintro rfl;exact h v lN
    simp [this]
  · rfl
theorem v9 {kindOf:Str->Option NameKind}{x:Str}:∀{binds:List (Str×Value)} {m:Str->Option Value},(∀v,(x,v) ∉ binds)->bindC kindOf binds m x=m x
 |[],_,_=>rfl
 |(n,v)::r,m,h=>by
  unfold bindC;rw [v9 λw hw=>h w (ke _ hw)];split
  · rfl
  · have:x≠n:=by rintro rfl;exact h v lN
    simp [this]
theorem va {kindOf:Str->Option NameKind}{x:Str}{v:Value}:∀{P:List Str} {vs:List Value} {i:Nat} {m:Str->Option Value},P.Nodup->P[i]? =some x->vs[i]? =some v->kindOf x=some .local->
 bindL kindOf (P.zip vs) m x=some v
 |[],_,_,_,_,h,_,_=>by simp at h
 |_::_,[],_,_,_,_,h,_=>by simp at h
 |p::P,w::vs,0,m,nd,h1,h2,hk=>by
  simp at h1 h2;subst h1;subst h2;show bindL kindOf ((p,w)::P.zip vs) m p=_;unfold bindL;rw [v0 λv hv=>(List.nodup_cons.mp nd).1 (List.of_mem_zip hv).1,if_pos hk]
  simp
 |p::P,w::vs,i+1,m,nd,h1,h2,hk=>by
  show bindL kindOf ((p,w)::P.zip vs) m x=_;unfold bindL;exact va (i:=i) (List.nodup_cons.mp nd).2 (by simpa using h1) (by simpa using h2) hk
theorem vc {kindOf:Str->Option NameKind}{x:Str}{v:Value}:∀{P:List Str} {vs:List Value} {i:Nat} {m:Str->Option Value},P.Nodup->P[i]? =some x->vs[i]? =some v->kindOf x≠some .local->
 bindC kindOf (P.zip vs) m x=some v
 |[],_,_,_,_,h,_,_=>by simp at h
 |_::_,[],_,_,_,_,h,_=>by simp at h
 |p::P,w::vs,0,m,nd,h1,h2,hk=>by
  simp at h1 h2;subst h1;subst h2;show bindC kindOf ((p,w)::P.zip vs) m p=_;unfold bindC;rw [v9 λv hv=>(List.nodup_cons.mp nd).1 (List.of_mem_zip hv).1,if_neg hk]
  simp
 |p::P,w::vs,i+1,m,nd,h1,h2,hk=>by
  show bindC kindOf ((p,w)::P.zip vs) m x=_;unfold bindC;exact vc (i:=i) (List.nodup_cons.mp nd).2 (by simpa using h1) (by simpa using h2) hk
def eZ(N:List Str)(vs:List V):St:=vs.map some++List.replicate (N.length - vs.length) none
noncomputable def wq(CX:FE)(P:Program)(w:World)(K:Fg)(mg:Str->Option Value)(base:Heap)(N:List Str)(qual:Str)(scope:Scope)(f:Addr)(cd:Value)(A:Around)(outer:List Env)(s:Shared)(H:Hp)(E:XK):Cx where
 prog:=P
 w:=w
 K:=K
 mg:=mg
 base:=base
 A:=A.deeper (envOfC qual scope s.heap.objs.size f cd)
 N:=N
 s₀:=s
 H₀:=H
 env:=envOfC qual scope s.heap.objs.size f cd
 outer:=outer
 stack:=envOfC qual scope s.heap.objs.size f cd::outer
 ex:=[]
 calm:=true
 fn:=λ_=>true
 pn:=[]
 xe:=λe s'=>wpAny (model P w) (A.deeper (envOfC qual scope s.heap.objs.size f cd)) (leaving (envOfC qual scope s.heap.objs.size f cd) e) (λ_ s''=>CX outer H s E e s'') (λe' s''=>CX outer H s E e' s'') s'
theorem yQ {sc:Scope}{n:Nat}{x:Str}(h:sc.names.lookup x=some .cell):∃c,(cellsFrom n sc.names []).lookup x=some c:=by
 have q:=PySem.W.cellsFrom_some sc.names n [] (.inl h);exact Option.isSome_iff_exists.mp q
theorem DU {CX:FE}{P:Program}{w:World}{K:Fg}{mg:Str->Option Value}{base:Heap}{N ps:List Str}{qual:Str}{scope:Scope}{f:Addr}{cd:Value}{A:Around}{outer:List Env}{s s1:Shared}{H:Hp}{E:XK}{us:List Value}{vs:List V}
 (S:FnScope N ps scope) (hd:A.handled=none) (e0:Env0 P w K mg base A outer s H) (hl:vs.length=ps.length) (r:Vals vs us)
 (x:InCallC s s.heap.objs.size (bindL (envOfC qual scope s.heap.objs.size f cd).kindOf (ps.zip us) λ_=>none) (cellsFrom (s.heap.objs.size+1) scope.names []) (bindC (envOfC qual scope s.heap.objs.size f cd).kindOf (ps.zip us) λ_=>none) s1):
 Inv (wq CX P w K mg base N qual scope f cd A outer s H E) [] (eZ N vs) H s1:=by
 have hpl:ps.length<=N.length:=by have:=congrArg List.length S.pre;rw [At]at this;omega
 obtain⟨h1,tk,rfl,hk⟩:=x.done;have noA:∀b:Addr,b ∉ (wq CX P w K mg base N qual scope f cd A outer s H E).ex:=λb z=>absurd (show b∈([]:List Addr)from z) (by simp)
 refine⟨⟨e0.mod,S.kind,rfl,rfl,Q1 _,λy z c h1 h2=>?_,λy hy=>?_,λy c _ h=>?_,λ_=>hd,Around.frames_deeper e0.frames,.inr ⟨rfl,rfl⟩,λb z=>absurd z (noA b),e0.bs,e0.bsz,λb _ _=>noA b,λb z=>absurd z (noA b),e0.funs,e0.frf⟩,
  rfl,e0.bare,Un.kept hk,⟨_,x.toInCall.ns,λi y v h1 h2 h3=>?_⟩,λy c h=>⟨_,x.cell y c h⟩,e0.hok.fresh (Q1 _),λy c h=>?_,λp hp=>absurd (show p∈([]:List (Addr×Obj))from hp) (by simp),e0.hok.kept hk,?_⟩
 · exact name_of_addr x.apart (PySem.mem_of_lookup h1) (PySem.mem_of_lookup h2)
 · have hy:scope.names.lookup y=some .cell\/scope.names.lookup y=some .free:=hy
   rcases hy with hy|hy
   · exact yQ hy
   · exact absurd rfl (S.nofree _ (PySem.mem_of_lookup hy))
 · exact An (x.above y c (PySem.mem_of_lookup h))
 · have hi:i < vs.length:=by
    unfold eZ at h2
    by_cases hi:i < vs.length
    · exact hi
    · rw [Qe (by simpa using hi)]at h2
      rw [Ao]at h2;split at h2<;>cases h2
   have ha:vs[i]? =some v:=by
    unfold eZ at h2;rw [Qb (by simpa using hi),zK]at h2
    cases e:vs[i]? with
    |none=>rw [e]at h2;cases h2
    |some a=>rw [e]at h2;cases h2;rfl
   obtain⟨u,hu,rv⟩:=r.get ha;have hp:ps[i]? =some y:=by
    rw [<-S.pre,List.getElem?_take_of_lt (by omega)];exact h1
   have ndP:ps.Nodup:=by rw [<-S.pre];exact S.nd.sublist (List.take_sublist _ _)
   refine⟨u,rv,?_⟩
   rcases S.par y (Ik hp)with k|k
   · exact .inl ⟨k,va ndP hp hu k⟩
   · obtain⟨c,e⟩:=yQ (n:=s.heap.objs.size+1) k;refine .inr ⟨.inl k,c,e,?_⟩;have q:=x.cell y c e;rw [vc ndP hp hu (by show scope.names.lookup y≠_;rw [k];decide)]at q
     exact q
 · exact e0.hok.fresh (An (x.above y c (PySem.mem_of_lookup h)))
 · unfold eZ;show _=N.length;rw [zQ,zJ,Ij];omega
theorem Kf {CX:FE}{P:Program}{w:World}{K:Fg}{mg:Str->Option Value}{base:Heap}{k:Nat}{f:Addr}{name qual:Str}{params:Arguments}{body:List Stmt}{scope:Scope}{dV kV doc pm cdv ct oc:Value}{an od:Option Addr}
 {osl:Array (Option Value)} {N ps:List Str} {sp:Sp} (lk:K.lookup f=some ⟨oc,od,.func (PySem.W.fnOf name qual params body scope dV kV doc pm an cdv ct),osl⟩) (hcd:PySem.W.codeIn K cdv qual=true) (S:FnScope N ps scope)
 (len:∀vs H Q E,sp vs H Q E->vs.length=ps.length)
 (hbody : ∀ (A : Around) (outer : List Env) (s : Shared) (H : Hp) (vs : List V) (Q : VK) (E : XK), Room k (A.deeper (envOfC qual scope s.heap.objs.size f cdv)) -> sp vs H Q E ->
  ∃t,PSs (wq CX P w K mg base N qual scope f cdv A outer s H E) body t/\t {nx:=λ_ H'=>Q .non H',rt:=Q} (eZ N vs) H):
 FnOk P w K mg base CX (k+1) f (PySem.W.fnOf name qual params body scope dV kV doc pm an cdv ct) ps sp:=by
 refine⟨len,λA outer s H args us vs Q E hr e0 hb r hsp=>?_⟩;have hl:=len _ _ _ _ hsp;have KX:K.In s.heap:=e0.mod.kin.keeps λb o e=>(e0.bs b o e).1;have lim:s.heap.NoLimit:=e0.mod.nolimit.keeps λb o e=>(e0.bs b o e).1;have hkind:∀y∈ps.zip us,scope.names.lookup y.1=some .local\/(scope.names.lookup y.1=some .cell/\((cellsFrom (s.heap.objs.size+1) scope.names []).lookup y.1).isSome=true):=λ⟨n,v⟩ hy=>by
  rcases S.par n (List.of_mem_zip hy).1 with q|q
  · exact .inl q
  · exact .inr ⟨q,PySem.W.cellsFrom_some _ _ _ (.inl q)⟩
 refine codeAny_call_function hr.depth (KX _ _ lk) rfl S.co S.gen rfl (PySem.W.codeRec_of KX hcd) (hb _ _ _ _ ?_);refine wpAny_newFunctionEnv_cells S.kind hkind λenv he s1 x=>?_;subst he;refine⟨lim.keeps x.toInCall.keep,codeAny_func ?_⟩;obtain⟨t,ht,hq⟩:=hbody A outer s H vs Q E (hr.deeper _) hsp;have I:Inv (wq CX P w K mg base N qual scope f cdv A outer s H E) [] (eZ N vs) H s1:=DU S hr.hd e0 hl r x;refine wpAny_mono (ht [] s1 (eZ N vs) H _ I hq) (λfl s' hs=>?_) λe s' hs=>hs;have fin:∀{σ':St} {H':Hp} {v:V} {u:Value},Inv (wq CX P w K mg base N qual scope f cdv A outer s H E) [] σ' H' s'->RelV v u->Q v H'->CE outer P w H s Q u s':=
  λ{σ' H' v u} J rv q=>⟨v,H',J.os,J.bare,J.base,J.hok,rv,q⟩
 cases fl with
 |ret u=>
  obtain⟨v,σ',H',J,rv,q⟩:=hs;exact fin J rv q
 |next=>
  obtain⟨σ',H',J,q⟩:=hs;exact fin (v:=V.non) (u:=Value.none) J rfl q
 |brk=>
  obtain⟨_,_,_,q⟩:=hs;exact False.elim q
 |cont=>
  obtain⟨_,_,_,q⟩:=hs;exact False.elim q
section
variable {X:Cx} {x:Str} {p pos:Pos} {e:Expr} {es:List Expr} {t:TA} {id T:String} {r:List V->Hp->VK->Prop}
def FG(r:List V->Hp->VK->Prop)(t:TA):TE:=λσ H Q=>t σ H λvs H1=>r vs H1 Q
theorem bT(hc:hV X (.builtin id) r)(hg:Gl X x)(hm:X.mg x=none)(hv:bootBuiltins x=some (.builtin id))(ha:PA X (e::es) t)(hn:x≠ "__name__":=by decide)(hdb:(x==("__debug__":Str))=false:=by decide)
 (he:starEach (e::es) X.env=(false,eval e X.env)::starEach es X.env:=by rfl) (hpl:(backTo pos (starEach es X.env)).any (·.1)=false:=by rfl):PE X (.Call (.Name x p) (e::es) [] pos) (FG r t):=by
 intro pins s σ H Q I h;refine wpAny_Call_Name_kw (lQ I hg hm hv ?_ hn hdb);exact PyProof.Rows.callWith_builtin1 (dN (ha pos pins s σ H _ I h) λus s1 q_=>by obtain⟨vs,H1,I1,r1,q1⟩:=q_;exact hc pins s1 σ H1 vs us Q I1 r1 q1) he hpl
theorem iO(hc:hV X (.type T) r)(hg:Gl X x)(hm:X.mg x=none)(hv:bootBuiltins x=some (.type T))(ha:PA X (e::es) t)(hn:x≠ "__name__":=by decide)(hdb:(x==("__debug__":Str))=false:=by decide)
 (he:starEach (e::es) X.env=(false,eval e X.env)::starEach es X.env:=by rfl) (hpl:(backTo pos (starEach es X.env)).any (·.1)=false:=by rfl):PE X (.Call (.Name x p) (e::es) [] pos) (FG r t):=by
 intro pins s σ H Q I h;refine wpAny_Call_Name_kw (lQ I hg hm hv ?_ hn hdb);exact PyProof.Rows.callWith_type1 (dN (ha pos pins s σ H _ I h) λus s1 q_=>by obtain⟨vs,H1,I1,r1,q1⟩:=q_;exact hc pins s1 σ H1 vs us Q I1 r1 q1) he hpl
end
end L2
namespace HT
open PySem PyProof.Rows
section
open PySem.SeqAt
open PySem.AutoSeq1 (wpAny_loadPart')
open PySem.MeetsSeq PySem.MeetsSeq2 PySem.MeetsSeq3
end
section
variable {prog:Program} {w:World} {A:Around} {E:Value->Shared->Prop} {s:Shared}
theorem JA {t b:Addr}{vs ws:List Value}{Q:Value->Shared->Prop}(ht:IsTup s.heap t vs.toArray)(hb:IsTup s.heap b ws.toArray)(hv:vs≠[])
 (h1:ws=[]->Q (.ref t) s) (h2:ws≠[]->Q (.ref s.heap.objs.size) {s with heap:=s.heap.push {cls:=.type "tuple",data:=.seq (vs++ws).toArray}})
 (hsz:vs.length+ws.length<=sizeLine):wpAny (model prog w) A (binaryOp .Add (.ref t) (.ref b)) Q E s:=by
 obtain⟨⟨cls,dd,data,sl⟩,ho,hc,n,hd⟩:=id ht;obtain⟨⟨cls2,dd2,data2,sl2⟩,ho2,hc2,n2,hd2⟩:=id hb;simp only at hc hd hc2 hd2;subst hc hd hc2 hd2;have e:vs.toArray++ws.toArray=(vs++ws).toArray:=by simp
 by_cases hw:ws=[]
 · exact concat_meets ⟨_,ho,rfl⟩ ⟨_,ho2,rfl⟩ noFill_tuple_add seq_tuple_add PySem.F.slot_tuple_add PySem.F.entry_tuple_add (PySem.F.args_tuple_add_2 _ _)
    (tuple_addW1 t b vs.toArray ws.toArray n n2 dd dd2 sl sl2 (by simpa using hv) (by simp [hw])) ⟨ho,ho2,h1 hw⟩
 · refine concat_meets ⟨_,ho,rfl⟩ ⟨_,ho2,rfl⟩ noFill_tuple_add seq_tuple_add PySem.F.slot_tuple_add PySem.F.entry_tuple_add (PySem.F.args_tuple_add_2 _ _)
    (tuple_addW2 t b vs.toArray ws.toArray n n2 dd dd2 sl sl2 (by simpa using hv) (by simpa using hw) (by rw [zM,zM];exact hsz)) ⟨ho,ho2,?_⟩
   rw [e];exact h2 hw
noncomputable def ff(n d:Nat):Option Int->Nat
 |none=>d
 |some v=>if v < 0 then(v+(n:Int)).toNat else min v.toNat n
theorem sW(n d:Nat):ff n d none=d:=rfl
theorem CI(n d k:Nat):ff n d (some (k:Int))=min k n:=by
 show(if(k:Int) < 0 then((k:Int)+(n:Int)).toNat else min (k:Int).toNat n)=min k n;rw [if_neg (by omega),yG]
theorem LX(n d:Nat)(hd:d<=n)(o:Option Int):ff n d o<=n:=by
 cases o with
 |none=>exact hd
 |some v=>
  show(if v < 0 then(v+(n:Int)).toNat else min v.toNat n)<=n
  by_cases hv:v < 0
  · rw [if_pos hv];omega
  · rw [if_neg hv];exact Nat.min_le_right _ _
theorem CJ(v:Int)(n d:Nat):(if v < 0 then max (v+(n:Int)) 0 else min v (n:Int))=((ff n d (some v):Nat):Int):=by
 show(if v < 0 then max (v+(n:Int)) 0 else min v (n:Int))=(((if v < 0 then(v+(n:Int)).toNat else min v.toNat n):Nat):Int)
 by_cases hv:v < 0
 · simp only [if_pos hv];omega
 · simp only [if_neg hv];omega
theorem BC(lo hi:Option Int)(n:Nat):Builtin.Slice.sliceAdjust lo hi 1 (n:Int)=(((ff n 0 lo:Nat):Int),((ff n n hi:Nat):Int)):=by
 have h1:¬((1:Int) < 0):=by omega
 unfold Builtin.Slice.sliceAdjust;simp only [h1,if_false];refine Prod.ext ?_ ?_
 · cases lo with
   |none=>rfl
   |some v=>exact CJ v n 0
 · cases hi with
   |none=>rfl
   |some v=>exact CJ v n n
theorem BD(i j:Nat):Builtin.Slice.slicePlaces (i:Int) (j:Int) 1=j - i:=by
 unfold Builtin.Slice.slicePlaces;have h1:(1:Int) > 0:=by omega
 simp only [h1,if_true,Int.ediv_one];split<;>omega
theorem sX {v:Value}{o:Option Int}{Q:Option Int->Shared->Prop}(p:IsPart v o)(h:Q o s):wpAny (model prog w) A (Builtin.Slice.slicePartIndex v) Q E s:=by
 cases p with
 |none=>exact slicePart_none h
 |int i t=>exact slicePart_int h
theorem kh {sl:Addr}{vl vu:Value}{lo hi:Option Int}{n:Nat}{Q:Int×Int×Nat->Shared->Prop}(hs:s.heap.IsSliceOf sl vl vu .none)(pl:IsPart vl lo)(pu:IsPart vu hi)
 (h:Q (((ff n 0 lo:Nat):Int),1,ff n n hi - ff n 0 lo) s):wpAny (model prog w) A (Builtin.Slice.sliceApplied (.ref sl) (pure (n:Int))) Q E s:=by
 obtain⟨os,hos,hcs,hds⟩:=id hs;unfold Builtin.Slice.sliceApplied Builtin.Slice.sliceFields;refine wB (wB (wpAny_field hos hds (x:=vl) rfl (wB (wpAny_field hos hds (x:=vu) rfl (wB (wpAny_field hos hds (x:=.none) rfl (wP ?_)))))));refine wB (slicePart_none ?_);show wpAny _ _ (if((1:Int)==0)=true then _ else _) _ _ s;rw [if_neg (by decide)]
 refine wB (sX pl (wB (sX pu (wB (wP ?_)))));show wpAny _ _ (match Builtin.Slice.sliceAdjust lo hi 1 (n:Int)with|(lo,hi)=>pure (lo,(1:Int),Builtin.Slice.slicePlaces lo hi 1)) _ _ s
 rw [BC lo hi n];show wpAny _ _ (pure (((ff n 0 lo:Nat):Int),(1:Int),Builtin.Slice.slicePlaces ((ff n 0 lo:Nat):Int) ((ff n n hi:Nat):Int) 1)) _ _ s;rw [BD];exact wP h
theorem FH(xs:Array Value)(i k:Nat):((List.range k).filterMap λ(m:Nat)=>xs[((i:Int)+(m:Int)*1).toNat]?).toArray=((xs.toList.drop i).take k).toArray:=by
 have e:(λ(m:Nat)=>xs[((i:Int)+(m:Int)*1).toNat]?)=λm=>xs[i+m]? :=by
  funext m
  have:((i:Int)+(m:Int)*1).toNat=i+m:=by omega
  rw [this]
 rw [e];have:=pick_run xs i k;rw [List.filterMap_map]at this;have e2:((λx=>xs[x]?)∘ λx=>i+x)=λm=>xs[i+m]? :=rfl;rw [e2]at this;rw [this]
theorem ox {t sl:Addr}{items:Array Value}{vl vu:Value}{lo hi:Option Int}{Q:Value->Shared->Prop}(ht:IsTup s.heap t items)(hs:s.heap.IsSliceOf sl vl vu .none)(pl:IsPart vl lo)(pu:IsPart vu hi)
 (hw:¬(ff items.size 0 lo=0/\ff items.size items.size hi=items.size))
 (h:Q (.ref s.heap.objs.size) {s with heap:=s.heap.push {cls:=.type "tuple",data:=.seq ((items.toList.drop (ff items.size 0 lo)).take (ff items.size items.size hi - ff items.size 0 lo)).toArray}})
 (hsz:items.size<=sizeLine):wpAny (model prog w) A (getItem (.ref t) (.ref sl)) Q E s:=by
 have htake:sizeOk (.seq ((items.toList.drop (ff items.size 0 lo)).take (ff items.size items.size hi - ff items.size 0 lo)).toArray):=by
  show((items.toList.drop (ff items.size 0 lo)).take (ff items.size items.size hi - ff items.size 0 lo)).toArray.size<=sizeLine;rw [zM,At,List.length_drop,wg];omega
 have hj:ff items.size items.size hi<=items.size:=LX _ _ (Q1 _) hi;obtain⟨os,hos,hcs,hds⟩:=id hs;have hTs:s.TypeIs (.ref sl) "slice":=⟨os,hos,hcs⟩;unfold getItem
 try with_reducible refine wpAny_holding ?_
 first|refine wB (wP ?_)|skip
 refine wB (wpAny_sequenceKey ht.typeIs (by decide) ?_)
 refine wB (wpAny_callSpecial?_slot (name:=Str.ofString "__getitem__") ht.typeIs PyProof.Rows.slot_tuple_getitem
  (wpAny_call_entry PyProof.Rows.slot_tuple_getitem ht.typeIs entry_tuple_getitem ?_ (args_tuple_getitem _ _)))
 show wpAny _ _ (Builtin.Tuple.tupleItemsOf (.ref t) >>=_) _ _ s;refine wB (tupleItemsOf_ ht ?_);refine wB (wpAny_typeOf hTs ?_);rw [if_pos (by decide)]
 refine wB (kh hs pl pu ?_);have hno:¬((((ff items.size 0 lo:Nat):Int)==0&&(1:Int)==1&&(ff items.size items.size hi - ff items.size 0 lo)==items.size)=true):=by
  intro q;rw [Q5,Q5]at q;have q1:((ff items.size 0 lo:Nat):Int)=0:=eq_of_beq q.1.1;have q2:ff items.size items.size hi - ff items.size 0 lo=items.size:=eq_of_beq q.2;exact hw ⟨by omega,by omega⟩
 show wpAny _ _ (if(((ff items.size 0 lo:Nat):Int)==0&&(1:Int)==1&&(ff items.size items.size hi - ff items.size 0 lo)==items.size)=true then _ else _) _ _ s;rw [if_neg hno,FH]
 first
  |exact wB (m:=Builtin.Tuple.tupleExact _) (wpAny_newObj_type (wP ⟨_,rfl,wP h⟩) htake)
  |exact wB (m:=Builtin.Tuple.tupleExact _) (wpAny_newObj_type (wB (wP (wP ⟨_,rfl,wP h⟩))) htake)
  |exact wB (wB (m:=Builtin.Tuple.tupleExact _) (wpAny_newObj_type (wP (wP ⟨_,rfl,wP h⟩)) htake))
  |exact wB (wB (m:=Builtin.Tuple.tupleExact _) (wpAny_newObj_type (wP ⟨_,rfl,wP h⟩) htake))
end
end HT
namespace L2
open PySem PySem.Spec PyProof.Rows
noncomputable abbrev TO:=St->Hp->(Option Int->Hp->Prop)->Prop
def PO(X:Cx)(e:Option Expr)(t:TO):Prop:=
 ∀(pins:List (Addr×Obj)) (s:Shared) (σ:St) (H:Hp) (Q:Option Int->Hp->Prop),Inv X pins σ H s->t σ H Q->
  wpAny (model X.prog X.w) X.A (evalPart e X.env) (λu s'=>∃o H',Inv X pins σ H' s'/\IsPart u o/\Q o H') X.xe s
noncomputable def CK:TO:=λ_ H Q=>Q none H
noncomputable def Kg(t:TE):TO:=λσ H Q=>t σ H λx H1=>∃i,x=.int i/\Q (some i) H1
section
variable {X:Cx} {e:Expr} {te:TE} {lo hi:Option Expr} {tl th:TO} {pos p2:Pos}
theorem wr:PO X none CK:=by
 intro pins s σ H Q I h;rw [evalPart_none];exact wP ⟨none,H,I,.none,h⟩
theorem wt(h:PE X e te):PO X (some e) (Kg te):=by
 intro pins s σ H Q I hw;rw [evalPart_some];refine dN (h pins s σ H _ I hw) λu s1 q_=>?_;obtain⟨x,H1,I1,r1,q1⟩:=q_;obtain⟨i,rfl,q⟩:=q1;obtain⟨t,rfl⟩:=r1;exact⟨some i,H1,I1,.int i t,q⟩
def SlR(X:Cx)(r:V->Option Int->Option Int->Hp->VK->Prop):Prop:=
 ∀(pins:List (Addr×Obj)) (s:Shared) (σ:St) (H:Hp) (x:V) (v vl vu:Value) (lo hi:Option Int) (sl:Addr) (Q:VK),Inv X pins σ H s->RelV x v->s.heap.IsSliceOf sl vl vu .none->IsPart vl lo->IsPart vu hi->r x lo hi H Q->
  ∃T id,typeLookup (.type T) "__getitem__"=pure (some (.builtin id))/\s.TypeIs v T/\wpAny (model X.prog X.w) X.A (getItem v (.ref sl)) (EP X pins σ Q) X.xe s
theorem SlR.or {r r':V->Option Int->Option Int->Hp->VK->Prop}(h:SlR X r)(h':SlR X r'):SlR X (λx lo hi H Q=>r x lo hi H Q\/r' x lo hi H Q):=by
 intro pins s σ H x v vl vu lo hi sl Q I rx hs pl pu q
 rcases q with q|q
 · exact h pins s σ H x v vl vu lo hi sl Q I rx hs pl pu q
 · exact h' pins s σ H x v vl vu lo hi sl Q I rx hs pl pu q
def OH(r:V->Option Int->Option Int->Hp->VK->Prop)(te:TE)(tl th:TO):TE:=λσ H Q=>te σ H λx H1=>tl σ H1 λl H2=>th σ H2 λu H3=>r x l u H3 Q
theorem sY {r:V->Option Int->Option Int->Hp->VK->Prop}(hr:SlR X r)(he:PE X e te)(hl:PO X lo tl)(hu:PO X hi th):PE X (.Subscript e (.Slice lo hi none p2) pos) (OH r te tl th):=by
 intro pins s σ H Q I h;refine Subscript_ (dN (he pins s σ H _ I h) λv s1 q_=>?_);obtain⟨x,H1,I1,r1,q1⟩:=q_;refine wpAny_Slice (dN (hl pins s1 σ H1 _ I1 q1) λvl s2 ⟨l,H2,I2,pl,q2⟩=>dN (hu pins s2 σ H2 _ I2 q2) λvu s3 q_=>?_);obtain⟨u,H3,I3,pu,q3⟩:=q_;rw [evalPart_none];refine wP ?_;have I4:Inv X pins σ H3 {s3 with heap:=s3.heap.push {cls:=.type "slice",data:=.fields #[vl,vu,.none]}}:=I3.kept (t':=s3.toks) λb ob q=>gH _ q
 obtain⟨T,id,hT,ht,hg⟩:=hr pins {s3 with heap:=s3.heap.push {cls:=.type "slice",data:=.fields #[vl,vu,.none]}} σ H3 x v vl vu l u s3.heap.objs.size Q I4 r1 (Heap.IsSliceOf.new ..) pl pu q3
 show wpAny (model X.prog X.w) X.A (subscriptTail e (.Slice lo hi none p2) v (.ref s3.heap.objs.size)) (EP X pins σ Q) X.xe {s3 with heap:=s3.heap.push {cls:=.type "slice",data:=.fields #[vl,vu,.none]}}
 exact tail_any (ops:=[.ref s3.heap.objs.size,v]) ht hT hg (by with_unfolding_all rfl)
noncomputable def yR(xs:List V)(lo hi:Option Int):List V:=(xs.drop (HT.ff xs.length 0 lo)).take (HT.ff xs.length xs.length hi - HT.ff xs.length 0 lo)
theorem rC(xs:List V)(lo hi:Option Int):(yR xs lo hi).length<=xs.length:=by
 unfold yR;rw [At,List.length_drop];omega
def Mh(K:Fg):V->Option Int->Option Int->Hp->VK->Prop:=λx lo hi H Q=>∃a xs,x=.ref a/\SqT K H a xs/\
 ¬(HT.ff xs.length 0 lo=0/\HT.ff xs.length xs.length hi=xs.length)/\∀p,H p=none->Q (.ref p) (bv H p (.tup (yR xs lo hi)))
theorem LY:SlR X (Mh X.K):=by
 intro pins s σ H x v vl vu lo hi sl Q I rx hs pl pu h;obtain⟨a,xs,rfl,hx,hw,q⟩:=h;cases rx;obtain⟨its,r,ht,hz⟩:=I.tuple hx;have hlen:its.toArray.size=xs.length:=by rw [zM];exact r.length.symm
 refine⟨"tuple",_,PyProof.Rows.slot_tuple_getitem.lookup,ht.typeIs,?_⟩;refine HT.ox ht hs pl pu (by rw [hlen];exact hw) ?_ (by rw [hlen];exact hz)
 rw [hlen];refine⟨.ref s.heap.objs.size,_,I.laid (t':=s.toks) (o:=.tup (yR xs lo hi)) (λb ob q=>gH _ q) (Q1 _) ?_,rfl,q _ (I.hok.fresh (Q1 _))⟩;exact⟨Q7 (rC xs lo hi) hz,_,(r.drop (HT.ff xs.length 0 lo)).take (HT.ff xs.length xs.length hi - HT.ff xs.length 0 lo),IsTup.new _ _,_,jS _ rfl,rfl⟩
def Mi(K:Fg):R2:=λx y H Q=>∃a b xs ys,x=.ref a/\y=.ref b/\SqT K H a xs/\SqT K H b ys/\xs≠[]/\xs.length+ys.length<=sizeLine/\
 (ys=[]->Q (.ref a) H)/\(ys≠[]->∀p,H p=none->Q (.ref p) (bv H p (.tup (xs++ys))))
theorem Vals.nil_iff {xs:List V}{us:List Value}(r:Vals xs us):us=[]↔xs=[]:=by
 cases r with
 |nil=>simp
 |cons _ _=>simp
theorem JB:OpR X (binaryOp .Add) (Mi X.K):=by
 intro pins s σ H x y v u Q I rx ry h;obtain⟨a,b,xs,ys,rfl,rfl,ha,hb,hx,hz,q1,q2⟩:=h;cases rx;cases ry;obtain⟨its,r1,p1,_⟩:=I.tuple ha;obtain⟨its2,r2,p2,_⟩:=I.tuple hb;refine HT.JA p1 p2 (λz=>hx (r1.nil_iff.mp z)) (λz=>⟨.ref a,H,I,rfl,q1 (r2.nil_iff.mp z)⟩) (λz=>?_) (by rw [<-r1.length, <-r2.length];exact hz)
 refine⟨.ref s.heap.objs.size,_,I.laid (t':=s.toks) (o:=.tup (xs++ys)) (λb ob q=>gH _ q) (Q1 _) ?_,rfl,q2 (λw=>z (r2.nil_iff.mpr w)) _ (I.hok.fresh (Q1 _))⟩;exact⟨by rw [zQ];exact hz,_,r1.append r2,IsTup.new _ _,_,jS _ rfl,rfl⟩
end
noncomputable def JC(n:Nat)(i:Int):Option Nat:=if 0<=i then(if i < n then some i.toNat else none)else if -(n:Int)<=i then some (i+n).toNat else none
noncomputable def rD {α:Type}(xs:List α)(i:Int):Option α:=(JC xs.length i).bind λj=>xs[j]?
theorem JD {n:Nat}{i:Int}{j:Nat}(h:JC n i=some j):seqIndex? i n=some j/\j < n/\ -(n:Int)<=i/\i < n:=by
 unfold JC at h
 by_cases h0:0<=i
 · rw [if_pos h0]at h
   by_cases h1:i < n
   · rw [if_pos h1]at h;have e:i.toNat=j:=zV h;exact⟨by rw [seqIndex_of h0 h1,e],by omega,by omega,h1⟩
   · rw [if_neg h1]at h;cases h
 · rw [if_neg h0]at h
   by_cases h1: -(n:Int)<=i
   · rw [if_pos h1]at h;have e:(i+n).toNat=j:=zV h;exact⟨by rw [seqIndex_neg (by omega) h1,e],by omega,h1,by omega⟩
   · rw [if_neg h1]at h;cases h
theorem wu {α:Type}{xs:List α}{i:Int}{v:α}(h:rD xs i=some v):∃j,seqIndex? i xs.length=some j/\xs[j]? =some v/\j < xs.length/\ -(xs.length:Int)<=i/\i < xs.length:=by
 unfold rD at h;cases e:JC xs.length i with
 |none=>rw [e]at h;cases h
 |some j=>
  rw [e]at h;obtain⟨h1,h2,h3,h4⟩:=JD e;exact⟨j,h1,h,h2,h3,h4⟩
theorem wv {α:Type}{xs:List α}{j:Nat}{v:α}(h:xs[j]? =some v):rD xs (j:Int)=some v:=by
 have hj:j < xs.length:=(Ec.mp h).1;have e:JC xs.length (j:Int)=some j:=by
  unfold JC;rw [if_pos (by omega),if_pos (by omega)];simp
 unfold rD;rw [e];exact h
theorem FI {α:Type}(xs:List α)(v:α):rD (xs++[v]) (-1)=some v:=by
 have hl:(xs++[v]).length=xs.length+1:=by simp
 have e:JC (xs++[v]).length (-1)=some xs.length:=by
  unfold JC;rw [hl,if_neg (by decide),if_pos (by omega)]
  congr 1
  omega
 unfold rD;rw [e];show(xs++[v])[xs.length]? =some v
 simp
def JE(b:Expr):Prop:=∀o i,subscripted b false o i=operate [o,i] (getItem o i)
def IxR(X:Cx)(r:R2):Prop:=
 ∀(value slice:Expr) (pins:List (Addr×Obj)) (s:Shared) (σ:St) (H:Hp) (x y:V) (v u:Value) (Q:VK),Inv X pins σ H s->RelV x v->RelV y u->r x y H Q->
  subscripted slice false v u=operate [v,u] (getItem v u)->wpAny (model X.prog X.w) X.A (subscriptTail value slice v u) (EP X pins σ Q) X.xe s
def N3(X:Cx)(id:String)(r:V->List V->Hp->VK->Prop):Prop:=
 ∀(pins:List (Addr×Obj)) (s:Shared) (σ:St) (H:Hp) (x:V) (xs:List V) (v:Value) (us:List Value) (Q:VK),Inv X pins σ H s->RelV x v->Vals xs us->r x xs H Q->
  wpAny (model X.prog X.w) X.A (call (.builtin id) (v::us)) (EP X pins σ Q) X.xe s
section
variable {X:Cx} {a b:Expr} {ta tb:TE} {pos:Pos}
theorem IxR.or {r r':R2}(h:IxR X r)(h':IxR X r'):IxR X (λx y H Q=>r x y H Q\/r' x y H Q):=by
 intro value slice pins s σ H x y v u Q I rx ry q hs
 rcases q with q|q
 · exact h value slice pins s σ H x y v u Q I rx ry q hs
 · exact h' value slice pins s σ H x y v u Q I rx ry q hs
theorem dA {r:R2}(hr:IxR X r)(ha:PE X a ta)(hb:PE X b tb)(hs:JE b):PE X (.Subscript a b pos) (Ke r ta tb):=by
 intro pins s σ H Q I h;exact Subscript_ (LQ ha hb I h λv u s2 x y H2 I2 rx ry q=>hr a b pins s2 σ H2 x y v u Q I2 rx ry q (hs _ _))
def Mj(K:Fg):R2:=λx y H Q=>∃p xs i v,x=.ref p/\y=.int i/\SqL K H p xs/\rD xs i=some v/\Q v H
def Mk(K:Fg):R2:=λx y H Q=>∃p xs i v,x=.ref p/\y=.int i/\SqT K H p xs/\rD xs i=some v/\Q v H
def Ml:R2:=λx y H Q=>∃z i c,x=.str z/\y=.int i/\z.length<=sizeLine/\rD z.cps.toList i=some c/\Q (.str ⟨#[c]⟩) H
theorem JF:IxR X (Mj X.K):=by
 intro value slice pins s σ H x y v u Q I rx ry h hs;obtain⟨p,xs,i,z,rfl,rfl,hq,he,q⟩:=h;cases rx;obtain⟨t,rfl⟩:=ry;obtain⟨its,r,pl,hz⟩:=I.list hq;obtain⟨j,h1,h2,h3,h4,h5⟩:=wu he;obtain⟨w,ew,rw'⟩:=r.get h2;have hl:=r.length;have hn:=sV;have fin:EP X pins σ Q w s:=⟨z,H,I,rw',q⟩
 by_cases h0:0<=i
 · have hj:i.toNat=j:=by
    rw [seqIndex_of h0 h5]at h1;exact zV h1
   exact item_listR pl.isList h0 (by omega) (by rw [hj];simpa using ew) fin hs
 · have hj:(i+(its.toArray.size:Int)).toNat=j:=by
    rw [seqIndex_neg (by omega) h4]at h1
    rw [zM, <-hl];exact zV h1
   exact subscriptTail_builtinR (x:=w) pl.isList.typeIs slot_list_getitem.lookup
    (wpAny_getItem_list_neg (Q:=λr s'=>r=w/\EP X pins σ Q r s') pl.isList (by omega) (by rw [zM]<;>omega) (by omega) (by rw [hj];simpa using ew) ⟨rfl,fin⟩) hs
theorem LZ:IxR X (Mk X.K):=by
 intro value slice pins s σ H x y v u Q I rx ry h hs;obtain⟨p,xs,i,z,rfl,rfl,hq,he,q⟩:=h;cases rx;obtain⟨t,rfl⟩:=ry;obtain⟨its,r,pl,hz⟩:=I.tuple hq;obtain⟨j,h1,h2,h3,h4,h5⟩:=wu he;obtain⟨w,ew,rw'⟩:=r.get h2;have hl:=r.length;have hn:=sV;have fin:EP X pins σ Q w s:=⟨z,H,I,rw',q⟩;exact subscriptTail_builtinR (x:=w) pl.typeIs slot_tuple_getitem.lookup
  (getItem_tuple (j:=j) (Q:=λr s'=>r=w/\EP X pins σ Q r s') pl (by omega) (by omega) (by rw [zM, <-hl];exact h1) (by simpa using ew) ⟨rfl,fin⟩) hs
theorem L0:IxR X Ml:=by
 intro value slice pins s σ H x y v u Q I rx ry h hs;obtain⟨z,i,c,rfl,rfl,hz,he,q⟩:=h;obtain⟨t,rfl⟩:=rx;obtain⟨t',rfl⟩:=ry;obtain⟨j,h1,h2,h3,h4,h5⟩:=wu he;have hl:z.cps.toList.length=z.length:=by simp [Str.length]
 rw [hl]at h1 h4 h5;have hn:=sV;exact tail_any (typeIs_str s z t) slot_str_getitem.lookup (getItem_str (c:=c) (by
  have e1:decide (i < -(2 ^ 63:Int))=false:=decide_eq_false (by omega)
  have e2:decide (i>=2 ^ 63)=false:=decide_eq_false (by omega)
  rw [e1,e2,Bool.or_false]) (by rw [h1];simpa using h2) ⟨.str ⟨#[c]⟩,H,I.tok _,⟨_,rfl⟩,q⟩) hs
def Nl(K:Fg):R2:=λx y H Q=>Mj K x y H Q\/Mk K x y H Q\/Ml x y H Q
theorem L1:IxR X (Nl X.K):=JF.or (LZ.or L0)
theorem ww(lo hi:Option Int)(n:Nat):(sliceBounds lo hi none n).1=((HT.ff n 0 lo:Nat):Int)/\(sliceBounds lo hi none n).2.1=((HT.ff n n hi:Nat):Int)/\(sliceBounds lo hi none n).2.2=1:=by
 refine⟨?_,?_,rfl⟩
 · cases lo with
   |none=>simp [sliceBounds,HT.ff]
   |some i=>
    simp only [sliceBounds,HT.ff,Option.getD_none,show(1:Int) > 0 by decide,if_true]
    by_cases h:i < 0
    · simp only [h,if_true]<;>omega
    · simp only [h,if_false]<;>omega
 · cases hi with
   |none=>simp [sliceBounds,HT.ff]
   |some i=>
    simp only [sliceBounds,HT.ff,Option.getD_none,show(1:Int) > 0 by decide,if_true]
    by_cases h:i < 0
    · simp only [h,if_true]<;>omega
    · simp only [h,if_false]<;>omega
theorem uy(its:List Value)(lo hi:Option Int):slicePick its.toArray lo hi none=((its.drop (HT.ff its.length 0 lo)).take (HT.ff its.length its.length hi - HT.ff its.length 0 lo)).toArray:=by
 obtain⟨h1,h2,h3⟩:=ww lo hi its.toArray.size;unfold slicePick;rw [h1,h2,h3];simp only [sliceRange_one,pick_run,zM]<;>rfl
def Mm(K:Fg):V->Option Int->Option Int->Hp->VK->Prop:=λx lo hi H Q=>∃a xs,x=.ref a/\SqL K H a xs/\∀p,H p=none->Q (.ref p) (bv H p (.lst (yR xs lo hi)))
theorem JG:SlR X (Mm X.K):=by
 intro pins s σ H x v vl vu lo hi sl Q I rx hs pl pu h;obtain⟨a,xs,rfl,hx,q⟩:=h;cases rx;obtain⟨its,r,ht,hz⟩:=I.list hx;have hlen:=r.length;refine⟨"list",_,slot_list_getitem.lookup,ht.isList.typeIs,?_⟩;refine wpAny_getItem_list_slice ht.isList hs pl pu .none (by simp) ?_ (by rw [zM]<;>omega)
 rw [uy, <-hlen];refine⟨.ref s.heap.objs.size,_,I.laid (t':=s.toks) (o:=.lst (yR xs lo hi)) (λb ob q=>gH _ q) (Q1 _) ?_,rfl,q _ (I.hok.fresh (Q1 _))⟩;exact⟨Q7 (rC xs lo hi) hz,_,0,(r.drop (HT.ff xs.length 0 lo)).take (HT.ff xs.length xs.length hi - HT.ff xs.length 0 lo),jS _ rfl⟩
noncomputable def nk:V->Bool
 | .non=>true
 | .bl _=>true
 | .int _=>true
 | .str _=>true
 |_=>false
noncomputable def DV:V->V->Bool
 | .non,.non=>true
 | .bl a,.bl b=>a==b
 | .bl a,.int b=>(if a then 1 else 0)==b
 | .int a,.bl b=>a==(if b then 1 else 0)
 | .int a,.int b=>a==b
 | .str a,.str b=>a==b
 |_,_=>false
theorem L3 {A:Around}{s:Shared}{y x:V}{u v:Value}(ry:RelV y u)(rx:RelV x v)(fy:nk y=true)(fx:nk x=true):SeqAt.EqAt A s u v (DV y x):=by
 cases y with
 |non=>
  cases ry;cases x with
  |non=>cases rx;exact SeqAt.EqAt.same _
  |bl b=>cases rx;exact SeqAt.EqAt.none_bool b
  |int b=>obtain⟨t,rfl⟩:=rx;exact SeqAt.EqAt.none_int b t
  |str b=>obtain⟨t,rfl⟩:=rx;exact SeqAt.EqAt.none_str b t
  |_=>exact absurd (show false=true from fx) Q8
 |bl a=>
  cases ry;cases x with
  |non=>cases rx;exact SeqAt.EqAt.bool_none a
  |bl b=>cases rx;exact SeqAt.EqAt.bool_bool a b
  |int b=>obtain⟨t,rfl⟩:=rx;exact SeqAt.EqAt.bool_int a b t
  |str b=>obtain⟨t,rfl⟩:=rx;exact SeqAt.EqAt.bool_str a b t
  |_=>exact absurd (show false=true from fx) Q8
 |int a=>
  obtain⟨t',rfl⟩:=ry;cases x with
  |non=>cases rx;exact SeqAt.EqAt.int_none a t'
  |bl b=>cases rx;exact SeqAt.EqAt.int_bool a t' b
  |int b=>obtain⟨t,rfl⟩:=rx;exact SeqAt.EqAt.int_int a t' b t
  |str b=>obtain⟨t,rfl⟩:=rx;exact SeqAt.EqAt.int_str a t' b t
  |_=>exact absurd (show false=true from fx) Q8
 |str a=>
  obtain⟨t',rfl⟩:=ry;cases x with
  |non=>cases rx;exact SeqAt.EqAt.str_none a t'
  |bl b=>cases rx;exact SeqAt.EqAt.str_bool a t' b
  |int b=>obtain⟨t,rfl⟩:=rx;exact SeqAt.EqAt.str_int a t' b t
  |str b=>obtain⟨t,rfl⟩:=rx;exact SeqAt.EqAt.str_str a t' b t
  |_=>exact absurd (show false=true from fx) Q8
 |_=>exact absurd (show false=true from fy) Q8
noncomputable def Ee(x:V)(u:Value):Bool:=match u with
 | .none=>DV .non x
 | .bool b=>DV (.bl b) x
 | .int i _=>DV (.int i) x
 | .str z _=>DV (.str z) x
 |_=>false
theorem FJ {x y:V}{u:Value}(r:RelV y u)(f:nk y=true):Ee x u=DV y x:=by
 cases y with
 |non=>cases r;rfl
 |bl b=>cases r;rfl
 |int i=>obtain⟨t,rfl⟩:=r;rfl
 |str z=>obtain⟨t,rfl⟩:=r;rfl
 |_=>exact absurd (show false=true from f) Q8
theorem CL {x:V}{xs:List V}{us:List Value}(h:Vals xs us)(f:xs.all nk=true):us.any (Ee x)=xs.any λy=>DV y x:=by
 induction h with
 |nil=>rfl
 |cons r t ih=>
  rw [List.all_cons,Q5]at f;rw [Ip,Ip,FJ r f.1,ih f.2]
theorem yS {A:Around}{s:Shared}{x:V}{v:Value}(rx:RelV x v)(fx:nk x=true){xs:List V}{us:List Value}(h:Vals xs us)(f:xs.all nk=true):∀u∈us,SeqAt.EqAt A s u v (Ee x u):=by
 induction h with
 |nil=>exact λu hu=>by cases hu
 |cons r t ih=>
  intro u' hu;rw [List.all_cons,Q5]at f
  rcases Q4.mp hu with rfl|hu
  · rw [FJ r f.1];exact L3 r rx f.1 fx
  · exact ih f.2 u' hu
noncomputable def N4(x:V)(xs:List V):Bool:=xs.any λy=>DV y x
def Nm(K:Fg)(neg:Bool):R2:=λx y H Q=>∃p xs,y=.ref p/\(SqL K H p xs\/SqT K H p xs)/\nk x=true/\xs.all nk=true/\Q (.bl (if neg then !N4 x xs else N4 x xs)) H
theorem DW:OpR X (compareOp .In) (Nm X.K false):=by
 intro pins s σ H x y v u Q I rx ry h;obtain⟨p,xs,rfl,hq,fx,fs,q⟩:=h;cases ry
 rcases hq with hq|hq
 · obtain⟨its,r,pl,hz⟩:=I.list hq;refine SeqAt.in_listAt (Ee x) pl.isList (λw hw=>yS rx fx r fs w (by simpa using hw)) ⟨.bl _,H,I,rfl,?_⟩
   rw [show its.toArray.any (Ee x)=its.any (Ee x)by simp,CL r fs]
   exact q
 · obtain⟨its,r,pl,hz⟩:=I.tuple hq;refine SeqAt.in_tupleAt (Ee x) pl (λw hw=>yS rx fx r fs w (by simpa using hw)) ⟨.bl _,H,I,rfl,?_⟩
   rw [show its.toArray.any (Ee x)=its.any (Ee x)by simp,CL r fs]
   exact q
theorem wx:hV X (.type "list") (λxs H Q=>∃p ys,xs=[.ref p]/\(SqL X.K H p ys\/SqT X.K H p ys)/\∀l,H l=none->Q (.ref l) (bv H l (.lst ys))):=by
 intro pins s σ H xs us Q I r h;obtain⟨p,ys,rfl,hq,q⟩:=h;obtain⟨u,rfl,rx⟩:=rB r;cases rx;have fin:∀(its:List Value),Vals ys its->ys.length<=sizeLine->∀(h':Heap) (c':Nat),(∀b o',s.heap.get? b=some o'->h'.get? b=some o')->
  h'.get? s.heap.objs.size=some {cls:=.type "list",dict:=none,data:=.seq its.toArray c',slots:= #[]}->EP X pins σ Q (.ref s.heap.objs.size) {s with heap:=h'}:=λits r' hz h' c' kp e=>
  ⟨.ref s.heap.objs.size,_,I.laid (t':=s.toks) kp (Q1 _) (show ObjOk X.prog X.w _ h' _ (.lst ys)from⟨hz,its,c',r',e⟩),rfl,q _ (I.hok.fresh (Q1 _))⟩
 rcases hq with hq|hq
 · obtain⟨its,r',pl,hz⟩:=I.list hq;have hlen:=r'.length;obtain⟨o,ho,hc,n,hd⟩:=pl.isList;exact call_list_seq p (.inl rfl) ho hc hd (λh' c' kp e=>fin its r' hz h' c' kp e) (by simp only [zM]<;>omega)
 · obtain⟨its,r',pl,hz⟩:=I.tuple hq;have hlen:=r'.length;obtain⟨o,ho,hc,n,hd⟩:=pl;exact call_list_seq p (.inr rfl) ho hc hd (λh' c' kp e=>fin its r' hz h' c' kp e) (by simp only [zM]<;>omega)
theorem uz:hV X (.type "tuple") (λxs H Q=>∃p ys,xs=[.ref p]/\((SqL X.K H p ys/\∀l,H l=none->Q (.ref l) (bv H l (.tup ys)))\/(SqT X.K H p ys/\Q (.ref p) H))):=by
 intro pins s σ H xs us Q I r h;obtain⟨p,ys,rfl,h⟩:=h;obtain⟨u,rfl,rx⟩:=rB r;cases rx
 rcases h with⟨hq,q⟩|⟨hq,q⟩
 · obtain⟨its,r',pl,hz⟩:=I.list hq;have hlen:=r'.length;refine call_tuple_list pl.isList (λh' kp=>?_) (by simp only [zM]<;>omega)
   have I1:Inv X pins σ H {s with heap:=h'}:=I.kept (t':=s.toks) kp
   have I2:Inv X pins σ (bv H h'.objs.size (.tup ys)) {s with heap:=h'.push {cls:=.type "tuple",data:=.seq its.toArray}}:=
    I1.laid (t':=s.toks) (λb o e=>gH _ e) (Q1 _) (show ObjOk X.prog X.w _ _ _ (.tup ys)from⟨hz,its,r',IsTup.new _ _,_,jS _ rfl,rfl⟩)
   exact⟨.ref h'.objs.size,_,I2,rfl,q _ (I1.hok.fresh (Q1 _))⟩
 · obtain⟨its,r',pl,hz⟩:=I.tuple hq;exact call_tuple_same pl ⟨.ref p,H,I,rfl,q⟩
def Nn(K:Fg)(T:String)(x:V)(H:Hp):Prop:=match x with
 | .str _=>T="str"
 | .int _=>T="int"
 | .ref p=>(T="list"/\∃xs,SqL K H p xs)\/(T="tuple"/\∃o,K.lookup p=some o/\o.cls=.type "tuple"/\o.dict=none)\/
  (T="dict"/\((∃kvs,H p=some (.dK kvs))\/∃kvs,H p=some (.dT kvs)))\/(T="set"/\∃S n,H p=some (.set S n))
 |_=>False
theorem FK {pins:List (Addr×Obj)}{σ:St}{H:Hp}{s:Shared}{T:String}{x:V}{v:Value}(I:Inv X pins σ H s)(r:RelV x v)(ty:Nn X.K T x H):
 s.TypeIs v T/\∀a,v=.ref a->∃ob,s.heap.get? a=some ob/\ob.dict=none:=by
 cases x with
 |str z=>
  obtain⟨t,rfl⟩:=r;cases(show T="str" from ty)
  exact⟨typeIs_str s z t,λ_ e=>nomatch e⟩
 |int i=>
  obtain⟨t,rfl⟩:=r;cases(show T="int" from ty)
  exact⟨typeIs_int s i t,λ_ e=>nomatch e⟩
 |ref p=>
  cases r
  rcases ty with⟨rfl,xs,hq⟩|⟨rfl,o,hk,hc,hd⟩|⟨rfl,hk⟩|⟨rfl,S,n,hk⟩
  · obtain⟨its,_,pl,_⟩:=I.list hq;refine⟨pl.isList.typeIs,λa e=>?_⟩;cases e;obtain⟨o,n,e,c,hd,_⟩:=pl;exact⟨o,e,hd⟩
  · refine⟨⟨o,I.kIn p o hk,hc⟩,λa e=>?_⟩;cases e;exact⟨o,I.kIn _ o hk,hd⟩
  · have z:∃o,s.heap.get? p=some o/\o.ExactDict:=by
     rcases hk with⟨kvs,hk⟩|⟨kvs,hk⟩
     · obtain⟨_,_,_,_,o,_,_,e,ex,_⟩:=I.hok p _ hk;exact⟨o,e,ex⟩
     · obtain⟨_,_,_,_,o,_,_,e,ex,_⟩:=I.hok p _ hk;exact⟨o,e,ex⟩
    obtain⟨o,e,ex⟩:=z;refine⟨⟨o,e,ex.1⟩,λa e2=>?_⟩;cases e2;exact⟨o,e,ex.2.1⟩
  · obtain⟨o,_,_,_,e,ex,_⟩:=I.hok p _ hk;refine⟨⟨o,e,ex.1⟩,λa e2=>?_⟩;cases e2;exact⟨o,e,ex.2.1⟩
 |_=>exact False.elim ty
def JH(K:Fg)(T:String)(r:V->List V->Hp->VK->Prop)(to:TE):TE:=λσ H Q=>to σ H λx H1=>Nn K T x H1/\r x [] H1 Q
def L4(K:Fg)(T:String)(r:V->List V->Hp->VK->Prop)(to:TE)(t:TA):TE:=λσ H Q=>to σ H λx H1=>Nn K T x H1/\t σ H1 λxs H2=>r x xs H2 Q
variable {o e:Expr} {es:List Expr} {to:TE} {t:TA} {name:Str} {apos cpos:Pos} {T id:String} {r:V->List V->Hp->VK->Prop}
theorem BE(pa:PlainAttrs T)(slot:Slot T name id)(hty:typeOf (.builtin id)=pure (.type "method_descriptor"))(hm:N3 X id r)(ho:PE X o to)
 (hbase:attributeBase o name X.env (eval o X.env)=eval o X.env:=by rfl) (hline:(apos.endLine==cpos.line)=true:=by rfl):PE X (.Call (.Attribute o name apos) [] [] cpos) (JH X.K T r to):=by
 intro pins s σ H Q I h;refine wpAny_Call_method0_late hbase hline (dN (ho pins s σ H _ I h) λv s1 q_=>?_);obtain⟨x,H1,I1,r1,ty,q1⟩:=q_;obtain⟨h1,h2⟩:=FK I1 r1 ty;exact⟨T,id,pa,slot,hty,h1,h2,Calls.callWith_builtin rfl (PySem.evalArgs_none (hm pins s1 σ H1 x [] v [] Q I1 r1 .nil q1))⟩
theorem mT(pa:PlainAttrs T)(slot:Slot T name id)(hty:typeOf (.builtin id)=pure (.type "method_descriptor"))(hm:N3 X id r)(ho:PE X o to)(ha:PA X (e::es) t)
 (hbase:attributeBase o name X.env (eval o X.env)=eval o X.env:=by rfl)
 (hfew : ((backTo cpos (starEach (e :: es) X.env)).all (λ x => !x.1) && (backToKw cpos (keywordEach [] X.env)).all (λ x => x.1.isSome)
  &&decide ((e::es).length+([]:List Keyword).length+(if([]:List Keyword).isEmpty then 0 else 1) < 30))=true:=by rfl)
 (hline:(apos.endLine==cpos.line)=true:=by rfl) (hs:starEach (e::es) X.env=(false,eval e X.env)::starEach es X.env:=by rfl) (hplain:(backTo cpos (starEach es X.env)).any (·.1)=false:=by rfl):
 PE X (.Call (.Attribute o name apos) (e::es) [] cpos) (L4 X.K T r to t):=by
 intro pins s σ H Q I h;refine wpAny_Call_method_late hbase hfew hline rfl (dN (ho pins s σ H _ I h) λv s1 q_=>?_);obtain⟨x,H1,I1,r1,ty,q1⟩:=q_;obtain⟨h1,h2⟩:=FK I1 r1 ty;refine⟨T,id,pa,slot,hty,h1,h2,?_⟩;have hA:=ha cpos pins s1 σ H1 _ I1 q1;rw [hs]at hA ⊢;refine Calls.callWith_builtin (by show(false||(backTo cpos (starEach es X.env)).any (·.1))=false;rw [hplain]<;>rfl) (Calls.evalArgs_plain ?_)
 exact dN hA λus s2 q_=>by obtain⟨vs,H2,I2,r2,q2⟩:=q_;exact hm pins s2 σ H2 x vs v us Q I2 r1 r2 q2
end
def Mn(X:Cx)(id:String)(r:V->List V->Hp->VK->Prop):Prop:=
 ∀(pins:List (Addr×Obj)) (s:Shared) (σ:St) (H:Hp) (x:V) (xs:List V) (v:Value) (us:List Value) (Q:VK),Inv X pins σ H s->RelV x v->Vals xs us->r x xs H Q->
  wpAny (model X.prog X.w) X.A (call (.builtin id) (v::us)) (EP X pins σ Q) X.xe s
theorem Vals.one:∀{x:V} {us:List Value},Vals [x] us->∃u,us=[u]/\RelV x u
 |_,_,h=>by cases h with|cons r t=>cases t;exact⟨_,rfl,r⟩
theorem Vals.two:∀{x y:V} {us:List Value},Vals [x,y] us->∃u v,us=[u,v]/\RelV x u/\RelV y v
 |_,_,_,h=>by
  cases h with
  |cons r t=>
   obtain⟨v,e,q⟩:=Vals.one t;subst e;exact⟨_,_,rfl,r,q⟩
theorem Vals.zero:∀{us:List Value},Vals [] us->us=[]
 |_,.nil=>rfl
theorem Vals.dropLast {xs:List V}{us:List Value}(h:Vals xs us):Vals xs.dropLast us.dropLast:=by
 induction h with
 |nil=>exact .nil
 |cons r t ih=>
  cases t with
  |nil=>exact .nil
  |cons q t'=>exact .cons r ih
theorem Vals.eraseIdx:∀{xs:List V} {us:List Value} (i:Nat),Vals xs us->Vals (xs.eraseIdx i) (us.eraseIdx i)
 |_,_,_,.nil=>.nil
 |_,_,0,.cons _ t=>t
 |_,_,i+1,.cons r t=>.cons r (Vals.eraseIdx i t)
theorem BF {α:Type}(l:List α):l.eraseIdx (l.length - 1)=l.dropLast:=by
 induction l with
 |nil=>rfl
 |cons a r ih=>
  cases r with
  |nil=>rfl
  |cons b r=>
   have e:(a::b::r).length - 1=((b::r).length - 1)+1:=by
    have h1:(a::b::r).length=r.length+2:=rfl;have h2:(b::r).length=r.length+1:=rfl;omega
   rw [e,List.eraseIdx_cons_succ,ih]
   all_goals rfl
section
variable {X:Cx} {pins:List (Addr×Obj)} {σ:St} {H:Hp} {s:Shared} {l b:Addr} {xs ys zs:List V}
theorem Inv.lset {its its':List Value}{n:Nat}{f:Array Value->Array Value}{t':Nat}(I:Inv X pins σ H s)(hH:H l=some (.lst xs))
 (e:s.heap.get? l=some {cls:=.type "list",data:=.seq its.toArray n}) (hf:f its.toArray=its'.toArray) (hv:Vals ys its') (hz:ys.length<=sizeLine):
 Inv X pins σ (bv H l (.lst ys)) {s with heap:=s.heap.update l (Obj.mapSeq f),toks:=t'}:=by
 have q:=PySem.IsL.update e f;rw [hf]at q;refine I.write (x:=l) (e:=l) (by rw [hH];exact trivial) (.inl rfl) (λb' u hb hu=>(CC s.heap (Obj.mapSeq f) (Ne.symm hb)).trans hu) ⟨_,q⟩ ?_
 exact⟨hz,its',_,hv,q⟩
theorem Inv.lnew {its:List Value}{t':Nat}(I:Inv X pins σ H s)(hv:Vals ys its)(hz:ys.length<=sizeLine):
 Inv X pins σ (bv H s.heap.objs.size (.lst ys)) {s with heap:=s.heap.push {cls:=.type "list",data:=.seq its.toArray},toks:=t'}:=
 I.laid (λ_ _ q=>gH _ q) (Q1 _) ⟨hz,its,0,hv,jS _ rfl⟩
theorem Inv.fresh(I:Inv X pins σ H s):H s.heap.objs.size=none:=I.hok.fresh (Q1 _)
theorem Inv.lstM(I:Inv X pins σ H s)(hH:H l=some (.lst xs)):xs.length<=sizeLine/\∃(its:List Value) (n:Nat),Vals xs its/\xs.length=its.length/\s.heap.get? l=some {cls:=.type "list",data:=.seq its.toArray n}:=by
 obtain⟨z,its,n,r,e⟩:=I.hok l _ hH;exact⟨z,its,n,r,r.length,e⟩
theorem FL {n:Nat}(h:n<=sizeLine):Builtin.List.listTooLong n=false:=by
 unfold Builtin.List.listTooLong;exact decide_eq_false (by omega)
end
section
variable {X:Cx}
def oy:V->List V->Hp->VK->Prop:=λx vs H Q=>∃l xs y,x=.ref l/\vs=[y]/\H l=some (.lst xs)/\xs.length < sizeLine/\Q .non (bv H l (.lst (xs++[y])))
theorem gX:Mn X "list.append" oy:=by
 intro pins s σ H x vs v us Q I rx rv h;obtain⟨l,xs,y,rfl,rfl,hH,hz,q⟩:=h;cases rx;obtain⟨u,rfl,ru⟩:=rv.one;obtain⟨z,its,n,r,hl,e⟩:=I.lstM hH;refine call_meets F.slot_list_append ⟨_,e,rfl⟩ F.entry_list_append (F.args_list_append_2 _ _) (PySem.list_append l its.toArray n u (by rw [zM];omega)) ⟨e,?_⟩
 refine⟨.non,_,I.lset (its':=its++[u]) hH e (by simp) (r.append (.cons ru .nil)) ?_,rfl,q⟩
 rw [zQ,LF];omega
def CM:V->List V->Hp->VK->Prop:=λx vs H Q=>∃l b xs zs,x=.ref l/\vs=[.ref b]/\H l=some (.lst xs)/\H b=some (.lst zs)/\xs.length+zs.length<=sizeLine/\Q .non (bv H l (.lst (xs++zs)))
theorem vd:Mn X "list.extend" CM:=by
 intro pins s σ H x vs v us Q I rx rv h;obtain⟨l,b,xs,zs,rfl,rfl,hH,hB,hz,q⟩:=h;cases rx;obtain⟨u,rfl,ru⟩:=rv.one;cases ru;obtain⟨z,its,n,r,hl,e⟩:=I.lstM hH;obtain⟨z2,its2,n2,r2,hl2,e2⟩:=I.lstM hB;have hsz:its.toArray.size+its2.toArray.size<=sizeLine:=by rw [zM,zM];omega
 have hlong:¬(!its.toArray.isEmpty&&Builtin.List.listTooLong (its.toArray.size+its2.toArray.size))=true:=by
  rw [FL hsz,Bool.and_false];exact Q8
 refine call_meets F.slot_list_extend ⟨_,e,rfl⟩ F.entry_list_extend (F.args_list_extend_2 _ _)
  (AutoSeq1.list_extend_list_list_0 l its.toArray n b its2.toArray n2 hlong (by rw [zM];omega) (by omega)) ⟨e,e2,?_⟩
 refine⟨.non,_,I.lset (its':=its++its2) hH e (by simp) (r.append r2) ?_,rfl,q⟩
 rw [zQ];omega
def No:V->List V->Hp->VK->Prop:=λx vs H Q=>∃l xs y,x=.ref l/\vs=[]/\H l=some (.lst xs)/\xs[xs.length - 1]? =some y/\Q y (bv H l (.lst xs.dropLast))
theorem Np:Mn X "list.pop" No:=by
 intro pins s σ H x vs v us Q I rx rv h;obtain⟨l,xs,y,rfl,rfl,hH,hy,q⟩:=h;cases rx;have hus:=rv.zero;subst hus;obtain⟨z,its,n,r,hl,e⟩:=I.lstM hH;obtain⟨u,hu,ru⟩:=r.get hy;have hy':its.toArray[its.toArray.size - 1]? =some u:=by
  show its.toArray[its.length - 1]? =some u;rw [<-Eg, <-hl];exact hu
 refine call_meets F.slot_list_pop ⟨_,e,rfl⟩ F.entry_list_pop (F.args_list_pop_1 _) (MeetsSeq.list_pop_last l its.toArray n u hy' (by rw [zM];omega)) ⟨e,?_⟩
 refine⟨y,_,I.lset (its':=its.dropLast) hH e ?_ r.dropLast ?_,ru,q⟩
 · show its.toArray.eraseIdxIfInBounds (its.toArray.size - 1)=its.dropLast.toArray;rw [zM,List.eraseIdxIfInBounds_toArray,BF]
 · rw [List.length_dropLast];omega
def FM:V->List V->Hp->VK->Prop:=λx vs H Q=>∃l xs,x=.ref l/\vs=[]/\H l=some (.lst xs)/\Q .non (bv H l (.lst []))
theorem FN:Mn X "list.clear" FM:=by
 intro pins s σ H x vs v us Q I rx rv h;obtain⟨l,xs,rfl,rfl,hH,q⟩:=h;cases rx;have hus:=rv.zero;subst hus;obtain⟨z,its,n,r,hl,e⟩:=I.lstM hH;refine call_meets F.slot_list_clear ⟨_,e,rfl⟩ F.entry_list_clear (F.args_list_clear_1 _) (AutoSeq1.list_clear_list_0 l its.toArray n (by rw [zM];omega)) ⟨e,?_⟩
 exact⟨.non,_,I.lset (its':=[]) (ys:=[]) hH e rfl .nil (zU _),rfl,q⟩
def Mo:R2:=λx y H Q=>∃l b xs zs,x=.ref l/\y=.ref b/\H l=some (.lst xs)/\H b=some (.lst zs)/\xs.length+zs.length<=sizeLine/\∀p,H p=none->Q (.ref p) (bv H p (.lst (xs++zs)))
theorem L5:OpR X (binaryOp .Add) Mo:=by
 intro pins s σ H x y v u Q I rx ry h;obtain⟨l,b,xs,zs,rfl,rfl,hH,hB,hz,q⟩:=h;cases rx;cases ry;obtain⟨z,its,n,r,hl,e⟩:=I.lstM hH;obtain⟨z2,its2,n2,r2,hl2,e2⟩:=I.lstM hB;refine PySem.P.add_list e e2 ?_ (by rw [zM,zM];omega)
 have ea:its.toArray++its2.toArray=(its++its2).toArray:=by simp
 rw [ea];exact⟨.ref _,_,I.lnew (t':=s.toks) (r.append r2) (by rw [zQ];omega),rfl,q _ I.fresh⟩
end
section
variable {prog:Program} {w:World} {A:Around} {E:Value->Shared->Prop} {s:Shared}
end
section
variable {X:Cx}
end
end L2
namespace Att
open PySem PySem.W PySem.Calls PyProof.Rows
theorem rh {P:Params}{h:Heap}:∀(ns:List Int) (vs:List Value),WellAll P h vs (ns.map WData.int)->IntsAre vs ns:=by
 intro ns
 induction ns with
 |nil=>
  intro vs w;rw [zL]at w;cases w;exact .nil
 |cons n ns ih=>
  intro vs w;rw [zI]at w;cases w with
  |cons a b=>
   cases a;exact .cons _ _ (ih _ b)
theorem DX {l:OpenLaw}{n:Nat}(hn:l.most=some n){P:Params}{h:Heap}{args:List WData}{vals:List Value}
 (hpre:l.row.toRowW.claim.pre args=true) (hwl:WellAll P h vals args):
 ∃a vs ns,vals=[Value.ref a]/\args=[WData.list (ns.map WData.int)]/\h.get? a=some {cls:=.type "list",data:=.seq vs.toArray}/\IntsAre vs ns/\ns.length<=n:=by
 have hsh:WShape.hasAll [] args [.list .int]=true:=(pre_splitW hpre).1;have hc:l.pre.holds [] {args:=args}=true:=(pre_splitW hpre).2;obtain⟨d,r,rfl,h1,h2⟩:=hasAllW_cons hsh;obtain rfl:=hasAllW_nil h2;obtain⟨xs,rfl,h3⟩:=hasW_list h1;obtain⟨ns,rfl⟩:=items_int h3;have hlen:ns.length<=n:=by
  unfold OpenLaw.pre at hc;have h4:(WTm.not (.lt (.lit (.int (n:Int))) (.len (.arg 0)))).holds [] {args:=[.list (ns.map .int)]}=true:=by
   have h4:=(holds_andW hc).1;rw [hn]at h4;exact h4
  have h5:=condW_of h4 (w_not (w_lt w_lit (w_len_list (w_arg rfl))));rw [zJ]at h5;refine Nat.le_of_not_lt λq=>?_;have q':(n:Int) < ((ns.length:Nat):Int):=by omega
  first
   |(rw [decide_eq_true q']at h5;exact absurd h5 (by decide))
   |(simp at h5;omega)
 cases hwl with
 |cons w1 w2=>
  cases w2;cases w1 with
  |list ho hall=>exact⟨_,_,ns,rfl,rfl,ho,rh ns _ hall,hlen⟩
theorem DY(l:OpenLaw)(args:List WData):l.row.toRowW.claim.post args (.bool true) args=true:=
 postW_of (r:=l.row.toRowW) (X:=(true==true))
  (show WShape.has [] (.bool true) .bool=true by first|rfl|decide|simp [WShape.has,WShape.arms,WShape.armsAll])
  (show(WTm.eq .res (.lit (.bool true))).value [] {args:=args,res:=some (.bool true),after:=args}=some (.bool (true==true))from w_eq_bool (w_res rfl) w_lit) rfl
theorem yT {l:OpenLaw}{n:Nat}{q:Program}{loose:List Str}{XP:(Str->Option Value)->Heap->Prop}{YP:World->Heap->Prop}{d:DefRec}
 (hn:l.most=some n) (hdf:d.params.defaults=[])
 (call : ∀ (w : World) (s₀ s₁ : Shared) (mg mb : Str -> Option Value) (fa : Addr) (o : Obj) (pm cd doc : Value) (a : Addr) (vs : List Value) (ns : List Int),
  Ground q loose [] XP w s₀ mg mb s₁.heap->YP w s₁.heap->
  s₁.heap.get? fa=some o->o.data=.func (docDef d.name d.params d.body d.scope pm cd doc)->s₁.heap.CodeRec cd d.name->mg d.name=some (.ref fa)->
  s₁.heap.get? a=some {cls:=.type "list",data:=.seq vs.toArray}->IntsAre vs ns->ns.length<=n->s₁.gens= #[]->
  codeAny (model l.prog w) callerA (.call (.ref fa) ⟨[.ref a],[]⟩) (λr s'=>r=.ok (.ret (.bool true))/\OldK s₁.heap s'.heap/\s'.os=s₁.os/\AllBare s'.gens) s₁):
 WalkO q loose XP YP l.row.toRowW d [] (λf vs=>PySem.call f vs):=by
 intro w s₀ s₁ mg mb G Y fa o pm cd doc dV kV ho hd hcd hD hmg hg args vals as hpre hlay hrd hwl hlo;obtain rfl:dV=.none:=Dflts.none hD hdf;obtain rfl:kV=.none:=Dflts.noKw hD;obtain⟨a,vs,ns,rfl,rfl,hobj,hints,hlen⟩:=DX hn hpre hwl;refine enter_call (codeAny_mono (call w s₀ s₁ mg mb fa o pm cd doc a vs ns G Y ho (fd_plain hd) hcd hmg hobj hints hlen hg) λr s' hq=>?_);obtain⟨rfl,h2,h3,h4⟩:=hq;exact⟨.inl ⟨.bool true,.bool true,[],rfl,λ_=>rfl,.bool true,DY l _,λ_=>⟨List.Pairwise.nil,λ_ hm=>(nomatch hm)⟩⟩,h2,h3,h4⟩
section
variable {prog:Program} {w:World} {A:Around} {E:Value->Shared->Prop} {s:Shared} {K:Frag}
noncomputable def qO(h:Heap):Heap:={h with objs:= #[]}
theorem oN(h:Heap)(b:Addr):(qO h).get? b=none:=by
 cases e:(qO h).get? b with
 |none=>rfl
 |some o=>exact absurd (fS e) (Nat.not_lt_zero _)
noncomputable def kQ(h:Heap)(L d:Addr):List (Addr×Obj):=(List.range h.objs.size).filterMap λa=>if a=L\/a=d then none else(h.get? a).map λo=>(a,o)
theorem ef {h:Heap}{L d a:Addr}{o:Obj}:(a,o)∈kQ h L d↔a≠L/\a≠d/\h.get? a=some o:=by
 unfold kQ;rw [List.mem_filterMap]
 constructor
 · rintro⟨b,_,e⟩;split at e
   · cases e
   · rename_i hb;obtain⟨o',ho,e'⟩:=Q0.mp e;cases e';exact⟨λq=>hb (.inl q),λq=>hb (.inr q),ho⟩
 · rintro⟨n1,n2,ho⟩;refine⟨a,List.mem_range.mpr (fS ho),?_⟩;rw [if_neg (show ¬(a=L\/a=d)from λq=>q.elim n1 n2),ho]<;>rfl
theorem mU {h:Heap}{L d:Addr}{od:Obj}(hne:d≠L)(ho:h.get? d=some od):News (qO h) L h ([]++(d,od)::kQ h L d):=by
 rintro⟨a,o⟩ hp
 rcases Q4.mp hp with e|hp
 · cases e;exact⟨ho,hne,oN _ _⟩
 · obtain⟨n1,n2,e⟩:=ef.mp hp;exact⟨e,n1,oN _ _⟩
theorem BG {h:Heap}{L:Addr}{m:Str->Option Value}(n:h.Ns L m):Fr (qO h) L h m:=
 ⟨n,λb o e=>(by rw [oN]at e;cases e),zU _⟩
end
end Att
namespace L2
open PySem PySem.Spec PyProof.Rows
theorem DZ {vs:List Value}{ns:List Int}(h:IntsAre vs ns):Vals (ns.map V.int) vs:=by
 induction h with
 |nil=>exact .nil
 |cons n t h ih=>exact .cons ⟨t,rfl⟩ ih
noncomputable def ag(s:Stmt):Arguments:=match s with
 | .FunctionDef _ a _ _ _ _ _ _ _ _=>a
 |_=>{posonlyargs:=[],args:=[],vararg:=none,kwonlyargs:=[],kw_defaults:=[],kwarg:=none,defaults:=[]}
noncomputable def aZ(s:Stmt):List Stmt:=match s with
 | .FunctionDef _ _ b _ _ _ _ _ _ _=>b
 |_=>[]
noncomputable def aL(s:Stmt):Scope:=match s with
 | .FunctionDef _ _ _ _ _ _ sc _ _ _=>sc
 |_=>{kind:=.function,names:=[],isGenerator:=false,isCoroutine:=false}
abbrev gY:FE:=λ_ _ _ _ _ _=>False
abbrev E0:XK:=λ_ _ _=>False
theorem Kh {X:Cx}:BB gY X E0:=λ_ _ _ _ _ _ _ h=>h.elim
structure Fun (K:Fg) (x qual:Str) (st:Stmt) (f:Addr) (fd:FuncData):Prop where
 ex:∃(oc:Value) (od:Option Addr) (kV doc pm:Value) (an:Option Addr) (cdv ct:Value) (osl:Array (Option Value)),
  fd=PySem.W.fnOf x qual (ag st) (aZ st) (aL st) .none kV doc pm an cdv ct/\K.lookup f=some ⟨oc,od,.func fd,osl⟩/\PySem.W.codeIn K cdv qual=true
 kp:PySem.W.keepIn K (.ref f)=true
section
variable {P:Program} {w:World} {K:Fg} {mg:Str->Option Value} {base:Heap}
theorem Fun.ok {x qual:Str}{st:Stmt}{f:Addr}{fd:FuncData}{N ps:List Str}{k:Nat}{sp:Sp}(F:Fun K x qual st f fd)(S:FnScope N ps (aL st))(len:∀vs H Q E,sp vs H Q E->vs.length=ps.length)
 (hbody : ∀ (cdv : Value) (A : Around) (outer : List Env) (s : Shared) (H : Hp) (vs : List V) (Q : VK) (E : XK), Room k (A.deeper (envOfC qual (aL st) s.heap.objs.size f cdv)) -> sp vs H Q E ->
  ∃t,PSs (wq gY P w K mg base N qual (aL st) f cdv A outer s H E).nox (aZ st) t/\t {nx:=λ_ H'=>Q .non H',rt:=Q} (eZ N vs) H):FnOk P w K mg base gY (k+1) f fd ps sp:=by
 obtain⟨oc,od,kV,doc,pm,an,cdv,ct,osl,rfl,lk,hcd⟩:=F.ex;refine Kf lk hcd S len λA outer s H vs Q E hr hsp=>?_;obtain⟨t,h,q⟩:=hbody cdv A outer s H vs Q E hr hsp;exact⟨t,h.nox,q⟩
theorem Fun.binds {x qual:Str}{st:Stmt}{f:Addr}{fd:FuncData}{ps:List Str}(F:Fun K x qual st f fd)
 (h:∀(kV doc pm:Value) (an:Option Addr) (cdv ct:Value) (us:List Value),us.length=ps.length->bindArgs (PySem.W.fnOf x qual (ag st) (aZ st) (aL st) .none kV doc pm an cdv ct) ⟨us,[]⟩=pure (ps.zip us)):Binds K fd ps []:=by
 obtain⟨oc,od,kV,doc,pm,an,cdv,ct,osl,rfl,lk,hcd⟩:=F.ex;exact .all (h kV doc pm an cdv ct)
theorem bQ {x qual:Str}{st:Stmt}{f:Addr}{oc:Value}{od an:Option Addr}{osl:Array (Option Value)}{kV doc pm cdv ct:Value}(l:K.lookup f=some ⟨oc,od,.func (PySem.W.fnOf x qual (ag st) (aZ st) (aL st) .none kV doc pm an cdv ct),osl⟩)
 (c:PySem.W.codeIn K cdv qual=true) (k:PySem.W.keepIn K (.ref f)=true):Fun K x qual st f (PySem.W.fnOf x qual (ag st) (aZ st) (aL st) .none kV doc pm an cdv ct):=⟨⟨oc,od,kV,doc,pm,an,cdv,ct,osl,rfl,l,c⟩,k⟩
end
theorem FO {A:Around}{k:Nat}(hr:Room k A):A.units+1 < cLine:=Il (Nat.add_le_add_left (by decide:1<=64) _) hr.units
theorem D0 {n:Nat}(h:n<=1000):n < sizeLine:=Il h (by decide)
section
variable {X:Cx}
theorem pv(i:Nat){x:Str}{pos:Pos}(hN:X.N[i]? =some x:=by rfl)(hv:N2 X.env.scope x:=by first|exact Or.inl rfl|exact Or.inr (Or.inl rfl)|exact Or.inr (Or.inr rfl))(hd:(x==("__debug__":Str))=false:=by decide)
 (hcd:(x==("__classdict__":Str))=false:=by decide):PE X (.Name x pos) (bX i):=LK hN hv hd hcd
end
theorem vA {A B:Prop}(h:B):if false=true then A else B:=by
 rw [if_neg Q8];exact h
theorem wy {A B:Prop}(h:A):if true=true then A else B:=by
 rw [if_pos rfl];exact h
def Same(H H':Hp):Prop:=∀b o,H b=some o->H' b=some o
theorem Same.refl(H:Hp):Same H H:=λ_ _ h=>h
theorem Same.trans {H H1 H2:Hp}(a:Same H H1)(b:Same H1 H2):Same H H2:=λc o h=>b c o (a c o h)
theorem Same.free {H H':Hp}(e:Same H H'){l:Addr}(h:H' l=Option.none):H l=Option.none:=by
 cases q:H l with
 |none=>rfl
 |some o=>
  rw [e l o q]at h;cases h
theorem Same.seq {K:Fg}{H H':Hp}{a:Addr}{xs:List V}(e:Same H H')(h:SqL K H a xs):SqL K H' a xs:=by
 rcases h with(h|⟨o,h⟩)|h
 · exact .inl (.inl (e _ _ h))
 · exact .inl (.inr ⟨o,e _ _ h⟩)
 · exact .inr h
noncomputable def dD(env:Env):List (Str×NameKind)->List (Str×Addr)->List (Str×Addr)
 |[],acc=>acc
 |(n,k)::r,acc=>if k== .free then dD env r ((n,(env.cells.lookup n).getD 0)::acc)else dD env r acc
theorem wz {env:Env}:∀(names:List (Str×NameKind)) (acc:List (Str×Addr)),(∀y∈names,y.2=.free->∃c,env.cells.lookup y.1=some c)->
 (forIn (m:=Sem) names acc λ(x:Str×NameKind) cs=>(if(x.2== .free)=true then do let c<-cellOf env x.1;pure (ForInStep.yield ((x.1,c)::cs))else pure (ForInStep.yield cs)))=pure (dD env names acc)
 |[],acc,_=>rfl
 |(n,k)::r,acc,h=>by
  have hr:∀y∈r,y.2=.free->∃c,env.cells.lookup y.1=some c:=λy hy=>h y (ke _ hy);rw [List.forIn_cons]
  by_cases e:k=.free
  · subst e;obtain⟨c,hc⟩:=h (n,.free) lN rfl;have hc':env.cells.lookup n=some c:=hc;have e1:cellOf env n=pure c:=by unfold cellOf;rw [hc']
    show((if(NameKind.free==NameKind.free)=true then _ else _) >>=_)=pure (if(NameKind.free==NameKind.free)=true then _ else _);rw [if_pos (by rfl),if_pos (by rfl),e1,hc']
    exact wz r _ hr
  · have e':(k==NameKind.free)=false:=by simpa using e
    show((if(k==NameKind.free)=true then _ else _) >>=_)=pure (if(k==NameKind.free)=true then _ else _);rw [e',if_neg (by simp),if_neg (by simp)]
    exact wz r _ hr
theorem ii {scope:Scope}{env:Env}(h:∀y∈scope.names,y.2=.free->∃c,env.cells.lookup y.1=some c):closureFor scope env=pure (dD env scope.names []):=by
 have q:=wz scope.names [] h;unfold closureFor;show(forIn (m:=Sem) scope.names [] _ >>= λr=>pure r)=_;refine Eq.trans ?_ q;exact bind_pure _
theorem j4 {env:Env}:∀{names:List (Str×NameKind)} {acc:List (Str×Addr)} {x:Str} {c:Addr},(∀y∈names,y.2=.free->∃c,env.cells.lookup y.1=some c)->(x,c)∈dD env names acc->(x,c)∈acc\/env.cells.lookup x=some c
 |[],acc,x,c,_,m=>.inl m
 |(n,k)::r,acc,x,c,h,m=>by
  have hr:∀y∈r,y.2=.free->∃c,env.cells.lookup y.1=some c:=λy hy=>h y (ke _ hy)
  by_cases e:k=.free
  · subst e;obtain⟨d,hd⟩:=h (n,.free) lN rfl;have hd':env.cells.lookup n=some d:=hd;have m':(x,c)∈dD env r ((n,(env.cells.lookup n).getD 0)::acc):=m
    rcases j4 hr m' with q|q
    · rcases Q4.mp q with q|q
      · rw [hd']at q;injection q with q1 q2
        subst q1 q2;exact .inr hd'
      · exact .inl q
    · exact .inr q
  · have e':(k==NameKind.free)=false:=by simpa using e
    have m':(x,c)∈(if(k==NameKind.free)=true then dD env r ((n,(env.cells.lookup n).getD 0)::acc)else dD env r acc):=m;rw [e',if_neg (by simp)]at m'
    exact j4 hr m'
theorem kj {env:Env}:∀{names:List (Str×NameKind)} {acc:List (Str×Addr)} {x:Str},((x,NameKind.free)∈names\/∃c,(x,c)∈acc)->∃c,(x,c)∈dD env names acc
 |[],acc,x,h=>by
  rcases h with h|h
  · simp at h
  · exact h
 |(n,k)::r,acc,x,h=>by
  by_cases e:k=.free
  · subst e;show ∃c,(x,c)∈dD env r ((n,(env.cells.lookup n).getD 0)::acc);refine kj ?_
    rcases h with h|⟨c,h⟩
    · rcases Q4.mp h with h|h
      · injection h with h1 _
        subst h1;exact .inr ⟨_,lN⟩
      · exact .inl h
    · exact .inr ⟨c,ke _ h⟩
  · have e':(k==NameKind.free)=false:=by simpa using e
    show ∃c,(x,c)∈(if(k==NameKind.free)=true then dD env r ((n,(env.cells.lookup n).getD 0)::acc)else dD env r acc);rw [e',if_neg (by simp)]
    refine kj ?_
    rcases h with h|h
    · rcases Q4.mp h with h|h
      · injection h with _ h2
        exact absurd h2.symm e
      · exact .inl h
    · exact .inr h
theorem fj {β:Type}:∀{l:List (Str×β)} {x:Str} {c:β},(x,c)∈l->∃d,l.lookup x=some d
 |(n,k)::r,x,c,h=>by
  by_cases e:x=n
  · subst e;exact⟨k,by simp⟩
  · rcases Q4.mp h with q|q
    · injection q with q1 _;exact absurd q1 e
    · obtain⟨d,hd⟩:=fj q
      exact ⟨d, by rw [wj]; have : (x == n) = false := by simpa using e
                   rw [this];exact hd⟩
def Mp(X:Cx)(cs:List Expr)(t:TT):Prop:=
 ∀(pins:List (Addr×Obj)) (s:Shared) (σ:St) (H:Hp) (Q:Bool->Hp->Prop),Inv X pins σ H s->t σ H Q->
  wpAny (model X.prog X.w) X.A (forIn cs true λc r=>if r=true then do let ok<-isTrue c X.env (eval c X.env);pure (ForInStep.yield ok)else pure (ForInStep.yield r)) (TP X pins σ Q) X.xe s
def FP:TT:=λ_ H Q=>Q true H
theorem gJ {X:Cx}:Mp X [] FP:=λpins s σ H Q I h=>wpAny_tests_nil ⟨H,I,h⟩
theorem CN {X:Cx}{c:Expr}{t:TT}(h:PT X c t):Mp X [c] t:=λpins s σ H Q I q=>wpAny_tests_one (h pins s σ H Q I q)
def FQ(n:Nat)(fr:List (Str×Nat))(σ:St):St:=List.replicate n none++fr.map λp=>(σ[p.2]?).join
def yU(n:Nat)(fr:List (Str×Nat))(wi:TI)(g:TG)(tc:TT)(te:TE):TE:=λσ H Q=>wi σ H λJ H1=>∀acc,H1 acc=none->
 ∃W:Nat->Nat->St->Hp->Prop,(∃m,W 0 m (FQ n fr σ) (bv H1 acc (.lst [])))/\∀i m σ' H',W i m σ' H'->
  (J.stop i H' /\ Q (.ref acc) H') \/ (J.go i H' /\ ∃ Nx : St -> Hp -> Prop, (∀ σ2 H2, Nx σ2 H2 -> ∃ m', m' < m /\ W (i + 1) m' σ2 H2) /\
   ∀x H2,J.yld i H' x H2->g x σ' H2 λσ2 H3=>tc σ2 H3 λb H4=>if b=true then te σ2 H4 λy H5=>∃ys,H5 acc=some (.lst ys)/\ys.length < sizeLine/\Nx σ2 (bv H5 acc (.lst (ys++[y])))else Nx σ2 H4)
section
variable {prog:Program} {w:World} {A:Around} {R:Result->Shared->Prop} {s:Shared}
theorem yV {elt target iter:Expr}{ifs:List Expr}{scope:Scope}{pos:Pos}{it acc:Value}{env:Env}(I:Nat->Shared->Prop)
 (turn : ∀ n s, I n s -> wpAny (model prog w) A (pyNext it) (λ r s₁ => match r with
  |none=>R (.ok .next) s₁
  |some v=>wpAny (model prog w) A (letOwnedTupleGo target it v) (λ_ s₂=>wpAny (model prog w) A (assign target env v) (λ_ s₂=>
   wpAny (model prog w) A (forIn ifs true λc r=>if r=true then do let ok<-isTrue c env (eval c env);pure (ForInStep.yield ok)else pure (ForInStep.yield r)) (λok s₃=>
    if ok=true then wpAny (model prog w) A (eval elt env) (λx s₄=>
     wpAny (model prog w) A (call (.builtin "list.append") [acc,x]) (λ_ s₅=>∃m,m < n/\I m s₅) (λ_ _=>False) s₄) (λ_ _=>False) s₃
    else ∃m,m < n/\I m s₃) (λ_ _=>False) s₂) (λ_ _=>False) s₂) (λ_ _=>False) s₁) (λ_ _=>False) s)
 (n:Nat) (h:I n s):
 codeAny (model prog w) A (.compLoop (.ListComp elt [⟨target,iter,ifs,0⟩] scope pos) 0 it acc env) R s:=by
 refine codeAny_loop rfl I (λn s hI=>?_) n h;show wpAny _ A ((compTurn (.ListComp elt [⟨target,iter,ifs,0⟩] scope pos) 0 it acc env).onRaise (λx=>do noteFrame x env;theTreesLotGoes x)) _ _ s
 refine wpAny_noted ?_;rw [compTurn_list];refine wB (wpAny_standAt (wB (wpAny_mono (turn n s hI) (λr s₁ h₁=>?_) λ_ _ h'=>h'.elim)));cases r with
 |none=>exact wP h₁
 |some v=>
  refine wB (wpAny_mono h₁ (λ_ s₂ h₂=>?_) λ_ _ h'=>h'.elim);refine wB (wpAny_mono h₂ (λ_ s₂ h₂=>wB (wpAny_mono h₂ (λok s₃ h₃=>?_) λ_ _ h'=>h'.elim)) λ_ _ h'=>h'.elim);cases ok with
  |false=>exact wP ⟨rfl,h₃⟩
  |true=>
   exact wB (wB (wpAny_mono h₃ (λx s₄ h₄=>wB (wpAny_mono h₄ (λ_ s₅ h₅=>wP (wP ⟨rfl,h₅⟩)) λ_ _ h'=>h'.elim)) λ_ _ h'=>h'.elim))
end
theorem sZ {env:Env}:∀{names:List (Str×NameKind)} {x:Str},names.lookup x=some .free->
 (((names.map λ (n, k) => if (k == NameKind.free && env.scope.kind == .function && env.kindOf n == some .cell) then (n, NameKind.cell) else (n, k)).lookup x = some .cell) \/
  ((names.map λ(n,k)=>if(k==NameKind.free&&env.scope.kind== .function&&env.kindOf n==some .cell)then(n,NameKind.cell)else(n,k)).lookup x=some .free))
 |[],x,h=>by simp at h
 |(n,k)::r,x,h=>by
  have e1:((n,k)::r).map (λ(n,k)=>if(k==NameKind.free&&env.scope.kind== .function&&env.kindOf n==some .cell)=true then(n,NameKind.cell)else(n,k))=
   (if(k==NameKind.free&&env.scope.kind== .function&&env.kindOf n==some .cell)=true then(n,NameKind.cell)else(n,k))::r.map (λ(n,k)=>if(k==NameKind.free&&env.scope.kind== .function&&env.kindOf n==some .cell)=true then(n,NameKind.cell)else(n,k)):=rfl
  rw [e1];cases hx:x==n with
  |true=>
   simp only [wj,hx]at h;have hk:k=.free:=zV h
   by_cases c:(k==NameKind.free&&env.scope.kind== .function&&env.kindOf n==some .cell)=true
   · rw [if_pos c];left;simp [wj,hx]
   · rw [if_neg c];right;simp [wj,hx,hk]
  |false=>
   simp only [wj,hx]at h;have q:=sZ (env:=env) h
   by_cases c:(k==NameKind.free&&env.scope.kind== .function&&env.kindOf n==some .cell)=true
   · rw [if_pos c];simpa only [wj,hx]using q
   · rw [if_neg c];simpa only [wj,hx]using q
section
variable {X:Cx}
theorem JI {n:Nat}{fr:List (Str×Nat)}{own:List Str}{σ:St}{i:Nat}{x:Str}{v:V}(hn:own.length=n)(h1:(own++fr.map (·.1))[i]? =some x)(h2:(FQ n fr σ)[i]? =some (some v)):
 ∃p∈fr,p.1=x/\σ[p.2]? =some (some v):=by
 unfold FQ at h2
 by_cases hi:i < n
 · rw [Qb (by simpa using hi),Ao,if_pos hi]at h2
   cases h2
 · rw [Qe (by simpa using hi)]at h2
   rw [Qe (by omega)]at h1
   rw [Ij,zK]at h2;rw [hn,zK]at h1;cases e:fr[i - n]? with
   |none=>rw [e]at h1;cases h1
   |some p=>
    rw [e]at h1 h2;refine⟨p,Ik e,zV h1,?_⟩;have h3:(σ[p.2]?).join=some v:=zV h2;cases q:σ[p.2]? with
    |none=>rw [q]at h3;cases h3
    |some z=>rw [q]at h3;exact congrArg some h3
end
open AutoSeq1 (wpAny_loadPart')
section
variable {prog:Program} {w:World} {A:Around} {E:Value->Shared->Prop} {s:Shared}
theorem FR {it t:Addr}{i:Nat}{its:Array Value}{x:Value}{Q:Value->Shared->Prop}(hit:s.heap.IsTupleIter it t i)(ht:s.heap.IsTuple t its)(hx:its[i]? =some x)
 (k:∀h',h'.IsTupleIter it t (i+1)->Heap.SameBut it s.heap h'->Q x {s with heap:=h'}):wpAny (model prog w) A (Builtin.SmallTypes.nextOf (.ref it)) Q E s:=by
 have ty:=hit.typeIs;obtain⟨ob,eo,ec,ed⟩:=hit;obtain⟨ot,et,_,n,edt⟩:=ht;unfold Builtin.SmallTypes.nextOf;refine wB (wpAny_callSpecial?_slot (name:=Str.ofString "__next__") ty F.slot_tuple_iterator_next (wpAny_call_entry F.slot_tuple_iterator_next ty F.entry_tuple_iterator_next ?_ (F.args_tuple_iterator_next_1 _)));show wpAny _ _ (field (.ref it) 0 >>=_) _ _ s;refine wB (wpAny_field eo ed (x:=.ref t) rfl ?_);show wpAny _ _ (if(Value.ref t==Value.none)=true then _ else _) _ _ s;rw [if_neg (show ¬((Value.ref t==Value.none)=true)from Q8)]
 show wpAny _ _ (field (.ref it) 1 >>=_) _ _ s;refine wB (wpAny_field eo ed (x:=.int i 0) rfl ?_);show wpAny _ _ (seqItems? (.ref t) >>=_) _ _ s;refine wB (wpAny_seqItems et edt ?_);simp only [yG,hx];refine wB (wpAny_setField eo ed (by simp) (wP ⟨x,rfl,wP (k _ ⟨_,K5 _ eo (Obj.isFreed_of_fields (Obj.data_mapFields ed _)),(Obj.cls_mapFields ..).trans ec,?_⟩ (Heap.SameBut.update ..))⟩))
 rw [Obj.data_mapFields ed];simp [rawInt]
theorem JJ {it t:Addr}{i:Nat}{its:Array Value}{Q:Value->Shared->Prop}(hh:A.handled=none)(hit:s.heap.IsTupleIter it t i)(ht:s.heap.IsTuple t its)(hx:its[i]? =none)
 (k:∀h' e,Heap.ExtBut it s.heap h'->(∃o,h'.get? e=some o/\o.cls=.type "StopIteration")->E (.ref e) {s with heap:=h'}):wpAny (model prog w) A (Builtin.SmallTypes.nextOf (.ref it)) Q E s:=by
 have ty:=hit.typeIs;obtain⟨ob,eo,ec,ed⟩:=hit;obtain⟨ot,et,_,n,edt⟩:=ht;unfold Builtin.SmallTypes.nextOf;refine wB (wpAny_callSpecial?_slot (name:=Str.ofString "__next__") ty F.slot_tuple_iterator_next (wpAny_call_entry F.slot_tuple_iterator_next ty F.entry_tuple_iterator_next ?_ (F.args_tuple_iterator_next_1 _)));show wpAny _ _ (field (.ref it) 0 >>=_) _ _ s;refine wB (wpAny_field eo ed (x:=.ref t) rfl ?_);show wpAny _ _ (if(Value.ref t==Value.none)=true then _ else _) _ _ s;rw [if_neg (show ¬((Value.ref t==Value.none)=true)from Q8)]
 show wpAny _ _ (field (.ref it) 1 >>=_) _ _ s;refine wB (wpAny_field eo ed (x:=.int i 0) rfl ?_);show wpAny _ _ (seqItems? (.ref t) >>=_) _ _ s;refine wB (wpAny_seqItems et edt ?_);simp only [yG,hx];refine wB (wpAny_rule (wB (wpAny_setField eo ed (by simp) ?_)))
 show wpAny _ _ (newExc (.type "StopIteration") [] >>=_) _ _ _;refine wB ?_;simp only [newExc,newTuple];refine wB (wpAny_newObj_type ?_ (by size_fits))
 refine wB (m:=firstArgMember _ _) (wpAny_of_eq (a:=Value.none) (by first|rfl|(simp only [firstArgMember];rfl)) ?_)
 refine wpAny_newObj_type ?_ (by size_fits)
 simp only [raiseNew];refine wB (wpAny_handled ?_)
 first|rw [show A.in1.handled=none from hh]|rw [hh]
 exact wB (wP (wpAny_throw (k _ _ (((Heap.SameBut.update ..).extBut.push _).push _) ⟨_,jS _ rfl,rfl⟩)))
end
theorem OO {prog:Program}{w:World}{A:Around}(hh:A.handled=none)(it t:Addr)(ne:t≠it)(its:Array Value):
 Draws prog w A it [it,t] its.size (λi v=>its[i]? =some v) (λi h=>h.IsTupleIter it t i/\h.IsTuple t its) where
 live:=λ_ _ st=>by obtain⟨⟨o,e,_⟩,_⟩:=st;exact⟨o,e⟩
 frame:=λ_ _ _ st k=>⟨st.1.at λo e=>k it (by simp) o e,st.2.at λo e=>k t (by simp) o e⟩
 item:=λi s Q E hi st k=>FR st.1 st.2 (x:=its[i]) (by simp [hi]) λh' a b=>k _ h' s.toks (by simp [hi]) ⟨a,st.2.extBut b.extBut ne⟩ b
 done:=λs Q E st k=>JJ hh st.1 st.2 (by simp) k
theorem JK(l:Addr)(its:Array Value)(n:Nat)(dct:Option Addr)(sl:Array (Option Value)):
 Meets (Builtin.«enumerate.__new__» ⟨[.type "enumerate",.ref l],[]⟩) (λ_ R s=>s.heap.get? l=some {cls:=.type "tuple",dict:=dct,data:=.seq its n,slots:=sl}/\
  R (.ok (.ret (.ref (s.heap.push {cls:=.type "tuple_iterator",data:=.fields #[.ref l,.int 0 0]}).objs.size)))
   {s with heap:=(s.heap.push {cls:=.type "tuple_iterator",data:=.fields #[.ref l,.int 0 0]}).push {cls:=.type "enumerate",data:=.fields #[.none,.bool false,.ref s.heap.objs.size,rawInt 0,.none,.none]}}):=
 .of_wp λprog w A R s h=>by
  obtain⟨hp,g,d,tk,os⟩:=s;obtain⟨hl,h⟩:=h;have hsub:=sub_enumerate;have hT:Heap.IsTuple (Shared.heap ⟨hp,g,d,tk,os⟩) l its:=⟨_,hl,rfl,n,rfl⟩
  wp_walk using wpAny_loadPart' hl
  refine wpAny_stack_any λst=>wP ?_;split
  · rename_i c _ _ _ _ _;cases(c==Value.type "enumerate")<;>(wp_walk using wpAny_loadPart' hl,wpAny_pyIter_tuple hT;exact⟨_,rfl,h⟩)
  · wp_walk using wpAny_loadPart' hl,wpAny_pyIter_tuple hT
    exact⟨_,rfl,h⟩
section
variable {prog:Program} {w:World} {A:Around} {E:Value->Shared->Prop} {s:Shared}
theorem FS {l:Addr}{its:Array Value}{Q:Value->Shared->Prop}(hL:s.heap.IsTuple l its)
 (k:∀h',IsEnum h' (s.heap.objs.size+1) s.heap.objs.size 0 .none->h'.IsTupleIter s.heap.objs.size l 0->h'.objs.size=s.heap.objs.size+2->(∀b o,s.heap.get? b=some o->h'.get? b=some o)->Q (.ref (s.heap.objs.size+1)) {s with heap:=h'}):
 wpAny (model prog w) A (call (.type "enumerate") [.ref l]) Q E s:=by
 obtain⟨⟨c,dct,dt,sl⟩,hl,hc,n,hd⟩:=hL;have hc':c=.type "tuple":=hc;have hd':dt=.seq its n:=hd;subst hc' hd';refine callType_new F.called_enumerate (by decide) (F.typeCall_enumerate_1 _) (F.newCall_enumerate_1 _) (λobj=>F.args_object_init_2 obj _) F.entry_enumerate_new (JK l its n dct sl) ⟨hl,?_⟩
 generalize hg:s.heap.push {cls:=.type "tuple_iterator",data:=.fields #[.ref l,.int 0 0]}=g1;have z1:g1.objs.size=s.heap.objs.size+1:=by rw [<-hg];exact CF ..
 have he:IsEnum (g1.push {cls:=.type "enumerate",data:=.fields #[.none,.bool false,.ref s.heap.objs.size,rawInt 0,.none,.none]}) (s.heap.objs.size+1) s.heap.objs.size 0 .none:=by
  rw [<-z1];exact jS _ rfl
 show _/\_;rw [z1];refine⟨⟨_,he,rfl⟩,k _ he ⟨_,gH _ (by rw [<-hg];exact jS _ rfl),rfl,rfl⟩ (by rw [CF,z1]) λb o x=>gH _ (by rw [<-hg];exact gH _ x)⟩
end
open AutoSeq1 (wpAny_loadPart')
structure ZA (z TI TO i1 i2:Addr) (f1 f2:List Addr):Prop where
 a1:TI≠z
 a2:TO≠z
 a3:i1≠z
 a4:i2≠z
 a5:TO≠i1
 a6:TO≠i2
 b1:z ∉ f1
 b2:z ∉ f2
 b3:TO ∉ f1
 b4:TO ∉ f2
 b5:i2 ∉ f1
 b6:i1 ∉ f2
section
variable {prog:Program} {w:World} {A:Around} {E:Value->Shared->Prop} {s:Shared}
theorem yW {T:Addr}{a b x:Value}{k:Nat}{Q:Unit->Shared->Prop}(hT:IsPair s.heap T a b)
 (h:∀h',h'.get? T=some {cls:=.type "tuple",data:=.seq ((#[a,b]:Array Value).setIfInBounds k x)}->Heap.SameBut T s.heap h'->Q () {s with heap:=h'}):wpAny (model prog w) A (updateSeq T (·.setIfInBounds k x)) Q E s:=wpAny_updateSeq_pair hT h
variable {z TI TO i1 i2:Addr} {f1 f2:List Addr} {n1 n2 k:Nat} {P1 P2:Nat->Value->Prop} {S1 S2:Nat->Heap->Prop} {a b:Value}
theorem D3 {Q:Value->Shared->Prop}(D1:Draws prog w A i1 f1 n1 P1 S1)(D2:Draws prog w A i2 f2 n2 P2 S2)(ap:ZA z TI TO i1 i2 f1 f2)
 (hz:IsZip s.heap z TI TO .none) (hTI:IsPair s.heap TI (.ref i1) (.ref i2)) (hTO:IsPair s.heap TO a b) (h1:S1 k s.heap) (h2:S2 k s.heap) (l1:k < n1) (l2:k < n2)
 (K : ∀ x y h' tk, P1 k x -> P2 k y -> IsZip h' z TI TO (rawInt s.heap.objs.size) -> IsPair h' TO x y -> S1 (k + 1) h' -> S2 (k + 1) h' -> IsPair h' s.heap.objs.size x y -> h'.objs.size = s.heap.objs.size + 1 ->
  (∀c o,c≠z->c≠TO->c≠i1->c≠i2->s.heap.get? c=some o->h'.get? c=some o)->Q (.ref s.heap.objs.size) {s with heap:=h',toks:=tk}):
 wpAny (model prog w) A (Builtin.«zip.__next__» ⟨[.ref z],[]⟩) (λfin s'=>∃v,fin=.done (.ret v)/\Q v s') E s:=by
 obtain⟨hp,g,d,tk0,os⟩:=s;obtain⟨o1,e1⟩:=D1.live _ _ h1;obtain⟨o2,e2⟩:=D2.live _ _ h2;show wpAny _ _ (field (.ref z) 2 >>=_) _ _ _;refine wB (wpAny_field hz rfl (x:=.bool false) rfl ?_);show wpAny _ _ (field (.ref z) 3 >>=_) _ _ _;refine wB (wpAny_field hz rfl (x:=.ref TI) rfl ?_);refine wB (wpAny_seqItems hTI rfl ?_);show wpAny _ _ (Builtin.SmallTypes.ownedTupleIsFree (.ref z) >>=_) _ _ _;refine wB ?_;unfold Builtin.SmallTypes.ownedTupleIsFree;refine wB (wpAny_field hz rfl (x:=.none) rfl (wP ?_));simp only [if_true];refine wB (wpAny_rule ?_);refine wB (wpAny_field hz rfl (x:=.ref TO) rfl ?_);refine wB (wpAny_setField_rec hz (by simp) λg1 z1 c1=>?_)
 have z1:IsZip g1 z TI TO .ellipsis:=z1;have c1:Heap.SameBut z hp g1:=c1;refine wB ?_;simp only [List.zipIdx_cons,List.zipIdx_nil,List.forIn_cons,List.forIn_nil];refine wB (wB (wpAny_onRaise ?_));show wpAny _ _ (Builtin.SmallTypes.nextOf (.ref i1) >>=_) _ _ _;refine wB (D1.item k _ _ _ l1 (D1.frame _ _ _ h1 λq hq o e=>(c1.2 q λy=>ap.b1 (y▸hq)).trans e) λx g2 t2 px s2 c2=>wP ?_);have c2:Heap.SameBut i1 g1 g2:=c2;have p2:IsPair g2 TO a b:=(c2.2 _ ap.a5).trans ((c1.2 _ ap.a2).trans hTO);refine wB (wpAny_seqItems p2 rfl ?_);refine wB (yW p2 λg3 p3 c3=>?_);have p3:IsPair g3 TO x b:=p3;have c3:Heap.SameBut TO g2 g3:=c3;refine wB (wpAny_letGo (wP ?_));refine wB (wB (wpAny_onRaise ?_));show wpAny _ _ (Builtin.SmallTypes.nextOf (.ref i2) >>=_) _ _ _;have m2:S2 k g3:=D2.frame _ _ _ h2 λq hq o e=>(c3.2 q λy=>ap.b4 (y▸hq)).trans ((c2.2 q λy=>ap.b6 (y▸hq)).trans ((c1.2 q λy=>ap.b2 (y▸hq)).trans e));refine wB (D2.item k _ _ _ l2 m2 λy g4 t4 py s4 c4=>wP ?_);have c4:Heap.SameBut i2 g3 g4:=c4;have p4:IsPair g4 TO x b:=(c4.2 _ ap.a6).trans p3;refine wB (wpAny_seqItems p4 rfl ?_);refine wB (yW p4 λg5 p5 c5=>?_);have p5:IsPair g5 TO x y:=p5;have c5:Heap.SameBut TO g4 g5:=c5;refine wB (wpAny_letGo (wP (wP ?_)));refine wB (wpAny_seqItems p5 rfl ?_);refine wB (wpAny_newTuple ?_);have zz:g5.objs.size=hp.objs.size:=by rw [c5.1,c4.1,c3.1,c2.1,c1.1]
 have z5:IsZip g5 z TI TO .ellipsis:=(c5.2 _ ap.a2.symm).trans ((c4.2 _ ap.a4.symm).trans ((c3.2 _ ap.a2.symm).trans ((c2.2 _ ap.a3.symm).trans z1)));have k5:∀c o,c≠z->c≠TO->c≠i1->c≠i2->hp.get? c=some o->g5.get? c=some o:=λc o n1 n2 n3 n4 e=>(c5.2 _ n2).trans ((c4.2 _ n4).trans ((c3.2 _ n2).trans ((c2.2 _ n3).trans ((c1.2 _ n1).trans e))));have w1:S1 (k+1) g5:=D1.frame _ _ _ s2 λq hq o e=>(c5.2 q λy=>ap.b3 (y▸hq)).trans ((c4.2 q λy=>ap.b5 (y▸hq)).trans ((c3.2 q λy=>ap.b3 (y▸hq)).trans e));have w2:S2 (k+1) g5:=D2.frame _ _ _ s4 λq hq o e=>(c5.2 q λy=>ap.b4 (y▸hq)).trans e;have zl:z < g5.objs.size:=fS z5;show wpAny _ _ (Builtin.SmallTypes.ownedTupleHandOut (.ref z) (.ref g5.objs.size) >>=_) _ _ _;refine wB ?_;unfold Builtin.SmallTypes.ownedTupleHandOut;have z6:IsZip (g5.push {cls:=.type "tuple",data:=.seq #[x,y]}) z TI TO .ellipsis:=gH _ z5;refine wB (wpAny_setField_rec z6 (by simp) λg7 z7 c7=>?_)
 have z7:IsZip g7 z TI TO (rawInt g5.objs.size):=z7;have c7:Heap.SameBut z (g5.push {cls:=.type "tuple",data:=.seq #[x,y]}) g7:=c7;refine wpAny_setField_rec z7 (by simp) λg8 z8 c8=>?_
 have z8:IsZip g8 z TI TO (rawInt g5.objs.size):=z8;have c8:Heap.SameBut z g7 g8:=c8;have up:∀c o,c≠z->g5.get? c=some o->g8.get? c=some o:=λc o n e=>(c8.2 _ n).trans ((c7.2 _ n).trans (gH _ e));have t8:IsPair g8 g5.objs.size x y:=(c8.2 _ (vV zl)).trans ((c7.2 _ (vV zl)).trans (jS _ rfl));have l8:g8.objs.size=g5.objs.size+1:=by rw [c8.1,c7.1,CF]
 rw [zz]at z8 t8 l8;refine wP ⟨_,rfl,?_⟩;show Q (.ref g5.objs.size) _;rw [zz];exact K x y g8 _ px py z8 (up _ _ ap.a2 p5) (D1.frame _ _ _ w1 λq hq o e=>up q o (λy=>ap.b1 (y▸hq)) e) (D2.frame _ _ _ w2 λq hq o e=>up q o (λy=>ap.b2 (y▸hq)) e) t8 l8 λc o n1 n2 n3 n4 e=>up c o n1 (k5 c o n1 n2 n3 n4 e)
theorem FT {Q:Fin->Shared->Prop}(D1:Draws prog w A i1 f1 n1 P1 S1)(ap:ZA z TI TO i1 i2 f1 f2)
 (hz:IsZip s.heap z TI TO .none) (hTI:IsPair s.heap TI (.ref i1) (.ref i2)) (hTO:IsPair s.heap TO a b) (h1:S1 n1 s.heap)
 (K:∀h' e,(∀c o,c≠z->c≠i1->s.heap.get? c=some o->h'.get? c=some o)->(∃o,h'.get? e=some o/\o.cls=.type "StopIteration")->E (.ref e) {s with heap:=h'}):
 wpAny (model prog w) A (Builtin.«zip.__next__» ⟨[.ref z],[]⟩) Q E s:=by
 show wpAny _ _ (field (.ref z) 2 >>=_) _ _ _;refine wB (wpAny_field hz rfl (x:=.bool false) rfl ?_);show wpAny _ _ (field (.ref z) 3 >>=_) _ _ _;refine wB (wpAny_field hz rfl (x:=.ref TI) rfl ?_);refine wB (wpAny_seqItems hTI rfl ?_);show wpAny _ _ (Builtin.SmallTypes.ownedTupleIsFree (.ref z) >>=_) _ _ _;refine wB ?_;unfold Builtin.SmallTypes.ownedTupleIsFree;refine wB (wpAny_field hz rfl (x:=.none) rfl (wP ?_));simp only [if_true];refine wB (wpAny_rule ?_);refine wB (wpAny_field hz rfl (x:=.ref TO) rfl ?_);refine wB (wpAny_setField_rec hz (by simp) λg1 z1 c1=>?_)
 have z1:IsZip g1 z TI TO .ellipsis:=z1;have c1:Heap.SameBut z s.heap g1:=c1;refine wB ?_;simp only [List.zipIdx_cons,List.zipIdx_nil,List.forIn_cons,List.forIn_nil];refine wB (wB (wpAny_onRaise ?_));show wpAny _ _ (Builtin.SmallTypes.nextOf (.ref i1) >>=_) _ _ _;refine wB (D1.done _ _ _ (D1.frame _ _ _ h1 λq hq o e=>(c1.2 q λy=>ap.b1 (y▸hq)).trans e) λg2 e c2 st=>?_);have c2:Heap.ExtBut i1 g1 g2:=c2;obtain⟨oe,ho,hc⟩:=st;have z2:IsZip g2 z TI TO .ellipsis:=c2 _ _ ap.a3.symm z1;have ne:e≠z:=λy=>by
  subst y;have:g2.get? e=some oe:=ho;rw [z2]at this;cases this;simp at hc
 refine wpAny_setField_rec z2 (by simp) λg3 _ c3=>?_
 have c3:Heap.SameBut z g2 g3:=c3;exact K g3 e (λc o n1 n2 y=>(c3.2 _ n1).trans (c2 _ _ n2 ((c1.2 _ n1).trans y))) ⟨oe,(c3.2 _ ne).trans ho,hc⟩
theorem BH {Q:Option Value->Shared->Prop}(D1:Draws prog w A.in1 i1 f1 n1 P1 S1)(D2:Draws prog w A.in1 i2 f2 n2 P2 S2)(ap:ZA z TI TO i1 i2 f1 f2)
 (hz:IsZip s.heap z TI TO .none) (hTI:IsPair s.heap TI (.ref i1) (.ref i2)) (hTO:IsPair s.heap TO a b) (h1:S1 k s.heap) (h2:S2 k s.heap) (l1:k < n1) (l2:k < n2)
 (K : ∀ x y h' tk, P1 k x -> P2 k y -> IsZip h' z TI TO (rawInt s.heap.objs.size) -> IsPair h' TO x y -> S1 (k + 1) h' -> S2 (k + 1) h' -> IsPair h' s.heap.objs.size x y -> h'.objs.size = s.heap.objs.size + 1 ->
  (∀c o,c≠z->c≠TO->c≠i1->c≠i2->s.heap.get? c=some o->h'.get? c=some o)->Q (some (.ref s.heap.objs.size)) {s with heap:=h',toks:=tk}):
 wpAny (model prog w) A (pyNext (.ref z)) Q E s:=by
 have ty:s.TypeIs (.ref z) "zip":=⟨_,hz,rfl⟩;unfold pyNext;exact wB (wpAny_attempt (wpAny_callSpecial?_slot (name:=Str.ofString "__next__") ty F.slot_zip_next (wpAny_call_entry F.slot_zip_next ty F.entry_zip_next
  (D3 D1 D2 ap hz hTI hTO h1 h2 l1 l2 λx y h' tk q1 q2 q3 q4 q5 q6 q7 q8 q9=>wP (K x y h' tk q1 q2 q3 q4 q5 q6 q7 q8 q9)) (F.args_zip_next_1 _))))
theorem D4 {Q:Option Value->Shared->Prop}(D1:Draws prog w A.in1 i1 f1 n1 P1 S1)(ap:ZA z TI TO i1 i2 f1 f2)
 (hz:IsZip s.heap z TI TO .none) (hTI:IsPair s.heap TI (.ref i1) (.ref i2)) (hTO:IsPair s.heap TO a b) (h1:S1 n1 s.heap)
 (K:∀h',(∀c o,c≠z->c≠i1->s.heap.get? c=some o->h'.get? c=some o)->Q none {s with heap:=h'}):wpAny (model prog w) A (pyNext (.ref z)) Q E s:=by
 have ty:s.TypeIs (.ref z) "zip":=⟨_,hz,rfl⟩;unfold pyNext;refine wB (wpAny_attempt (wpAny_callSpecial?_slot (name:=Str.ofString "__next__") ty F.slot_zip_next (wpAny_call_entry F.slot_zip_next ty F.entry_zip_next (FT D1 ap hz hTI hTO h1 λh' e q st=>?_) (F.args_zip_next_1 _))));obtain⟨o,ho,hc⟩:=st;exact wB (wpAny_isInstance (T:="StopIteration") (b:=true) ⟨o,ho,hc⟩ isSubtype_stop (wP (K _ q)))
end
theorem FU(l1 l2:Addr)(xs ys:Array Value):
 Meets (Builtin.«zip.__new__» ⟨[.type "zip",.ref l1,.ref l2],[]⟩) (λ_ R s=>s.heap.IsTuple l1 xs/\s.heap.IsTuple l2 ys/\
  ∀g1 g2 g3 g4 g5,g1=s.heap.push {cls:=.type "tuple_iterator",data:=.fields #[.ref l1,.int 0 0]}->g2=g1.push {cls:=.type "tuple_iterator",data:=.fields #[.ref l2,.int 0 0]}->
   g3=g2.push {cls:=.type "tuple",data:=.seq #[.ref s.heap.objs.size,.ref g1.objs.size]}->g4=g3.push {cls:=.type "tuple",data:=.seq #[.none,.none]}->
   g5=g4.push {cls:=.type "zip",data:=.fields #[.none,.bool false,.bool false,.ref g2.objs.size,.ref g3.objs.size]}->R (.ok (.ret (.ref g4.objs.size))) {s with heap:=g5}):=
 .of_wp λprog w A R s h=>by
  obtain⟨hp,g,d,tk,os⟩:=s;obtain⟨h1,h2,h⟩:=h;have hsub:=sub_zip;have m1:Heap.IsTuple (Shared.heap ⟨hp,g,d,tk,os⟩) l1 xs:=h1;have m2:Heap.IsTuple (Shared.heap ⟨hp.push {cls:=.type "tuple_iterator",data:=.fields #[.ref l1,.int 0 0]},g,d,tk,os⟩) l2 ys:=Heap.IsTuple.push h2 _
  wp_walk using wpAny_pyIter_tuple m1,wpAny_pyIter_tuple m2
  exact⟨_,rfl,h _ _ _ _ _ rfl rfl rfl rfl rfl⟩
section
variable {prog:Program} {w:World} {A:Around} {E:Value->Shared->Prop} {s:Shared}
theorem D5 {l1 l2:Addr}{xs ys:Array Value}{Q:Value->Shared->Prop}(h1:s.heap.IsTuple l1 xs)(h2:s.heap.IsTuple l2 ys)
 (k : ∀ h', IsZip h' (s.heap.objs.size + 4) (s.heap.objs.size + 2) (s.heap.objs.size + 3) .none -> IsPair h' (s.heap.objs.size + 2) (.ref s.heap.objs.size) (.ref (s.heap.objs.size + 1)) -> IsPair h' (s.heap.objs.size + 3) .none .none ->
  h'.IsTupleIter s.heap.objs.size l1 0->h'.IsTupleIter (s.heap.objs.size+1) l2 0->h'.objs.size=s.heap.objs.size+5->(∀c o,s.heap.get? c=some o->h'.get? c=some o)->Q (.ref (s.heap.objs.size+4)) {s with heap:=h'}):
 wpAny (model prog w) A (call (.type "zip") [.ref l1,.ref l2]) Q E s:=by
 refine callType_new F.called_zip (by decide) (F.typeCall_zip_2 _ _) (F.newCall_zip_2 _ _) (λobj=>F.args_object_init_3 obj _ _) F.entry_zip_new (FU l1 l2 xs ys) ⟨h1,h2,?_⟩
 intro g1 g2 g3 g4 g5 e1 e2 e3 e4 e5;have z1:g1.objs.size=s.heap.objs.size+1:=by rw [e1];exact CF ..
 have z2:g2.objs.size=s.heap.objs.size+2:=by rw [e2,CF,z1]
 have z3:g3.objs.size=s.heap.objs.size+3:=by rw [e3,CF,z2]
 have z4:g4.objs.size=s.heap.objs.size+4:=by rw [e4,CF,z3]
 have z5:g5.objs.size=s.heap.objs.size+5:=by rw [e5,CF,z4]
 have u2:∀{c o},g1.get? c=some o->g2.get? c=some o:=λe=>by rw [e2];exact gH _ e
 have u3:∀{c o},g2.get? c=some o->g3.get? c=some o:=λe=>by rw [e3];exact gH _ e
 have u4:∀{c o},g3.get? c=some o->g4.get? c=some o:=λe=>by rw [e4];exact gH _ e
 have u5:∀{c o},g4.get? c=some o->g5.get? c=some o:=λe=>by rw [e5];exact gH _ e
 have q5:IsZip g5 (s.heap.objs.size+4) (s.heap.objs.size+2) (s.heap.objs.size+3) .none:=by rw [<-z4, <-z3, <-z2,e5];exact jS _ rfl
 have q4:IsPair g5 (s.heap.objs.size+3) .none .none:=by rw [<-z3];exact u5 (by rw [e4];exact jS _ rfl)
 have q3:IsPair g5 (s.heap.objs.size+2) (.ref s.heap.objs.size) (.ref (s.heap.objs.size+1)):=by rw [<-z2, <-z1];exact u5 (u4 (by rw [e3];exact jS _ rfl))
 have q2:g5.IsTupleIter (s.heap.objs.size+1) l2 0:=⟨_,by rw [<-z1];exact u5 (u4 (u3 (by rw [e2];exact jS _ rfl))),rfl,rfl⟩
 have q1:g5.IsTupleIter s.heap.objs.size l1 0:=⟨_,u5 (u4 (u3 (u2 (by rw [e1];exact jS _ rfl)))),rfl,rfl⟩
 rw [z4];exact⟨⟨_,q5,rfl⟩,k _ q5 q3 q4 q1 q2 z5 λc o x=>u5 (u4 (u3 (u2 (by rw [e1];exact gH _ x))))⟩
end
section
variable {X:Cx} {pins:List (Addr×Obj)} {σ:St} {H:Hp} {s:Shared}
theorem Inv.turnedN {ch:List Addr}{h':Heap}{t':Nat}{p:Addr}{o:HO}(I:Inv X pins σ H s)(hf:∀b∈ch,mP X pins H b)(k:∀b u,b ∉ ch->s.heap.get? b=some u->h'.get? b=some u)
 (hp:s.heap.objs.size<=p) (new:ObjOk X.prog X.w (bv H p o) h' p o):Inv X pins σ (bv H p o) {s with heap:=h',toks:=t'}:=by
 have hn:H p=none:=I.hok.fresh hp;have nit:∀b u,H b=some u->b ∉ ch:=λb u e z=>by rw [(hf b z).1]at e;cases e
 have old:∀b u,s.heap.get? b=some u->b≠p:=λb u e=>lO (lx (fS e) hp);refine I.step (g':=s.gens) (d':=s.drawn) (ch:=ch) (λb hb=>⟨(hf b hb).2.2.2.1,(hf b hb).2.1,(hf b hb).2.2.2.2.1,(hf b hb).2.2.2.2.2⟩) (λb o _ _ hc e _=>k b o hc e) (λb o _ _ hc e _=>⟨o.slots,k b o hc e⟩)
  (λb u _ e n=>by rw [aN (old b u e)];exact n) (λb o hc e=>⟨o,k b o hc e⟩) (λb xs e=>by rw [aN (aQ e hn)];exact e) (λb u xs e=>by rw [aN (aQ e hn)];exact e)
  (λb ps e=>⟨#[],by rw [aN (aQ e hn),e];simp⟩) (λm hm=>?_) (λb u e=>?_) I.bare
 · obtain⟨ob,es,ep,ho,r⟩:=hm;exact⟨ob,es,ep,k _ ob (λz=>(hf _ z).2.1 rfl) ho,r⟩
 · by_cases hb:b=p
   · subst hb;rw [aS]at e;cases e;exact new
   · rw [aN hb]at e;refine(I.hok b u e).stay (λc v hc q=>k c v ?_ q) (λc q=>by rw [aN (aQ q hn)];exact q) (λc xs q=>by rw [aN (aQ q hn)];exact q) λc ob xs q=>by rw [aN (aQ q hn)];exact q
     rcases hc with z|z
     · rw [z];exact nit b u e
     · exact nit c _ z
theorem Inv.turned0 {ch:List Addr}{h':Heap}{t':Nat}(I:Inv X pins σ H s)(hf:∀b∈ch,mP X pins H b)(k:∀b u,b ∉ ch->s.heap.get? b=some u->h'.get? b=some u):Inv X pins σ H {s with heap:=h',toks:=t'}:=by
 have nit:∀b u,H b=some u->b ∉ ch:=λb u e z=>by rw [(hf b z).1]at e;cases e
 refine I.step (g':=s.gens) (d':=s.drawn) (ch:=ch) (λb hb=>⟨(hf b hb).2.2.2.1,(hf b hb).2.1,(hf b hb).2.2.2.2.1,(hf b hb).2.2.2.2.2⟩) (λb o _ _ hc e _=>k b o hc e) (λb o _ _ hc e _=>⟨o.slots,k b o hc e⟩)
  (λ_ _ _ _ n=>n) (λb o hc e=>⟨o,k b o hc e⟩) (λ_ _ e=>e) (λ_ _ _ e=>e) (λb ps e=>⟨#[],by rw [e];simp⟩) (λm hm=>?_) (λb u e=>?_) I.bare
 · obtain⟨ob,es,ep,ho,r⟩:=hm;exact⟨ob,es,ep,k _ ob (λz=>(hf _ z).2.1 rfl) ho,r⟩
 · refine(I.hok b u e).stay (λc v hc q=>k c v ?_ q) (λ_ q=>q) (λ_ _ q=>q) λ_ _ _ q=>q
   rcases hc with z|z
   · rw [z];exact nit b u e
   · exact nit c _ z
end
structure Src (P:Program) (w:World) (K:Fg) (a it:Addr) (S:Hp->List V->Prop) (IT:Nat->Heap->Prop):Prop where
 inj:∀(X:Cx),X.K=K->∀(pins:List (Addr×Obj)) (σ:St) (H:Hp) (s:Shared) (xs ys:List V),Inv X pins σ H s->S H xs->S H ys->xs=ys
 at_:∀i h h',IT i h->(∀o,h.get? it=some o->h'.get? it=some o)->IT i h'
 ob:∀i h,IT i h->∃o n,h.get? it=some o/\o.cls=.type n/\n≠ "list"/\n≠ "tuple"/\n≠ "enumerate"/\n≠ "zip"/\∀v,o.data≠ .cell v
 dr:∀(X:Cx),X.prog=P->X.w=w->X.K=K->∀(pins:List (Addr×Obj)) (σ:St) (H:Hp) (s:Shared) (xs:List V),Inv X pins σ H s->S H xs->∃(its:List Value) (SA:Heap->Prop),Vals xs its/\SA s.heap/\
  (∃o n,s.heap.get? a=some o/\o.cls=.type n/\(n="list"\/n="tuple"))/\∀A:Around,A.handled=none->a≠it->Draws P w A it [it,a] its.toArray.size (λi v=>its.toArray[i]? =some v) λi h=>IT i h/\SA h
theorem L6 {P:Program}{w:World}{K:Fg}(a it:Addr):Src P w K a it (λH xs=>SqT K H a xs) (λi h=>h.IsTupleIter it a i) where
 inj:=λX hK pins σ H s xs ys I h1 h2=>by subst hK;exact I.tuple_inj h1 h2
 at_:=λi h h' x e=>x.at e
 ob:=λi h x=>by obtain⟨o,e,c,d⟩:=x;exact⟨o,_,e,c,by decide,by decide,by decide,by decide,λv z=>by rw [d]at z;cases z⟩
 dr:=λX hP hw hK pins σ H s xs I h=>by
  subst hP hw hK;obtain⟨its,rv,p,hz⟩:=I.tuple h;refine⟨its,λh=>h.IsTuple a its.toArray,rv,p,?_,λA hh ne=>OO hh it a ne its.toArray⟩;obtain⟨o,e,c,_⟩:=p;exact⟨o,_,e,c,.inr rfl⟩
theorem Nq {P:Program}{w:World}{K:Fg}(a it:Addr):Src P w K a it (λH xs=>SqL K H a xs) (λi h=>h.IsListIter it a i) where
 inj:=λX hK pins σ H s xs ys I h1 h2=>by subst hK;exact I.list_inj h1 h2
 at_:=λi h h' x e=>x.at e
 ob:=λi h x=>by obtain⟨o,e,c,d⟩:=x;exact⟨o,_,e,c,by decide,by decide,by decide,by decide,λv z=>by rw [d]at z;cases z⟩
 dr:=λX hP hw hK pins σ H s xs I h=>by
  subst hP hw hK;obtain⟨its,rv,p,hz⟩:=I.list h;refine⟨its,λh=>h.IsList a its.toArray,rv,p.isList,?_,λA hh ne=>Draws.list hh it a ne its.toArray⟩;obtain⟨o,e,c,_⟩:=p.isList;exact⟨o,_,e,c,.inl rfl⟩
theorem bh {h:Heap}{a b:Addr}{o u:Obj}{n m:String}(e:h.get? a=some o)(c:o.cls=.type n)(e':h.get? b=some u)(c':u.cls=.type m)(d:n≠m):a≠b:=λz=>by
 subst z;rw [e]at e';cases e';rw [c]at c';exact d (by injection c')
def N5(S:Hp->List V->Prop):It:=
 ⟨λi H=>∃xs x,S H xs/\xs[i]? =some x,λi H x H'=>∃p v,H p=none/\x=.ref p/\H'=bv H p (.tup [.int (i:Nat),v])/\∀xs,S H xs->xs[i]? =some v,λi H=>∃xs,S H xs/\xs.length=i⟩
theorem ve {P:Program}{w:World}{K:Fg}{es:List Expr}{k1:Nat}{tp:Pos}{a e it:Addr}{S:Hp->List V->Prop}{IT:Nat->Heap->Prop}(R:Src P w K a it S IT):
 Turn P w K (.Tuple es k1 tp) (N5 S) [e,it] e (λi h=>(∃old,IsEnum h e it (i:Nat) old)/\IT i h) where
 mem:=by simp
 obj:=λi h st b hb=>by
  obtain⟨⟨old,he⟩,hi⟩:=st;have hb':b=e\/b=it:=by simpa using hb
  rcases hb' with z|z
  · subst z;exact⟨_,he,λv z=>by cases z⟩
  · subst z;obtain⟨o,n,q,_,_,_,_,_,d⟩:=R.ob _ _ hi;exact⟨o,q,d⟩
 keep:=λi h h' st k=>by
  obtain⟨⟨old,he⟩,hi⟩:=st;exact⟨⟨old,k e (by simp) _ he⟩,R.at_ _ _ _ hi λo q=>k it (by simp) o q⟩
 item:=by
  intro X hP hw hK hc i pins s σ H E I hf st hg;obtain⟨xs,x,hq,hx⟩:=hg;obtain⟨⟨old,he⟩,hi⟩:=st;obtain⟨its,SA,rv,sa,⟨oa,na,ea,ca,da⟩,dr⟩:=R.dr X hP hw hK pins σ H s xs I hq;obtain⟨oi,ni,ei,ci,d1,d2,d3,_,_⟩:=R.ob _ _ hi;have nai:a≠it:=bh ea ca ei ci (by rcases da with z|z<;>(subst z;first|exact d1.symm|exact d2.symm))
  have nea:e≠a:=bh he rfl ea ca (by rcases da with z|z<;>(subst z;decide))
  have nei:e≠it:=bh he rfl ei ci (Ne.symm d3);obtain⟨u,hu,ru⟩:=rv.get hx;have hh:X.A.in1.handled=none:=I.ok.hd hc;have hlt:i < its.toArray.size:=by have:=(Ec.mp hu).1;simpa using this
  subst hP hw;refine wpAny_pyNext_enum_itemD (dr _ hh nai) he ⟨hi,sa⟩ hlt nei (by simp [nei,nea]) λy h' tk py heo st' ht hsz hk=>?_
  have ey:y=u:=by
   have:its[i]? =some y:=by simpa using py
   rw [hu]at this;exact(zV this).symm
  subst ey;refine⟨_,rfl,wpAny_letOwnedTupleGo_enum heo λh2 he2 c2=>?_⟩;have c2:Heap.SameBut e h' h2:=c2;have el:e < s.heap.objs.size:=fS he;have t2:h2.get? s.heap.objs.size=some {cls:=.type "tuple",data:=.seq #[.int i tk,y]}:=(c2.2 _ (vV el)).trans ht;have I2:Inv X pins σ (bv H s.heap.objs.size (.tup [.int (i:Nat),x])) {s with heap:=h2,toks:=tk+1}:=I.turnedN (ch:=[e,it]) hf (λb o hb q=>by
   have hb':b≠e/\b≠it:=by simpa using hb
   exact(c2.2 _ hb'.1).trans (hk b o hb'.1 hb'.2 q)) (Q1 _) ⟨by show 2<=sizeLine;decide,[.int i tk,y],.cons ⟨tk,rfl⟩ (.cons ru .nil),⟨_,t2,rfl,_,rfl⟩,_,t2,rfl⟩
  have hn:H s.heap.objs.size=none:=I.hok.fresh (Q1 _);refine⟨.ref s.heap.objs.size,_,I2,rfl,⟨_,x,hn,rfl,rfl,λys hy=>by rw [R.inj X hK pins σ H s ys xs I hy hq];exact hx⟩,⟨⟨_,by simpa using he2⟩,R.at_ _ _ _ st'.1 λo q=>(c2.2 _ nei.symm).trans q⟩,λb hb=>?_⟩
  have lb:b < s.heap.objs.size:=by
   have hb':b=e\/b=it:=by simpa using hb
   rcases hb' with z|z
   · rw [z];exact el
   · rw [z];exact fS ei
  rw [aN (lO lb)];exact(hf b hb).1
 done:=by
  intro X hP hw hK hc i pins s σ H E I hf st hg;obtain⟨xs,hq,hx⟩:=hg;obtain⟨⟨old,he⟩,hi⟩:=st;obtain⟨its,SA,rv,sa,⟨oa,na,ea,ca,da⟩,dr⟩:=R.dr X hP hw hK pins σ H s xs I hq;obtain⟨oi,ni,ei,ci,d1,d2,d3,_,_⟩:=R.ob _ _ hi;have nai:a≠it:=bh ea ca ei ci (by rcases da with z|z<;>(subst z;first|exact d1.symm|exact d2.symm))
  have hh:X.A.in1.handled=none:=I.ok.hd hc;subst hP hw;have hl:its.toArray.size=i:=by rw [<-hx,rv.length];simp
  refine wpAny_pyNext_enum_endD (dr _ hh nai) he (by rw [hl];exact⟨hi,sa⟩) λh' eb=>⟨rfl,I.turned0 (t':=s.toks) (ch:=[e,it]) hf λb u hb q=>?_⟩
  have hb':b≠e/\b≠it:=by simpa using hb
  exact eb b u hb'.2 q
 self:=λA i s Q E st h=>by
  obtain⟨⟨old,he⟩,hi⟩:=st;exact wpAny_pyIter_enum he h
def Nr(S1 S2:Hp->List V->Prop):It:=
 ⟨λ i H => ∃ xs ys x y, S1 H xs /\ S2 H ys /\ xs[i]? = some x /\ ys[i]? = some y,
  λi H x H'=>∃p v u,H p=none/\x=.ref p/\H'=bv H p (.tup [v,u])/\(∀xs,S1 H xs->xs[i]? =some v)/\∀ys,S2 H ys->ys[i]? =some u,
  λi H=>∃xs,S1 H xs/\xs.length=i⟩
theorem FV {P:Program}{w:World}{K:Fg}{es:List Expr}{k1:Nat}{tp:Pos}{a1 a2 z TI TO i1 i2:Addr}{S1 S2:Hp->List V->Prop}{IT1 IT2:Nat->Heap->Prop}(R1:Src P w K a1 i1 S1 IT1)(R2:Src P w K a2 i2 S2 IT2)(n12:i1≠i2)(nT:TI≠TO):
 Turn P w K (.Tuple es k1 tp) (Nr S1 S2) [z,TI,TO,i1,i2] z (λi h=>IsZip h z TI TO .none/\IsPair h TI (.ref i1) (.ref i2)/\(∃a b,IsPair h TO a b)/\IT1 i h/\IT2 i h/\a1≠TO/\a2≠TO) where
 mem:=by simp
 obj:=λi h st b hb=>by
  obtain⟨hz,hTI,⟨a,b',hTO⟩,h1,h2,_,_⟩:=st;have hb':b=z\/b=TI\/b=TO\/b=i1\/b=i2:=by simpa using hb
  rcases hb' with q|q|q|q|q
  · subst q;exact⟨_,hz,λv z=>by cases z⟩
  · subst q;exact⟨_,hTI,λv z=>by cases z⟩
  · subst q;exact⟨_,hTO,λv z=>by cases z⟩
  · subst q;obtain⟨o,n,q,_,_,_,_,_,d⟩:=R1.ob _ _ h1;exact⟨o,q,d⟩
  · subst q;obtain⟨o,n,q,_,_,_,_,_,d⟩:=R2.ob _ _ h2;exact⟨o,q,d⟩
 keep:=λi h h' st k=>by
  obtain⟨hz,hTI,⟨a,b',hTO⟩,h1,h2,q1,q2⟩:=st;exact⟨k z (by simp) _ hz,k TI (by simp) _ hTI,⟨a,b',k TO (by simp) _ hTO⟩,R1.at_ _ _ _ h1 λo q=>k i1 (by simp) o q,R2.at_ _ _ _ h2 λo q=>k i2 (by simp) o q,q1,q2⟩
 item:=by
  intro X hP hw hK hc i pins s σ H E I hf st hg;obtain⟨xs,ys,x,y,hq1,hq2,hx,hy⟩:=hg;obtain⟨hz,hTI,⟨a,b',hTO⟩,h1,h2,q1,q2⟩:=st;obtain⟨is1,SA1,rv1,sa1,⟨oa1,na1,ea1,ca1,da1⟩,dr1⟩:=R1.dr X hP hw hK pins σ H s xs I hq1;obtain⟨is2,SA2,rv2,sa2,⟨oa2,na2,ea2,ca2,da2⟩,dr2⟩:=R2.dr X hP hw hK pins σ H s ys I hq2;obtain⟨o1,n1,e1,c1,d11,d12,d13,d14,_⟩:=R1.ob _ _ h1;obtain⟨o2,n2,e2,c2,d21,d22,d23,d24,_⟩:=R2.ob _ _ h2;have s11:a1≠i1:=bh ea1 ca1 e1 c1 (by rcases da1 with z|z<;>(subst z;first|exact d11.symm|exact d12.symm))
  have s22:a2≠i2:=bh ea2 ca2 e2 c2 (by rcases da2 with z|z<;>(subst z;first|exact d21.symm|exact d22.symm))
  have s12:a1≠i2:=bh ea1 ca1 e2 c2 (by rcases da1 with z|z<;>(subst z;first|exact d21.symm|exact d22.symm))
  have s21:a2≠i1:=bh ea2 ca2 e1 c1 (by rcases da2 with z|z<;>(subst z;first|exact d11.symm|exact d12.symm))
  have sz1:a1≠z:=bh ea1 ca1 hz rfl (by rcases da1 with z|z<;>(subst z;decide))
  have sz2:a2≠z:=bh ea2 ca2 hz rfl (by rcases da2 with z|z<;>(subst z;decide))
  have tz:TI≠z:=bh hTI rfl hz rfl (by decide)
  have oz:TO≠z:=bh hTO rfl hz rfl (by decide)
  have iz1:i1≠z:=bh e1 c1 hz rfl d14;have iz2:i2≠z:=bh e2 c2 hz rfl d24;have oi1:TO≠i1:=bh hTO rfl e1 c1 (Ne.symm d12);have oi2:TO≠i2:=bh hTO rfl e2 c2 (Ne.symm d22);have ti1:TI≠i1:=bh hTI rfl e1 c1 (Ne.symm d12);have ti2:TI≠i2:=bh hTI rfl e2 c2 (Ne.symm d22);obtain⟨u,hu,ru⟩:=rv1.get hx;obtain⟨v,hv,rv⟩:=rv2.get hy;have hh:X.A.in1.handled=none:=I.ok.hd hc;have l1:i < is1.toArray.size:=by have:=(Ec.mp hu).1;simpa using this
  have l2:i < is2.toArray.size:=by have:=(Ec.mp hv).1;simpa using this
  subst hP hw;have ap:ZA z TI TO i1 i2 [i1,a1] [i2,a2]:=⟨tz,oz,iz1,iz2,oi1,oi2,by simp [iz1.symm,sz1.symm],by simp [iz2.symm,sz2.symm],by simp [oi1,q1.symm],by simp [oi2,q2.symm],by simp [n12.symm,s12.symm],by simp [n12,s21.symm]⟩
  refine BH (dr1 _ hh s11) (dr2 _ hh s22) ap hz hTI hTO ⟨h1,sa1⟩ ⟨h2,sa2⟩ l1 l2 λx' y' h' tk p1 p2 z' to' w1 w2 t' sz' hk=>?_;have ex:x'=u:=by
   have:is1[i]? =some x':=by simpa using p1
   rw [hu]at this;exact(zV this).symm
  have ey:y'=v:=by
   have:is2[i]? =some y':=by simpa using p2
   rw [hv]at this;exact(zV this).symm
  subst ex ey;refine⟨_,rfl,wpAny_letOwnedTupleGo_zip z' λg2 z2 cc=>?_⟩;have cc:Heap.SameBut z h' g2:=cc;have zl:z < s.heap.objs.size:=fS hz;have t2:IsPair g2 s.heap.objs.size x' y':=(cc.2 _ (vV zl)).trans t';have I2:Inv X pins σ (bv H s.heap.objs.size (.tup [x,y])) {s with heap:=g2,toks:=tk}:=I.turnedN (ch:=[z,TI,TO,i1,i2]) hf (λb o hb q=>by
   have hb':b≠z/\b≠TI/\b≠TO/\b≠i1/\b≠i2:=by simpa using hb
   exact(cc.2 _ hb'.1).trans (hk b o hb'.1 hb'.2.2.1 hb'.2.2.2.1 hb'.2.2.2.2 q)) (Q1 _) ⟨by show 2<=sizeLine;decide,[x',y'],.cons ru (.cons rv .nil),⟨_,t2,rfl,_,rfl⟩,_,t2,rfl⟩
  have hn:H s.heap.objs.size=none:=I.hok.fresh (Q1 _);refine⟨.ref s.heap.objs.size,_,I2,rfl,⟨_,x,y,hn,rfl,rfl,λzs hz'=>by rw [R1.inj X hK pins σ H s zs xs I hz' hq1];exact hx,λzs hz'=>by rw [R2.inj X hK pins σ H s zs ys I hz' hq2];exact hy⟩,
   ⟨z2,(cc.2 _ tz).trans (hk _ _ tz nT ti1 ti2 hTI),⟨_,_,(cc.2 _ oz).trans to'⟩,R1.at_ _ _ _ w1.1 λo q=>(cc.2 _ iz1).trans q,R2.at_ _ _ _ w2.1 λo q=>(cc.2 _ iz2).trans q,q1,q2⟩,λb hb=>?_⟩
  have lb:b < s.heap.objs.size:=by
   have hb':b=z\/b=TI\/b=TO\/b=i1\/b=i2:=by simpa using hb
   rcases hb' with q|q|q|q|q<;>rw [q]
   · exact zl
   · exact fS hTI
   · exact fS hTO
   · exact fS e1
   · exact fS e2
  rw [aN (lO lb)];exact(hf b hb).1
 done:=by
  intro X hP hw hK hc i pins s σ H E I hf st hg;obtain⟨xs,hq1,hx⟩:=hg;obtain⟨hz,hTI,⟨a,b',hTO⟩,h1,h2,q1,q2⟩:=st;obtain⟨is1,SA1,rv1,sa1,⟨oa1,na1,ea1,ca1,da1⟩,dr1⟩:=R1.dr X hP hw hK pins σ H s xs I hq1;obtain⟨o1,n1,e1,c1,d11,d12,d13,d14,_⟩:=R1.ob _ _ h1;obtain⟨o2,n2,e2,c2,d21,d22,d23,d24,_⟩:=R2.ob _ _ h2;have s11:a1≠i1:=bh ea1 ca1 e1 c1 (by rcases da1 with z|z<;>(subst z;first|exact d11.symm|exact d12.symm))
  have s12:a1≠i2:=bh ea1 ca1 e2 c2 (by rcases da1 with z|z<;>(subst z;first|exact d21.symm|exact d22.symm))
  have sz1:a1≠z:=bh ea1 ca1 hz rfl (by rcases da1 with z|z<;>(subst z;decide))
  have tz:TI≠z:=bh hTI rfl hz rfl (by decide)
  have oz:TO≠z:=bh hTO rfl hz rfl (by decide)
  have iz1:i1≠z:=bh e1 c1 hz rfl d14;have iz2:i2≠z:=bh e2 c2 hz rfl d24;have oi1:TO≠i1:=bh hTO rfl e1 c1 (Ne.symm d12);have oi2:TO≠i2:=bh hTO rfl e2 c2 (Ne.symm d22);have hh:X.A.in1.handled=none:=I.ok.hd hc;subst hP hw;have hl:is1.toArray.size=i:=by rw [<-hx,rv1.length];simp
  have ap:ZA z TI TO i1 i2 [i1,a1] []:=⟨tz,oz,iz1,iz2,oi1,oi2,by simp [iz1.symm,sz1.symm],by simp,by simp [oi1,q1.symm],by simp,by simp [n12.symm,s12.symm],by simp⟩
  refine D4 (dr1 _ hh s11) ap hz hTI hTO (by rw [hl];exact⟨h1,sa1⟩) λh' eb=>⟨rfl,I.turned0 (t':=s.toks) (ch:=[z,TI,TO,i1,i2]) hf λb u hb q=>?_⟩
  have hb':b≠z/\b≠TI/\b≠TO/\b≠i1/\b≠i2:=by simpa using hb
  exact eb b u hb'.1 hb'.2.2.2.1 q
 self:=λA i s Q E st h=>wpAny_pyIter_zip st.1 h
section
variable {X:Cx} {es:List Expr} {k1:Nat} {tp:Pos}
def FW(K:Fg)(ta:TA):TI:=λσ H R=>ta σ H λvs H1=>∃a b,vs=[.ref a,.ref b]/\(∃xs,SqT K H1 a xs)/\(∃ys,SqT K H1 b ys)/\R (Nr (λH xs=>SqT K H a xs) λH xs=>SqT K H b xs) H1
theorem JL {a b:Expr}{ta:TA}{p pos:Pos}(hg:Gl X "zip")(hm:X.mg "zip"=none)(ha:PA X [a,b] ta)(hs:starEach [a,b] X.env=[(false,eval a X.env),(false,eval b X.env)]:=by rfl)(hs2:starEach [b] X.env=[(false,eval b X.env)]:=by rfl):
 PI X (.Tuple es k1 tp) (.Call (.Name "zip" p) [a,b] [] pos) (FW X.K ta):=by
 intro pins s σ H R I h;refine Call_ (lQ I hg hm boot_zip (PyProof.Rows.callWith_type1 (dN (ha pos pins s σ H _ I h) λus s1 q_=>?_) (by rw [hs,hs2]) (by rw [hs2];rfl)))
 obtain⟨vs,H1,I1,r1,q1⟩:=q_;obtain⟨c,d,e,⟨xs,hx⟩,⟨ys,hy⟩,q⟩:=q1;subst e;cases r1 with
 |cons r rr=>
  cases rr with
  |cons r' rr=>
   cases rr;cases r;cases r';obtain⟨its,rv,pt,hz⟩:=I1.tuple hx;obtain⟨its2,rv2,pt2,hz2⟩:=I1.tuple hy;refine D5 (show s1.heap.IsTuple c its.toArray from pt) (show s1.heap.IsTuple d its2.toArray from pt2) λh' q1 q2 q3 q4 q5 q6 q7=>?_
   have lc:=pt.lt;have ld:=pt2.lt;refine wpAny_pyIter_zip q1 ⟨_,[_,_,_,_,_],_,_,H1,rfl,I1.kept (t':=s1.toks) q7,FV (TI:=s1.heap.objs.size+2) (TO:=s1.heap.objs.size+3) (L6 c s1.heap.objs.size) (L6 d (s1.heap.objs.size+1)) (lO (Ig _)) (lO (Ig _)),⟨q1,q2,⟨_,_,q3⟩,q4,q5,lO (lx lc (Io _ _)),lO (lx ld (Io _ _))⟩,λb hb=>?_,q⟩;have hb':b=s1.heap.objs.size+4\/b=s1.heap.objs.size+2\/b=s1.heap.objs.size+3\/b=s1.heap.objs.size\/b=s1.heap.objs.size+1:=by simpa using hb
   have hle:s1.heap.objs.size<=b:=by
    rcases hb' with z|z|z|z|z<;>rw [z]
    all_goals first|exact Q1 _|exact Io _ _
   exact I1.fpOk hle (I1.hok.fresh hle)
end
mutual
noncomputable def IsD(K:Fg)(H:Hp)(x:V):PyData->Prop
 | .none=>x=.non
 | .bool b=>x=.bl b
 | .int i=>x=.int i
 | .str y=>x=.str y
 | .list ds=>∃a xs,x=.ref a/\SqL K H a xs/\AllD K H xs ds
 | .tuple ds=>∃a xs,x=.ref a/\SqT K H a xs/\AllD K H xs ds
 | .dict _=>False
noncomputable def AllD(K:Fg)(H:Hp)(xs:List V):List PyData->Prop
 |[]=>xs=[]
 |d::ds=>∃x r,xs=x::r/\IsD K H x d/\AllD K H r ds
end
theorem Same.seqT {K:Fg}{H H':Hp}{a:Addr}{xs:List V}(e:Same H H')(h:SqT K H a xs):SqT K H' a xs:=by
 rcases h with h|h
 · rcases h with h|⟨o,h⟩
   · exact .inl (.inl (e _ _ h))
   · exact .inl (.inr ⟨o,e _ _ h⟩)
 · exact .inr h
theorem bf {H:Hp}{p:Addr}(h:H p=none)(o:HO):Same H (bv H p o):=λb u q=>by rw [aN (aQ q h)];exact q
mutual
theorem IsD.same {K:Fg}{H H':Hp}(s:Same H H'):∀{x:V} (d:PyData),IsD K H x d->IsD K H' x d
 |_,.none,h=>h
 |_,.bool _,h=>h
 |_,.int _,h=>h
 |_,.str _,h=>h
 |_,.list ds,h=>by
  obtain⟨a,xs,e,q,r⟩:=h;exact⟨a,xs,e,s.seq q,AllD.same s ds r⟩
 |_,.tuple ds,h=>by
  obtain⟨a,xs,e,q,r⟩:=h;exact⟨a,xs,e,s.seqT q,AllD.same s ds r⟩
 |_,.dict _,h=>h.elim
theorem AllD.same {K:Fg}{H H':Hp}(s:Same H H'):∀{xs:List V} (ds:List PyData),AllD K H xs ds->AllD K H' xs ds
 |_,[],h=>h
 |_,d::ds,h=>by
  obtain⟨x,r,e,q,t⟩:=h;exact⟨x,r,e,IsD.same s d q,AllD.same s ds t⟩
end
section
variable {X:Cx} {pins:List (Addr×Obj)} {σ:St} {H:Hp} {s:Shared}
mutual
theorem IsD.reads(I:Inv X pins σ H s):∀{x:V} {u:Value} (d:PyData),IsD X.K H x d->RelV x u->∃as,Reads s.heap u d as
 |_,_,.none,h,r=>by rw [show _=V.non from h]at r;cases r;exact⟨_,.none⟩
 |_,_,.bool b,h,r=>by rw [show _=V.bl b from h]at r;cases r;exact⟨_,.bool b⟩
 |_,_,.int i,h,r=>by rw [show _=V.int i from h]at r;obtain⟨t,rfl⟩:=r;exact⟨_,.int i t⟩
 |_,_,.str y,h,r=>by rw [show _=V.str y from h]at r;obtain⟨t,rfl⟩:=r;exact⟨_,.str y t⟩
 |_,_,.list ds,h,r=>by
  obtain⟨a,xs,e,q,al⟩:=h;subst e;cases r;obtain⟨its,rv,p,_⟩:=I.list q;obtain⟨o,h1,h2,n,h3⟩:=p.isList;obtain⟨as,ra⟩:=AllD.reads I ds al rv;exact⟨_,.list h1 h2 h3 (by simpa using ra)⟩
 |_,_,.tuple ds,h,r=>by
  obtain⟨a,xs,e,q,al⟩:=h;subst e;cases r;obtain⟨its,rv,p,_⟩:=I.tuple q;obtain⟨o,h1,h2,n,h3⟩:=p;obtain⟨as,ra⟩:=AllD.reads I ds al rv;exact⟨_,.tuple h1 h2 h3 (by simpa using ra)⟩
 |_,_,.dict _,h,_=>h.elim
theorem AllD.reads(I:Inv X pins σ H s):∀{xs:List V} {us:List Value} (ds:List PyData),AllD X.K H xs ds->Vals xs us->∃as,ReadsAll s.heap us ds as
 |_,_,[],h,r=>by rw [show _=[]from h]at r;cases r;exact⟨_,.nil⟩
 |_,_,d::ds,h,r=>by
  obtain⟨x,rr,e,q,al⟩:=h;subst e;cases r with
  |cons r1 r2=>
   obtain⟨as,ra⟩:=IsD.reads I d q r1;obtain⟨bs,rb⟩:=AllD.reads I ds al r2;exact⟨_,.cons ra rb⟩
end
def vf(d:PyData):Prop:=d.canLay0=true/\d.depth<=60
def D6(K:Fg)(neg:Bool):R2:=λx y H Q=>∃da db,IsD K H x da/\IsD K H y db/\vf da/\vf db/\Q (.bl (if neg then !PyData.eqv da db else PyData.eqv da db)) H
theorem L7(hu:X.A.units+64 < cLine):OpR X (compareOp .Eq) (D6 X.K false):=by
 intro pins s σ H x y v u Q I rx ry h;obtain⟨da,db,hx,hy,ca,cb,q⟩:=h;obtain⟨as,ra⟩:=hx.reads I _ rx;obtain⟨bs,rb⟩:=hy.reads I _ ry;exact SeqAt.compareEq_reads ra rb ca.1 cb.1 (by have:=ca.2;omega) ⟨.bl _,H,I,rfl,q⟩
theorem L8(hu:X.A.units+64 < cLine):OpR X (compareOp .NotEq) (D6 X.K true):=by
 intro pins s σ H x y v u Q I rx ry h;obtain⟨da,db,hx,hy,ca,cb,q⟩:=h;obtain⟨as,ra⟩:=hx.reads I _ rx;obtain⟨bs,rb⟩:=hy.reads I _ ry;exact SeqAt.compareNe_reads ra rb ca.1 cb.1 (by have:=ca.2;omega) ⟨.bl _,H,I,rfl,q⟩
def L9(K:Fg):List V->Hp->VK->Prop:=λxs H Q=>∃(p:Addr) (bs:List Bool),xs=[.ref p]/\SqL K H p (bs.map V.bl)/\Q (.bl (bs.all id)) H
theorem D7 {bs:List Bool}:(List.range bs.length).all (λi=>bs.getD i true)=bs.all id:=by
 rw [Bool.eq_iff_iff,Q9,Q9]
 constructor
 · intro h x hx;obtain⟨i,hi,e⟩:=List.mem_iff_getElem.mp hx;have:=h i (by simpa using hi)
   rw [iI,cY hi,e]at this;exact this
 · intro h i hi;have hi':i < bs.length:=by simpa using hi
   rw [iI,cY hi'];exact h _ (Qc hi')
theorem FX(hc:X.calm=true):hV X (.builtin "all") (L9 X.K):=by
 intro pins s σ H xs us Q I rv h;obtain⟨p,bs,rfl,hq,q⟩:=h;obtain⟨u,rfl,r⟩:=rv.one;cases r;obtain⟨its,rr,pl,hz⟩:=I.list hq;have hl:its.length=bs.length:=by rw [<-rr.length,zJ]
 have hh:X.A.in1.handled=none:=I.ok.hd hc;have lp:p < s.heap.objs.size:=by obtain⟨o,e,_⟩:=pl.isList;exact fS e
 refine call_all_walk (wpAny_pyIter_list pl.isList ⟨_,_,_,_,_,_,λi=>bs.getD i true,rfl,Walks.list hh s.heap.objs.size p (lO lp) its.toArray,⟨⟨_,jS _ rfl,rfl,rfl⟩,pl.isList.push _⟩,?_,λh' tk k=>?_⟩)
 · intro i v s' Q' E' hP hQ;have hP':its[i]? =some v:=by simpa using hP
   have hi:i < its.length:=(Ec.mp hP').1;have hb:(bs.map V.bl)[i]? =some (.bl (bs[i]'(by omega))):=by rw [zK,cY (by omega)];rfl
   obtain⟨u,hu,ru⟩:=rr.get hb;rw [hP']at hu;cases hu;cases ru;have e:bs.getD i true=bs[i]'(by omega):=by rw [iI,cY (by omega)];rfl
   have hQ':Q' (bs.getD i true) s':=hQ;rw [e]at hQ';exact wpAny_truthy_bool hQ'
 · have e:(List.range its.toArray.size).all (λi=>bs.getD i true)=bs.all id:=by rw [zM,hl,D7]
   rw [e];refine⟨.bl _,H,?_,rfl,q⟩;refine I.kept λb o eb=>k b o ?_ (gH _ eb);simp only [Qf];exact lO (fS eb)
def CO:V->List V->Hp->VK->Prop:=λx vs H Q=>∃(l:Addr) (ns:List Int) (n:Int),x=.ref l/\vs=[.int n]/\H l=some (.lst (ns.map V.int))/\n∈ns/\Q .non (bv H l (.lst ((ns.erase n).map V.int)))
theorem D8(n:Int)(ns:List Int):∀{us:List Value},Vals (ns.map V.int) us->n∈ns->∃j,∃(hj:j < us.length),Ee (.int n) us[j]=true/\(∀m (hm:m < us.length),m < j->Ee (.int n) us[m]=false)/\Vals ((ns.erase n).map V.int) (us.eraseIdx j):=by
 induction ns with
 |nil=>intro us _ h;simp at h
 |cons a r ih=>
  intro us rv h;cases rv with
  | @cons _ b _ l2 r1 r2=>
   obtain⟨t,rfl⟩:=(show ∃t,b=Value.int a t from r1)
   by_cases e:a=n
   · subst e;refine⟨0,by simp,?_,λm _ hm=>absurd hm (Nat.not_lt_zero _),?_⟩
     · show DV (.int a) (.int a)=true;simp [DV]
     · simpa using r2
   · have hr:n∈r:=by
      rcases Q4.mp h with z|z
      · exact absurd z.symm e
      · exact z
     obtain⟨j,hj,h1,h2,h3⟩:=ih r2 hr;refine⟨j+1,by simpa using hj,by simpa using h1,λm hm hmj=>?_,?_⟩
     · cases m with
       |zero=>
        show DV (.int a) (.int n)=false;simp [DV,e]
       |succ m=>simpa using h2 m (by simpa using hm) (by omega)
     · rw [List.erase_cons_tail (by simpa using e)]
       exact .cons ⟨t,rfl⟩ h3
theorem vg:Mn X "list.remove" CO:=by
 intro pins s σ H x vs v us Q I rx rv h;obtain⟨l,ns,n,rfl,rfl,hH,hm,q⟩:=h;cases rx;obtain⟨u,rfl,ru⟩:=rv.one;obtain⟨z,its,k,r,hl,e⟩:=I.lstM hH;obtain⟨t,rfl⟩:=(show ∃t,u=Value.int n t from ru)
 obtain⟨j,hj,h1,h2,h3⟩:=D8 n ns r hm;have hz:its.length<=sizeLine:=by rw [<-hl];exact z
 refine call_meets F.slot_list_remove ⟨_,e,rfl⟩ F.entry_list_remove (F.args_list_remove_2 _ _) (MeetsSeq.list_remove l its.toArray k (.int n t) (Ee (.int n)) ?_ j (by simpa using hj) (by simpa using h1) (λm hm hmj=>by simpa using h2 m (by simpa using hm) hmj) (by rw [zM];exact hz)) ⟨e,?_⟩
 · intro y hy;have hy':y∈its:=by simpa using hy
   obtain⟨i,hi,ei⟩:=List.mem_iff_getElem.mp hy';have hl':(ns.map V.int).length=its.length:=r.length;have hi':i < ns.length:=by rw [zJ]at hl';omega
   obtain⟨u,hu,ru⟩:=r.get (i:=i) (x:=.int ns[i]) (by rw [zK,cY hi']<;>rfl)
   rw [cY hi,ei]at hu;cases hu;obtain⟨t',rfl⟩:=ru;exact MeetsSeq.EqGives.int ns[i] n t' t
 · refine⟨.non,_,I.lset (its':=its.eraseIdx j) hH e (by simp [Array.eraseIdxIfInBounds,hj]) h3 ?_,rfl,q⟩
   rw [zJ];have:=List.length_erase_le (a:=n) (l:=ns);rw [zJ]at z;omega
end
section
variable {prog:Program} {w:World} {A:Around} {E:Value->Shared->Prop} {s:Shared}
theorem D9 {t sl:Addr}{items:Array Value}{vl vu:Value}{lo hi:Option Int}{Q:Value->Shared->Prop}(ht:IsTup s.heap t items)(hs:s.heap.IsSliceOf sl vl vu .none)(pl:IsPart vl lo)(pu:IsPart vu hi)
 (hw:HT.ff items.size 0 lo=0/\HT.ff items.size items.size hi=items.size) (h:Q (.ref t) s):wpAny (model prog w) A (getItem (.ref t) (.ref sl)) Q E s:=by
 obtain⟨os,hos,hcs,hds⟩:=id hs;have hTs:s.TypeIs (.ref sl) "slice":=⟨os,hos,hcs⟩;unfold getItem
 try with_reducible refine wpAny_holding ?_
 first|refine wB (wP ?_)|skip
 refine wB (wpAny_sequenceKey ht.typeIs (by decide) ?_)
 refine wB (wpAny_callSpecial?_slot (name:=Str.ofString "__getitem__") ht.typeIs PyProof.Rows.slot_tuple_getitem (wpAny_call_entry PyProof.Rows.slot_tuple_getitem ht.typeIs entry_tuple_getitem ?_ (args_tuple_getitem _ _)));show wpAny _ _ (Builtin.Tuple.tupleItemsOf (.ref t) >>=_) _ _ s;refine wB (tupleItemsOf_ ht ?_);refine wB (wpAny_typeOf hTs ?_);rw [if_pos (by decide)]
 refine wB (HT.kh hs pl pu ?_);rw [hw.1,hw.2];show wpAny _ _ (if(((0:Nat):Int)==0&&(1:Int)==1&&(items.size - 0)==items.size)=true then _ else _) _ _ s;rw [if_pos (by simp)]
 show wpAny _ _ (Builtin.Tuple.tupleIsExact (.ref t) >>=_) _ _ s;refine wB ?_;unfold Builtin.Tuple.tupleIsExact;refine wB (wpAny_typeOf ht.typeIs (wP ?_))
 first
  |exact wB (wpAny_rule (wP ⟨_,rfl,wP h⟩))
  |(simp only [beq_self_eq_true,if_true];exact wB (wpAny_rule (wB (wP (wP ⟨_,rfl,wP h⟩)))))
  |(simp only [beq_self_eq_true,if_true];exact wB (wpAny_rule (wP ⟨_,rfl,wP h⟩)))
end
section
variable {X:Cx}
def Mq(K:Fg):V->Option Int->Option Int->Hp->VK->Prop:=λx lo hi H Q=>∃a xs,x=.ref a/\SqT K H a xs/\HT.ff xs.length 0 lo=0/\HT.ff xs.length xs.length hi=xs.length/\Q (.ref a) H
theorem JM:SlR X (Mq X.K):=by
 intro pins s σ H x v vl vu lo hi sl Q I rx hs pl pu h;obtain⟨a,xs,rfl,hx,h1,h2,q⟩:=h;cases rx;obtain⟨its,r,ht,hz⟩:=I.tuple hx;have hlen:its.toArray.size=xs.length:=by rw [zM];exact r.length.symm
 refine⟨"tuple",_,PyProof.Rows.slot_tuple_getitem.lookup,ht.typeIs,D9 ht hs pl pu (by rw [hlen];exact⟨h1,h2⟩) ⟨.ref a,H,I,rfl,q⟩⟩
end
section
variable {prog:Program} {w:World} {A:Around} {E:Value->Shared->Prop} {s:Shared}
theorem JN {t b:Addr}{vs ws:List Value}{Q:Value->Shared->Prop}(ht:IsTup s.heap t vs.toArray)(hb:IsTup s.heap b ws.toArray)(hv:vs=[])(h:Q (.ref b) s):wpAny (model prog w) A (binaryOp .Add (.ref t) (.ref b)) Q E s:=by
 obtain⟨⟨cls,dd,data,sl⟩,ho,hc,n,hd⟩:=id ht;obtain⟨⟨cls2,dd2,data2,sl2⟩,ho2,hc2,n2,hd2⟩:=id hb;simp only at hc hd hc2 hd2;subst hc hd hc2 hd2;exact concat_meets ⟨_,ho,rfl⟩ ⟨_,ho2,rfl⟩ noFill_tuple_add seq_tuple_add PySem.F.slot_tuple_add PySem.F.entry_tuple_add (PySem.F.args_tuple_add_2 _ _) (tuple_addW0 t b vs.toArray ws.toArray n n2 dd dd2 sl sl2 (by simp [hv])) ⟨ho,ho2,h⟩
end
section
variable {X:Cx}
end
structure Own (P:Program) (w:World) (K:Fg) (mg:Str->Option Value) (base:Heap) (k:Nat) (x:Str) (ps:List Str) (sp:Sp):Prop where
 ex:∃(f:Addr) (fd:FuncData),FnOk P w K mg base gY k f fd ps sp/\mg x=some (.ref f)/\PySem.W.keepIn K (.ref f)=true/\Binds K fd ps []
section
variable {X:Cx}
theorem aW {k n:Nat}{x:Str}{ps:List Str}{sp:Sp}{p pos:Pos}{e:Expr}{es:List Expr}{t:TA}(O:Own X.prog X.w X.K X.mg X.base k x ps sp)(hr:Room n X.A)(ha:PA X (e::es) t)(hkn:k<=n:=by decide)(hg:Gl X x:=by rfl)
 (hdb:(x==("__debug__":Str))=false:=by decide) (he:starEach (e::es) X.env=(false,eval e X.env)::starEach es X.env:=by rfl) (hpl:(backTo pos (starEach es X.env)).any (·.1)=false:=by rfl):
 PE X (.Call (.Name x p) (e::es) [] pos) (eF sp [] E0 t):=by
 obtain⟨f,fd,F,m,kp,b⟩:=O.ex;exact Iz F (hr.mono hkn) hg m kp b .nil Kh ha hdb he hpl
end
structure Bt (mg:Str->Option Value):Prop where
 len:mg "len"=none
 isinstance:mg "isinstance"=none
 range:mg "range"=none
 int:mg "int"=none
 bool:mg "bool"=none
 tuple:mg "tuple"=none
 list:mg "list"=none
 all:mg "all"=none
 enumerate:mg "enumerate"=none
 zip:mg "zip"=none
 sum:mg "sum"=none
 sorted:mg "sorted"=none
 max:mg "max"=none
 min:mg "min"=none
 set:mg "set"=none
 str:mg "str"=none
theorem fm:bootBuiltins "isinstance"=some (.builtin "isinstance"):=by decide+kernel
theorem jy {n:Nat}(h:n<=1000):n<=sizeLine:=An (D0 h)
section
variable {X:Cx}
end
section
variable {X:Cx}
theorem Ki(K:Fg)(h:X.K=K:=by rfl):OpR X (compareOp .In) (Nm K false):=h▸DW
theorem oO(K:Fg)(hu:X.A.units+64 < cLine)(h:X.K=K:=by rfl):OpR X (compareOp .Eq) (D6 K false):=h▸L7 hu
theorem BI(K:Fg)(hu:X.A.units+64 < cLine)(h:X.K=K:=by rfl):OpR X (compareOp .NotEq) (D6 K true):=h▸L8 hu
def xA(K:Fg):List V->Hp->VK->Prop:=λxs H Q=>∃p ys,xs=[.ref p]/\(SqL K H p ys\/SqT K H p ys)/\∀l,H l=none->Q (.ref l) (bv H l (.lst ys))
def yX(K:Fg):List V->Hp->VK->Prop:=λxs H Q=>∃p ys,xs=[.ref p]/\((SqL K H p ys/\∀l,H l=none->Q (.ref l) (bv H l (.tup ys)))\/(SqT K H p ys/\Q (.ref p) H))
theorem xB(K:Fg)(h:X.K=K:=by rfl):hV X (.type "list") (xA K):=h▸wx
theorem yY(K:Fg)(h:X.K=K:=by rfl):hV X (.type "tuple") (yX K):=h▸uz
theorem BJ(K:Fg)(h:X.K=K:=by rfl)(hc:X.calm=true:=by rfl):hV X (.builtin "all") (L9 K):=h▸FX hc
theorem La {es:List Expr}{k1:Nat}{tp:Pos}{a b:Expr}{ta:TA}{p pos:Pos}(K:Fg)(hm:X.mg "zip"=none)(ha:PA X [a,b] ta)(h:X.K=K:=by rfl)(hg:Gl X "zip":=by rfl)(hs:starEach [a,b] X.env=[(false,eval a X.env),(false,eval b X.env)]:=by rfl)(hs2:starEach [b] X.env=[(false,eval b X.env)]:=by rfl):
 PI X (.Tuple es k1 tp) (.Call (.Name "zip" p) [a,b] [] pos) (FW K ta):=h▸JL hg hm ha hs hs2
theorem sI {es:List Expr}{k1:Nat}{t:El}{n:Nat}{pos:Pos}(K:Fg)(h2:Mb X es t)(h:X.K=K:=by rfl)(hc:X.calm=true:=by rfl)(hn:(assignEach es X.env).length=n:=by rfl)(hst:(assignEach es X.env).findIdx? (·.1)=none:=by rfl):PG X (.Tuple es k1 pos) (LO K n t):=h▸LP hc h2 hn hst
def Lb(K:Fg)(ta:TE):TT:=λσ H Q=>ta σ H λx H'=>∃k,Ix K x H' k/\Q k H'
theorem eR {a:Expr}{ta:TE}(K:Fg)(ha:PE X a ta)(h:X.K=K:=by rfl)(he:∀whole,isTrue a X.env whole=(do let v<-whole;standAt a.pos;holding [v] (truthy v)):=by intro _;rfl):PT X a (Lb K ta):=h▸FB ha he
end
theorem CP(c:Int):∀u:List Int,N4 (.int c) (u.map V.int)=decide (c∈u)
 |[]=>rfl
 |a::u=>by
  have ih:=CP c u;show(DV (.int a) (.int c)||N4 (.int c) (u.map V.int))=_
  rw [ih];show((a==c)||decide (c∈u))=_
  by_cases e:a=c
  · subst e;simp
  · have e':¬c=a:=λz=>e z.symm;have:(a==c)=false:=by simpa using e
    rw [this];simp [e']
theorem vh:∀u:List Int,(u.map V.int).all nk=true
 |[]=>rfl
 |_::u=>by
  show(true&&(u.map V.int).all nk)=true;rw [vh u];rfl
theorem nL:∀{names:List (Str×NameKind)} {n:Nat} {acc:List (Str×Addr)} {x:Str} {c:Addr},(x,c)∈cellsFrom n names acc->(x,c)∈acc\/(n<=c/\(x,NameKind.cell)∈names)
 |[],n,acc,x,c,h=>.inl h
 |(y,k)::r,n,acc,x,c,h=>by
  unfold cellsFrom at h
  by_cases hk:(k== .cell)=true
  · rw [if_pos hk]at h;have hk':k=.cell:=by simpa using hk
    rcases nL h with q|⟨q1,q2⟩
    · rcases Q4.mp q with q|q
      · injection q with q1 q2
        subst q1 q2;exact .inr ⟨Q1 _,by rw [hk'];exact lN⟩
      · exact .inl q
    · exact .inr ⟨Nat.le_of_succ_le q1,ke _ q2⟩
  · rw [if_neg hk]at h
    rcases nL h with q|⟨q1,q2⟩
    · exact .inl q
    · exact .inr ⟨q1,ke _ q2⟩
theorem qP:∀{names:List (Str×NameKind)} {n:Nat} {acc:List (Str×Addr)} {x y:Str} {c:Addr},(∀z∈acc,z.2 < n)->(x,c)∈cellsFrom n names acc->(y,c)∈cellsFrom n names acc->n<=c->x=y
 |[],n,acc,x,y,c,ha,h1,_,hc=>absurd (ha _ h1) (Nat.not_lt.mpr hc)
 |(z,k)::r,n,acc,x,y,c,ha,h1,h2,hc=>by
  unfold cellsFrom at h1 h2
  by_cases hk:(k== .cell)=true
  · rw [if_pos hk]at h1 h2;have ha':∀w∈(z,n)::acc,w.2 < n+1:=λw hw=>by
     rcases Q4.mp hw with q|q
     · rw [q];exact Ig _
     · exact K6 (ha w q)
    by_cases e:c=n
    · subst e;have only:∀{u:Str},(u,c)∈cellsFrom (c+1) r ((z,c)::acc)->u=z:=λ{u} hu=>by
       rcases nL hu with q|⟨q,_⟩
       · rcases Q4.mp q with q|q
         · injection q
         · exact absurd (ha _ q) (zT _)
       · exact absurd q (Nat.not_succ_le_self _)
      rw [only h1,only h2]
    · exact qP ha' h1 h2 (Nat.succ_le_of_lt (Nat.lt_of_le_of_ne hc (λq=>e q.symm)))
  · rw [if_neg hk]at h1 h2;exact qP ha h1 h2 hc
theorem qQ {lo:Nat}:∀{names:List (Str×NameKind)} {n:Nat} {acc:List (Str×Addr)} {x:Str} {c:Addr},lo<=n->(names.lookup x=some .cell\/∃c0,acc.lookup x=some c0/\lo<=c0)->(cellsFrom n names acc).lookup x=some c->lo<=c
 |[],n,acc,x,c,hn,h,e=>by
  rcases h with h|⟨c0,h1,h2⟩
  · simp at h
  · have e':acc.lookup x=some c:=e;rw [h1]at e';cases e';exact h2
 |(y,k)::r,n,acc,x,c,hn,h,e=>by
  unfold cellsFrom at e
  by_cases hk:(k== .cell)=true
  · rw [if_pos hk]at e;refine qQ (Nat.le_succ_of_le hn) ?_ e;cases hx:x==y with
    |true=>exact .inr ⟨n,by simp [wj,hx],hn⟩
    |false=>
     rcases h with h|⟨c0,h1,h2⟩
     · exact .inl (by simpa only [wj,hx]using h)
     · exact .inr ⟨c0,by simpa only [wj,hx]using h1,h2⟩
  · rw [if_neg hk]at e;refine qQ hn ?_ e
    rcases h with h|h
    · cases hx:x==y with
      |true=>
       simp only [wj,hx]at h;have:k=.cell:=zV h;rw [this]at hk;exact absurd rfl hk
      |false=>exact .inl (by simpa only [wj,hx]using h)
    · exact .inr h
theorem qR:∀{names:List (Str×NameKind)} {n:Nat} {acc:List (Str×Addr)} {x:Str},(∀y∈names,y.1=x->y.2≠ .cell)->(cellsFrom n names acc).lookup x=acc.lookup x
 |[],_,_,_,_=>rfl
 |(y,k)::r,n,acc,x,h=>by
  have hr:∀z∈r,z.1=x->z.2≠ .cell:=λz hz=>h z (ke _ hz);unfold cellsFrom
  by_cases hk:(k== .cell)=true
  · rw [if_pos hk,qR hr];have hk':k=.cell:=by simpa using hk
    have hx:(x==y)=false:=by
     have:y≠x:=λq=>h (y,k) lN q hk';simpa using λq:x=y=>this q.symm
    simp only [wj,hx]
  · rw [if_neg hk,qR hr]
theorem oP:∀{names:List (Str×NameKind)} {h:Heap} {acc:List (Str×Addr)} {x:Str} {c:Addr},(∀z∈acc,z.2 < h.objs.size)->(x,c)∈cellsFrom h.objs.size names acc->h.objs.size<=c->(pushCells h names).IsCell c none
 |[],h,acc,x,c,ha,hm,hc=>absurd (ha _ hm) (Nat.not_lt.mpr hc)
 |(y,k)::r,h,acc,x,c,ha,hm,hc=>by
  unfold cellsFrom at hm;unfold pushCells
  by_cases hk:(k== .cell)=true
  · rw [if_pos hk]at hm ⊢;have z:(h.push {cls:=.type "cell",data:=.cell none}).objs.size=h.objs.size+1:=CF ..;have ha':∀w∈(y,h.objs.size)::acc,w.2 < (h.push {cls:=.type "cell",data:=.cell none}).objs.size:=λw hw=>by
     rw [z]
     rcases Q4.mp hw with q|q
     · rw [q];exact Ig _
     · exact K6 (ha w q)
    by_cases e:c=h.objs.size
    · exact⟨_,pushCells_keeps _ _ _ _ (by rw [e];exact jS _ rfl),rfl⟩
    · rw [<-z]at hm;exact oP ha' hm (by rw [z];exact Nat.succ_le_of_lt (Nat.lt_of_le_of_ne hc λq=>e q.symm))
  · rw [if_neg hk]at hm ⊢;exact oP ha hm hc
theorem yZ {env:Env}:∀{names:List (Str×NameKind)} {x:Str},
 (((names.map λ (n, k) => if (k == NameKind.free && env.scope.kind == .function && env.kindOf n == some .cell) then (n, NameKind.cell) else (n, k)).lookup x = some .cell) \/
  ((names.map λ(n,k)=>if(k==NameKind.free&&env.scope.kind== .function&&env.kindOf n==some .cell)then(n,NameKind.cell)else(n,k)).lookup x=some .free))->
 names.lookup x=some .cell\/names.lookup x=some .free
 |[],x,h=>by rcases h with h|h<;>simp at h
 |(n,k)::r,x,h=>by
  have e1:((n,k)::r).map (λ(n,k)=>if(k==NameKind.free&&env.scope.kind== .function&&env.kindOf n==some .cell)=true then(n,NameKind.cell)else(n,k))=
   (if(k==NameKind.free&&env.scope.kind== .function&&env.kindOf n==some .cell)=true then(n,NameKind.cell)else(n,k))::r.map (λ(n,k)=>if(k==NameKind.free&&env.scope.kind== .function&&env.kindOf n==some .cell)=true then(n,NameKind.cell)else(n,k)):=rfl
  rw [e1]at h;cases hx:x==n with
  |true=>
   by_cases c:(k==NameKind.free&&env.scope.kind== .function&&env.kindOf n==some .cell)=true
   · have:k=.free:=by
      simp only [Q5]at c;simpa using c.1.1
     subst this
     right
     simp [wj,hx]
   · rw [if_neg c]at h;simpa only [wj,hx]using h
  |false=>
   have:((r.map λ(n,k)=>if(k==NameKind.free&&env.scope.kind== .function&&env.kindOf n==some .cell)=true then(n,NameKind.cell)else(n,k)).lookup x=some .cell)\/
    ((r.map λ(n,k)=>if(k==NameKind.free&&env.scope.kind== .function&&env.kindOf n==some .cell)=true then(n,NameKind.cell)else(n,k)).lookup x=some .free):=by
    by_cases c:(k==NameKind.free&&env.scope.kind== .function&&env.kindOf n==some .cell)=true
    · rw [if_pos c]at h;simpa only [wj,hx]using h
    · rw [if_neg c]at h;simpa only [wj,hx]using h
   have q:=yZ this;simpa only [wj,hx]using q
section
variable {M:Model} {A:Around} {E:Value->Shared->Prop} {s:Shared}
theorem Db {scope:Scope}{cl:List (Str×Addr)}{env:Env}{Q:Env->Shared->Prop}
 (hQ : Q { scope := scope, locals := s.heap.objs.size, globals := env.globals, cells := cellsFrom (s.heap.objs.size + 1) scope.names cl, qual := env.qual, func := none, code := env.code, frame := env.frame, builtins := env.builtins }
  {s with heap:=pushCells (s.heap.push {cls:=.type "dict",data:=.dict #[]}) scope.names}):wpAny M A (newFunctionEnv scope env.globals cl [] env.qual none .none (some env)) Q E s:=by
 simp only [newFunctionEnv,Option.isSome_some,if_true];refine wB (wpAny_alloc ?_);refine wB (wpAny_layCells _ (λname kind cells=>by cases hkc:kind==NameKind.cell<;>simp [hkc]) _ _ _ _ ?_)
 rw [show({s with heap:=s.heap.push {cls:=.type "dict",data:=.dict #[]}}:Shared).heap.objs.size=s.heap.objs.size+1 from CF ..]
 simp only [List.forIn_nil];exact wB (wP (wP hQ))
end
noncomputable def km(X:Cx)(N:List Str)(sc:Scope)(C:Addr)(fp:List Addr)(s:Shared)(H:Hp):Cx:=
 {X with N:=N,s₀:=s,H₀:=H,env:=compEnvC sc (cellsFrom (C+1) sc.names (dD X.env sc.names [])) C X.env,outer:=X.stack,ex:=fp,fn:=λx=>sc.names.lookup x==some .cell,pn:=[],xe:=λ_ _=>False}
section
variable {X:Cx}
theorem y6 {pins:List (Addr×Obj)}{σ:St}{H:Hp}{s:Shared}{sc:Scope}(I:Inv X pins σ H s)(hfree:∀y∈sc.names,y.2=.free->X.env.kindOf y.1=some .cell\/X.env.kindOf y.1=some .free){x:Str}{c:Addr}
 (e:(x,c)∈cellsFrom (s.heap.objs.size+2) sc.names (dD X.env sc.names [])):(X.env.cells.lookup x=some c/\c < s.heap.objs.size)\/s.heap.objs.size+2<=c:=by
 have hcl:∀y∈sc.names,y.2=.free->∃c,X.env.cells.lookup y.1=some c:=λy hy e=>I.ok.has _ (hfree y hy e)
 rcases nL e with q|⟨q,_⟩
 · rcases j4 hcl q with q|q
   · simp at q
   · obtain⟨v,hv⟩:=I.cell x c q;obtain⟨o,ho,_⟩:=hv;exact .inl ⟨q,fS ho⟩
 · exact .inr q
theorem FY {pins:List (Addr×Obj)}{σ:St}{H:Hp}{s:Shared}{sc:Scope}(I:Inv X pins σ H s)(hfree:∀y∈sc.names,y.2=.free->X.env.kindOf y.1=some .cell\/X.env.kindOf y.1=some .free):
 ∀z∈dD X.env sc.names [],z.2 < s.heap.objs.size:=λz hz=>by
 have hcl:∀y∈sc.names,y.2=.free->∃c,X.env.cells.lookup y.1=some c:=λy hy e=>I.ok.has _ (hfree y hy e)
 rcases j4 (x:=z.1) (c:=z.2) hcl hz with q|q
 · simp at q
 · obtain⟨v,hv⟩:=I.cell _ _ q;obtain⟨o,ho,_⟩:=hv;exact fS ho
theorem Mr {pins:List (Addr×Obj)}{σ:St}{H:Hp}{s:Shared}{N:List Str}{sc:Scope}{fp:List Addr}(I:Inv X pins σ H s)(hk:sc.kind=.function)
 (hfree:∀y∈sc.names,y.2=.free->X.env.kindOf y.1=some .cell\/X.env.kindOf y.1=some .free) (hf:∀b∈fp,mP X pins H b) (hb:∀b∈fp,b < s.heap.objs.size):
 (km X N sc (s.heap.objs.size+1) fp s H).Ok:=by
 have cc:∀x c,(cellsFrom (s.heap.objs.size+2) sc.names (dD X.env sc.names [])).lookup x=some c->(X.env.cells.lookup x=some c/\c < s.heap.objs.size)\/s.heap.objs.size+2<=c:=λx c e=>y6 I hfree (PySem.mem_of_lookup e);have ca:∀z∈dD X.env sc.names [],z.2 < s.heap.objs.size+2:=λz hz=>lx (FY I hfree z hz) (Io _ _);exact {
  mod:=I.ok.mod
  kind:=hk
  glob:=I.ok.glob
  blt:=I.ok.blt
  above:=Nat.le_succ _
  inj:=λx y c h1 h2=>by
   have h1':(cellsFrom (s.heap.objs.size+2) sc.names (dD X.env sc.names [])).lookup x=some c:=h1;have h2':(cellsFrom (s.heap.objs.size+2) sc.names (dD X.env sc.names [])).lookup y=some c:=h2
   rcases cc x c h1' with⟨q1,l1⟩|q1
   · rcases cc y c h2' with⟨q2,_⟩|q2
     · exact I.ok.inj x y c q1 q2
     · exact absurd (lx l1 (Q7 (Io _ 2) q2)) (zT _)
   · exact qP ca (PySem.mem_of_lookup h1') (PySem.mem_of_lookup h2') q1
  has:=λx h=>by
   have h':=yZ h;have q:((cellsFrom (s.heap.objs.size+2) sc.names (dD X.env sc.names [])).lookup x).isSome=true:=by
    rcases h' with h'|h'
    · exact PySem.W.cellsFrom_some _ _ _ (.inl h')
    · obtain⟨c,hc⟩:=kj (env:=X.env) (acc:=[]) (.inl (PySem.mem_of_lookup h'));obtain⟨d,hd⟩:=fj hc;exact PySem.W.cellsFrom_some _ _ _ (.inr (by rw [hd];rfl))
   exact Option.isSome_iff_exists.mp q
  cab:=λx c h e=>by
   have h':sc.names.lookup x=some .cell:=by simpa [km]using h
   exact Q7 (Io _ 2) (qQ (Q1 _) (.inl h') e)
  hd:=I.ok.hd
  frames:=I.ok.frames
  stk:=.inl rfl
  exf:=λb hb'=>⟨lO (K6 (hb b hb')),λx c e=>by
   rcases cc x c e with⟨q,_⟩|q
   · exact(hf b hb').2.2.2.2.1 x c q
   · exact vV (lx (hb b hb') (Q7 (Io _ 2) q))⟩
  bs:=I.bs
  bsz:=Q7 I.ok.bsz I.sz
  noex:=λb o e hb'=>by
   rcases(hf b hb').2.2.2.1 with q|q
   · exact I.ok.noex b o e q
   · exact absurd (lx (fS e) (Q7 I.ok.bsz q)) (zT _)
  exfs:=λb hb' hs=>by
   have q:=I.stkSub b hs
   rcases Q4.mp q with q|q
   · exact(hf b hb').2.1 q
   · exact(hf b hb').2.2.1 q
  funs:=I.stack
  frf:=I.stkFree}
theorem FZ {pins:List (Addr×Obj)}{σ:St}{H:Hp}{s:Shared}{h1:Heap}{own:List Str}{fr:List (Str×Nat)}{n:Nat}{sc:Scope}{fp:List Addr}{m:Str->Option Value}{t':Nat}(I:Inv X pins σ H s)(hk:sc.kind=.function)
 (hfree:∀y∈sc.names,y.2=.free->X.env.kindOf y.1=some .cell\/X.env.kindOf y.1=some .free) (hfr:∀p∈fr,X.N[p.2]? =some p.1/\sc.names.lookup p.1=some .free/\∀y∈sc.names,y.1=p.1->y.2≠ .cell) (hn:own.length=n) (hf:∀b∈fp,mP X pins H b) (hb:∀b∈fp,b < s.heap.objs.size)
 (ns:h1.Ns (s.heap.objs.size+1) m) (hD:h1.get? s.heap.objs.size=some {cls:=.type "list",data:=.seq ([]:List Value).toArray}) (old:∀b o,s.heap.get? b=some o->h1.get? b=some o)
 (hnc:∀x c,(x,c)∈cellsFrom (s.heap.objs.size+2) sc.names (dD X.env sc.names [])->s.heap.objs.size+2<=c->h1.IsCell c none):
 Inv (km X (own++fr.map (·.1)) sc (s.heap.objs.size+1) fp s H) [] (FQ n fr σ) (bv H s.heap.objs.size (.lst [])) {s with heap:=h1,toks:=t'}:=by
 have hcl:∀y∈sc.names,y.2=.free->∃c,X.env.cells.lookup y.1=some c:=λy hy e=>I.ok.has _ (hfree y hy e);have look:∀x c,(dD X.env sc.names []).lookup x=some c->X.env.cells.lookup x=some c:=λx c e=>by
  rcases j4 hcl (PySem.mem_of_lookup e)with q|q
  · simp at q
  · exact q
 have cellK:∀{c v},s.heap.IsCell c v->h1.IsCell c v:=λ{c v} q=>by
  obtain⟨o,ho,r⟩:=q;exact⟨o,old _ _ ho,r⟩
 have cc:∀x c,(cellsFrom (s.heap.objs.size+2) sc.names (dD X.env sc.names [])).lookup x=some c->(X.env.cells.lookup x=some c/\c < s.heap.objs.size)\/s.heap.objs.size+2<=c:=λx c e=>y6 I hfree (PySem.mem_of_lookup e);have hnD:H s.heap.objs.size=none:=I.hok.fresh (Q1 _);have hnC:H (s.heap.objs.size+1)=none:=I.hok.fresh (Nat.le_succ _);refine⟨Mr I hk hfree hf hb,rfl,I.bare,Un.laid old (Q1 _) hnD,⟨m,ns,λi x v h1' h2 h3=>?_⟩,λx c e=>?_,?_,λx c e=>?_,λp hp=>?_,I.hok.laid old (Q1 _) ?_,?_⟩
 · obtain⟨p,hp,e,q⟩:=JI hn h1' h2;subst e;obtain⟨hN,hl,hno⟩:=hfr p hp;obtain⟨m0,_,q0⟩:=I.loc;have kk:=hfree (p.1,.free) (PySem.mem_of_lookup hl) rfl;obtain⟨u,ru,lk⟩:=q0 p.2 p.1 v hN q (.inr kk);refine⟨u,ru,.inr ⟨sZ hl,?_⟩⟩
   rcases lk with⟨k1,_⟩|⟨_,c,e1,e2⟩
   · rcases kk with kk|kk
     · have kk':X.env.kindOf p.1=some .cell:=kk;rw [k1]at kk';cases kk'
     · have kk':X.env.kindOf p.1=some .free:=kk;rw [k1]at kk';cases kk'
   · obtain⟨d,hd⟩:=kj (env:=X.env) (acc:=[]) (.inl (PySem.mem_of_lookup hl));obtain⟨d',hd'⟩:=fj hd;have e3:=look _ _ hd';rw [e1]at e3;cases e3;refine⟨c,?_,cellK e2⟩;show(cellsFrom (s.heap.objs.size+2) sc.names (dD X.env sc.names [])).lookup p.1=some c;rw [qR hno];exact hd'
 · rcases cc x c e with⟨q,_⟩|q
   · obtain⟨v,hv⟩:=I.cell x c q;exact⟨v,cellK hv⟩
   · exact⟨none,hnc x c (PySem.mem_of_lookup e) q⟩
 · show bv H s.heap.objs.size _ (s.heap.objs.size+1)=none;rw [aN (Nat.succ_ne_self _)];exact hnC
 · show bv H s.heap.objs.size _ c=none
   rcases cc x c e with⟨q,l⟩|q
   · rw [aN (lO l)];exact I.freeC x c q
   · rw [aN (vV (lx (K6 (Ig _)) q))];exact I.hok.fresh (Q7 (Io _ 2) q)
 · exact absurd (show p∈([]:List (Addr×Obj))from hp) (by simp)
 · exact⟨by show 0<=sizeLine;decide,[],_,.nil,hD⟩
 · show(FQ n fr σ).length=(own++fr.map (·.1)).length
   unfold FQ;simp [hn]
theorem y7 {elt target iter:Expr}{ifs:List Expr}{sc:Scope}{pos:Pos}(own:List Str)(fr:List (Str×Nat)){g:TG}{tc:TT}{te:TE}(hc:X.calm=true)
 (hk:sc.kind=.function) (hfree:∀y∈sc.names,y.2=.free->X.env.kindOf y.1=some .cell\/X.env.kindOf y.1=some .free)
 (hfr:∀p∈fr,X.N[p.2]? =some p.1/\sc.names.lookup p.1=some .free/\∀y∈sc.names,y.1=p.1->y.2≠ .cell)
 (hg:∀C fp s H,PG (km X (own++fr.map (·.1)) sc C fp s H) target g) (ht:∀C fp s H,Mp (km X (own++fr.map (·.1)) sc C fp s H) ifs tc) (he:∀C fp s H,PE (km X (own++fr.map (·.1)) sc C fp s H) elt te)
 {pins:List (Addr×Obj)} {σ:St} {s2:Shared} {RR:Value->Addr->Result->Shared->Prop} {Q:V->Hp->Prop} {itv:Value}
 (h2 : Nf X pins σ target (λ J H1 => ∀ acc, H1 acc = none ->
  ∃W:Nat->Nat->St->Hp->Prop,(∃m,W 0 m (FQ own.length fr σ) (bv H1 acc (.lst [])))/\∀i m σ' H',W i m σ' H'->
   (J.stop i H' /\ Q (.ref acc) H') \/ (J.go i H' /\ ∃ Nx : St -> Hp -> Prop, (∀ σ2 H2, Nx σ2 H2 -> ∃ m', m' < m /\ W (i + 1) m' σ2 H2) /\
    ∀x H2,J.yld i H' x H2->g x σ' H2 λσ2 H3=>tc σ2 H3 λb H4=>if b=true then te σ2 H4 λy H5=>∃ys,H5 acc=some (.lst ys)/\ys.length < sizeLine/\Nx σ2 (bv H5 acc (.lst (ys++[y])))else Nx σ2 H4)) itv s2)
 (hRR : ∀ (D C : Addr) (s4 : Shared) (H3 : Hp) (m4 : Str -> Option Value), s2.heap.objs.size <= C -> s4.heap.Ns C m4 -> H3 C = none -> Q (.ref D) H3 ->
  (∀h':Heap,(∀b,b≠C->h'.get? b=s4.heap.get? b)->Inv X pins σ H3 {s4 with heap:=h'})->RR (.ref D) C (.ok .next) s4):
 wpAny (model X.prog X.w) X.A (newList []) (λacc s₃=>wpAny (model X.prog X.w) X.A (newFunctionEnv sc X.env.globals (dD X.env sc.names []) [] X.env.qual none .none (some X.env)) (λcenv s₄=>
  codeAny (model X.prog X.w) X.A (.compStart (.ListComp elt [⟨target,iter,ifs,0⟩] sc pos) 0 itv acc {cenv with scope:=relabel sc X.env}) (RR acc cenv.locals) s₄) X.xe s₃) X.xe s2:=by
 obtain⟨it,fp,tn,J,H2,e,I2,T,st2,f2,r⟩:=h2;subst e;refine wpAny_newObj_type (Db ?_)
 dsimp only
 generalize hH2:s2.heap.push {cls:=.type "list",dict:=none,data:=.seq ([]:List Value).toArray}=G2;have hC:G2.objs.size=s2.heap.objs.size+1:=by rw [<-hH2,CF]
 have z3:(G2.push {cls:=.type "dict",data:=.dict #[]}).objs.size=s2.heap.objs.size+2:=by rw [CF,hC]
 generalize hh1:pushCells (G2.push {cls:=.type "dict",data:=.dict #[]}) sc.names=h₁;have kp:∀b o,(G2.push {cls:=.type "dict",data:=.dict #[]}).get? b=some o->h₁.get? b=some o:=λb o e=>by rw [<-hh1];exact pushCells_keeps _ _ b o e
 have old:∀b o,s2.heap.get? b=some o->h₁.get? b=some o:=λb o e=>kp b o (gH _ (hH2▸gH _ e));have hD:h₁.get? s2.heap.objs.size=some {cls:=.type "list",data:=.seq ([]:List Value).toArray}:=kp _ _ (gH _ (hH2▸jS _ rfl));have hns₁:h₁.Ns (s2.heap.objs.size+1) (λ_=>none):=by
  rw [<-hC];exact(Heap.Ns.new G2 (.type "dict")).keeps kp
 have hnc:∀x c,(x,c)∈cellsFrom (s2.heap.objs.size+2) sc.names (dD X.env sc.names [])->s2.heap.objs.size+2<=c->h₁.IsCell c none:=λx c hm hc'=>by
  rw [<-hh1];refine oP (acc:=dD X.env sc.names []) (x:=x) (λz hz=>?_) (by rw [z3];exact hm) (by rw [z3];exact hc')
  rw [z3];exact lx (FY I2 hfree z hz) (Io _ _)
 rw [hC];have below:∀b,b < s2.heap.objs.size->b≠s2.heap.objs.size+1:=λb hb=>lO (K6 hb);have hb:∀b∈fp,b < s2.heap.objs.size:=λb hb=>by
  obtain⟨o,e,_⟩:=T.obj _ _ st2 b hb;exact fS e
 have st1:tn 0 h₁:=T.keep _ _ _ st2 λb _ o e=>old b o e;obtain⟨W,⟨m0,w0⟩,turn⟩:=r s2.heap.objs.size (I2.hok.fresh (Q1 _));have J0:∀t',Inv (km X (own++fr.map (·.1)) sc (s2.heap.objs.size+1) fp s2 H2) [] (FQ own.length fr σ) (bv H2 s2.heap.objs.size (.lst [])) {s2 with heap:=h₁,toks:=t'}:=λt'=>
  FZ I2 hk hfree hfr rfl f2 hb hns₁ hD old hnc
 have fpn:∀b∈fp,bv H2 s2.heap.objs.size (.lst []) b=none:=λb hb'=>by rw [aN (lO (hb b hb'))];exact(f2 b hb').1
 have stat:∀{H':Hp},(∀b∈fp,H' b=none)->∀b∈fp,mP (km X (own++fr.map (·.1)) sc (s2.heap.objs.size+1) fp s2 H2) [] H' b:=λ{H'} hn b hb'=>
  have ok:=(J0 0).ok
  ⟨hn b hb',(ok.exf b hb').1,ok.exfs b hb',.inl hb',(ok.exf b hb').2,λp hp=>absurd (show p∈([]:List (Addr×Obj))from hp) (by simp)⟩
 have loop:∀s3:Shared,s3={s2 with heap:=h₁}->
  codeAny (model X.prog X.w) X.A (.compLoop (.ListComp elt [⟨target,iter,ifs,0⟩] sc pos) 0 (.ref it) (.ref s2.heap.objs.size) (compEnvC sc (cellsFrom (s2.heap.objs.size+1+1) sc.names (dD X.env sc.names [])) (s2.heap.objs.size+1) X.env))
   (RR (.ref s2.heap.objs.size) (s2.heap.objs.size+1)) s3:=by
  rintro s3 rfl;refine yV (λn s'=>∃i σ' H',Inv (km X (own++fr.map (·.1)) sc (s2.heap.objs.size+1) fp s2 H2) [] σ' H' s'/\tn i s'.heap/\(∀b∈fp,H' b=none)/\W i n σ' H') ?_ m0 ⟨0,_,_,J0 _,st1,fpn,w0⟩
  rintro n s3 ⟨i,σ3,H3,I3,st3,fr3,w3⟩
  rcases turn i n σ3 H3 w3 with⟨stop,qn⟩|⟨go,N,hN,step⟩
  · refine dN (T.done (km X (own++fr.map (·.1)) sc (s2.heap.objs.size+1) fp s2 H2) rfl rfl rfl hc i [] s3 σ3 H3 (λ_ _=>False) I3 (stat fr3) st3 stop) λr s4 q_=>?_
    obtain⟨hr,I4⟩:=q_;subst hr;obtain⟨m4,ns4,_⟩:=I4.loc;have hCn:H3 (s2.heap.objs.size+1)=none:=I4.free;refine hRR _ _ s4 H3 m4 (Nat.le_succ _) ns4 hCn qn λh' sb=>?_;have u:Un (Am X.stack) fp H2 H3 s2.heap s4.heap:=I4.base;have u':Un (Am X.stack) fp H2 H3 s2.heap h':={
     keep:=λb o e n1 n2 n3=>(sb b (below b (fS e))).trans (u.keep b o e n1 n2 n3)
     slot:=λb o e n1 n2 n3=>by
      obtain⟨sl,q⟩:=u.slot b o e n1 n2 n3;exact⟨sl,(sb b (below b (fS e))).trans q⟩
     free:=u.free
     there:=λb o e n1=>by
      obtain⟨o',q⟩:=u.there b o e n1;exact⟨o',(sb b (below b (fS e))).trans q⟩
     tups:=u.tups
     frzs:=u.frzs
     tbls:=u.tbls}
    have hok':HOk X.prog X.w H3 h':=λa o e=>(I4.hok a o e).stay (λb u q z=>(sb b (by
     rcases q with q|q
     · subst q;exact aQ e hCn
     · exact aQ q hCn)).trans z) (λ_ q=>q) (λ_ _ q=>q) λ_ _ _ q=>q
    exact I2.call' (s':={s4 with heap:=h'}) (ch:=fp) I4.os u' hok' I4.bare λb hb'=>⟨(f2 b hb').2.2.2.1,(f2 b hb').2.1,(f2 b hb').2.2.2.2.1,(f2 b hb').2.2.2.2.2⟩
  · refine dN (T.item (km X (own++fr.map (·.1)) sc (s2.heap.objs.size+1) fp s2 H2) rfl rfl rfl hc i [] s3 σ3 H3 (λ_ _=>False) I3 (stat fr3) st3 go) λr s4 q_=>?_
    obtain⟨u,hr,h4⟩:=q_;subst hr;refine dN h4 λ_ s5 q_=>?_;obtain⟨x,H5,I5,r5,y5,st5,fr5⟩:=q_;have I5':=I5.pinned (stat fr5) (T.obj _ _ st5);refine dN (hg _ _ _ _ _ s5 σ3 H5 x u _ I5' r5 (step x H5 y5)) λ_ s6 q_=>?_;obtain⟨σ6,H6,I6,q6⟩:=q_;refine dN (ht _ _ _ _ _ s6 σ6 H6 _ I6 q6) λb s7 q_=>?_;obtain⟨H7,I7,q7⟩:=q_;have again:∀{σ7:St} {H7:Hp} {s7:Shared},Inv (km X (own++fr.map (·.1)) sc (s2.heap.objs.size+1) fp s2 H2) ([]++sT fp s5.heap) σ7 H7 s7->N σ7 H7->
     ∃m,m < n/\∃i σ' H',Inv (km X (own++fr.map (·.1)) sc (s2.heap.objs.size+1) fp s2 H2) [] σ' H' s7/\tn i s7.heap/\(∀b∈fp,H' b=none)/\W i m σ' H':=λ{σ7 H7 s7} I7 n7=>by
     obtain⟨m',hm,w7⟩:=hN σ7 H7 n7;refine⟨m',hm,i+1,σ7,H7,I7.unpinned,T.keep _ _ _ st5 λb hb o e=>(I7.pin (b,o) (yI _ (yI _ (iN hb e)))).1,λb hb=>?_,w7⟩;obtain⟨o,e,d⟩:=T.obj _ _ st5 b hb;exact(I7.pin (b,o) (yI _ (yI _ (iN hb e)))).2.1
    cases b with
    |false=>
     have q7':N σ6 H7:=q7;rw [if_neg (by simp)]
     exact again I7 q7'
    |true=>
     rw [if_pos rfl];refine dN (he _ _ _ _ _ s7 σ6 H7 _ I7 q7) λyv s8 q_=>?_;obtain⟨y,H8,I8,r8,ys,e8,z8,n8⟩:=q_;refine dN (gX (X:=km X (own++fr.map (·.1)) sc (s2.heap.objs.size+1) fp s2 H2) _ s8 σ6 H8 (.ref s2.heap.objs.size) [y] _ [yv] (λv H'=>v=.non/\H'=bv H8 s2.heap.objs.size (.lst (ys++[y]))) I8 rfl (.cons r8 .nil) ⟨_,ys,y,rfl,rfl,e8,z8,rfl,rfl⟩) λ_ s9 q_=>?_
     obtain⟨v,H9,I9,_,e1,e9⟩:=q_;subst e9;exact again I9 n8
 exact codeAny_compStart_list (loop _ rfl) (T.self X.A 0 _ _ _ st1 (loop _ rfl))
theorem vi {sc:Scope}{fr:List (Str×Nat)}(hfree:(sc.names.all λy=>y.2 != .free||(X.env.kindOf y.1==some .cell||X.env.kindOf y.1==some .free))=true)
 (hfr:(fr.all λp=>X.N[p.2]? ==some p.1&&sc.names.lookup p.1==some .free&&sc.names.all λy=>y.1 != p.1||y.2 != .cell)=true) (hnm:(sc.names.all λy=>y.2 != .local||sc.names.lookup y.1==some .local)=true):
 (∀y∈sc.names,y.2=.free->X.env.kindOf y.1=some .cell\/X.env.kindOf y.1=some .free)/\(∀p∈fr,X.N[p.2]? =some p.1/\sc.names.lookup p.1=some .free/\∀y∈sc.names,y.1=p.1->y.2≠ .cell)/\∀x∈sc.names,x.2=.local->sc.names.lookup x.1=some .local:=by
 refine⟨λy hy e=>?_,λp hp=>?_,λy hy e=>?_⟩
 · have:=Q9.mp hfree y hy;rw [e]at this;simpa using this
 · have:=Q9.mp hfr p hp;rw [Q5,Q5,Q9]at this;obtain⟨⟨h1,h2⟩,h3⟩:=this;refine⟨by simpa using h1,by simpa using h2,λy hy e z=>?_⟩
   have:=h3 y hy;rw [e,z]at this;simp at this
 · have:=Q9.mp hnm y hy;rw [e]at this;simpa using this
theorem eg {elt target iter:Expr}{ifs:List Expr}{sc:Scope}{pos:Pos}(own:List Str)(fr:List (Str×Nat)){wi:TI}{g:TG}{tc:TT}{te:TE}(hi:PI X target iter wi)
 (hg:∀C fp s H,PG (km X (own++fr.map (·.1)) sc C fp s H) target g) (ht:∀C fp s H,Mp (km X (own++fr.map (·.1)) sc C fp s H) ifs tc) (he:∀C fp s H,PE (km X (own++fr.map (·.1)) sc C fp s H) elt te)
 (hc:X.calm=true:=by rfl) (hk:sc.kind=.function:=by rfl)
 (hfree:(sc.names.all λy=>y.2 != .free||(X.env.kindOf y.1==some .cell||X.env.kindOf y.1==some .free))=true:=by rfl)
 (hfr:(fr.all λp=>X.N[p.2]? ==some p.1&&sc.names.lookup p.1==some .free&&sc.names.all λy=>y.1 != p.1||y.2 != .cell)=true:=by rfl) (hnm:(sc.names.all λy=>y.2 != .local||sc.names.lookup y.1==some .local)=true:=by rfl)
 (hs:∀x,foldedSetIterable iter X.env x=pure x:=by intro _;rfl):
 PE X (.ListComp elt [⟨target,iter,ifs,0⟩] sc pos) (yU own.length fr wi g tc te):=by
 obtain⟨c1,c2,c3⟩:=vi hfree hfr hnm;intro pins s σ H Q I h;rw [eval_ListComp];have hcl:∀y∈sc.names,y.2=.free->∃c,X.env.cells.lookup y.1=some c:=λy hy e=>I.ok.has _ (c1 y hy e);refine wpAny_comprehension_free (use:=none) rfl hs (ii hcl) hk c3 (dN (hi pins s σ H _ I h) λxv s₁ h₁=>dN h₁ λitv s2 h2=>?_);refine y7 (RR:=λacc C=>compPost (model X.prog X.w) X.A X.xe none (EP X pins σ Q) acc C) own fr hc hk c1 c2 hg ht he h2 ?_;intro D C s4 H3 m4 hC ns4 hCn q inv;exact⟨m4,ns4,λh' sb=>⟨.ref D,H3,inv h' λb hb=>sb.2 b hb,rfl,q⟩⟩
theorem xC {i:Nat}{x:Str}{elt target iter:Expr}{ifs:List Expr}{sc:Scope}{pos spos:Pos}{pos':Pos}(own:List Str)(fr:List (Str×Nat)){wi:TI}{g:TG}{tc:TT}{te:TE}(hN:X.N.Nodup)(hx1:X.N[i]? =some x)(hx:K8 X.env.scope x)(hi:PI X target iter wi)
 (hg:∀C fp s H,PG (km X (own++fr.map (·.1)) sc C fp s H) target g) (ht:∀C fp s H,Mp (km X (own++fr.map (·.1)) sc C fp s H) ifs tc) (he:∀C fp s H,PE (km X (own++fr.map (·.1)) sc C fp s H) elt te)
 (hsw:swapsWith (.ListComp elt [⟨target,iter,ifs,0⟩] sc pos) (some (.Name x pos')) spos.line X.env=pure true:=by rfl)
 (hc:X.calm=true:=by rfl) (hk:sc.kind=.function:=by rfl)
 (hfree:(sc.names.all λy=>y.2 != .free||(X.env.kindOf y.1==some .cell||X.env.kindOf y.1==some .free))=true:=by rfl)
 (hfr:(fr.all λp=>X.N[p.2]? ==some p.1&&sc.names.lookup p.1==some .free&&sc.names.all λy=>y.1 != p.1||y.2 != .cell)=true:=by rfl) (hnm:(sc.names.all λy=>y.2 != .local||sc.names.lookup y.1==some .local)=true:=by rfl)
 (hs:∀x,foldedSetIterable iter X.env x=pure x:=by intro _;rfl) (hl:X.env.scope.names.lookup x=some .local:=by rfl):
 PS X (.Assign [.Name x pos'] (.ListComp elt [⟨target,iter,ifs,0⟩] sc pos) spos) (oM (yU own.length fr wi g tc te) (eE i)):=by
 obtain⟨c1,c2,c3⟩:=vi hfree hfr hnm;intro pins s σ H D I h;rw [exec_Assign_Name_used _ _ _ _ hsw];refine wB (wpAny_standAt (wB ?_));show wpAny _ X.A (do let _<-comprehension (.ListComp elt [⟨target,iter,ifs,0⟩] sc pos) sc X.env _ (newList []) false (eval iter X.env) (some (assign (.Name x pos') X.env))) _ _ s
 have hcl:∀y∈sc.names,y.2=.free->∃c,X.env.cells.lookup y.1=some c:=λy hy e=>I.ok.has _ (c1 y hy e);refine wB (wpAny_mono (wpAny_comprehension_free (use:=some (assign (.Name x pos') X.env)) (Q:=λ_ s'=>SP X pins D .next s') rfl hs (ii hcl) hk c3 (dN (hi pins s σ H _ I h) λxv s₁ h₁=>dN h₁ λitv s2 h2=>?_)) (λ_ s' hq=>wP (wP hq)) λ_ _ e=>e);refine y7 (RR:=λacc C=>compPost (model X.prog X.w) X.A X.xe (some (assign (.Name x pos') X.env)) (λ_ s'=>SP X pins D .next s') acc C) (pins:=pins) (σ:=σ) (Q:=λx H1=>eE i x σ H1 D.nx) own fr hc hk c1 c2 hg ht he h2 ?_;intro Da C s4 H3 m4 hC ns4 hCn q inv;have I4:Inv X pins σ H3 s4:=inv s4.heap λb _=>rfl;have lC:X.env.locals≠C:=by
  intro z;obtain⟨it,fp,tn,J,H2,e,I2,_⟩:=h2;exact absurd (lx I2.lt (by rw [z];exact hC)) (zT _)
 have cC:∀y c,X.env.cells.lookup y=some c->c≠C:=λy c e z=>by
  obtain⟨it,fp,tn,J,H2,e',I2,_⟩:=h2;obtain⟨v,hv⟩:=I2.cell y c e;exact absurd (lx hv.lt (by rw [z];exact hC)) (zT _)
 show wpAny _ X.A (assign (.Name x pos') X.env (.ref Da)) _ _ _;refine wpAny_assign_Name (vX I4 hN hx1 hx (v:=.ref Da) rfl (λs5 I5 q_=>?_) (.inr hl));obtain⟨a,sb,ha⟩:=q_;have aC:C≠a:=λz=>by
  rcases ha with q1|q1
  · exact lC (q1.symm.trans z.symm)
  · exact cC x a q1 z.symm
 refine⟨m4,ns4.sameBut sb aC,λh' sb'=>⟨_,H3,?_,q⟩⟩;obtain⟨m5,n5,l5⟩:=I5.loc;exact {
  ok:=I5.ok
  os:=I5.os
  bare:=I5.bare
  base:={
   keep:=λb o e n1 n2 n3=>(sb'.2 b λz=>by
    obtain⟨it,fp,tn,J,H2,e',I2,_⟩:=h2;exact absurd (lx (fS e) (Q7 I2.sz (by rw [z];exact hC))) (zT _)).trans (I5.base.keep b o e n1 n2 n3)
   slot:=λb o e n1 n2 n3=>by
    obtain⟨sl,q⟩:=I5.base.slot b o e n1 n2 n3;refine⟨sl,(sb'.2 b λz=>?_).trans q⟩;obtain⟨it,fp,tn,J,H2,e',I2,_⟩:=h2;exact absurd (lx (fS e) (Q7 I2.sz (by rw [z];exact hC))) (zT _)
   free:=I5.base.free
   there:=λb o e n1=>by
    obtain⟨o',q⟩:=I5.base.there b o e n1;refine⟨o',(sb'.2 b λz=>?_).trans q⟩;obtain⟨it,fp,tn,J,H2,e',I2,_⟩:=h2;exact absurd (lx (fS e) (Q7 I2.sz (by rw [z];exact hC))) (zT _)
   tups:=I5.base.tups
   frzs:=I5.base.frzs
   tbls:=I5.base.tbls}
  loc:=⟨m5,n5.sameBut sb' lC,λj y v h1 h2' h3=>by
   obtain⟨u,ru,lk⟩:=l5 j y v h1 h2' h3;refine⟨u,ru,?_⟩
   rcases lk with⟨k1,k2⟩|⟨k1,c,k2,k3⟩
   · exact .inl ⟨k1,k2⟩
   · exact .inr ⟨k1,c,k2,k3.sameBut sb' (cC y c k2)⟩⟩
  cell:=λy c e=>by
   obtain⟨v,hv⟩:=I5.cell y c e;exact⟨v,hv.sameBut sb' (cC y c e)⟩
  free:=I5.free
  freeC:=I5.freeC
  pin:=λp hp=>by
   obtain⟨q1,q2⟩:=I5.pin p hp;refine⟨(sb'.2 p.1 λz=>?_).trans q1,q2⟩;obtain⟨it,fp,tn,J,H2,e',I2,_⟩:=h2;exact absurd (lx (fS (I2.pin p hp).1) (by rw [z];exact hC)) (zT _)
  hok:=λa o e=>(I5.hok a o e).stay (λb u q z=>(sb'.2 b (by
   rcases q with q|q
   · subst q;exact aQ e hCn
   · exact aQ q hCn)).trans z) (λ_ q=>q) (λ_ _ q=>q) λ_ _ _ q=>q
  len:=I5.len}
end
end L2
namespace PySem
open Sem (wp)
namespace Heap
def TracedD(h base:Heap)(e:Addr)(cls:Value)(a0:Option Addr):Prop:=
 ∃oe vs T oT ts,h.get? e=some oe/\(oe.cls=cls/\oe.dict=a0)/\oe.data=.fields vs/\vs[1]? =some (.ref T)/\base.get? T=none/\T≠e/\h.get? T=some oT/\oT.data=.fields ts/\ts[3]? =some .none
def TracedAtD(h base:Heap)(e:Addr)(cls:Value)(a0:Option Addr)(fl:Value):Prop:=
 ∃oe vs T oT ts,h.get? e=some oe/\(oe.cls=cls/\oe.dict=a0)/\oe.data=.fields vs/\vs[1]? =some (.ref T)/\base.get? T=none/\T≠e/\h.get? T=some oT/\oT.data=.fields ts/\ts[3]? =some fl
theorem TracedD.at {h base:Heap}{e:Addr}{cls:Value}{a0:Option Addr}(x:h.TracedD base e cls a0):h.TracedAtD base e cls a0 .none:=x
theorem TracedAtD.there {h base:Heap}{e:Addr}{cls:Value}{a0:Option Addr}{fl:Value}(x:h.TracedAtD base e cls a0 fl):∃ob,h.get? e=some ob/\ob.cls=cls:=by
 obtain⟨oe,_,_,_,_,he,hc,_⟩:=x;exact⟨oe,he,hc.1⟩
end Heap
section
variable {M:Model} {A:Around} {E:Value->Shared->Prop} {s:Shared}
def Heap.FlyingD(base:Heap)(l:List Env)(e:Addr)(cls:Value)(a0:Option Addr)(h:Heap):Prop:=
 base.StaysIn h/\base.get? e=none/\h.FunFrames base l/\h.TracedD base e cls a0
theorem Heap.FlyingD.there {base h:Heap}{l:List Env}{e:Addr}{cls:Value}{a0:Option Addr}(x:Heap.FlyingD base l e cls a0 h):∃ob,h.get? e=some ob/\ob.cls=cls:=by
 obtain⟨_,_,_,oe,_,_,_,_,he,hc,_⟩:=x;exact⟨oe,he,hc.1⟩
def Heap.HeldD(base:Heap)(l:List Env)(e:Addr)(cls:Value)(a0:Option Addr)(L:Addr)(h:Heap):Prop:=
 base.StaysIn h/\base.get? e=none/\h.FunFrames base l/\h.TracedAtD base e cls a0 (rawInt L)
theorem Heap.HeldD.there {base h:Heap}{l:List Env}{e L:Addr}{cls:Value}{a0:Option Addr}(x:Heap.HeldD base l e cls a0 L h):∃ob,h.get? e=some ob/\ob.cls=cls:=x.2.2.2.there
theorem Heap.FlyingD.first {base h:Heap}{l:List Env}{e:Addr}{cls:Value}{a0:Option Addr}(x:Heap.FlyingD base l e cls a0 h):∃oe vs,h.get? e=some oe/\oe.cls=cls/\oe.data=.fields vs/\oe.dict=a0:=
 let ⟨_,_,_,oe,vs,_,_,_,he,hc,hd,_⟩:=x;⟨oe,vs,he,hc.1,hd,hc.2⟩
end
end PySem
namespace L2
open PySem PySem.Spec PyProof.Rows PySem.W
theorem ObjOk.there {P:Program}{w:World}{H:Hp}{h:Heap}{a:Addr}{o:HO}(x:ObjOk P w H h a o):∃ob,h.get? a=some ob:=by
 cases o with
 |lst xs=>obtain⟨_,_,_,_,e⟩:=x;exact⟨_,e⟩
 |tup xs=>obtain⟨_,_,_,⟨ob,e,_⟩,_⟩:=x;exact⟨_,e⟩
 |dK kvs=>obtain⟨_,_,_,_,o,_,_,e,_⟩:=x;exact⟨_,e⟩
 |dT kvs=>obtain⟨_,_,_,_,o,_,_,e,_⟩:=x;exact⟨_,e⟩
 |set S n=>obtain⟨o,_,_,_,e,_⟩:=x;exact⟨_,e⟩
 |ins C dx fs=>obtain⟨_,_,_,e,_⟩:=x;exact⟨_,e⟩
 |own y=>obtain⟨_,e⟩:=x;exact⟨_,e⟩
 |xd fs=>obtain⟨_,⟨_,_,_,e,_⟩,_⟩:=x;exact⟨_,e⟩
 |rng lo hi=>obtain⟨_,_,_,e⟩:=x;exact⟨_,e⟩
 |frz ob u=>obtain⟨e,_⟩:=x;exact⟨_,e⟩
 |tbl ps=>
  rcases x with e|⟨_,_,_,_,_,_,_,_,_,_,e,_⟩
  · exact⟨_,e⟩
  · exact⟨_,e⟩
 |met f y=>exact⟨_,(show h.get? a=some _ from x)⟩
 |ext φ=>obtain⟨_,⟨_,e⟩,_⟩:=x;exact⟨_,e⟩
structure Flown (P:Program) (w:World) (outer:List Env) (H:Hp) (s:Shared) (ea C:Addr) (a0:Option Addr) (B:Heap) (H':Hp) (s':Shared):Prop where
 os:s'.os=s.os
 bare:AllBare s'.gens
 hokB:HOk P w H' B
 fly:Heap.FlyingD B outer ea (.ref C) a0 s'.heap
 cov:∀b o,s.heap.get? b=some o->H b=none->b ∉ Am outer->B.get? b=some o
 thr:∀b o,s.heap.get? b=some o->b∈Am outer\/∃o',B.get? b=some o'
 un:Un (Am outer) [] H H' s.heap s'.heap
def XV(ea:Addr)(v:Value)(dx:Option Addr)(H:Hp):Prop:=v=.ref ea\/∃n t d,v=.int n t/\dx=some d/\H d=some (.xd [("at",.int n)])
section
variable {P:Program} {w:World} {outer:List Env} {H H':Hp} {s s':Shared} {ea C:Addr} {a0:Option Addr} {B:Heap}
theorem Flown.hok(f:Flown P w outer H s ea C a0 B H' s'):HOk P w H' s'.heap:=f.hokB.kept f.fly.1
theorem Flown.free(f:Flown P w outer H s ea C a0 B H' s'):H' ea=none:=by
 cases q:H' ea with
 |none=>rfl
 |some u=>
  obtain⟨ob,e⟩:=(f.hokB _ _ q).there;rw [f.fly.2.1]at e;cases e
end
section
variable {X:Cx} {pins:List (Addr×Obj)} {σ:St} {H:Hp} {s:Shared}
end
section
variable {P:Program} {w:World} {K:Frag} {mg:Str->Option Value} {base:Heap} {N:List Str} {qual:Str} {scope:Scope} {f:Addr} {cd:Value} {A:Around} {outer:List Env} {s₀:Shared} {H₀:Hp} {E:XK}
end
def XW(e:Value)(ea:Addr):Prop:=e=.ref ea\/∃n t,e=.int n t
theorem XV.w {ea:Addr}{v:Value}{dx:Option Addr}{H:Hp}(h:XV ea v dx H):XW v ea:=by
 rcases h with h|⟨n,t,_,h,_⟩
 · exact .inl h
 · exact .inr ⟨n,t,h⟩
section
variable {X:Cx} {pins:List (Addr×Obj)} {σ:St} {H:Hp} {s:Shared}
noncomputable def Ends.un(D:Ends)(i:Nat):Ends:={nx:=λσ H=>D.nx (σ.set i none) H,bk:=λσ H=>D.bk (σ.set i none) H,ct:=λσ H=>D.ct (σ.set i none) H,rt:=D.rt}
end
end L2
namespace GC
noncomputable def bU:List Int->List Int->Nat
 |_,[]=>0
 |u,c::g=>if c∈u then bU (u.erase c) g+1 else bU u g
theorem mV:∀g:List Int,bU [] g=0
 |[]=>rfl
 |c::g=>by unfold bU;rw [if_neg (by simp),mV g]
theorem ri {u u':List Int}(g:List Int)(h:u.Perm u'):bU u g=bU u' g:=by
 induction g generalizing u u' with
 |nil=>rfl
 |cons c g ih=>
  unfold bU
  by_cases m:c∈u
  · rw [if_pos m,if_pos (h.mem_iff.mp m),ih (h.erase c)]
  · rw [if_neg m,if_neg (λx=>m (h.mem_iff.mpr x)),ih h]
theorem BK(u:List Int)(a b:Int)(g:List Int):bU u (a::b::g)=bU u (b::a::g):=by
 by_cases e:a=b
 · subst e;rfl
 · have e':b≠a:=λz=>e z.symm;have m1:b∈u.erase a↔b∈u:=List.mem_erase_of_ne e';have m2:a∈u.erase b↔a∈u:=List.mem_erase_of_ne e;unfold bU;unfold bU
   by_cases ha:a∈u<;>by_cases hb:b∈u
   · simp only [ha,hb,m1,m2,if_true];rw [List.erase_comm]
   · simp only [ha,hb,m1,m2,if_true,if_false]
   · simp only [ha,hb,m1,m2,if_true,if_false]
   · simp only [ha,hb,m1,m2,if_false]
theorem qS {u:List Int}{c:Int}{g g':List Int}(h:∀u,bU u g=bU u g'):bU u (c::g)=bU u (c::g'):=by
 unfold bU;rw [h,h]
theorem kn {g g':List Int}(h:g.Perm g'):∀u,bU u g=bU u g':=by
 induction h with
 |nil=>intro u;rfl
 |cons x _ ih=>intro u;exact qS ih
 |swap x y l=>intro u;exact BK u y x l
 |trans _ _ ih1 ih2=>intro u;rw [ih1,ih2]
theorem oQ {c:Int}:∀(u g:List Int),c ∉ u->bU (c::g) u=bU g u
 |[],g,_=>rfl
 |x::u,g,h=>by
  have hx:x≠c:=λe=>h (by simp [e])
  have hu:c ∉ u:=λz=>h (ke _ z);have m:x∈c::g↔x∈g:=by simp [hx]
  unfold bU
  by_cases hg:x∈g
  · rw [if_pos (m.mpr hg),if_pos hg,List.erase_cons_tail (by simpa using hx.symm),oQ u _ hu]
  · rw [if_neg (λz=>hg (m.mp z)),if_neg hg,oQ u _ hu]
theorem sh(c:Int)(u g:List Int):bU (c::u) (c::g)=bU u g+1:=by
 show(if c∈c::u then bU ((c::u).erase c) g+1 else bU (c::u) g)=_;rw [if_pos (by simp),List.erase_cons_head]
theorem lR:∀(g u:List Int),bU u g=bU g u
 |[],u=>by rw [mV];rfl
 |c::g,u=>by
  by_cases h:c∈u
  · show(if c∈u then bU (u.erase c) g+1 else bU u g)=_;rw [if_pos h,lR g,kn (List.perm_cons_erase h) (c::g),sh]
  · show(if c∈u then bU (u.erase c) g+1 else bU u g)=_;rw [if_neg h,oQ u g h,lR g]
theorem vj:∀(e u g:List Int),bU (e++u) (e++g)=e.length+bU u g
 |[],u,g=>by simp
 |c::e,u,g=>by
  rw [Q3,Q3,sh,vj e u g,zC];omega
theorem j5:∀(u g:List Int),bU u g<=g.length
 |_,[]=>Q1 _
 |u,c::g=>by
  unfold bU;split
  · have:=j5 (u.erase c) g;simp;omega
  · have:=j5 u g;simp;omega
noncomputable def left:List Int->List Int->List Int
 |u,[]=>u
 |u,c::g=>if c∈u then left (u.erase c) g else left u g
theorem nM(c:Int):∀(g u:List Int),left u (g++[c])=if c∈left u g then(left u g).erase c else left u g
 |[],u=>rfl
 |d::g,u=>by
  show(if d∈u then left (u.erase d) (g++[c])else left u (g++[c]))=if c∈(if d∈u then left (u.erase d) g else left u g)then(if d∈u then left (u.erase d) g else left u g).erase c else(if d∈u then left (u.erase d) g else left u g)
  by_cases m:d∈u
  · simp only [if_pos m];exact nM c g _
  · simp only [if_neg m];exact nM c g _
theorem lT(c:Int):∀(g u:List Int),bU u (g++[c])=bU u g+if c∈left u g then 1 else 0
 |[],u=>by
  show(if c∈u then 0+1 else 0)=0+if c∈u then 1 else 0
  by_cases m:c∈u<;>simp [m]
 |d::g,u=>by
  show(if d∈u then bU (u.erase d) (g++[c])+1 else bU u (g++[c]))=(if d∈u then bU (u.erase d) g+1 else bU u g)+if c∈(if d∈u then left (u.erase d) g else left u g)then 1 else 0
  by_cases m:d∈u
  · simp only [if_pos m];rw [lT c g];omega
  · simp only [if_neg m];exact lT c g _
noncomputable def oq:List Int->List Int->Nat
 |a::x,b::y=>(if a=b then 1 else 0)+oq x y
 |_,_=>0
noncomputable def Kj:List Int->List Int->List Int
 |a::x,b::y=>if a=b then a::Kj x y else Kj x y
 |_,_=>[]
noncomputable def cA:List Int->List Int->List Int
 |a::x,b::y=>if a=b then cA x y else a::cA x y
 |_,_=>[]
noncomputable def dX:List Int->List Int->List Int
 |a::x,b::y=>if a=b then dX x y else b::dX x y
 |_,_=>[]
theorem cf {i:Nat}{b:List Int}(h:i < b.length):b.take (i+1)=b.take i++[b[i]]:=Ic h
theorem si(c d:Int):∀(x y:List Int),x.length=y.length->oq (x++[c]) (y++[d])=oq x y+if c=d then 1 else 0
 |[],[],_=>by simp [oq]
 |[],_::_,h=>by simp at h
 |_::_,[],h=>by simp at h
 |a::x,b::y,h=>by
  show(if a=b then 1 else 0)+oq (x++[c]) (y++[d])=(if a=b then 1 else 0)+oq x y+_;rw [si c d x y (by simpa using h)]
  omega
theorem vk(c d:Int):∀(x y:List Int),x.length=y.length->cA (x++[c]) (y++[d])=cA x y++if c=d then []else [c]
 |[],[],_=>by simp [cA]
 |[],_::_,h=>by simp at h
 |_::_,[],h=>by simp at h
 |a::x,b::y,h=>by
  show(if a=b then cA (x++[c]) (y++[d])else a::cA (x++[c]) (y++[d]))=(if a=b then cA x y else a::cA x y)++_;rw [vk c d x y (by simpa using h)]
  by_cases e:a=b<;>simp [e]
theorem vm(c d:Int):∀(x y:List Int),x.length=y.length->dX (x++[c]) (y++[d])=dX x y++if c=d then []else [d]
 |[],[],_=>by simp [dX]
 |[],_::_,h=>by simp at h
 |_::_,[],h=>by simp at h
 |a::x,b::y,h=>by
  show(if a=b then dX (x++[c]) (y++[d])else b::dX (x++[c]) (y++[d]))=(if a=b then dX x y else b::dX x y)++_;rw [vm c d x y (by simpa using h)]
  by_cases e:a=b<;>simp [e]
theorem xD:∀x y:List Int,(Kj x y).length=oq x y
 |[],_=>rfl
 |_::_,[]=>rfl
 |a::x,b::y=>by
  unfold Kj oq
  by_cases h:a=b
  · rw [if_pos h,if_pos h,zC,xD x y];omega
  · rw [if_neg h,if_neg h,xD x y];omega
theorem vn:∀x y:List Int,x.length=y.length->x.Perm (Kj x y++cA x y)
 |[],[],_=>.nil
 |[],_::_,h=>by simp at h
 |_::_,[],h=>by simp at h
 |a::x,b::y,h=>by
  have ih:=vn x y (by simpa using h)
  unfold Kj cA
  by_cases e:a=b
  · rw [if_pos e,if_pos e,Q3];exact ih.cons a
  · rw [if_neg e,if_neg e];exact(ih.cons a).trans List.perm_middle.symm
theorem vo:∀x y:List Int,x.length=y.length->y.Perm (Kj x y++dX x y)
 |[],[],_=>.nil
 |[],_::_,h=>by simp at h
 |_::_,[],h=>by simp at h
 |a::x,b::y,h=>by
  have ih:=vo x y (by simpa using h)
  unfold Kj dX
  by_cases e:a=b
  · rw [if_pos e,if_pos e,Q3, <-e];exact ih.cons a
  · rw [if_neg e,if_neg e];exact(ih.cons b).trans List.perm_middle.symm
noncomputable def jw(h g:List Int):List Int:=[(oq h g:Int),(bU h g:Int) - (oq h g:Int)]
noncomputable def hW(h g:List Int):List Int:=[(oq h g:Int),(bU (dX h g) (cA h g):Int)]
theorem y8 {h g:List Int}(l:h.length=g.length):bU h g=oq h g+bU (cA h g) (dX h g):=by
 rw [ri g (vn h g l),kn (vo h g l),vj,xD]
theorem JO {h g:List Int}(l:h.length=g.length):jw h g=hW h g:=by
 unfold jw hW;rw [y8 l,lR (cA h g) (dX h g)];congr 1
 congr 1
 have:=lR (dX h g) (cA h g);omega
theorem F8:∀x y:List Int,x.length=y.length->oq x y<=x.length
 |[],[],_=>Q1 _
 |[],_::_,h=>by simp at h
 |_::_,[],h=>by simp at h
 |a::x,b::y,h=>by
  have:=F8 x y (by simpa using h)
  unfold oq;split<;>simp<;>omega
theorem xE:∀x y:List Int,x.length=y.length->(oq x y=x.length↔x=y)
 |[],[],_=>by simp [oq]
 |[],_::_,h=>by simp at h
 |_::_,[],h=>by simp at h
 |a::x,b::y,h=>by
  have l:x.length=y.length:=by simpa using h
  have ih:=xE x y l;have le:=F8 x y l;unfold oq
  by_cases e:a=b
  · subst e;rw [if_pos rfl,zC]
    constructor
    · intro q;rw [ih.mp (by omega)]
    · intro q;have:=ih.mpr (List.cons.inj q).2;omega
  · rw [if_neg e,zC]
    constructor
    · intro q;omega
    · intro q;exact absurd (List.cons.inj q).1 e
theorem sq:∀x y:List Int,x.length=y.length->oq x y+(cA x y).length=x.length
 |[],[],_=>rfl
 |[],_::_,h=>by simp at h
 |_::_,[],h=>by simp at h
 |a::x,b::y,h=>by
  have ih:=sq x y (by simpa using h)
  unfold oq cA;split<;>simp<;>omega
theorem sv:∀x y:List Int,x.length=y.length->(dX x y).length=(cA x y).length
 |[],[],_=>rfl
 |[],_::_,h=>by simp at h
 |_::_,[],h=>by simp at h
 |a::x,b::y,h=>by
  have ih:=sv x y (by simpa using h)
  unfold dX cA
  by_cases e:a=b
  · rw [if_pos e,if_pos e];exact ih
  · rw [if_neg e,if_neg e,zC,zC,ih]
theorem vp:∀x y:List Int,x.length=y.length->(cA x y).length=1->bU (dX x y) (cA x y)=0
 |[],[],_,h=>by simp [cA]at h
 |[],_::_,h,_=>by simp at h
 |_::_,[],h,_=>by simp at h
 |a::x,b::y,h,h1=>by
  have l:x.length=y.length:=by simpa using h
  unfold cA at h1;unfold dX cA
  by_cases e:a=b
  · rw [if_pos e]at h1;rw [if_pos e,if_pos e];exact vp x y l h1
  · rw [if_neg e]at h1;rw [if_neg e,if_neg e];have m0:cA x y=[]:=by
     cases q:cA x y with
     |nil=>rfl
     |cons z r=>rw [q]at h1;simp at h1
    have t0:dX x y=[]:=by
     have:=sv x y l;rw [m0]at this;cases q:dX x y with
     |nil=>rfl
     |cons z r=>rw [q]at this;simp at this
    rw [m0,t0];unfold bU;rw [if_neg (by simpa using e)]
    rfl
theorem y9 {h g:List Int}(l:h.length=g.length):(oq h g:Int)+(bU (dX h g) (cA h g):Int)<=h.length/\hW h g≠[(h.length:Int) - 1,1]/\(hW h g=[(h.length:Int),0]↔h=g):=by
 have e1:=sq h g l;have e2:=j5 (dX h g) (cA h g);refine⟨by omega,λq=>?_,?_,?_⟩
 · unfold hW at q;injection q with q1 q2
   injection q2 with q2 _
   have:(cA h g).length=1:=by omega
   have:=vp h g l this;omega
 · intro q;unfold hW at q;injection q with q1 _
   exact(xE h g l).mp (by omega)
 · intro q;subst q;have:oq h h=h.length:=(xE h h rfl).mpr rfl;unfold hW;have:bU (dX h h) (cA h h)=0:=by omega
   rw [this];congr 1
   omega
end GC
namespace DL
open PySem PySem.Spec PyProof.Rows L2
noncomputable abbrev St:=L2.St
noncomputable def kD:bx->PyData
 | .inl i=>.int i
 | .inr x=>.str x
noncomputable def qK(ns:List Int):PyData:=.dict [(.none,.list (ns.map .int))]
mutual
noncomputable def Is(K:Fg)(H:Hp)(x:V):PyData->Prop
 | .none=>x=.non
 | .bool b=>x=.bl b
 | .int i=>x=.int i
 | .str y=>x=.str y
 | .list ds=>∃a xs,x=.ref a/\H a=some (.lst xs)/\Are K H xs ds
 | .tuple ds=>∃a xs,x=.ref a/\H a=some (.tup xs)/\Are K H xs ds
 | .dict kvs=>∃a,x=.ref a/\((∃ns:List Int,kvs=[(.none,.list (ns.map .int))]/\SqL K H a (ns.map V.int))\/(∃m,H a=some (.dT m)/\Kvs K H m kvs)\/(∃nm:Str,kvs=[(.bool true,.str nm)]/\PySem.W.nsIn K mainGlobals nm=some (some (.ref a)))\/∃m,H a=some (.dK m)/\KvsS K H m kvs)
noncomputable def Are(K:Fg)(H:Hp)(xs:List V):List PyData->Prop
 |[]=>xs=[]
 |d::ds=>∃x r,xs=x::r/\Is K H x d/\Are K H r ds
noncomputable def Kvs(K:Fg)(H:Hp)(m:List (List bx×V)):List (PyData×PyData)->Prop
 |[]=>m=[]
 |p::r=>∃q m',m=q::m'/\Kv K H q p/\Kvs K H m' r
noncomputable def Kv(K:Fg)(H:Hp)(q:List bx×V):PyData×PyData->Prop
 |(k,d)=>k=.tuple (q.1.map kD)/\Is K H q.2 d
noncomputable def KvsS(K:Fg)(H:Hp)(m:List (bx×V)):List (PyData×PyData)->Prop
 |[]=>False
 |p::r=>p=(.none,.none)/\KvsI K H m r
noncomputable def KvsI(K:Fg)(H:Hp)(m:List (bx×V)):List (PyData×PyData)->Prop
 |[]=>m=[]
 |p::r=>∃q m',m=q::m'/\KvI K H q p/\KvsI K H m' r
noncomputable def KvI(K:Fg)(H:Hp)(q:bx×V):PyData×PyData->Prop
 |(k,d)=>k=kD q.1/\Is K H q.2 d
end
mutual
theorem Is.same {K:Fg}{H H':Hp}(s:Same H H'):∀{x:V} (d:PyData),Is K H x d->Is K H' x d
 |_,.none,h=>h
 |_,.bool _,h=>h
 |_,.int _,h=>h
 |_,.str _,h=>h
 |_,.list ds,h=>by
  obtain⟨a,xs,e,q,r⟩:=h;exact⟨a,xs,e,s _ _ q,Are.same s ds r⟩
 |_,.tuple ds,h=>by
  obtain⟨a,xs,e,q,r⟩:=h;exact⟨a,xs,e,s _ _ q,Are.same s ds r⟩
 |_,.dict kvs,h=>by
  obtain⟨a,e,h⟩:=h
  rcases h with⟨ns,e1,q⟩|⟨m,q,r⟩|q
  · exact⟨a,e,.inl ⟨ns,e1,s.seq q⟩⟩
  · exact⟨a,e,.inr (.inl ⟨m,s _ _ q,Kvs.same s kvs r⟩)⟩
  · rcases q with q|⟨m,q,r⟩
    · exact⟨a,e,.inr (.inr (.inl q))⟩
    · exact⟨a,e,.inr (.inr (.inr ⟨m,s _ _ q,KvsS.same s kvs r⟩))⟩
theorem Are.same {K:Fg}{H H':Hp}(s:Same H H'):∀{xs:List V} (ds:List PyData),Are K H xs ds->Are K H' xs ds
 |_,[],h=>h
 |_,d::ds,h=>by
  obtain⟨x,r,e,q,t⟩:=h;exact⟨x,r,e,Is.same s d q,Are.same s ds t⟩
theorem Kvs.same {K:Fg}{H H':Hp}(s:Same H H'):∀{m:List (List bx×V)} (kvs:List (PyData×PyData)),Kvs K H m kvs->Kvs K H' m kvs
 |_,[],h=>h
 |_,p::r,h=>by
  obtain⟨q,m',e,h1,h2⟩:=h;exact⟨q,m',e,Kv.same s p h1,Kvs.same s r h2⟩
theorem Kv.same {K:Fg}{H H':Hp}(s:Same H H'):∀{q:List bx×V} (p:PyData×PyData),Kv K H q p->Kv K H' q p
 |_,(k,d),h=>⟨h.1,Is.same s d h.2⟩
theorem KvsS.same {K:Fg}{H H':Hp}(s:Same H H'):∀{m:List (bx×V)} (kvs:List (PyData×PyData)),KvsS K H m kvs->KvsS K H' m kvs
 |_,[],h=>h
 |_,p::r,h=>⟨h.1,KvsI.same s r h.2⟩
theorem KvsI.same {K:Fg}{H H':Hp}(s:Same H H'):∀{m:List (bx×V)} (kvs:List (PyData×PyData)),KvsI K H m kvs->KvsI K H' m kvs
 |_,[],h=>h
 |_,p::r,h=>by
  obtain⟨q,m',e,h1,h2⟩:=h;exact⟨q,m',e,KvI.same s p h1,KvsI.same s r h2⟩
theorem KvI.same {K:Fg}{H H':Hp}(s:Same H H'):∀{q:bx×V} (p:PyData×PyData),KvI K H q p->KvI K H' q p
 |_,(k,d),h=>⟨h.1,Is.same s d h.2⟩
end
def DcO(K:Fg)(F:Hp)(o:HO)(kvs:List (PyData×PyData)):Prop:=(∃m,o=.dT m/\Kvs K F m kvs)\/∃m,o=.dK m/\KvsS K F m kvs
theorem DcO.same {K:Fg}{F F':Hp}{o:HO}{kvs:List (PyData×PyData)}(s:Same F F')(h:DcO K F o kvs):DcO K F' o kvs:=
 h.imp (λ⟨m,e,q⟩=>⟨m,e,Kvs.same s _ q⟩) λ⟨m,e,q⟩=>⟨m,e,KvsS.same s _ q⟩
theorem DcO.ntup {K:Fg}{F:Hp}{o:HO}{kvs:List (PyData×PyData)}(h:DcO K F o kvs):∀xs,o≠ .tup xs:=λxs z=>by
 subst z
 rcases h with⟨_,e,_⟩|⟨_,e,_⟩<;>cases e
theorem DcO.nlst {K:Fg}{F:Hp}{o:HO}{kvs:List (PyData×PyData)}(h:DcO K F o kvs):∀xs,o≠ .lst xs:=λxs z=>by
 subst z
 rcases h with⟨_,e,_⟩|⟨_,e,_⟩<;>cases e
theorem DcO.is {K:Fg}{F:Hp}{o:HO}{kvs:List (PyData×PyData)}{a:Addr}(h:DcO K F o kvs)(e:F a=some o):Is K F (.ref a) (.dict kvs):=by
 rcases h with⟨m,rfl,q⟩|⟨m,rfl,q⟩
 · exact⟨a,rfl,.inr (.inl ⟨m,e,q⟩)⟩
 · exact⟨a,rfl,.inr (.inr (.inr ⟨m,e,q⟩))⟩
theorem Are.length {K:Fg}{H:Hp}:∀{xs:List V} {ds:List PyData},Are K H xs ds->xs.length=ds.length
 |_,[],h=>by rw [show _=[]from h];rfl
 |_,d::ds,h=>by
  obtain⟨x,r,e,q,t⟩:=h;rw [e,zC,zC,Are.length t]
theorem Are.get {K:Fg}{H:Hp}:∀{xs:List V} {ds:List PyData} {i:Nat} {d:PyData},Are K H xs ds->ds[i]? =some d->∃x,xs[i]? =some x/\Is K H x d
 |_,[],_,_,_,e=>by simp at e
 |_,d::ds,0,_,h,e=>by
  obtain⟨x,r,e',q,t⟩:=h;simp at e;subst e;rw [e'];exact⟨x,rfl,q⟩
 |_,d::ds,i+1,d',h,e=>by
  obtain⟨x,r,e',q,t⟩:=h;obtain⟨y,h1,h2⟩:=Are.get (i:=i) (d:=d') t (by simpa using e)
  rw [e'];exact⟨y,by simpa using h1,h2⟩
theorem Are.get' {K:Fg}{H:Hp}{xs:List V}{ds:List PyData}{i:Nat}{x:V}(h:Are K H xs ds)(e:xs[i]? =some x):∃d,ds[i]? =some d/\Is K H x d:=by
 have hi:i < xs.length:=(Ec.mp e).1;have hl:=h.length;have hd:ds[i]? =some (ds[i]'(by omega)):=cY _
 obtain⟨y,h1,h2⟩:=h.get hd;rw [e]at h1;cases h1;exact⟨_,hd,h2⟩
theorem Are.append {K:Fg}{H:Hp}:∀{xs ys:List V} {ds es:List PyData},Are K H xs ds->Are K H ys es->Are K H (xs++ys) (ds++es)
 |_,ys,[],es,h,h'=>by rw [show _=[]from h];exact h'
 |_,ys,d::ds,es,h,h'=>by
  obtain⟨x,r,e,q,t⟩:=h;subst e;exact⟨x,r++ys,rfl,q,Are.append t h'⟩
theorem Are.one {K:Fg}{H:Hp}{x:V}{d:PyData}(h:Is K H x d):Are K H [x] [d]:=⟨x,[],rfl,h,rfl⟩
theorem Are.drop {K:Fg}{H:Hp}:∀(n:Nat) {xs:List V} {ds:List PyData},Are K H xs ds->Are K H (xs.drop n) (ds.drop n)
 |0,_,_,h=>h
 |n+1,_,[],h=>by rw [show _=[]from h];exact rfl
 |n+1,_,d::ds,h=>by
  obtain⟨x,r,e,q,t⟩:=h;subst e;exact Are.drop n t
theorem Are.take {K:Fg}{H:Hp}:∀(n:Nat) {xs:List V} {ds:List PyData},Are K H xs ds->Are K H (xs.take n) (ds.take n)
 |0,_,_,h=>rfl
 |n+1,_,[],h=>by rw [show _=[]from h];exact rfl
 |n+1,_,d::ds,h=>by
  obtain⟨x,r,e,q,t⟩:=h;subst e;exact⟨x,r.take n,rfl,q,Are.take n t⟩
theorem Are.ints {K:Fg}{H:Hp}:∀{ns:List Int} {xs:List V},Are K H xs (ns.map PyData.int)↔xs=ns.map V.int
 |[],xs=>Iff.rfl
 |n::ns,xs=>by
  constructor
  · intro h;obtain⟨x,r,e,q,t⟩:=h;rw [e,show x=V.int n from q,(Are.ints (ns:=ns)).mp t];rfl
  · intro e;subst e;exact⟨_,_,rfl,rfl,(Are.ints (ns:=ns)).mpr rfl⟩
theorem Are.bools {K:Fg}{H:Hp}:∀{ns:List Bool} {xs:List V},Are K H xs (ns.map PyData.bool)↔xs=ns.map V.bl
 |[],xs=>Iff.rfl
 |n::ns,xs=>by
  constructor
  · intro h;obtain⟨x,r,e,q,t⟩:=h;rw [e,show x=V.bl n from q,(Are.bools (ns:=ns)).mp t];rfl
  · intro e;subst e;exact⟨_,_,rfl,rfl,(Are.bools (ns:=ns)).mpr rfl⟩
structure Grow (F H F' H':Hp):Prop where
 f:Same F F'
 s:Same F' H'
 h:Same H H'
 o:∀a o,H a=some o->(∀xs,o≠ .tup xs)->F a=none->F' a=none
theorem Grow.refl {F H:Hp}(s:Same F H):Grow F H F H:=⟨Same.refl _,s,Same.refl _,λ_ _ _ _ h=>h⟩
theorem Grow.trans {F H F1 H1 F2 H2:Hp}(a:Grow F H F1 H1)(b:Grow F1 H1 F2 H2):Grow F H F2 H2:=
 ⟨a.f.trans b.f,b.s,a.h.trans b.h,λc o e t n=>b.o c o (a.h c o e) t (a.o c o e t n)⟩
theorem Fc {F H:Hp}{p:Addr}{o:HO}(s:Same F H):Same (bv F p o) (bv H p o):=λb u e=>by
 by_cases hb:b=p
 · subst hb;rw [aS]at e ⊢;exact e
 · rw [aN hb]at e ⊢;exact s b u e
theorem Grow.new {F H:Hp}{p:Addr}{o:HO}(s:Same F H)(hp:H p=none):Grow F H (bv F p o) (bv H p o):=
 ⟨bf (s.free hp) o,Fc s,bf hp o,λa u e t n=>by rw [aN (aQ e hp)];exact n⟩
theorem Grow.fresh {F H:Hp}{p:Addr}{o:HO}(s:Same F H)(hp:H p=none):Grow F H F (bv H p o):=
 ⟨Same.refl _,s.trans (bf hp o),bf hp o,λ_ _ _ _ n=>n⟩
theorem Grow.frz {F H F' H':Hp}{p:Addr}{o:HO}(g:Grow F H F' H')(hp:H p=none)(hf:F' p=none)(hh:H' p=some o):Grow F H (bv F' p o) H':=
 ⟨g.f.trans (bf hf o), λ b u e => by
  by_cases hb:b=p
  · subst hb;rw [aS]at e;rw [hh];exact e
  · rw [aN hb]at e;exact g.s b u e,g.h,λa u e t n=>by rw [aN (aQ e hp)];exact g.o a u e t n⟩
inductive Sl where
 |fz (d:PyData)
 |ow (ds:List PyData)
 |od (kvs:List (PyData×PyData))
noncomputable abbrev aT:=List (Option Sl)
noncomputable def Ms:Expr->Option Pos
 | .Call _ _ [kw] _=>match kw.value with
  | .Lambda _ _ _ pos=>some pos
  |_=>none
 |_=>none
noncomputable def Mt:Stmt->Option Pos
 | .Return (some e) _=>Ms e
 | .Assign _ e _=>Ms e
 |_=>none
noncomputable def Fd(fd:FuncData):Option (Array Value):=match fd.body with
 | .stmts b=>(b.findSome? Mt).map λpos=> #[rawInt pos.line,rawInt pos.col,.str (fd.qualname++ ".<locals>."++ "<lambda>") 0]
 |_=>none
def Fe(K:Fg)(a:Addr)(ps:Array Value):Prop:=∃(f:Addr) (oc:Value) (od:Option Addr) (fd:FuncData) (sl:Array (Option Value)) (c:Addr),K.lookup f=some ⟨oc,od,.func fd,sl⟩/\fd.code=.ref c/\PySem.W.codeHdIn K c a=true/\Fd fd=some ps
def Tb(K:Fg)(F:Hp):Prop:=∀a ps,Fe K a ps->F a=some (.tbl ps)
theorem Tb.same {K:Fg}{F F':Hp}(t:Tb K F)(s:Same F F'):Tb K F':=λa ps h=>s _ _ (t a ps h)
def jG(K:Fg)(F H:Hp):Prop:=Same F H/\Tb K F
structure Rep (K:Fg) (H0 F0 F:Hp) (σ:St) (H:Hp) (δ:aT):Prop where
 g:Grow F0 H0 F H
 len:σ.length=δ.length
 fz:∀(i:Nat) (d:PyData),δ[i]? =some (some (.fz d))->∃v,σ[i]? =some (some v)/\Is K F v d
 ow:∀(i:Nat) (ds:List PyData),δ[i]? =some (some (.ow ds))->∃a xs,σ[i]? =some (some (.ref a))/\H a=some (.lst xs)/\F a=none/\H0 a=none/\Are K F xs ds
 ap:∀(i j:Nat) (ds es:List PyData) (a:Addr),δ[i]? =some (some (.ow ds))->δ[j]? =some (some (.ow es))->σ[i]? =some (some (.ref a))->σ[j]? =some (some (.ref a))->i=j
 od:∀(i:Nat) (kvs:List (PyData×PyData)),δ[i]? =some (some (.od kvs))->∃a o,σ[i]? =some (some (.ref a))/\H a=some o/\F a=none/\H0 a=none/\DcO K F o kvs
 ad:∀(i j:Nat) (ds es:List (PyData×PyData)) (a:Addr),δ[i]? =some (some (.od ds))->δ[j]? =some (some (.od es))->σ[i]? =some (some (.ref a))->σ[j]? =some (some (.ref a))->i=j
 tb:Tb K F
section
variable {K:Fg} {H0 F0 F F':Hp} {σ:St} {H H':Hp} {δ:aT}
theorem Rep.grow(R:Rep K H0 F0 F σ H δ)(g:Grow F H F' H'):Rep K H0 F0 F' σ H' δ where
 g:=R.g.trans g
 len:=R.len
 fz:=λi d e=>let ⟨v,h1,h2⟩:=R.fz i d e;⟨v,h1,h2.same g.f⟩
 ow:=λi ds e=>let ⟨a,xs,h1,h2,h3,h4,h5⟩:=R.ow i ds e;⟨a,xs,h1,g.h _ _ h2,g.o _ _ h2 (λ_ z=>nomatch z) h3,h4,h5.same g.f⟩
 ap:=R.ap
 od:=λi ds e=>let ⟨a,m,h1,h2,h3,h4,h5⟩:=R.od i ds e;⟨a,m,h1,g.h _ _ h2,g.o _ _ h2 h5.ntup h3,h4,h5.same g.f⟩
 ad:=R.ad
 tb:=R.tb.same g.f
theorem ai {α:Type}{l:List α}{i j:Nat}{x y:α}(h:(l.set i x)[j]? =some y):(j=i/\y=x)\/(j≠i/\l[j]? =some y):=by
 rw [List.getElem?_set]at h;split at h
 · rename_i e;split at h
   · exact .inl ⟨e.symm,(zV h).symm⟩
   · cases h
 · rename_i e;exact .inr ⟨λz=>e z.symm,h⟩
theorem lU {α:Type}{l:List α}{i:Nat}{x:α}(h:i < l.length):(l.set i x)[i]? =some x:=by
 rw [List.getElem?_set,if_pos rfl,if_pos h]
theorem bB {α:Type}{l:List α}{i j:Nat}{x:α}(h:j≠i):(l.set i x)[j]? =l[j]? :=by
 rw [List.getElem?_set,if_neg (λz=>h z.symm)]
theorem g0 {α:Type}{l:List α}{i:Nat}{x:α}(h:l[i]? =some x):i < l.length:=(Ec.mp h).1
theorem Rep.set(R:Rep K H0 F0 F σ H δ){i:Nat}{v:V}{d:PyData}(h:Is K F v d):Rep K H0 F0 F (σ.set i (some v)) H (δ.set i (some (.fz d))) where
 g:=R.g
 len:=by rw [Q6,Q6];exact R.len
 fz:=λj e q=>by
  have hj:=g0 q;rw [Q6]at hj
  rcases ai q with⟨rfl,z⟩|⟨n,q⟩
  · injection z with z
    injection z with z
    subst z;exact⟨v,lU (by rw [R.len];exact hj),h⟩
  · rw [bB n];exact R.fz j e q
 ow:=λj ds q=>by
  rcases ai q with⟨rfl,z⟩|⟨n,q⟩
  · cases z
  · rw [bB n];exact R.ow j ds q
 ap:=λj k ds es a q1 q2 q3 q4=>by
  rcases ai q1 with⟨rfl,z⟩|⟨n1,q1⟩
  · cases z
  · rcases ai q2 with⟨rfl,z⟩|⟨n2,q2⟩
    · cases z
    · rw [bB n1]at q3;rw [bB n2]at q4;exact R.ap j k ds es a q1 q2 q3 q4
 od:=λj ds q=>by
  rcases ai q with⟨rfl,z⟩|⟨n,q⟩
  · cases z
  · rw [bB n];exact R.od j ds q
 ad:=λj k ds es a q1 q2 q3 q4=>by
  rcases ai q1 with⟨rfl,z⟩|⟨n1,q1⟩
  · cases z
  · rcases ai q2 with⟨rfl,z⟩|⟨n2,q2⟩
    · cases z
    · rw [bB n1]at q3;rw [bB n2]at q4;exact R.ad j k ds es a q1 q2 q3 q4
 tb:=R.tb
theorem Rep.setO(R:Rep K H0 F0 F σ H δ){i:Nat}{a:Addr}{xs:List V}{ds:List PyData}(ha:H a=some (.lst xs))(hf:F a=none)(h0:H0 a=none)(h:Are K F xs ds)
 (hn:∀j es,j≠i->δ[j]? =some (some (.ow es))->σ[j]? ≠some (some (.ref a))):Rep K H0 F0 F (σ.set i (some (.ref a))) H (δ.set i (some (.ow ds))) where
 g:=R.g
 len:=by rw [Q6,Q6];exact R.len
 fz:=λj e q=>by
  rcases ai q with⟨rfl,z⟩|⟨n,q⟩
  · cases z
  · rw [bB n];exact R.fz j e q
 ow:=λj es q=>by
  have hj:=g0 q;rw [Q6]at hj
  rcases ai q with⟨rfl,z⟩|⟨n,q⟩
  · injection z with z
    injection z with z
    subst z;exact⟨a,xs,lU (by rw [R.len];exact hj),ha,hf,h0,h⟩
  · rw [bB n];exact R.ow j es q
 ap:=λj k ds' es' b q1 q2 q3 q4=>by
  have hj:=g0 q1;have hk:=g0 q2;rw [Q6]at hj hk
  rcases ai q1 with⟨ej,z⟩|⟨n1,p1⟩
  · rcases ai q2 with⟨ek,z2⟩|⟨n2,p2⟩
    · rw [ej,ek]
    · rw [ej,lU (by rw [R.len, <-ej];exact hj)]at q3
      rw [bB n2]at q4;cases q3;exact absurd q4 (hn k es' n2 p2)
  · rcases ai q2 with⟨ek,z⟩|⟨n2,p2⟩
    · rw [ek,lU (by rw [R.len, <-ek];exact hk)]at q4
      rw [bB n1]at q3;cases q4;exact absurd q3 (hn j ds' n1 p1)
    · rw [bB n1]at q3;rw [bB n2]at q4;exact R.ap j k ds' es' b p1 p2 q3 q4
 od:=λj ds q=>by
  rcases ai q with⟨rfl,z⟩|⟨n,q⟩
  · cases z
  · rw [bB n];exact R.od j ds q
 ad:=λj k ds es a q1 q2 q3 q4=>by
  rcases ai q1 with⟨rfl,z⟩|⟨n1,q1⟩
  · cases z
  · rcases ai q2 with⟨rfl,z⟩|⟨n2,q2⟩
    · cases z
    · rw [bB n1]at q3;rw [bB n2]at q4;exact R.ad j k ds es a q1 q2 q3 q4
 tb:=R.tb
theorem Rep.mut(R:Rep K H0 F0 F σ H δ){i:Nat}{a:Addr}{xs:List V}{es ds:List PyData}(e:δ[i]? =some (some (.ow es)))(hs:σ[i]? =some (some (.ref a)))(hf:F a=none)(h0:H0 a=none)(h:Are K F xs ds):
 Rep K H0 F0 F σ (bv H a (.lst xs)) (δ.set i (some (.ow ds))) where
 g:=⟨R.g.f,λb u q=>by rw [aN (aQ q hf)];exact R.g.s b u q,λb u q=>by rw [aN (aQ q h0)];exact R.g.h b u q,R.g.o⟩
 len:=by rw [Q6];exact R.len
 fz:=λj d q=>by
  rcases ai q with⟨rfl,z⟩|⟨n,q⟩
  · cases z
  · exact R.fz j d q
 ow:=λj us q=>by
  rcases ai q with⟨rfl,z⟩|⟨n,q⟩
  · injection z with z
    injection z with z
    subst z;exact⟨a,xs,hs,aS,hf,h0,h⟩
  · obtain⟨b,ys,q1,q2,q3,q4,q5⟩:=R.ow j us q;have nb:b≠a:=λz=>by subst z;exact n (R.ap j i us es b q e q1 hs)
    exact⟨b,ys,q1,by rw [aN nb];exact q2,q3,q4,q5⟩
 ap:=λj k ds' es' b q1 q2 q3 q4=>by
  have f:∀{m:Nat} {us:List PyData},(δ.set i (some (Sl.ow ds)))[m]? =some (some (Sl.ow us))->∃us':List PyData,δ[m]? =some (some (Sl.ow us')):=λ{m us} q=>by
   rcases ai q with⟨em,z⟩|⟨n,q⟩
   · exact⟨es,by rw [em];exact e⟩
   · exact⟨us,q⟩
  obtain⟨u1,p1⟩:=f q1;obtain⟨u2,p2⟩:=f q2;exact R.ap j k u1 u2 b p1 p2 q3 q4
 od:=λj us q=>by
  rcases ai q with⟨rfl,z⟩|⟨n,q⟩
  · cases z
  · obtain⟨b,m,q1,q2,q3,q4,q5⟩:=R.od j us q;have nb:b≠a:=λz=>by
     subst z;obtain⟨b2,ys,w1,w2,_⟩:=R.ow i es e;rw [hs]at w1;cases w1;rw [q2]at w2;exact q5.nlst _ (zV w2)
    exact⟨b,m,q1,by rw [aN nb];exact q2,q3,q4,q5⟩
 ad:=λj k ds' es' b q1 q2 q3 q4=>by
  rcases ai q1 with⟨rfl,z⟩|⟨n1,q1⟩
  · cases z
  · rcases ai q2 with⟨rfl,z⟩|⟨n2,q2⟩
    · cases z
    · exact R.ad j k ds' es' b q1 q2 q3 q4
 tb:=R.tb
noncomputable def frz(i:Nat)(δ:aT):aT:=match δ[i]? with
 |some (some (.ow ds))=>δ.set i (some (.fz (.list ds)))
 |some (some (.od kvs))=>δ.set i (some (.fz (.dict kvs)))
 |_=>δ
theorem Rep.frz(R:Rep K H0 F0 F σ H δ)(i:Nat):∃F',Same F F'/\Rep K H0 F0 F' σ H (frz i δ):=by
 unfold DL.frz;split
 · rename_i ds e;obtain⟨a,xs,q1,q2,q3,q4,q5⟩:=R.ow i ds e;have g:=R.g.frz (p:=a) (o:=.lst xs) q4 q3 q2;have sF:Same F (bv F a (.lst xs)):=bf q3 _;refine⟨bv F a (.lst xs),sF,g,by rw [Q6];exact R.len,λj d q=>?_,λj us q=>?_,λj k ds' es' b p1 p2 p3 p4=>?_,λj us q=>?_,λj k ds' es' b p1 p2 p3 p4=>?_,R.tb.same sF⟩
   · rcases ai q with⟨rfl,z⟩|⟨n,q⟩
     · injection z with z
       injection z with z
       subst z;exact⟨.ref a,q1,a,xs,rfl,aS,q5.same sF⟩
     · obtain⟨v,h1,h2⟩:=R.fz j d q;exact⟨v,h1,h2.same sF⟩
   · rcases ai q with⟨rfl,z⟩|⟨n,q⟩
     · cases z
     · obtain⟨b,ys,h1,h2,h3,h4,h5⟩:=R.ow j us q;have nb:b≠a:=λz=>by subst z;exact n (R.ap j i us ds b q e h1 q1)
       exact⟨b,ys,h1,h2,by rw [aN nb];exact h3,h4,h5.same sF⟩
   · rcases ai p1 with⟨rfl,z⟩|⟨n1,p1⟩
     · cases z
     · rcases ai p2 with⟨rfl,z⟩|⟨n2,p2⟩
       · cases z
       · exact R.ap j k ds' es' b p1 p2 p3 p4
   · rcases ai q with⟨rfl,z⟩|⟨n,q⟩
     · cases z
     · obtain⟨b,m,h1,h2,h3,h4,h5⟩:=R.od j us q;have nb:b≠a:=λz=>by
        subst z;rw [q2]at h2;exact h5.nlst _ (zV h2).symm
       exact⟨b,m,h1,h2,by rw [aN nb];exact h3,h4,h5.same sF⟩
   · rcases ai p1 with⟨rfl,z⟩|⟨n1,p1⟩
     · cases z
     · rcases ai p2 with⟨rfl,z⟩|⟨n2,p2⟩
       · cases z
       · exact R.ad j k ds' es' b p1 p2 p3 p4
 · rename_i kvs e;obtain⟨a,m,q1,q2,q3,q4,q5⟩:=R.od i kvs e;have g:=R.g.frz (p:=a) (o:=m) q4 q3 q2;have sF:Same F (bv F a m):=bf q3 _;refine⟨bv F a m,sF,g,by rw [Q6];exact R.len,λj d q=>?_,λj us q=>?_,λj k ds' es' b p1 p2 p3 p4=>?_,λj us q=>?_,λj k ds' es' b p1 p2 p3 p4=>?_,R.tb.same sF⟩
   · rcases ai q with⟨rfl,z⟩|⟨n,q⟩
     · injection z with z
       injection z with z
       subst z;exact⟨.ref a,q1,(q5.same sF).is aS⟩
     · obtain⟨v,h1,h2⟩:=R.fz j d q;exact⟨v,h1,h2.same sF⟩
   · rcases ai q with⟨rfl,z⟩|⟨n,q⟩
     · cases z
     · obtain⟨b,ys,h1,h2,h3,h4,h5⟩:=R.ow j us q;have nb:b≠a:=λz=>by
        subst z;rw [q2]at h2;exact q5.nlst _ (zV h2)
       exact⟨b,ys,h1,h2,by rw [aN nb];exact h3,h4,h5.same sF⟩
   · rcases ai p1 with⟨rfl,z⟩|⟨n1,p1⟩
     · cases z
     · rcases ai p2 with⟨rfl,z⟩|⟨n2,p2⟩
       · cases z
       · exact R.ap j k ds' es' b p1 p2 p3 p4
   · rcases ai q with⟨rfl,z⟩|⟨n,q⟩
     · cases z
     · obtain⟨b,m2,h1,h2,h3,h4,h5⟩:=R.od j us q;have nb:b≠a:=λz=>by subst z;exact n (R.ad j i us kvs b q e h1 q1)
       exact⟨b,m2,h1,h2,by rw [aN nb];exact h3,h4,h5.same sF⟩
   · rcases ai p1 with⟨rfl,z⟩|⟨n1,p1⟩
     · cases z
     · rcases ai p2 with⟨rfl,z⟩|⟨n2,p2⟩
       · cases z
       · exact R.ad j k ds' es' b p1 p2 p3 p4
 · exact⟨F,Same.refl _,R⟩
theorem Rep.weak(R:Rep K H0 F0 F σ H δ){δ':aT}(l:δ'.length=δ.length)(w:∀(i:Nat) s,δ'[i]? =some (some s)->δ[i]? =some (some s)):Rep K H0 F0 F σ H δ':=
 ⟨R.g,by rw [R.len,l],λi d e=>R.fz i d (w i _ e),λi ds e=>R.ow i ds (w i _ e),λi j ds es a q1 q2=>R.ap i j ds es a (w i _ q1) (w j _ q2),λi ds e=>R.od i ds (w i _ e),λi j ds es a q1 q2=>R.ad i j ds es a (w i _ q1) (w j _ q2),R.tb⟩
end
section
variable (K:Fg)
def SE(te:TE)(f:aT->Option PyData):Prop:=∀(H0 F0 F:Hp) (σ:St) (H:Hp) (δ:aT) (d:PyData) (Q:VK),Rep K H0 F0 F σ H δ->f δ=some d->(∀v H' F',Grow F H F' H'->Is K F' v d->Q v H')->te σ H Q
def ST(tt:TT)(f:aT->Option Bool):Prop:=∀(H0 F0 F:Hp) (σ:St) (H:Hp) (δ:aT) (b:Bool) (Q:Bool->Hp->Prop),Rep K H0 F0 F σ H δ->f δ=some b->(∀H' F',Grow F H F' H'->Q b H')->tt σ H Q
def SA(ta:TA)(f:aT->Option (List PyData)):Prop:=∀(H0 F0 F:Hp) (σ:St) (H:Hp) (δ:aT) (ds:List PyData) (Q:List V->Hp->Prop),Rep K H0 F0 F σ H δ->f δ=some ds->(∀vs H' F',Grow F H F' H'->Are K F' vs ds->Q vs H')->ta σ H Q
def SO(te:TE)(f:aT->Option (List PyData)):Prop:=∀(H0 F0 F:Hp) (σ:St) (H:Hp) (δ:aT) (ds:List PyData) (Q:VK),Rep K H0 F0 F σ H δ->f δ=some ds->
 (∀a xs H' F',Grow F H F' H'->H a=none->F' a=none->H' a=some (.lst xs)->Are K F' xs ds->Q (.ref a) H')->te σ H Q
def xF(r:R2)(g:PyData->PyData->Option PyData):Prop:=∀(F H:Hp) (x y:V) (dx dy d:PyData) (Q:VK),Same F H->Is K F x dx->Is K F y dy->g dx dy=some d->(∀v H' F',Grow F H F' H'->Is K F' v d->Q v H')->r x y H Q
def ya(r:List V->Hp->VK->Prop)(g:List PyData->Option PyData):Prop:=∀(F H:Hp) (xs:List V) (ds:List PyData) (d:PyData) (Q:VK),Same F H->Are K F xs ds->g ds=some d->(∀v H' F',Grow F H F' H'->Is K F' v d->Q v H')->r xs H Q
end
noncomputable def aB(i:Nat)(δ:aT):Option PyData:=match δ[i]? with
 |some (some (.fz d))=>some d
 |_=>none
noncomputable def dC(d:PyData)(_:aT):Option PyData:=some d
noncomputable def d2(g:PyData->PyData->Option PyData)(fa fb:aT->Option PyData)(δ:aT):Option PyData:=(fa δ).bind λa=>(fb δ).bind λb=>g a b
noncomputable def bJ(g:List PyData->Option PyData)(fs:aT->Option (List PyData))(δ:aT):Option PyData:=(fs δ).bind g
noncomputable def aI(_:aT):Option (List PyData):=some []
noncomputable def aA(f:aT->Option PyData)(fs:aT->Option (List PyData))(δ:aT):Option (List PyData):=(f δ).bind λd=>(fs δ).bind λds=>some (d::ds)
theorem bind_some {α β:Type}{x:Option α}{f:α->Option β}{b:β}(h:x.bind f=some b):∃a,x=some a/\f a=some b:=by
 cases x with
 |none=>cases h
 |some a=>exact⟨a,rfl,h⟩
section
variable {K:Fg} {ta tb te:TE} {fa fb f:aT->Option PyData}
theorem SO.se {fo:aT->Option (List PyData)}(h:SO K te fo):SE K te (λδ=>(fo δ).map PyData.list):=by
 intro H0 F0 F σ H δ d Q R e k;obtain⟨ds,e1,e2⟩:=Q0.mp e;subst e2;refine h H0 F0 F σ H δ ds Q R e1 λa xs H' F' g h0 hf ha ar=>?_;exact k (.ref a) H' _ (g.frz h0 hf ha) ⟨a,xs,rfl,aS,ar.same (bf hf _)⟩
theorem aF(i:Nat):SE K (bX i) (aB i):=by
 intro H0 F0 F σ H δ d Q R e h;unfold aB at e;split at e
 · rename_i d' q;cases e;obtain⟨v,hv,is⟩:=R.fz i d q;exact⟨v,hv,h v H F (Grow.refl R.g.s) is⟩
 · cases e
theorem JQ {v:V}{d:PyData}(h:∀H,Is K H v d):SE K (tC v) (dC d):=λH0 F0 F σ H δ d' Q R e k=>by
 cases e;exact k v H F (Grow.refl R.g.s) (h F)
theorem aX {n:Int}:SE K (tC (.int n)) (dC (.int n)):=JQ λ_=>rfl
theorem rE {b:Bool}:SE K (tC (.bl b)) (dC (.bool b)):=JQ λ_=>rfl
theorem sw:SE K (tC .non) (dC .none):=JQ λ_=>rfl
theorem Lc {x:Str}:SE K (tC (.str x)) (dC (.str x)):=JQ λ_=>rfl
theorem aw {r:R2}{g:PyData->PyData->Option PyData}(o:xF K r g)(a:SE K ta fa)(b:SE K tb fb):SE K (Ke r ta tb) (d2 g fa fb):=by
 intro H0 F0 F σ H δ d Q R e h;obtain⟨dx,ex,e⟩:=bind_some e;obtain⟨dy,ey,e⟩:=bind_some e;refine a H0 F0 F σ H δ dx _ R ex λv H1 F1 g1 i1=>b H0 F0 F1 σ H1 δ dy _ (R.grow g1) ey λw H2 F2 g2 i2=>?_;exact o F2 H2 v w dx dy d Q g2.s (i1.same g2.f) i2 e λv' H3 F3 g3 i3=>h v' H3 F3 (g1.trans (g2.trans g3)) i3
theorem aO:SA K dM aI:=λH0 F0 F σ H δ ds Q R e h=>by cases e;exact h [] H F (Grow.refl R.g.s) rfl
theorem aG {t:TA}{fs:aT->Option (List PyData)}(a:SE K te f)(b:SA K t fs):SA K (bH te t) (aA f fs):=by
 intro H0 F0 F σ H δ ds Q R e h;obtain⟨dx,ex,e⟩:=bind_some e;obtain⟨dy,ey,e⟩:=bind_some e;cases e;refine a H0 F0 F σ H δ dx _ R ex λv H1 F1 g1 i1=>b H0 F0 F1 σ H1 δ dy _ (R.grow g1) ey λvs H2 F2 g2 i2=>?_;exact h (v::vs) H2 F2 (g1.trans g2) ⟨v,vs,rfl,i1.same g2.f,i2⟩
theorem cB {r:List V->Hp->VK->Prop}{g:List PyData->Option PyData}{t:TA}{fs:aT->Option (List PyData)}(o:ya K r g)(a:SA K t fs):SE K (FG r t) (bJ g fs):=by
 intro H0 F0 F σ H δ d Q R e h;obtain⟨ds,ex,e⟩:=bind_some e;refine a H0 F0 F σ H δ ds _ R ex λvs H1 F1 g1 i1=>?_;exact o F1 H1 vs ds d Q g1.s i1 e λv H2 F2 g2 i2=>h v H2 F2 (g1.trans g2) i2
noncomputable def eD:Nat:=100000
theorem ft {n:Nat}(h:n<=eD):n<=sizeLine:=Q7 h (by decide)
theorem sx {n:Nat}(h:n<=eD):n < sizeLine:=Il h (by decide)
noncomputable def dE(fs:aT->Option (List PyData))(δ:aT):Option PyData:=(fs δ).bind λds=>if ds.length<=eD then some (.tuple ds)else none
noncomputable def bb(fs:aT->Option (List PyData))(δ:aT):Option (List PyData):=(fs δ).bind λds=>if ds.length<=eD then some ds else none
noncomputable def bP(fo:aT->Option (List PyData))(δ:aT):Option PyData:=(fo δ).map PyData.list
theorem j6 {t:TA}{fs:aT->Option (List PyData)}(a:SA K t fs):SE K (FD t) (dE fs):=by
 intro H0 F0 F σ H δ d Q R e h;obtain⟨ds,ex,e⟩:=bind_some e;split at e
 · rename_i hl;cases e;refine a H0 F0 F σ H δ ds _ R ex λvs H1 F1 g1 i1=>⟨by rw [i1.length];exact ft hl,λp hp=>?_⟩
   refine h (.ref p) _ _ (g1.trans (Grow.new g1.s hp)) ⟨p,vs,rfl,aS,i1.same (bf (g1.s.free hp) _)⟩
 · cases e
theorem fW {t:TA}{fs:aT->Option (List PyData)}(a:SA K t fs):SO K (BA t) (bb fs):=by
 intro H0 F0 F σ H δ d Q R e h;obtain⟨ds,ex,e⟩:=bind_some e;split at e
 · rename_i hl;cases e;refine a H0 F0 F σ H δ d _ R ex λvs H1 F1 g1 i1=>⟨by rw [i1.length];exact ft hl,λp hp=>?_⟩
   have hp0:H p=none:=g1.h.free hp;exact h p vs _ F1 (g1.trans (Grow.fresh g1.s hp)) hp0 (g1.s.free hp) aS i1
 · cases e
theorem cO {fo:aT->Option (List PyData)}(h:SO K te fo):SE K te (bP fo):=h.se
noncomputable def dB(f:aT->Option PyData)(δ:aT):Option Bool:=(f δ).bind λd=>match d with
 | .bool b=>some b
 |_=>none
noncomputable def n9:PyData->Option Bool
 | .none=>some false
 | .bool b=>some b
 | .int i=>some (i != 0)
 | .str y=>if y.length<=eD then some ((y.length:Int) != 0)else none
 | .list ds=>some (!ds.isEmpty)
 | .tuple ds=>some (!ds.isEmpty)
 | .dict _=>none
noncomputable def cP(f:aT->Option PyData)(δ:aT):Option Bool:=(f δ).bind n9
noncomputable def hX(f:aT->Option Bool)(δ:aT):Option Bool:=(f δ).map (!·)
noncomputable def sy(f g:aT->Option Bool)(δ:aT):Option Bool:=(f δ).bind λb=>if b=true then some true else g δ
noncomputable def fT(f g:aT->Option PyData)(δ:aT):Option PyData:=(dB f δ).bind λb=>if b=true then g δ else some (.bool false)
noncomputable def yc(f:aT->Option PyData)(δ:aT):Option PyData:=(dB f δ).map λb=>.bool (!b)
noncomputable def ye(c:aT->Option Bool)(f g:aT->Option PyData)(δ:aT):Option PyData:=(c δ).bind λb=>if b=true then f δ else g δ
theorem xG {f:aT->Option PyData}{δ:aT}{b:Bool}(h:dB f δ=some b):f δ=some (.bool b):=by
 obtain⟨d,e,h⟩:=bind_some h;cases d<;>simp at h
 subst h;exact e
theorem df(a:SE K ta fa):ST K (yP ta) (dB fa):=λH0 F0 F σ H δ b Q R e h=>
 a H0 F0 F σ H δ (.bool b) _ R (xG e) λv H1 F1 g1 i1=>⟨b,i1,h H1 F1 g1⟩
theorem rF {α β:Type}{xs:List α}{ys:List β}(h:xs.length=ys.length):(!xs.isEmpty)= !ys.isEmpty:=by
 cases xs<;>cases ys<;>simp at h<;>rfl
theorem JR {F H:Hp}{v:V}{d:PyData}{b:Bool}(s:Same F H)(i:Is K F v d)(e:n9 d=some b):Ix K v H b:=by
 cases d with
 |none=>rw [show v=.non from i];cases e;rfl
 |bool c=>rw [show v=.bl c from i];cases e;rfl
 |int c=>rw [show v=.int c from i];cases e;rfl
 |str c=>
  rw [show v=.str c from i]
  have e':(if c.length<=eD then some ((c.length:Int) != 0)else none)=some b:=e;split at e'
  · rename_i hl;cases e';exact⟨ft hl,rfl⟩
  · cases e'
 |list ds=>
  obtain⟨a,xs,rfl,h1,h2⟩:=i;cases e;exact .inl ⟨xs,SqL.of (s _ _ h1),(rF h2.length).symm⟩
 |tuple ds=>
  obtain⟨a,xs,rfl,h1,h2⟩:=i;cases e;exact .inr (.inl ⟨xs,SqT.of (s _ _ h1),(rF h2.length).symm⟩)
 |dict _=>cases e
theorem gP(a:SE K ta fa):ST K (Lb K ta) (cP fa):=λH0 F0 F σ H δ b Q R e h=>by
 obtain⟨d,e1,e2⟩:=bind_some e;exact a H0 F0 F σ H δ d _ R e1 λv H1 F1 g1 i1=>⟨b,JR g1.s i1 e2,h H1 F1 g1⟩
variable {t u:TT} {c c':aT->Option Bool}
theorem j7(a:ST K t c):ST K (Iu t) (hX c):=λH0 F0 F σ H δ b Q R e h=>by
 obtain⟨d,e1,e2⟩:=Q0.mp e;subst e2;exact a H0 F0 F σ H δ d _ R e1 λH1 F1 g1=>h H1 F1 g1
theorem CQ(a:ST K t c)(b:ST K u c'):ST K (OE t u) (sy c c'):=λH0 F0 F σ H δ b' Q R e h=>by
 obtain⟨d,e1,e2⟩:=bind_some e;refine a H0 F0 F σ H δ d _ R e1 λH1 F1 g1=>?_;cases d with
 |true=>cases e2;exact wy (h H1 F1 g1)
 |false=>exact vA (b H0 F0 F1 σ H1 δ b' _ (R.grow g1) e2 λH2 F2 g2=>h H2 F2 (g1.trans g2))
theorem oR(a:SE K ta fa)(b:SE K tb fb):SE K (K9 ta tb) (fT fa fb):=λH0 F0 F σ H δ d Q R e h=>by
 obtain⟨b',e1,e2⟩:=bind_some e;refine a H0 F0 F σ H δ _ _ R (xG e1) λv H1 F1 g1 i1=>⟨b',i1,?_⟩;cases b' with
 |true=>exact wy (b H0 F0 F1 σ H1 δ d _ (R.grow g1) e2 λv2 H2 F2 g2 i2=>h v2 H2 F2 (g1.trans g2) i2)
 |false=>cases e2;exact vA (h _ H1 F1 g1 rfl)
theorem Ld(a:SE K ta fa):SE K (Ka ta) (yc fa):=λH0 F0 F σ H δ d Q R e h=>by
 obtain⟨b',e1,e2⟩:=Q0.mp e;subst e2;exact a H0 F0 F σ H δ _ _ R (xG e1) λv H1 F1 g1 i1=>⟨b',i1,h _ H1 F1 g1 rfl⟩
theorem Le(cc:ST K t c)(a:SE K ta fa)(b:SE K tb fb):SE K (OF t ta tb) (ye c fa fb):=λH0 F0 F σ H δ d Q R e h=>by
 obtain⟨b',e1,e2⟩:=bind_some e;refine cc H0 F0 F σ H δ b' _ R e1 λH1 F1 g1=>?_;cases b' with
 |true=>exact wy (a H0 F0 F1 σ H1 δ d _ (R.grow g1) e2 λv2 H2 F2 g2 i2=>h v2 H2 F2 (g1.trans g2) i2)
 |false=>exact vA (b H0 F0 F1 σ H1 δ d _ (R.grow g1) e2 λv2 H2 F2 g2 i2=>h v2 H2 F2 (g1.trans g2) i2)
end
inductive DFlow where
 |nx (δ:aT)
 |rt (d:PyData)
 |ro (ds:List PyData)
 |bk (δ:aT)
 |ct (δ:aT)
noncomputable def Lands(K:Fg)(H0 F0 F:Hp)(D:Ends):DFlow->Prop
 | .nx δ=>∀F' σ H,Rep K H0 F0 F' σ H δ->Same F F'->D.nx σ H
 | .rt d=>∀F' v H,Grow F0 H0 F' H->Is K F' v d->D.rt v H
 | .ro ds=>∀F' a xs H,Grow F0 H0 F' H->H0 a=none->F' a=none->H a=some (.lst xs)->Are K F' xs ds->D.rt (.ref a) H
 | .bk δ=>∀F' σ H,Rep K H0 F0 F' σ H δ->Same F F'->D.bk σ H
 | .ct δ=>∀F' σ H,Rep K H0 F0 F' σ H δ->Same F F'->D.ct σ H
theorem Lands.up {K:Fg}{H0 F0 F F1:Hp}{D:Ends}(s:Same F F1):∀{r:DFlow},Lands K H0 F0 F D r->Lands K H0 F0 F1 D r
 | .nx δ,h=>λF' σ H R q=>h F' σ H R (s.trans q)
 | .rt d,h=>h
 | .ro ds,h=>h
 | .bk δ,h=>λF' σ H R q=>h F' σ H R (s.trans q)
 | .ct δ,h=>λF' σ H R q=>h F' σ H R (s.trans q)
def SS(K:Fg)(ts:TS)(f:aT->Option DFlow):Prop:=∀(H0 F0 F:Hp) (σ:St) (H:Hp) (δ:aT) (r:DFlow) (D:Ends),Rep K H0 F0 F σ H δ->f δ=some r->Lands K H0 F0 F D r->ts D σ H
noncomputable def bF(δ:aT):Option DFlow:=some (.nx δ)
noncomputable def aP(f g:aT->Option DFlow)(δ:aT):Option DFlow:=(f δ).bind λr=>match r with
 | .nx δ'=>g δ'
 |r=>some r
noncomputable def eY(c:aT->Option Bool)(f g:aT->Option DFlow)(δ:aT):Option DFlow:=(c δ).bind λb=>if b=true then f δ else g δ
noncomputable def aY(i:Nat)(f:aT->Option PyData)(δ:aT):Option DFlow:=(f δ).map λd=>.nx (δ.set i (some (.fz d)))
noncomputable def dZ(i:Nat)(f:aT->Option (List PyData))(δ:aT):Option DFlow:=(f δ).map λds=>.nx (δ.set i (some (.ow ds)))
noncomputable def mQ(i:Nat)(g:PyData->PyData->Option PyData)(f:aT->Option PyData)(δ:aT):Option DFlow:=(aB i δ).bind λx=>(f δ).bind λy=>(g x y).map λz=>.nx (δ.set i (some (.fz z)))
noncomputable def ae(f:aT->Option PyData)(δ:aT):Option DFlow:=(f δ).map .rt
noncomputable def yf(i:Nat)(δ:aT):Option DFlow:=match δ[i]? with
 |some (some (.ow ds))=>some (.ro ds)
 |_=>none
noncomputable def fU(f:aT->Option PyData)(δ:aT):Option DFlow:=(f δ).map λ_=>.nx δ
noncomputable def fX(_:aT):Option DFlow:=none
noncomputable def iP(i:Nat)(f:aT->Option DFlow)(δ:aT):Option DFlow:=f (frz i δ)
noncomputable def bu(i:Nat)(f:aT->Option PyData)(δ:aT):Option DFlow:=match δ[i]? with
 |some (some (.ow ds))=>(f δ).bind λd=>if ds.length < eD then some (.nx (δ.set i (some (.ow (ds++[d])))))else none
 |_=>none
noncomputable def fJ(i:Nat)(f:aT->Option PyData)(δ:aT):Option DFlow:=match δ[i]? with
 |some (some (.ow ds))=>(f δ).bind λd=>match d with
  | .list es=>if ds.length+es.length<=eD then some (.nx (δ.set i (some (.ow (ds++es)))))else none
  |_=>none
 |_=>none
noncomputable def jz:List PyData->Option (List Int)
 |[]=>some []
 | .int n::r=>(jz r).map (n:: ·)
 |_::_=>none
theorem dh:∀{ds:List PyData} {ns:List Int},jz ds=some ns->ds=ns.map PyData.int
 |[],ns,h=>by cases h;rfl
 | .int n::r,ns,h=>by
  obtain⟨ms,e1,e2⟩:=Q0.mp h;subst e2;rw [dh e1];rfl
 | .none::r,ns,h=>by cases h
 | .bool _::r,ns,h=>by cases h
 | .str _::r,ns,h=>by cases h
 | .list _::r,ns,h=>by cases h
 | .tuple _::r,ns,h=>by cases h
 | .dict _::r,ns,h=>by cases h
theorem bn:∀ns:List Int,jz (ns.map PyData.int)=some ns
 |[]=>rfl
 |n::r=>by
  show(jz (r.map PyData.int)).map (n:: ·)=_
  rw [bn r];rfl
noncomputable def eV(i:Nat)(f:aT->Option PyData)(δ:aT):Option DFlow:=match δ[i]? with
 |some (some (.ow ds))=>(f δ).bind λd=>match d with
  | .int n=>(jz ds).bind λns=>if n∈ns then some (.nx (δ.set i (some (.ow ((ns.erase n).map PyData.int)))))else none
  |_=>none
 |_=>none
section
variable {K:Fg} {t u:TS} {f g:aT->Option DFlow} {te ta tb:TE} {fe fa fb:aT->Option PyData} {c:TT} {fc:aT->Option Bool}
theorem cG:SS K vY bF:=λH0 F0 F σ H δ r D R e h=>by cases e;exact h F σ H R (Same.refl _)
theorem aV(a:SS K t f)(b:SS K u g):SS K (kf t u) (aP f g):=by
 intro H0 F0 F σ H δ r D R e h;obtain⟨r1,e1,e2⟩:=bind_some e;refine a H0 F0 F σ H δ r1 {D with nx:=u D} R e1 ?_
 cases r1 with
 |nx δ1=>exact λF' σ' H' R' s'=>b H0 F0 F' σ' H' δ1 r D R' e2 (h.up s')
 |rt d=>cases e2;exact h
 |ro d=>cases e2;exact h
 |bk d=>cases e2;exact h
 |ct d=>cases e2;exact h
theorem fu(cc:ST K c fc)(a:SS K t f)(b:SS K u g):SS K (sS c t u) (eY fc f g):=by
 intro H0 F0 F σ H δ r D R e h;obtain⟨b',e1,e2⟩:=bind_some e;refine cc H0 F0 F σ H δ b' _ R e1 λH1 F1 g1=>?_;cases b' with
 |true=>exact wy (a H0 F0 F1 σ H1 δ r D (R.grow g1) e2 (h.up g1.f))
 |false=>exact vA (b H0 F0 F1 σ H1 δ r D (R.grow g1) e2 (h.up g1.f))
theorem bN(i:Nat)(a:SE K te fe):SS K (oM te (eE i)) (aY i fe):=by
 intro H0 F0 F σ H δ r D R e h;obtain⟨d,e1,e2⟩:=Q0.mp e;subst e2;exact a H0 F0 F σ H δ d _ R e1 λv H1 F1 g1 i1=>h F1 _ H1 ((R.grow g1).set i1) g1.f
theorem kA(i:Nat){fo:aT->Option (List PyData)}(a:SO K te fo):SS K (oM te (eE i)) (dZ i fo):=by
 intro H0 F0 F σ H δ r D R e h;obtain⟨d,e1,e2⟩:=Q0.mp e;subst e2;refine a H0 F0 F σ H δ d _ R e1 λp xs H1 F1 g1 hn hf hp ar=>h F1 _ H1 ((R.grow g1).setO hp hf (R.g.h.free hn) ar λj es nj ej=>?_) g1.f;obtain⟨b,ys,q1,q2,_⟩:=R.ow j es ej;rw [q1];intro z;cases z;rw [q2]at hn;cases hn
theorem xH(i:Nat){r:R2}{gg:PyData->PyData->Option PyData}(o:xF K r gg)(a:SE K te fe):SS K (Md i te r) (mQ i gg fe):=by
 intro H0 F0 F σ H δ r' D R e h;obtain⟨x,e1,e⟩:=bind_some e;obtain⟨y,e2,e⟩:=bind_some e;obtain⟨z,e3,e4⟩:=Q0.mp e;subst e4;unfold aB at e1;split at e1
 · rename_i d' q;cases e1;obtain⟨v,hv,is⟩:=R.fz i x q;refine⟨v,hv,a H0 F0 F σ H δ y _ R e2 λw H1 F1 g1 i1=>o F1 H1 v w x y z _ g1.s (is.same g1.f) i1 e3 λv2 H2 F2 g2 i2=>?_⟩;exact h F2 _ H2 ((R.grow (g1.trans g2)).set i2) (g1.trans g2).f
 · cases e1
theorem bI(a:SE K te fe):SS K (yM te) (ae fe):=by
 intro H0 F0 F σ H δ r D R e h;obtain⟨d,e1,e2⟩:=Q0.mp e;subst e2;exact a H0 F0 F σ H δ d _ R e1 λv H1 F1 g1 i1=>h F1 v H1 (R.g.trans g1) i1
theorem JS(i:Nat):SS K (yM (bX i)) (yf i):=by
 intro H0 F0 F σ H δ r D R e h;unfold yf at e;split at e
 · rename_i ds q;cases e;obtain⟨a,xs,q1,q2,q3,q4,q5⟩:=R.ow i ds q;exact⟨.ref a,q1,h F a xs H R.g q4 q3 q2 q5⟩
 · cases e
theorem kB(a:SE K te fe):SS K (ly te) (fU fe):=by
 intro H0 F0 F σ H δ r D R e h;obtain⟨d,e1,e2⟩:=Q0.mp e;subst e2;exact a H0 F0 F σ H δ d _ R e1 λv H1 F1 g1 i1=>h F1 σ H1 (R.grow g1) g1.f
theorem mW:SS K Ej fX:=λH0 F0 F σ H δ r D R e h=>by cases e
theorem mX(i:Nat)(a:SS K t f):SS K t (iP i f):=by
 intro H0 F0 F σ H δ r D R e h;obtain⟨F',s,R'⟩:=R.frz i;exact a H0 F0 F' σ H _ r D R' e (h.up s)
theorem ko(i:Nat)(a:SE K te fe):SS K (ly (L4 K "list" oy (bX i) (bH te dM))) (bu i fe):=by
 intro H0 F0 F σ H δ r D R e h;unfold bu at e;split at e
 · rename_i ds q;obtain⟨d,e1,e2⟩:=bind_some e;split at e2
   · rename_i hl;cases e2;obtain⟨p,xs,q1,q2,q3,q4,q5⟩:=R.ow i ds q;refine⟨.ref p,q1,.inl ⟨rfl,xs,SqL.of q2⟩,a H0 F0 F σ H δ d _ R e1 λv H1 F1 g1 i1=>⟨p,xs,v,rfl,rfl,g1.h _ _ q2,?_,?_⟩⟩
     · rw [q5.length];exact sx (An hl)
     · exact h F1 σ _ ((R.grow g1).mut q q1 (g1.o _ _ q2 (λ_ z=>nomatch z) q3) q4 ((q5.same g1.f).append (Are.one i1))) g1.f
   · cases e2
 · cases e
theorem vq(i:Nat)(a:SE K te fe):SS K (ly (L4 K "list" CM (bX i) (bH te dM))) (fJ i fe):=by
 intro H0 F0 F σ H δ r D R e h;unfold fJ at e;split at e
 · rename_i ds q;obtain⟨d,e1,e2⟩:=bind_some e;split at e2
   · rename_i es;split at e2
     · rename_i hl;cases e2;obtain⟨p,xs,q1,q2,q3,q4,q5⟩:=R.ow i ds q;refine⟨.ref p,q1,.inl ⟨rfl,xs,SqL.of q2⟩,a H0 F0 F σ H δ _ _ R e1 λv H1 F1 g1 i1=>?_⟩;obtain⟨b,zs,rfl,hb,ab⟩:=i1;refine⟨p,b,xs,zs,rfl,rfl,g1.h _ _ q2,g1.s _ _ hb,?_,?_⟩
       · rw [q5.length,ab.length];exact ft hl
       · exact h F1 σ _ ((R.grow g1).mut q q1 (g1.o _ _ q2 (λ_ z=>nomatch z) q3) q4 ((q5.same g1.f).append ab)) g1.f
     · cases e2
   · cases e2
 · cases e
theorem vt(i:Nat)(a:SE K te fe):SS K (ly (L4 K "list" CO (bX i) (bH te dM))) (eV i fe):=by
 intro H0 F0 F σ H δ r D R e h;unfold eV at e;split at e
 · rename_i ds q;obtain⟨d,e1,e2⟩:=bind_some e;split at e2
   · rename_i n;obtain⟨ns,e3,e4⟩:=bind_some e2;split at e4
     · rename_i hm;cases e4;obtain⟨p,xs,q1,q2,q3,q4,q5⟩:=R.ow i ds q;have ed:=dh e3;subst ed;have ex:=Are.ints.mp q5;subst ex;refine⟨.ref p,q1,.inl ⟨rfl,_,SqL.of q2⟩,a H0 F0 F σ H δ _ _ R e1 λv H1 F1 g1 i1=>?_⟩;refine⟨p,ns,n,rfl,by rw [show v=.int n from i1],g1.h _ _ q2,hm,?_⟩
       exact h F1 σ _ ((R.grow g1).mut q q1 (g1.o _ _ q2 (λ_ z=>nomatch z) q3) q4 (Are.ints.mpr rfl)) g1.f
     · cases e4
   · cases e2
 · cases e
end
structure IterD (K:Fg) (F:Hp) (J:It) (ds:List PyData):Prop where
 go:∀(i:Nat) (F2 H2:Hp),i < ds.length->Same F F2->Same F2 H2->J.go i H2
 stop:∀F2 H2:Hp,Same F F2->Same F2 H2->J.stop ds.length H2
 yld:∀(i:Nat) (d:PyData) (F2 H2:Hp) (x:V) (H3:Hp),ds[i]? =some d->Same F F2->Same F2 H2->J.yld i H2 x H3->∃F3,Grow F2 H2 F3 H3/\Is K F3 x d
def SI(K:Fg)(wi:TI)(fi:aT->Option (List PyData)):Prop:=∀(H0 F0 F:Hp) (σ:St) (H:Hp) (δ:aT) (ds:List PyData) (R:It->Hp->Prop),Rep K H0 F0 F σ H δ->fi δ=some ds->
 (∀J H' F',Grow F H F' H'->IterD K F' J ds->R J H')->wi σ H R
def SG(K:Fg)(g:TG)(fg:PyData->aT->Option aT):Prop:=∀(H0 F0 F:Hp) (σ:St) (H:Hp) (δ δ':aT) (v:V) (d:PyData) (Q:St->Hp->Prop),Rep K H0 F0 F σ H δ->Is K F v d->fg d δ=some δ'->
 (∀σ',Rep K H0 F0 F σ' H δ'->Q σ' H)->g v σ H Q
def N6(K:Fg)(g:El)(fg:List PyData->aT->Option aT):Prop:=∀(H0 F0 F:Hp) (σ:St) (H:Hp) (δ δ':aT) (vs:List V) (ds:List PyData) (Q:St->Hp->Prop),Rep K H0 F0 F σ H δ->Are K F vs ds->fg ds δ=some δ'->
 (∀σ',Rep K H0 F0 F σ' H δ'->Q σ' H)->g vs σ H Q
noncomputable def gN(i:Nat)(d:PyData)(δ:aT):Option aT:=some (δ.set i (some (.fz d)))
noncomputable def gT(n:Nat)(fg:List PyData->aT->Option aT)(d:PyData)(δ:aT):Option aT:=match d with
 | .tuple ds=>if ds.length=n then fg ds δ else none
 |_=>none
noncomputable def gZ(ds:List PyData)(δ:aT):Option aT:=match ds with
 |[]=>some δ
 |_::_=>none
noncomputable def gC(f:PyData->aT->Option aT)(g:List PyData->aT->Option aT)(ds:List PyData)(δ:aT):Option aT:=match ds with
 |[]=>none
 |d::r=>(f d δ).bind (g r)
section
variable {K:Fg}
theorem bK(i:Nat):SG K (eE i) (gN i):=λH0 F0 F σ H δ δ' v d Q R h e k=>by cases e;exact k _ (R.set h)
theorem sJ:N6 K Mc gZ:=λH0 F0 F σ H δ δ' vs ds Q R h e k=>by
 cases ds with
 |nil=>cases e;exact⟨h,k σ R⟩
 |cons _ _=>cases e
theorem iu {t:TG}{u:El}{f:PyData->aT->Option aT}{g:List PyData->aT->Option aT}(a:SG K t f)(b:N6 K u g):N6 K (Kb t u) (gC f g):=λH0 F0 F σ H δ δ' vs ds Q R h e k=>by
 cases ds with
 |nil=>cases e
 |cons d r=>
  obtain⟨v,vr,rfl,i1,i2⟩:=h;obtain⟨δ1,e1,e2⟩:=bind_some e;exact⟨v,vr,rfl,a H0 F0 F σ H δ δ1 v d _ R i1 e1 λσ1 R1=>b H0 F0 F σ1 H δ1 δ' vr r Q R1 i2 e2 k⟩
theorem xI {n:Nat}{t:El}{g:List PyData->aT->Option aT}(b:N6 K t g):SG K (LO K n t) (gT n g):=λH0 F0 F σ H δ δ' v d Q R h e k=>by
 unfold gT at e;split at e
 · rename_i ds;split at e
   · rename_i hl;obtain⟨a,xs,rfl,q,ar⟩:=h;exact⟨a,xs,rfl,SqT.of (R.g.s _ _ q),by rw [ar.length,hl],b H0 F0 F σ H δ δ' xs ds Q R ar e k⟩
   · cases e
 · cases e
noncomputable def OI:PyData->Option (List PyData)
 | .list ds=>some ds
 | .tuple ds=>some ds
 | .dict [(.none,.list ds)]=>some ds
 |_=>none
noncomputable def lV(i:Int):Bool:=decide (-1000000000<=i)&&decide (i<=1000000000)
noncomputable def am(lo:Int)(n:Nat):List PyData:=(List.range n).map λk:Nat=>PyData.int (lo+(k:Int))
noncomputable def cD(fs:aT->Option (List PyData))(δ:aT):Option (List PyData):=(fs δ).bind λds=>match ds with
 |[.int j]=>if lV j=true then some (am 0 j.toNat)else none
 |_=>none
noncomputable def lz(fs:aT->Option (List PyData))(δ:aT):Option (List PyData):=(fs δ).bind λds=>match ds with
 |[.int i,.int j]=>if(lV i&&lV j)=true then some (am i (j - i).toNat)else none
 |_=>none
theorem yg(F:Hp)(lo:Int)(n:Nat):IterD K F (Me lo n) (am lo n) where
 go:=λi F2 H2 h _ _=>by
  have:i < n:=by simpa [am]using h
  exact this
 stop:=λF2 H2 _ _=>by show n<=(am lo n).length;simp [am]
 yld:=λi d F2 H2 x H3 e _ s2 y=>by
  obtain⟨y1,y2⟩:=y;subst y1 y2;refine⟨F2,Grow.refl s2,?_⟩;unfold am at e;rw [zK]at e;obtain⟨k,e1,e2⟩:=Q0.mp e;have hi:=g0 e1;rw [cY hi]at e1;have:k=i:=by simpa using e1.symm
  subst this;subst e2;rfl
theorem jK {ta:TA}{fs:aT->Option (List PyData)}(a:SA K ta fs):SI K (Kc ta) (cD fs):=λH0 F0 F σ H δ ds R RR e k=>by
 obtain⟨es,e1,e2⟩:=bind_some e;split at e2
 · rename_i j;split at e2
   · rename_i hs;cases e2;unfold lV at hs;rw [Q5,decide_eq_true_eq,decide_eq_true_eq]at hs;refine a H0 F0 F σ H δ _ _ RR e1 λvs H1 F1 g1 ar=>?_;obtain⟨x,r,rfl,hx,hr⟩:=ar;rw [show r=[]from hr,show x=.int j from hx]
     exact⟨j,rfl,by omega,by omega,k _ H1 F1 g1 (yg F1 0 j.toNat)⟩
   · cases e2
 · cases e2
theorem CS {ta:TA}{fs:aT->Option (List PyData)}(a:SA K ta fs):SI K (Kd ta) (lz fs):=λH0 F0 F σ H δ ds R RR e k=>by
 obtain⟨es,e1,e2⟩:=bind_some e;split at e2
 · rename_i i j;split at e2
   · rename_i hs;cases e2;unfold lV at hs;simp only [Q5,decide_eq_true_eq]at hs;refine a H0 F0 F σ H δ _ _ RR e1 λvs H1 F1 g1 ar=>?_;obtain⟨x,r,rfl,hx,y,r',rfl,hy,hr⟩:=ar;rw [show r'=[]from hr,show x=.int i from hx,show y=.int j from hy]
     exact⟨i,j,rfl,⟨by omega,by omega,by omega,by omega⟩,k _ H1 F1 g1 (yg F1 i (j - i).toNat)⟩
   · cases e2
 · cases e2
end
def xJ(K:Fg)(tl:TE):TI:=λσ H R=>tl σ H λx H1=>∃a,x=.ref a/\(((∃xs,SqL K H1 a xs)/\R (Ng K a) H1)\/((∃xs,SqT K H1 a xs)/\R (Nh K a) H1))
section
variable {X:Cx} {tg:Expr}
theorem Lf {l:Expr}{tl:TE}(hl:PE X l tl):PI X tg l (xJ X.K tl):=by
 intro pins s σ H R I h;refine dN (hl pins s σ H _ I h) λv s1 ⟨x,H1,I1,r1,q1⟩=>?_;obtain⟨a,e,q⟩:=q1;subst e;cases r1
 rcases q with⟨⟨xs,hq⟩,q⟩|⟨⟨xs,hq⟩,q⟩
 · obtain⟨its,rv,p,hz⟩:=I1.list hq;refine wpAny_pyIter_list p.isList ?_;refine⟨s1.heap.objs.size,[s1.heap.objs.size],_,_,H1,rfl,I1.kept (t':=s1.toks) λb o e=>gH _ e,DR a _,⟨_,jS _ rfl,rfl,rfl⟩,λb hb=>?_,q⟩;have e:b=s1.heap.objs.size:=by simpa using hb
   subst e;exact I1.fpOk (Q1 _) (I1.hok.fresh (Q1 _))
 · obtain⟨its,rv,p,hz⟩:=I1.tuple hq;refine wpAny_pyIter_tuple (show s1.heap.IsTuple a its.toArray from p) ?_
   refine⟨s1.heap.objs.size,[s1.heap.objs.size],_,_,H1,rfl,I1.kept (t':=s1.toks) λb o e=>gH _ e,Au a _,⟨_,jS _ rfl,rfl,rfl⟩,λb hb=>?_,q⟩;have e:b=s1.heap.objs.size:=by simpa using hb
   subst e;exact I1.fpOk (Q1 _) (I1.hok.fresh (Q1 _))
theorem cW {l:Expr}{tl:TE}(K:Fg)(hl:PE X l tl)(h:X.K=K:=by rfl):PI X tg l (xJ K tl):=h▸Lf hl
def Nt(K:Fg)(ta:TA):TI:=λσ H R=>ta σ H λvs H1=>∃a,vs=[.ref a]/\(((∃xs,SqT K H1 a xs)/\R (N5 λH xs=>SqT K H a xs) H1)\/((∃xs,SqL K H1 a xs)/\R (N5 λH xs=>SqL K H a xs) H1))
theorem Mu {es:List Expr}{k1:Nat}{tp:Pos}{a:Expr}{ta:TA}{p pos:Pos}(hg:Gl X "enumerate")(hm:X.mg "enumerate"=none)(ha:PA X [a] ta)(hs:starEach [a] X.env=[(false,eval a X.env)]:=by rfl):PI X (.Tuple es k1 tp) (.Call (.Name "enumerate" p) [a] [] pos) (Nt X.K ta):=by
 intro pins s σ H R I h;refine Call_ (lQ I hg hm boot_enumerate (PyProof.Rows.callWith_type1 (dN (ha pos pins s σ H _ I h) λus s1 ⟨vs,H1,I1,r1,q1⟩=>?_) hs rfl));obtain⟨b,e,q1⟩:=q1;subst e;cases r1 with
 |cons r rr=>
  cases rr;cases r
  rcases q1 with⟨⟨xs,hq⟩,q⟩|⟨⟨xs,hq⟩,q⟩
  · obtain⟨its,rv,pt,hz⟩:=I1.tuple hq;refine FS (show s1.heap.IsTuple b its.toArray from pt) λh' he hi hz' hk=>?_
    refine wpAny_pyIter_enum he ⟨_,[_,_],_,_,H1,rfl,I1.kept (t':=s1.toks) hk,ve (L6 b s1.heap.objs.size),⟨⟨_,he⟩,hi⟩,λc hc=>?_,q⟩;have hc':c=s1.heap.objs.size+1\/c=s1.heap.objs.size:=by simpa using hc
    have hle:s1.heap.objs.size<=c:=by rcases hc' with z|z<;>rw [z];exact Nat.le_succ _;exact Q1 _
    exact I1.fpOk hle (I1.hok.fresh hle)
  · obtain⟨its,rv,pt,hz⟩:=I1.list hq;refine call_enumerate_list pt.isList λh' he hi hz' hk=>?_;refine wpAny_pyIter_enum he ⟨_,[_,_],_,_,H1,rfl,I1.kept (t':=s1.toks) hk,ve (Nq b s1.heap.objs.size),⟨⟨_,he⟩,hi⟩,λc hc=>?_,q⟩;have hc':c=s1.heap.objs.size+1\/c=s1.heap.objs.size:=by simpa using hc
    have hle:s1.heap.objs.size<=c:=by rcases hc' with z|z<;>rw [z];exact Nat.le_succ _;exact Q1 _
    exact I1.fpOk hle (I1.hok.fresh hle)
theorem Ff {es:List Expr}{k1:Nat}{tp:Pos}{a:Expr}{ta:TA}{p pos:Pos}(K:Fg)(hm:X.mg "enumerate"=none)(ha:PA X [a] ta)(h:X.K=K:=by rfl)(hg:Gl X "enumerate":=by rfl)(hs:starEach [a] X.env=[(false,eval a X.env)]:=by rfl):
 PI X (.Tuple es k1 tp) (.Call (.Name "enumerate" p) [a] [] pos) (Nt K ta):=h▸Mu hg hm ha hs
end
section
variable {K:Fg}
theorem Fh {F:Hp}{a:Addr}{xs:List V}{ds:List PyData}(h:F a=some (.lst xs))(ar:Are K F xs ds):IterD K F (Ng K a) ds where
 go:=λi F2 H2 hi s1 s2=>by
  obtain⟨x,e,_⟩:=ar.get (cY hi);exact⟨xs,x,SqL.of (s2 _ _ (s1 _ _ h)),e⟩
 stop:=λF2 H2 s1 s2=>⟨xs,SqL.of (s2 _ _ (s1 _ _ h)),Nat.le_of_eq ar.length⟩
 yld:=λi d F2 H2 x H3 e s1 s2 y=>by
  obtain⟨rfl,y⟩:=y;have q:=y xs (SqL.of (s2 _ _ (s1 _ _ h)));obtain⟨x',e',i'⟩:=ar.get e;rw [q]at e';cases e';exact⟨F2,Grow.refl s2,i'.same s1⟩
theorem Fi {F:Hp}{a:Addr}{xs:List V}{ds:List PyData}(h:F a=some (.tup xs))(ar:Are K F xs ds):IterD K F (Nh K a) ds where
 go:=λi F2 H2 hi s1 s2=>by
  obtain⟨x,e,_⟩:=ar.get (cY hi);exact⟨xs,x,SqT.of (s2 _ _ (s1 _ _ h)),e⟩
 stop:=λF2 H2 s1 s2=>⟨xs,SqT.of (s2 _ _ (s1 _ _ h)),Nat.le_of_eq ar.length⟩
 yld:=λi d F2 H2 x H3 e s1 s2 y=>by
  obtain⟨rfl,y⟩:=y;have q:=y xs (SqT.of (s2 _ _ (s1 _ _ h)));obtain⟨x',e',i'⟩:=ar.get e;rw [q]at e';cases e';exact⟨F2,Grow.refl s2,i'.same s1⟩
noncomputable def jL:PyData->Option (List PyData)
 | .list ds=>some ds
 | .tuple ds=>some ds
 |_=>none
noncomputable def ax(f:aT->Option PyData)(δ:aT):Option (List PyData):=(f δ).bind jL
theorem dR {tl:TE}{f:aT->Option PyData}(a:SE K tl f):SI K (xJ K tl) (ax f):=λH0 F0 F σ H δ ds R RR e k=>by
 obtain⟨d,e1,e2⟩:=bind_some e;refine a H0 F0 F σ H δ d _ RR e1 λv H1 F1 g1 is=>?_;cases d with
 |list es=>
  cases e2;obtain⟨p,xs,rfl,q,ar⟩:=is;exact⟨p,rfl,.inl ⟨⟨xs,SqL.of (g1.s _ _ q)⟩,k _ H1 F1 g1 (Fh q ar)⟩⟩
 |tuple es=>
  cases e2;obtain⟨p,xs,rfl,q,ar⟩:=is;exact⟨p,rfl,.inr ⟨⟨xs,SqT.of (g1.s _ _ q)⟩,k _ H1 F1 g1 (Fi q ar)⟩⟩
 |_=>cases e2
noncomputable def ga(ds:List PyData):List PyData:=ds.zipIdx.map λp=>PyData.tuple [.int (p.2:Nat),p.1]
theorem nN {ds:List PyData}{i:Nat}{d:PyData}(h:(ga ds)[i]? =some d):∃e,ds[i]? =some e/\d=.tuple [.int (i:Nat),e]:=by
 unfold ga at h;rw [zK,List.getElem?_zipIdx]at h;obtain⟨p,h1,h2⟩:=Q0.mp h;obtain⟨e,h3,h4⟩:=Q0.mp h1;subst h4;subst h2;exact⟨e,h3,by simp⟩
theorem vv(ds:List PyData):(ga ds).length=ds.length:=by simp [ga]
theorem CT {F:Hp}{S:Hp->List V->Prop}{xs:List V}{ds:List PyData}(h:∀F2 H2,Same F F2->Same F2 H2->S H2 xs)(ar:Are K F xs ds):IterD K F (N5 S) (ga ds) where
 go:=λi F2 H2 hi s1 s2=>by
  rw [vv]at hi;obtain⟨x,e,_⟩:=ar.get (cY hi);exact⟨xs,x,h F2 H2 s1 s2,e⟩
 stop:=λF2 H2 s1 s2=>⟨xs,h F2 H2 s1 s2,by rw [vv];exact ar.length⟩
 yld:=λi d F2 H2 x H3 e s1 s2 y=>by
  obtain⟨p,v,hp,rfl,rfl,y⟩:=y;have q:=y xs (h F2 H2 s1 s2);obtain⟨d',h1,rfl⟩:=nN e;obtain⟨x',e',i'⟩:=ar.get h1;rw [q]at e';cases e';exact⟨_,Grow.new s2 hp,p,_,rfl,aS,.int (i:Nat),[v],rfl,rfl,v,[],rfl,(i'.same s1).same (bf (s2.free hp) _),rfl⟩
noncomputable def Ih(fs:aT->Option (List PyData))(δ:aT):Option (List PyData):=(fs δ).bind λds=>match ds with
 |[d]=>(jL d).map ga
 |_=>none
theorem Fj {ta:TA}{fs:aT->Option (List PyData)}(a:SA K ta fs):SI K (Nt K ta) (Ih fs):=λH0 F0 F σ H δ ds R RR e k=>by
 obtain⟨es,e1,e2⟩:=bind_some e;split at e2
 · rename_i d;obtain⟨us,e3,e4⟩:=Q0.mp e2;subst e4;refine a H0 F0 F σ H δ _ _ RR e1 λvs H1 F1 g1 ar=>?_;obtain⟨x,r,rfl,hx,hr⟩:=ar;rw [show r=[]from hr]
   cases d with
   |list es=>
    cases e3;obtain⟨p,xs,rfl,q,ar⟩:=hx;exact⟨p,rfl,.inr ⟨⟨xs,SqL.of (g1.s _ _ q)⟩,k _ H1 F1 g1 (CT (λF2 H2 s1 s2=>SqL.of (s2 _ _ (s1 _ _ q))) ar)⟩⟩
   |tuple es=>
    cases e3;obtain⟨p,xs,rfl,q,ar⟩:=hx;exact⟨p,rfl,.inl ⟨⟨xs,SqT.of (g1.s _ _ q)⟩,k _ H1 F1 g1 (CT (λF2 H2 s1 s2=>SqT.of (s2 _ _ (s1 _ _ q))) ar)⟩⟩
   |_=>cases e3
 · cases e2
noncomputable def tD(ds es:List PyData):List PyData:=(ds.zip es).map λp=>PyData.tuple [p.1,p.2]
theorem yh {ds es:List PyData}{i:Nat}{d:PyData}(h:(tD ds es)[i]? =some d):∃x y,ds[i]? =some x/\es[i]? =some y/\d=.tuple [x,y]:=by
 unfold tD at h;rw [zK]at h;obtain⟨p,h1,h2⟩:=Q0.mp h;obtain⟨h3,h4⟩:=List.getElem?_zip_eq_some.mp h1;exact⟨p.1,p.2,h3,h4,h2.symm⟩
theorem yi {ds es:List PyData}(h:ds.length=es.length):(tD ds es).length=ds.length:=by simp [tD,h]
theorem Fk {F:Hp}{S1 S2:Hp->List V->Prop}{xs ys:List V}{ds es:List PyData}(h1:∀F2 H2,Same F F2->Same F2 H2->S1 H2 xs)(h2:∀F2 H2,Same F F2->Same F2 H2->S2 H2 ys)(a1:Are K F xs ds)(a2:Are K F ys es)(hl:ds.length=es.length):IterD K F (Nr S1 S2) (tD ds es) where
 go:=λi F2 H2 hi s1 s2=>by
  rw [yi hl]at hi;obtain⟨x,e,_⟩:=a1.get (cY hi);obtain⟨y,e',_⟩:=a2.get (cY (by omega:i < es.length))
  exact⟨xs,ys,x,y,h1 F2 H2 s1 s2,h2 F2 H2 s1 s2,e,e'⟩
 stop:=λF2 H2 s1 s2=>⟨xs,h1 F2 H2 s1 s2,by rw [yi hl];exact a1.length⟩
 yld:=λi d F2 H2 x H3 e s1 s2 y=>by
  obtain⟨p,v,u,hp,rfl,rfl,y1,y2⟩:=y;have q1:=y1 xs (h1 F2 H2 s1 s2);have q2:=y2 ys (h2 F2 H2 s1 s2);obtain⟨d1,d2,e1,e2,rfl⟩:=yh e;obtain⟨x1,f1,i1⟩:=a1.get e1;obtain⟨x2,f2,i2⟩:=a2.get e2;rw [q1]at f1;rw [q2]at f2;cases f1;cases f2;have sn:Same F2 (bv F2 p (.tup [v,u])):=bf (s2.free hp) _;exact⟨_,Grow.new s2 hp,p,_,rfl,aS,v,[u],rfl,(i1.same s1).same sn,u,[],rfl,(i2.same s1).same sn,rfl⟩
noncomputable def JT(fs:aT->Option (List PyData))(δ:aT):Option (List PyData):=(fs δ).bind λds=>match ds with
 |[.tuple xs,.tuple ys]=>if xs.length=ys.length then some (tD xs ys)else none
 |_=>none
theorem Lg {ta:TA}{fs:aT->Option (List PyData)}(a:SA K ta fs):SI K (FW K ta) (JT fs):=λH0 F0 F σ H δ ds R RR e k=>by
 obtain⟨es,e1,e2⟩:=bind_some e;split at e2
 · rename_i d1 d2;split at e2
   · rename_i hl;cases e2;refine a H0 F0 F σ H δ _ _ RR e1 λvs H1 F1 g1 ar=>?_;obtain⟨x,r,rfl,hx,y,r',rfl,hy,hr⟩:=ar;rw [show r'=[]from hr]
     obtain⟨p,xs,rfl,q,ar⟩:=hx;obtain⟨p',ys,rfl,q',ar'⟩:=hy;exact⟨p,p',rfl,⟨xs,SqT.of (g1.s _ _ q)⟩,⟨ys,SqT.of (g1.s _ _ q')⟩,k _ H1 F1 g1 (Fk (λF2 H2 s1 s2=>SqT.of (s2 _ _ (s1 _ _ q))) (λF2 H2 s1 s2=>SqT.of (s2 _ _ (s1 _ _ q'))) ar ar' hl)⟩
   · cases e2
 · cases e2
end
noncomputable def fw(fg:PyData->aT->Option aT)(fb:aT->Option DFlow):List PyData->aT->Option DFlow
 |[],δ=>some (.nx δ)
 |d::r,δ=>(fg d δ).bind λδ1=>(fb δ1).bind λfl=>match fl with
  | .nx δ2=>fw fg fb r δ2
  | .ct δ2=>fw fg fb r δ2
  | .bk δ2=>some (.nx δ2)
  | .rt v=>some (.rt v)
  | .ro v=>some (.ro v)
noncomputable def bd(fi:aT->Option (List PyData))(fg:PyData->aT->Option aT)(fb:aT->Option DFlow)(δ:aT):Option DFlow:=(fi δ).bind λds=>fw fg fb ds δ
noncomputable def dj(c:aT->Option Bool)(fb:aT->Option DFlow):Nat->aT->Option DFlow
 |0,_=>none
 |n+1,δ=>(c δ).bind λb=>if b=true then(fb δ).bind λfl=>match fl with
  | .nx δ2=>dj c fb n δ2
  | .ct δ2=>dj c fb n δ2
  | .bk δ2=>some (.nx δ2)
  | .rt v=>some (.rt v)
  | .ro v=>some (.ro v)else some (.nx δ)
section
variable {K:Fg}
theorem dJ {wi:TI}{g:TG}{tb:TS}{fi:aT->Option (List PyData)}{fg:PyData->aT->Option aT}{fb:aT->Option DFlow}(hi:SI K wi fi)(hg:SG K g fg)(hb:SS K tb fb):SS K (Aw wi g tb) (bd fi fg fb):=by
 intro H0 F0 F σ H δ r D R e h;obtain⟨ds,e1,e2⟩:=bind_some e;refine hi H0 F0 F σ H δ ds _ R e1 λJ H1 F1 g1 it=>?_;refine⟨λi m σ H=>m=ds.length - i/\i<=ds.length/\∃F' δ',Rep K H0 F0 F' σ H δ'/\Same F1 F'/\fw fg fb (ds.drop i) δ'=some r,⟨ds.length,by simp,zU _,F1,δ,R.grow g1,Same.refl _,e2⟩,?_⟩
 rintro i m σ' H' ⟨rfl,hle,F',δ',R',s',e'⟩
 by_cases hlt:i < ds.length
 · refine .inr ⟨it.go i F' H' hlt s' R'.g.s,λσ H=>i+1<=ds.length/\∃F' δ',Rep K H0 F0 F' σ H δ'/\Same F1 F'/\fw fg fb (ds.drop (i+1)) δ'=some r,λσ2 H2 q=>⟨ds.length - (i+1),by omega,rfl,q⟩,λx H2 y=>?_⟩
   have hd:ds[i]? =some ds[i]:=cY hlt;obtain⟨F2,g2,is⟩:=it.yld i _ F' H' x H2 hd s' R'.g.s y;rw [List.drop_eq_getElem_cons hlt]at e';obtain⟨δ1,q1,q2⟩:=bind_some e';obtain⟨fl,q3,q4⟩:=bind_some q2;refine hg H0 F0 F2 σ' H2 δ' δ1 x ds[i] _ (R'.grow g2) is q1 λσ3 R3=>?_;refine hb H0 F0 F2 σ3 H2 δ1 fl _ R3 q3 ?_;have up:Same F1 F2:=s'.trans g2.f;cases fl with
   |nx δ2=>exact λF3 σ4 H4 R4 s4=>⟨hlt,F3,δ2,R4,up.trans s4,q4⟩
   |ct δ2=>exact λF3 σ4 H4 R4 s4=>⟨hlt,F3,δ2,R4,up.trans s4,q4⟩
   |bk δ2=>
    cases q4;exact λF3 σ4 H4 R4 s4=>h F3 σ4 H4 R4 (g1.f.trans (up.trans s4))
   |rt d=>cases q4;exact h
   |ro d=>cases q4;exact h
 · have e3:i=ds.length:=by omega
   subst e3;rw [List.drop_length]at e';cases e';exact .inl ⟨it.stop F' H' s' R'.g.s,h F' σ' H' R' (g1.f.trans s')⟩
theorem yj {c:TT}{tb:TS}{fc:aT->Option Bool}{fb:aT->Option DFlow}(n:Nat)(hc:ST K c fc)(hb:SS K tb fb):SS K (Eo c tb) (dj fc fb n):=by
 intro H0 F0 F σ H δ r D R e h;refine⟨λm σ H=>∃F' δ',Rep K H0 F0 F' σ H δ'/\Same F F'/\dj fc fb m δ'=some r,⟨n,F,δ,R,Same.refl _,e⟩,?_⟩;rintro m σ' H' ⟨F',δ',R',s',e'⟩;cases m with
 |zero=>cases e'
 |succ m=>
  obtain⟨b,q1,q2⟩:=bind_some e';refine hc H0 F0 F' σ' H' δ' b _ R' q1 λH1 F1 g1=>?_;cases b with
  |false=>
   cases q2;exact vA (h F1 σ' H1 (R'.grow g1) (s'.trans g1.f))
  |true=>
   obtain⟨fl,q3,q4⟩:=bind_some q2;refine wy ⟨λσ H=>∃F' δ',Rep K H0 F0 F' σ H δ'/\Same F F'/\dj fc fb m δ'=some r,λσ2 H2 q=>⟨m,Ig _,q⟩,?_⟩;refine hb H0 F0 F1 σ' H1 δ' fl _ (R'.grow g1) q3 ?_;have up:Same F F1:=s'.trans g1.f;cases fl with
   |nx δ2=>exact λF3 σ4 H4 R4 s4=>⟨F3,δ2,R4,up.trans s4,q4⟩
   |ct δ2=>exact λF3 σ4 H4 R4 s4=>⟨F3,δ2,R4,up.trans s4,q4⟩
   |bk δ2=>
    cases q4;exact λF3 σ4 H4 R4 s4=>h F3 σ4 H4 R4 (up.trans s4)
   |rt d=>cases q4;exact h
   |ro d=>cases q4;exact h
end
noncomputable def iJ(n:Nat)(fr:List (Str×Nat))(δ:aT):aT:=List.replicate n none++fr.map λp=>match δ[p.2]? with
 |some (some (.fz d))=>some (.fz d)
 |_=>none
noncomputable def j8(f:PyData->Option (Option PyData)):List PyData->Option (List PyData)
 |[]=>some []
 |d::r=>(f d).bind λo=>match o with
  |some y=>(j8 f r).map (y:: ·)
  |none=>j8 f r
noncomputable def cM(_:aT):Option Bool:=some true
noncomputable def bE(n:Nat)(fr:List (Str×Nat))(fi:aT->Option (List PyData))(fg:PyData->aT->Option aT)(fc:aT->Option Bool)(fe:aT->Option PyData)(δ:aT):Option (List PyData):=
 (fi δ).bind λds=>if ds.length<=eD then j8 (λd=>(fg d (iJ n fr δ)).bind λδ1=>(fc δ1).bind λb=>if b=true then(fe δ1).map some else some none) ds else none
def OJ(n:Nat)(fg:PyData->aT->Option aT):Prop:=∀d δ δ1,fg d δ=some δ1->δ1.length=δ.length/\∀i,n<=i->δ1[i]? =δ[i]?
theorem dS {n i:Nat}(h:i < n:=by decide):OJ n (gN i):=λd δ δ1 e=>by
 cases e;exact⟨Q6 ..,λj hj=>bB (by omega)⟩
section
variable {K:Fg}
theorem Nu {H0 F0 F:Hp}{σ:St}{H:Hp}{δ:aT}(R:Rep K H0 F0 F σ H δ)(n:Nat)(fr:List (Str×Nat))(H':Hp)(F1:Hp)(g:Grow F1 H' F H):Rep K H' F1 F (FQ n fr σ) H (iJ n fr δ) where
 g:=g
 tb:=R.tb
 len:=by simp [FQ,iJ]
 fz:=λi d e=>by
  unfold iJ at e;unfold FQ
  by_cases hi:i < n
  · rw [Qb (by simpa using hi),Ao,if_pos hi]at e
    cases e
  · rw [Qe (by simpa using hi),Ij,zK]at e ⊢
    cases q:fr[i - n]? with
    |none=>rw [q]at e;cases e
    |some p=>
     rw [q]at e;have e':(match δ[p.2]? with|some (some (.fz d))=>some (Sl.fz d)|_=>none)=some (.fz d):=zV e
     split at e'
     · rename_i d' q';cases e';obtain⟨v,h1,h2⟩:=R.fz p.2 d q';refine⟨v,?_,h2⟩;show some ((σ[p.2]?).join)=some (some v);rw [h1];rfl
     · cases e'
 ow:=λi ds e=>by
  exfalso
  unfold iJ at e
  by_cases hi:i < n
  · rw [Qb (by simpa using hi),Ao,if_pos hi]at e
    cases e
  · rw [Qe (by simpa using hi),Ij,zK]at e
    cases q:fr[i - n]? with
    |none=>rw [q]at e;cases e
    |some p=>
     rw [q]at e;have e':(match δ[p.2]? with|some (some (.fz d))=>some (Sl.fz d)|_=>none)=some (.ow ds):=zV e
     split at e'<;>cases e'
 ap:=λi j ds es a e1 e2 e3 e4=>by
  exfalso
  unfold iJ at e1
  by_cases hi:i < n
  · rw [Qb (by simpa using hi),Ao,if_pos hi]at e1
    cases e1
  · rw [Qe (by simpa using hi),Ij,zK]at e1
    cases q:fr[i - n]? with
    |none=>rw [q]at e1;cases e1
    |some p=>
     rw [q]at e1;have e':(match δ[p.2]? with|some (some (.fz d))=>some (Sl.fz d)|_=>none)=some (.ow ds):=zV e1
     split at e'<;>cases e'
 od:=λi ds e=>by
  exfalso
  unfold iJ at e
  by_cases hi:i < n
  · rw [Qb (by simpa using hi),Ao,if_pos hi]at e
    cases e
  · rw [Qe (by simpa using hi),Ij,zK]at e
    cases q:fr[i - n]? with
    |none=>rw [q]at e;cases e
    |some p=>
     rw [q]at e;have e':(match δ[p.2]? with|some (some (.fz d))=>some (Sl.fz d)|_=>none)=some (.od ds):=zV e
     split at e'<;>cases e'
 ad:=λi j ds es a e1 e2 e3 e4=>by
  exfalso
  unfold iJ at e1
  by_cases hi:i < n
  · rw [Qb (by simpa using hi),Ao,if_pos hi]at e1
    cases e1
  · rw [Qe (by simpa using hi),Ij,zK]at e1
    cases q:fr[i - n]? with
    |none=>rw [q]at e1;cases e1
    |some p=>
     rw [q]at e1;have e':(match δ[p.2]? with|some (some (.fz d))=>some (Sl.fz d)|_=>none)=some (.od ds):=zV e1
     split at e'<;>cases e'
theorem j9:ST K FP cM:=λH0 F0 F σ H δ b Q R e h=>by cases e;exact h H F (Grow.refl R.g.s)
theorem fK {n:Nat}{fr:List (Str×Nat)}{wi:TI}{g:TG}{tc:TT}{te:TE}{fi:aT->Option (List PyData)}{fg:PyData->aT->Option aT}{fc:aT->Option Bool}{fe:aT->Option PyData}
 (hi:SI K wi fi) (hg:SG K g fg) (hl:OJ n fg) (hc:ST K tc fc) (he:SE K te fe):SO K (yU n fr wi g tc te) (bE n fr fi fg fc fe):=by
 intro H0 F0 F σ H δ rs Q R e h;obtain⟨ds,e1,e2⟩:=bind_some e;split at e2
 · rename_i lim;refine hi H0 F0 F σ H δ ds _ R e1 λJ H1 F1 g1 it acc hacc=>?_;have hF1:F1 acc=none:=g1.s.free hacc;have h0:H acc=none:=g1.h.free hacc;have R1:=R.grow g1
   let f:PyData->Option (Option PyData):=λd=>(fg d (iJ n fr δ)).bind λδ1=>(fc δ1).bind λb=>if b=true then(fe δ1).map some else some none
   have e2':j8 f ds=some rs:=e2;refine⟨λi m σ' H'=>m=ds.length - i/\i<=ds.length/\∃F' xs us vs,Rep K H1 F1 F' σ' H' (iJ n fr δ)/\F' acc=none/\H' acc=some (.lst xs)/\Are K F' xs us/\us.length<=i/\j8 f (ds.drop i)=some vs/\rs=us++vs,⟨ds.length,by simp,zU _,F1,[],[],rs,?_,hF1,aS,rfl,Q1 _,e2',rfl⟩,?_⟩
   · exact(Nu R1 n fr H1 F1 (Grow.refl g1.s)).grow (Grow.fresh g1.s hacc)
   rintro i m σ' H' ⟨rfl,hle,F',xs,us,vs,R',hF',ha,ar,hu,em,er⟩;have s':Same F1 F':=R'.g.f
   by_cases hlt:i < ds.length
   · refine .inr ⟨it.go i F' H' hlt s' R'.g.s,λσ' H'=>i+1<=ds.length/\∃F' xs us vs,Rep K H1 F1 F' σ' H' (iJ n fr δ)/\F' acc=none/\H' acc=some (.lst xs)/\Are K F' xs us/\us.length<=i+1/\j8 f (ds.drop (i+1))=some vs/\rs=us++vs,λσ2 H2 q=>⟨ds.length - (i+1),by omega,rfl,q⟩,λx H2 y=>?_⟩
     have hd:ds[i]? =some ds[i]:=cY hlt;obtain⟨F2,g2,is⟩:=it.yld i _ F' H' x H2 hd s' R'.g.s y;rw [List.drop_eq_getElem_cons hlt]at em;obtain⟨o,q1,q2⟩:=bind_some em;obtain⟨δ1,q3,q4⟩:=bind_some q1;obtain⟨b,q5,q6⟩:=bind_some q4;obtain⟨ll,lh⟩:=hl _ _ _ q3;have weak:∀{Fx:Hp} {σx:St} {Hx:Hp},Rep K H1 F1 Fx σx Hx δ1->Rep K H1 F1 Fx σx Hx (iJ n fr δ):=λ{Fx σx Hx} RR=>RR.weak ll.symm λj s es=>by
      by_cases hj:j < n
      · unfold iJ at es;rw [Qb (by simpa using hj),Ao,if_pos hj]at es
        cases es
      · rw [lh j (by omega)];exact es
     have ha2:H2 acc=some (.lst xs):=g2.h _ _ ha;have hF2:F2 acc=none:=g2.o _ _ ha (λ_ z=>nomatch z) hF';refine hg H1 F1 F2 σ' H2 _ δ1 x ds[i] _ (R'.grow g2) is q3 λσ3 R3=>?_;refine hc H1 F1 F2 σ3 H2 δ1 b _ R3 q5 λH4 F4 g4=>?_;have ha4:H4 acc=some (.lst xs):=g4.h _ _ ha2;have hF4:F4 acc=none:=g4.o _ _ ha2 (λ_ z=>nomatch z) hF2;cases b with
     |false=>
      have q6':(some none:Option (Option PyData))=some o:=q6;cases q6';refine vA ⟨hlt,F4,xs,us,vs,weak (R3.grow g4),hF4,ha4,(ar.same g2.f).same g4.f,by omega,q2,er⟩
     |true=>
      have q6':(fe δ1).map some=some o:=q6;obtain⟨yd,q7,q8⟩:=Q0.mp q6';subst q8;obtain⟨ws,q9,q10⟩:=Q0.mp q2;subst q10;refine wy (he H1 F1 F4 σ3 H4 δ1 yd _ (R3.grow g4) q7 λv H5 F5 g5 i5=>?_);have ha5:H5 acc=some (.lst xs):=g5.h _ _ ha4;have hF5:F5 acc=none:=g5.o _ _ ha4 (λ_ z=>nomatch z) hF4;have ar5:Are K F5 xs us:=((ar.same g2.f).same g4.f).same g5.f;refine⟨xs,ha5,?_,hlt,F5,xs++[v],us++[yd],ws,?_,hF5,aS,ar5.append (Are.one i5),?_,q9,by rw [er];simp⟩
      · rw [ar5.length];exact sx (by omega)
      · have R5:=weak ((R3.grow g4).grow g5);exact⟨⟨R5.g.f,λb u q=>by rw [aN (aQ q hF5)];exact R5.g.s b u q,λb u q=>by rw [aN (aQ q hacc)];exact R5.g.h b u q,R5.g.o⟩,R5.len,R5.fz,λj es q=>by
         exfalso
         unfold iJ at q
         by_cases hj:j < n
         · rw [Qb (by simpa using hj),Ao,if_pos hj]at q
           cases q
         · rw [Qe (by simpa using hj),Ij,zK]at q
           cases z:fr[j - n]? with
           |none=>rw [z]at q;cases q
           |some p=>
            rw [z]at q;have e':(match δ[p.2]? with|some (some (.fz d))=>some (Sl.fz d)|_=>none)=some (.ow es):=zV q
            (split at e'<;>cases e'),R5.ap,λj es q=>by
         exfalso
         unfold iJ at q
         by_cases hj:j < n
         · rw [Qb (by simpa using hj),Ao,if_pos hj]at q
           cases q
         · rw [Qe (by simpa using hj),Ij,zK]at q
           cases z:fr[j - n]? with
           |none=>rw [z]at q;cases q
           |some p=>
            rw [z]at q;have e':(match δ[p.2]? with|some (some (.fz d))=>some (Sl.fz d)|_=>none)=some (.od es):=zV q
            (split at e'<;>cases e'),R5.ad,R5.tb⟩
      · rw [zQ,LF];omega
   · have e3:i=ds.length:=by omega
     subst e3;rw [List.drop_length]at em;cases em;rw [Qa]at er;subst er;refine .inl ⟨it.stop F' H' s' R'.g.s,?_⟩;refine h acc xs H' F' ?_ h0 hF' ha ar;exact g1.trans R'.g
 · cases e2
end
noncomputable def bj:DFlow->Option PyData
 | .nx _=>some .none
 | .rt d=>some d
 | .ro ds=>some (.list ds)
 |_=>none
noncomputable def gu(n:Nat)(ds:List PyData):aT:=ds.map (λd=>some (.fz d))++List.replicate (n - ds.length) none
noncomputable def bV(n:Nat)(fb:aT->Option DFlow)(ds:List PyData):Option PyData:=(fb (gu n ds)).bind bj
noncomputable def Lh(n:Nat)(fb:aT->Option DFlow)(ds:List PyData):Option (List PyData):=(fb (gu n ds)).bind λr=>match r with
 | .ro ds=>some ds
 |_=>none
def cF(K:Fg)(n:Nat)(f:List PyData->Option PyData):Sp:=λvs H Q _=>∃F ds d,jG K F H/\vs.length=n/\Are K F vs ds/\f ds=some d/\∀v H' F',Grow F H F' H'->Is K F' v d->Q v H'
def Kk(K:Fg)(n:Nat)(f:List PyData->Option (List PyData)):Sp:=λvs H Q _=>∃F ds es,jG K F H/\vs.length=n/\Are K F vs ds/\f ds=some es/\∀a xs H' F',Grow F H F' H'->H a=none->F' a=none->H' a=some (.lst xs)->Are K F' xs es->Q (.ref a) H'
theorem ja {K:Fg}{F H:Hp}{N:List Str}{vs:List V}{ds:List PyData}(s:jG K F H)(ar:Are K F vs ds):Rep K H F F (L2.eZ N vs) H (gu N.length ds) where
 g:=Grow.refl s.1
 tb:=s.2
 len:=by
  have:=ar.length;simp [L2.eZ,gu,this]
 fz:=λi d e=>by
  have hl:=ar.length;unfold gu at e;unfold L2.eZ
  by_cases hi:i < ds.length
  · rw [Qb (by simpa using hi),zK]at e
    obtain⟨d',e1,e2⟩:=Q0.mp e;cases e2;obtain⟨x,h1,h2⟩:=ar.get e1;refine⟨x,?_,h2⟩;rw [Qb (by rw [zJ];omega),zK,h1]
    rfl
  · rw [Qe (by simpa using hi),Ao]at e
    split at e<;>cases e
 ow:=λi es e=>by
  exfalso
  unfold gu at e
  by_cases hi:i < ds.length
  · rw [Qb (by simpa using hi),zK]at e
    obtain⟨d',e1,e2⟩:=Q0.mp e;cases e2
  · rw [Qe (by simpa using hi),Ao]at e
    split at e<;>cases e
 ap:=λi j es us a e=>by
  exfalso
  unfold gu at e
  by_cases hi:i < ds.length
  · rw [Qb (by simpa using hi),zK]at e
    obtain⟨d',e1,e2⟩:=Q0.mp e;cases e2
  · rw [Qe (by simpa using hi),Ao]at e
    split at e<;>cases e
 od:=λi es e=>by
  exfalso
  unfold gu at e
  by_cases hi:i < ds.length
  · rw [Qb (by simpa using hi),zK]at e
    obtain⟨d',e1,e2⟩:=Q0.mp e;cases e2
  · rw [Qe (by simpa using hi),Ao]at e
    split at e<;>cases e
 ad:=λi j es us a e=>by
  exfalso
  unfold gu at e
  by_cases hi:i < ds.length
  · rw [Qb (by simpa using hi),zK]at e
    obtain⟨d',e1,e2⟩:=Q0.mp e;cases e2
  · rw [Qe (by simpa using hi),Ao]at e
    split at e<;>cases e
section
variable {P:Program} {w:World} {K:Fg} {mg:Str->Option Value} {base:Heap}
theorem bG {x qual:Str}{st:Stmt}{f:Addr}{fd:FuncData}{N ps:List Str}{k n m:Nat}{fb:aT->Option DFlow}(F:Fun K x qual st f fd)(S:FnScope N ps (aL st))(hN:N.length=n)(hm:ps.length=m)
 (hbody : ∀ (cdv : Value) (A : Around) (outer : List Env) (s : Shared) (H : Hp) (E : XK), Room k (A.deeper (envOfC qual (aL st) s.heap.objs.size f cdv)) ->
  ∃t,PSs (wq gY P w K mg base N qual (aL st) f cdv A outer s H E).nox (aZ st) t/\SS K t fb):FnOk P w K mg base gY (k+1) f fd ps (cF K m (bV n fb)):=by
 subst hN hm;refine F.ok S (λvs H Q E h=>?_) (λcdv A outer s H vs Q E hr h=>?_)
 · obtain⟨F',ds,d,_,hl,_⟩:=h;exact hl
 · obtain⟨F',ds,d,sF,hl,ar,e,q⟩:=h;obtain⟨t,ht,hs⟩:=hbody cdv A outer s H E hr;obtain⟨r,e1,e2⟩:=bind_some e;refine⟨t,ht,hs H F' F' (L2.eZ N vs) H (gu N.length ds) r _ (ja sF ar) e1 ?_⟩;cases r with
   |nx δ=>cases e2;exact λF2 σ2 H2 R2 _=>q .non H2 F2 R2.g rfl
   |rt d'=>cases e2;exact λF2 v H2 g2 i2=>q v H2 F2 g2 i2
   |ro es=>
    cases e2;exact λF2 a xs H2 g2 h0 hf ha ar2=>q (.ref a) H2 _ (g2.frz h0 hf ha) ⟨a,xs,rfl,aS,ar2.same (bf hf _)⟩
   |bk _=>cases e2
   |ct _=>cases e2
theorem JU {x qual:Str}{st:Stmt}{f:Addr}{fd:FuncData}{N ps:List Str}{k n m:Nat}{fb:aT->Option DFlow}(F:Fun K x qual st f fd)(S:FnScope N ps (aL st))(hN:N.length=n)(hm:ps.length=m)
 (hbody : ∀ (cdv : Value) (A : Around) (outer : List Env) (s : Shared) (H : Hp) (E : XK), Room k (A.deeper (envOfC qual (aL st) s.heap.objs.size f cdv)) ->
  ∃t,PSs (wq gY P w K mg base N qual (aL st) f cdv A outer s H E).nox (aZ st) t/\SS K t fb):FnOk P w K mg base gY (k+1) f fd ps (Kk K m (Lh n fb)):=by
 subst hN hm;refine F.ok S (λvs H Q E h=>?_) (λcdv A outer s H vs Q E hr h=>?_)
 · obtain⟨F',ds,d,_,hl,_⟩:=h;exact hl
 · obtain⟨F',ds,d,sF,hl,ar,e,q⟩:=h;obtain⟨t,ht,hs⟩:=hbody cdv A outer s H E hr;obtain⟨r,e1,e2⟩:=bind_some e;refine⟨t,ht,hs H F' F' (L2.eZ N vs) H (gu N.length ds) r _ (ja sF ar) e1 ?_⟩;cases r with
   |nx δ=>cases e2
   |rt d'=>cases e2
   |ro es=>
    cases e2;exact λF2 a xs H2 g2 h0 hf ha ar2=>q a xs H2 F2 g2 h0 hf ha ar2
   |bk _=>cases e2
   |ct _=>cases e2
end
section
variable {K:Fg}
noncomputable def aE(n:Nat)(g:List PyData->Option PyData)(fs:aT->Option (List PyData))(δ:aT):Option PyData:=(fs δ).bind λds=>if ds.length=n then g ds else none
noncomputable def nO(n:Nat)(g:List PyData->Option (List PyData))(fs:aT->Option (List PyData))(δ:aT):Option (List PyData):=(fs δ).bind λds=>if ds.length=n then g ds else none
theorem aU {n:Nat}{g:List PyData->Option PyData}{t:TA}{fs:aT->Option (List PyData)}(a:SA K t fs):SE K (eF (cF K n g) [] E0 t) (aE n g fs):=by
 intro H0 F0 F σ H δ d Q R e h;obtain⟨ds,e1,e2⟩:=bind_some e;split at e2
 · rename_i hl;refine a H0 F0 F σ H δ ds _ R e1 λvs H1 F1 g1 ar=>⟨F1,ds,d,⟨g1.s,R.tb.same g1.f⟩,?_,?_,e2,λv H2 F2 g2 i2=>h v H2 F2 (g1.trans g2) i2⟩
   · rw [Qa,ar.length,hl]
   · rw [Qa];exact ar
 · cases e2
theorem JV {n:Nat}{g:List PyData->Option (List PyData)}{t:TA}{fs:aT->Option (List PyData)}(a:SA K t fs):SO K (eF (Kk K n g) [] E0 t) (nO n g fs):=by
 intro H0 F0 F σ H δ d Q R e h;obtain⟨ds,e1,e2⟩:=bind_some e;split at e2
 · rename_i hl;refine a H0 F0 F σ H δ ds _ R e1 λvs H1 F1 g1 ar=>⟨F1,ds,d,⟨g1.s,R.tb.same g1.f⟩,?_,?_,e2,λp xs H2 F2 g2 hn hf hp i2=>h p xs H2 F2 (g1.trans g2) (g1.h.free hn) hf hp i2⟩
   · rw [Qa,ar.length,hl]
   · rw [Qa];exact ar
 · cases e2
end
section
variable {K:Fg}
noncomputable def Fl(g:Int->Int->Option PyData):PyData->PyData->Option PyData
 | .int a,.int b=>g a b
 |_,_=>none
theorem ym {g:Int->Int->Option PyData}{x y d:PyData}(h:Fl g x y=some d):∃i j,x=.int i/\y=.int j/\g i j=some d:=by
 unfold Fl at h;split at h
 · exact⟨_,_,rfl,rfl,h⟩
 · cases h
theorem yn {g:Int->Int->V}{g':Int->Int->PyData}(hg:∀i j H,Is K H (g i j) (g' i j)):xF K (Ax g) (Fl λi j=>some (g' i j)):=λF H x y dx dy d Q s hx hy e k=>by
 obtain⟨i,j,rfl,rfl,e⟩:=ym e;cases e;exact⟨i,j,hx,hy,k _ H F (Grow.refl s) (hg i j F)⟩
theorem Mv {C:Int->Int->Prop}{c:Int->Int->Bool}{g:Int->Int->V}{g':Int->Int->PyData}(hc:∀i j,c i j=true->C i j)(hg:∀i j H,Is K H (g i j) (g' i j)):xF K (rI C g) (Fl λi j=>if c i j=true then some (g' i j)else none):=λF H x y dx dy d Q s hx hy e k=>by
 obtain⟨i,j,rfl,rfl,e1⟩:=ym e;split at e1
 · rename_i h;cases e1;exact⟨i,j,hx,hy,hc i j h,k _ H F (Grow.refl s) (hg i j F)⟩
 · cases e1
noncomputable def BL:=Fl λi j=>some (.int (i - j))
noncomputable def nn:=Fl λi j=>some (.bool (decide (i < j)))
noncomputable def Li:=Fl λi j=>some (.bool (decide (i<=j)))
noncomputable def Kl:=Fl λi j=>some (.bool (decide (j < i)))
noncomputable def kt:=Fl λi j=>some (.int (i+j))
noncomputable def pA(i j:Int):Bool:=(decide (-1000000000000<=i)&&decide (i<=1000000000000))||(decide (-1000000000000<=j)&&decide (j<=1000000000000))
noncomputable def ku:=Fl λi j=>if pA i j=true then some (.int (i*j))else none
noncomputable def Fm(_ j:Int):Bool:=decide (0 < j)
noncomputable def Dc:=Fl λi j=>if Fm i j=true then some (.int (i % j))else none
theorem Fo:xF K (Ax λi j=>.int (i - j)) BL:=yn λ_ _ _=>rfl
theorem Mw:xF K (Ax λi j=>.bl (decide (i < j))) nn:=yn λ_ _ _=>rfl
theorem Fp:xF K (Ax λi j=>.bl (decide (i<=j))) Li:=yn λ_ _ _=>rfl
theorem Fq:xF K (Ax λi j=>.bl (decide (j < i))) Kl:=yn λ_ _ _=>rfl
theorem xK:xF K (Ax λi j=>.int (i+j)) kt:=yn λ_ _ _=>rfl
theorem JW {i j:Int}(h:pA i j=true):CMul i j:=by
 unfold pA at h;simp only [Bool.or_eq_true,Q5,decide_eq_true_eq]at h;unfold CMul;omega
theorem oS:xF K (rI CMul λi j=>.int (i*j)) ku:=Mv (λ_ _ h=>JW h) λ_ _ _=>rfl
theorem Fs:xF K (rI (λ_ j=>0 < j) λi j=>.int (i % j)) Dc:=Mv (λ_ _ h=>by simpa [Fm]using h) λ_ _ _=>rfl
def Km(K:Fg):R2:=λx y H Q=>∃a b xs ys,x=.ref a/\y=.ref b/\H a=some (.tup xs)/\H b=some (.tup ys)/\xs.length+ys.length<=sizeLine/\(ys=[]->Q (.ref a) H)/\(xs=[]->Q (.ref b) H)/\∀p,H p=none->Q (.ref p) (bv H p (.tup (xs++ys)))
theorem JX {X:Cx}:OpR X (binaryOp .Add) (Km X.K):=by
 intro pins s σ H x y v u Q I rx ry h;obtain⟨a,b,xs,ys,rfl,rfl,ha,hb,hz,q1,q2,q3⟩:=h
 by_cases hx:xs=[]
 · cases rx;cases ry;obtain⟨its,r1,p1,_⟩:=I.tuple (SqT.of ha);obtain⟨its2,r2,p2,_⟩:=I.tuple (SqT.of hb);exact JN p1 p2 (r1.nil_iff.mpr hx) ⟨.ref b,H,I,rfl,q2 hx⟩
 · exact JB pins s σ H _ _ v u Q I rx ry ⟨a,b,xs,ys,rfl,rfl,SqT.of ha,SqT.of hb,hx,hz,q1,λ_ p hp=>q3 p hp⟩
def Mx:R2:=λx y H Q=>∃i j,x=.str i/\y=.str j/\i.length+j.length<=sizeLine/\Q (.str (i++j)) H
def Fu(K:Fg):R2:=λx y H Q=>(Ax λi j=>.int (i+j)) x y H Q\/(Km K x y H Q\/(Mo x y H Q\/Mx x y H Q))
theorem dm {X:Cx}(K:Fg)(h:X.K=K:=by rfl):OpR X (binaryOp .Add) (Fu K):=LT.or ((h▸JX).or (L5.or Az))
noncomputable def bc:PyData->PyData->Option PyData
 | .int a,.int b=>some (.int (a+b))
 | .tuple a,.tuple b=>if a.length+b.length<=eD then some (.tuple (a++b))else none
 | .list a,.list b=>if a.length+b.length<=eD then some (.list (a++b))else none
 | .str a,.str b=>if a.length+b.length<=eD then some (.str (a++b))else none
 |_,_=>none
theorem eU:xF K (Fu K) bc:=λF H x y dx dy d Q s hx hy e k=>by
 unfold bc at e;split at e
 · cases e;exact .inl ⟨_,_,hx,hy,k _ H F (Grow.refl s) rfl⟩
 · rename_i a b;split at e
   · rename_i hl;cases e;obtain⟨p,xs,rfl,q,ar⟩:=hx;obtain⟨p',ys,rfl,q',ar'⟩:=hy;refine .inr (.inl ⟨p,p',xs,ys,rfl,rfl,s _ _ q,s _ _ q',by rw [ar.length,ar'.length];exact ft hl,λz=>?_,λz=>?_,λt ht=>?_⟩)
     · refine k _ H F (Grow.refl s) ⟨p,xs,rfl,q,?_⟩;have:=ar'.length;rw [z]at this;have:b=[]:=List.eq_nil_of_length_eq_zero this.symm;subst this;rw [Qa];exact ar
     · refine k _ H F (Grow.refl s) ⟨p',ys,rfl,q',?_⟩;have:=ar.length;rw [z]at this;have:a=[]:=List.eq_nil_of_length_eq_zero this.symm;subst this;exact ar'
     · have sn:Same F (bv F t (.tup (xs++ys))):=bf (s.free ht) _;exact k _ _ _ (Grow.new s ht) ⟨t,_,rfl,aS,(ar.append ar').same sn⟩
   · cases e
 · rename_i a b;split at e
   · rename_i hl;cases e;obtain⟨p,xs,rfl,q,ar⟩:=hx;obtain⟨p',ys,rfl,q',ar'⟩:=hy;refine .inr (.inr (.inl ⟨p,p',xs,ys,rfl,rfl,s _ _ q,s _ _ q',by rw [ar.length,ar'.length];exact ft hl,λt ht=>?_⟩))
     have sn:Same F (bv F t (.lst (xs++ys))):=bf (s.free ht) _;exact k _ _ _ (Grow.new s ht) ⟨t,_,rfl,aS,(ar.append ar').same sn⟩
   · cases e
 · rename_i a b;split at e
   · rename_i hl;cases e;exact .inr (.inr (.inr ⟨a,b,hx,hy,ft hl,k _ H F (Grow.refl s) rfl⟩))
   · cases e
 · cases e
theorem CU {F:Hp}{xs:List V}{ds:List PyData}{i:Int}{d:PyData}(ar:Are K F xs ds)(e:rD ds i=some d):∃v,rD xs i=some v/\Is K F v d:=by
 unfold rD at e ⊢;rw [<-ar.length]at e;obtain⟨j,e1,e2⟩:=bind_some e;rw [e1];exact ar.get e2
noncomputable def BM:PyData->Option (List Int)
 | .dict [(.none,.list ds)]=>jz ds
 |_=>none
theorem Fv {F:Hp}{x:V}{d:PyData}{ns:List Int}(e:BM d=some ns)(h:Is K F x d):∃a,x=.ref a/\SqL K F a (ns.map V.int):=by
 unfold BM at e;split at e
 · rename_i ds;have ed:=dh e;subst ed;obtain⟨a,rfl,h⟩:=h
   rcases h with⟨ms,e1,q⟩|⟨m,_,q⟩|⟨nm,z,_⟩|⟨m,_,q⟩
   · have:ns=ms:=by
      injection e1 with e1 _
      injection e1 with _ e1
      injection e1 with e1
      have:=congrArg jz e1;rw [bn,bn]at this;exact zV this
     subst this;exact⟨a,rfl,q⟩
   · obtain⟨z,m',_,q,_⟩:=q;have:=q.1;cases this
   · cases z
   · cases q.1
 · cases e
noncomputable def cV:PyData->PyData->Option PyData
 | .tuple ds,.int i=>rD ds i
 | .list ds,.int i=>rD ds i
 | .str z,.int i=>if z.length<=eD then(rD z.cps.toList i).map λc=>.str ⟨#[c]⟩else none
 |d,.int i=>(BM d).bind λns=>(rD ns i).map PyData.int
 |_,_=>none
theorem dF {X:Cx}(K:Fg)(h:X.K=K:=by rfl):IxR X (Nl K):=h▸L1
theorem xL {α β:Type}(f:α->β)(l:List α)(i:Int):rD (l.map f) i=(rD l i).map f:=by
 unfold rD;rw [zJ];cases JC l.length i with
 |none=>rfl
 |some j=>simp
theorem dG:xF K (Nl K) cV:=λF H x y dx dy d Q s hx hy e k=>by
 unfold cV at e;split at e
 · obtain⟨p,xs,rfl,q,ar⟩:=hx;obtain⟨v,e1,i1⟩:=CU ar e;exact .inr (.inl ⟨p,xs,_,v,rfl,hy,SqT.of (s _ _ q),e1,k v H F (Grow.refl s) i1⟩)
 · obtain⟨p,xs,rfl,q,ar⟩:=hx;obtain⟨v,e1,i1⟩:=CU ar e;exact .inl ⟨p,xs,_,v,rfl,hy,SqL.of (s _ _ q),e1,k v H F (Grow.refl s) i1⟩
 · rename_i z i;split at e
   · rename_i hl;obtain⟨c,e1,e2⟩:=Q0.mp e;subst e2;exact .inr (.inr ⟨z,i,c,hx,hy,ft hl,e1,k _ H F (Grow.refl s) rfl⟩)
   · cases e
 · rename_i i _ _ _;obtain⟨ns,e1,e2⟩:=bind_some e;obtain⟨n,e3,e4⟩:=Q0.mp e2;subst e4;obtain⟨a,rfl,q⟩:=Fv e1 hx;exact .inl ⟨a,_,i,.int n,rfl,hy,s.seq q,by rw [xL,e3];rfl,k _ H F (Grow.refl s) rfl⟩
 · cases e
noncomputable def yo:PyData->Option Nat
 | .tuple ds=>some ds.length
 | .list ds=>some ds.length
 | .str z=>if z.length<=eD then some z.length else none
 |d=>(BM d).map List.length
def Kn(K:Fg):List V->Hp->VK->Prop:=λxs H Q=>∃x n,xs=[x]/\LW K x H n/\Q (.int (n:Nat)) H
theorem gK {X:Cx}(K:Fg)(h:X.K=K:=by rfl):hV X (.builtin "len") (Kn K):=h▸FC
noncomputable def cX:List PyData->Option PyData
 |[d]=>(yo d).map λn:Nat=>.int (n:Nat)
 |_=>none
theorem JY {F H:Hp}{x:V}{d:PyData}{n:Nat}(s:Same F H)(h:Is K F x d)(e:yo d=some n):LW K x H n:=by
 unfold yo at e;split at e
 · cases e;obtain⟨p,xs,rfl,q,ar⟩:=h;exact .inr ⟨xs,SqT.of (s _ _ q),ar.length.symm⟩
 · cases e;obtain⟨p,xs,rfl,q,ar⟩:=h;exact .inl ⟨xs,SqL.of (s _ _ q),ar.length.symm⟩
 · rename_i z;split at e
   · rename_i hl;cases e;rw [show x=.str z from h]
     exact⟨ft hl,rfl⟩
   · cases e
 · obtain⟨ns,e1,e2⟩:=Q0.mp e;subst e2;obtain⟨a,rfl,q⟩:=Fv e1 h;exact .inl ⟨_,s.seq q,by rw [zJ]⟩
theorem jE:ya K (Kn K) cX:=λF H xs ds d Q s ar e k=>by
 unfold cX at e;split at e
 · obtain⟨n,e1,e2⟩:=Q0.mp e;subst e2;obtain⟨x,r,rfl,hx,hr⟩:=ar;rw [show r=[]from hr]
   exact⟨x,n,rfl,JY s hx e1,k _ H F (Grow.refl s) rfl⟩
 · cases e
noncomputable def rj {α:Type}(xs:List α)(lo hi:Option Int):List α:=(xs.drop (HT.ff xs.length 0 lo)).take (HT.ff xs.length xs.length hi - HT.ff xs.length 0 lo)
def Lj(K:Fg):V->Option Int->Option Int->Hp->VK->Prop:=λx lo hi H Q=>(Mq K x lo hi H Q\/Mh K x lo hi H Q)\/Mm K x lo hi H Q
theorem BN {X:Cx}(K:Fg)(h:X.K=K:=by rfl):SlR X (Lj K):=h▸(JM.or LY).or JG
def OP(K:Fg)(r:V->Option Int->Option Int->Hp->VK->Prop)(g:PyData->Option Int->Option Int->Option PyData):Prop:=∀(F H:Hp) (x:V) (lo hi:Option Int) (dx d:PyData) (Q:VK),Same F H->Is K F x dx->g dx lo hi=some d->(∀v H' F',Grow F H F' H'->Is K F' v d->Q v H')->r x lo hi H Q
noncomputable def My:PyData->Option Int->Option Int->Option PyData
 | .tuple ds,lo,hi=>some (.tuple (rj ds lo hi))
 | .list ds,lo,hi=>some (.list (rj ds lo hi))
 |_,_,_=>none
theorem CV {F:Hp}{xs:List V}{ds:List PyData}(ar:Are K F xs ds)(lo hi:Option Int):Are K F (yR xs lo hi) (rj ds lo hi):=by
 unfold yR rj;rw [ar.length];exact(ar.drop _).take _
theorem Mz:OP K (Lj K) My:=λF H x lo hi dx d Q s hx e k=>by
 unfold My at e;split at e
 · cases e;obtain⟨p,xs,rfl,q,ar⟩:=hx
   by_cases hw:HT.ff xs.length 0 lo=0/\HT.ff xs.length xs.length hi=xs.length
   · refine .inl (.inl ⟨p,xs,rfl,SqT.of (s _ _ q),hw.1,hw.2,k _ H F (Grow.refl s) ⟨p,xs,rfl,q,?_⟩⟩);unfold rj;rw [<-ar.length,hw.1,hw.2,List.drop_zero,Nat.sub_zero,ar.length,Aq];exact ar
   · refine .inl (.inr ⟨p,xs,rfl,SqT.of (s _ _ q),hw,λt ht=>?_⟩);exact k _ _ _ (Grow.new s ht) ⟨t,_,rfl,aS,(CV ar lo hi).same (bf (s.free ht) _)⟩
 · cases e;obtain⟨p,xs,rfl,q,ar⟩:=hx;refine .inr ⟨p,xs,rfl,SqL.of (s _ _ q),λt ht=>?_⟩;exact k _ _ _ (Grow.new s ht) ⟨t,_,rfl,aS,(CV ar lo hi).same (bf (s.free ht) _)⟩
 · cases e
def N7(K:Fg)(to:TO)(f:aT->Option (Option Int)):Prop:=∀(H0 F0 F:Hp) (σ:St) (H:Hp) (δ:aT) (o:Option Int) (Q:Option Int->Hp->Prop),Rep K H0 F0 F σ H δ->f δ=some o->(∀H' F',Grow F H F' H'->Q o H')->to σ H Q
noncomputable def fL(_:aT):Option (Option Int):=some none
noncomputable def kz(f:aT->Option PyData)(δ:aT):Option (Option Int):=(f δ).bind λd=>match d with
 | .int i=>some (some i)
 |_=>none
theorem xM:N7 K CK fL:=λH0 F0 F σ H δ o Q R e h=>by cases e;exact h H F (Grow.refl R.g.s)
theorem xN {te:TE}{f:aT->Option PyData}(a:SE K te f):N7 K (Kg te) (kz f):=λH0 F0 F σ H δ o Q R e h=>by
 obtain⟨d,e1,e2⟩:=bind_some e;split at e2
 · rename_i i;cases e2;exact a H0 F0 F σ H δ _ _ R e1 λv H1 F1 g1 i1=>⟨i,i1,h H1 F1 g1⟩
 · cases e2
noncomputable def Dd(f:aT->Option PyData)(l h:aT->Option (Option Int))(δ:aT):Option PyData:=(f δ).bind λd=>(l δ).bind λlo=>(h δ).bind λhi=>My d lo hi
theorem Fw {te:TE}{tl th:TO}{f:aT->Option PyData}{l u:aT->Option (Option Int)}(a:SE K te f)(b:N7 K tl l)(c:N7 K th u):SE K (OH (Lj K) te tl th) (Dd f l u):=λH0 F0 F σ H δ d Q R e h=>by
 obtain⟨dx,e1,e⟩:=bind_some e;obtain⟨lo,e2,e⟩:=bind_some e;obtain⟨hi,e3,e⟩:=bind_some e;refine a H0 F0 F σ H δ dx _ R e1 λv H1 F1 g1 i1=>b H0 F0 F1 σ H1 δ lo _ (R.grow g1) e2 λH2 F2 g2=>c H0 F0 F2 σ H2 δ hi _ ((R.grow g1).grow g2) e3 λH3 F3 g3=>?_;exact Mz F3 H3 v lo hi dx d Q g3.s ((i1.same g2.f).same g3.f) e λv' H4 F4 g4 i4=>h v' H4 F4 (g1.trans (g2.trans (g3.trans g4))) i4
mutual
theorem Fy {H:Hp}:∀{x:V} (d:PyData),d.canLay0=true->Is K H x d->L2.IsD K H x d
 |_,.none,_,h=>h
 |_,.bool _,_,h=>h
 |_,.int _,_,h=>h
 |_,.str _,_,h=>h
 |_,.list ds,c,h=>by
  obtain⟨a,xs,e,q,r⟩:=h;exact⟨a,xs,e,SqL.of q,toDs ds (by simpa [PyData.canLay0]using c) r⟩
 |_,.tuple ds,c,h=>by
  obtain⟨a,xs,e,q,r⟩:=h;exact⟨a,xs,e,SqT.of q,toDs ds (by simpa [PyData.canLay0]using c) r⟩
 |_,.dict _,c,h=>by simp [PyData.canLay0]at c
theorem toDs {H:Hp}:∀{xs:List V} (ds:List PyData),PyData.canLayAll0 ds=true->Are K H xs ds->L2.AllD K H xs ds
 |_,[],_,h=>h
 |_,d::ds,c,h=>by
  obtain⟨x,r,e,q,t⟩:=h;simp only [PyData.canLayAll0,Q5]at c;exact⟨x,r,e,Fy d c.1 q,toDs ds c.2 t⟩
end
noncomputable def qL(d:PyData):Bool:=d.canLay0&&decide (d.depth<=60)
theorem dH {d:PyData}(h:qL d=true):vf d:=by
 unfold qL at h;rw [Q5,decide_eq_true_eq]at h;exact h
noncomputable def ou(a b:PyData):Option PyData:=if(qL a&&qL b)=true then some (.bool (PyData.eqv a b))else none
noncomputable def CW(a b:PyData):Option PyData:=if(qL a&&qL b)=true then some (.bool (!PyData.eqv a b))else none
theorem tE:xF K (D6 K false) ou:=λF H x y dx dy d Q s hx hy e k=>by
 unfold ou at e;split at e
 · rename_i c;rw [Q5]at c;cases e;exact⟨dx,dy,Fy dx (dH c.1).1 (hx.same s),Fy dy (dH c.2).1 (hy.same s),dH c.1,dH c.2,k _ H F (Grow.refl s) rfl⟩
 · cases e
theorem Fz:xF K (D6 K true) CW:=λF H x y dx dy d Q s hx hy e k=>by
 unfold CW at e;split at e
 · rename_i c;rw [Q5]at c;cases e;exact⟨dx,dy,Fy dx (dH c.1).1 (hx.same s),Fy dy (dH c.2).1 (hy.same s),dH c.1,dH c.2,k _ H F (Grow.refl s) rfl⟩
 · cases e
noncomputable def GA:PyData->Bool
 | .none=>true
 |_=>false
noncomputable def qT(a b:PyData):Option PyData:=match b with
 | .none=>some (.bool (GA a))
 |_=>none
theorem Lk {F:Hp}{x:V}{d:PyData}(h:Is K F x d):decide (x=.non)=GA d:=by
 cases d with
 |none=>rw [show x=.non from h];rfl
 |bool b=>rw [show x=.bl b from h];rfl
 |int b=>rw [show x=.int b from h];rfl
 |str b=>rw [show x=.str b from h];rfl
 |list ds=>obtain⟨a,xs,rfl,_⟩:=h;rfl
 |tuple ds=>obtain⟨a,xs,rfl,_⟩:=h;rfl
 |dict ds=>obtain⟨a,rfl,_⟩:=h;rfl
theorem GB:xF K (λx y H Q=>y=.non/\Q (.bl (decide (x=.non))) H) qT:=λF H x y dx dy d Q s hx hy e k=>by
 unfold qT at e;split at e
 · cases e;exact⟨hy,k _ H F (Grow.refl s) (by rw [Lk hx];rfl)⟩
 · cases e
noncomputable def tF(g g':PyData->PyData->Option PyData)(fa fb fc:aT->Option PyData)(δ:aT):Option PyData:=(fa δ).bind λa=>(fb δ).bind λb=>(g a b).bind λr=>match r with
 | .bool true=>(fc δ).bind λc=>g' b c
 | .bool false=>some (.bool false)
 |_=>none
theorem GD {r r':R2}{g g':PyData->PyData->Option PyData}{ta tb tc:TE}{fa fb fc:aT->Option PyData}(o:xF K r g)(o':xF K r' g')(a:SE K ta fa)(b:SE K tb fb)(c:SE K tc fc):SE K (Ez r r' ta tb tc) (tF g g' fa fb fc):=λH0 F0 F σ H δ d Q R e h=>by
 obtain⟨dx,ex,e⟩:=bind_some e;obtain⟨dy,ey,e⟩:=bind_some e;obtain⟨dz,ez,e⟩:=bind_some e;refine a H0 F0 F σ H δ dx _ R ex λv H1 F1 g1 i1=>b H0 F0 F1 σ H1 δ dy _ (R.grow g1) ey λw H2 F2 g2 i2=>?_;refine o F2 H2 v w dx dy dz _ g2.s (i1.same g2.f) i2 ez λv' H3 F3 g3 i3=>?_;split at e
 · refine⟨true,i3,wy ?_⟩;obtain⟨du,eu,e⟩:=bind_some e;refine c H0 F0 F3 σ H3 δ du _ ((R.grow (g1.trans g2)).grow g3) eu λu H4 F4 g4 i4=>?_;exact o' F4 H4 w u dy du d Q g4.s ((i2.same g3.f).same g4.f) i4 e λv5 H5 F5 g5 i5=>h v5 H5 F5 (g1.trans (g2.trans (g3.trans (g4.trans g5)))) i5
 · cases e;exact⟨false,i3,vA (h _ H3 F3 (g1.trans (g2.trans g3)) rfl)⟩
 · cases e
noncomputable def yp(f:aT->Option PyData)(δ:aT):Option PyData:=(f δ).bind λd=>match d with
 | .int i=>some (.int (-i))
 |_=>none
theorem Ll {te:TE}{f:aT->Option PyData}(a:SE K te f):SE K (OG (rU λi=>.int (-i)) te) (yp f):=λH0 F0 F σ H δ d Q R e h=>by
 obtain⟨dx,e1,e2⟩:=bind_some e;split at e2
 · rename_i i;cases e2;exact a H0 F0 F σ H δ _ _ R e1 λv H1 F1 g1 i1=>⟨i,i1,h _ H1 F1 g1 rfl⟩
 · cases e2
noncomputable def JZ:PyData->String
 | .none=>"NoneType"
 | .bool _=>"bool"
 | .int _=>"int"
 | .str _=>"str"
 | .list _=>"list"
 | .tuple _=>"tuple"
 | .dict _=>"dict"
noncomputable def rm(d:PyData)(n:String):Bool:=JZ d==n||(JZ d== "bool"&&n== "int")
def CY(K:Fg):List V->Hp->VK->Prop:=λxs H Q=>∃x n d,xs=[x,.ty n]/\Is K H x d/\(d matches .dict _)=false/\n∈["int","bool","str","list","tuple"]/\Q (.bl (rm d n)) H
end
section
variable {X:Cx}
theorem Nv {K:Fg}(d:PyData)(hd:(d matches .dict _)=false)(n:String)(hn:n∈["int","bool","str","list","tuple"]):PySem.W.kitOne K (.type (JZ d)) (.type n)=some (rm d n):=by
 have go:∀t∈["NoneType","bool","int","str","list","tuple"],∀n∈["int","bool","str","list","tuple"],
  (if(Value.type t==Value.type n)=true then some true else if PySem.W.kitMeta n=true then(fastBuiltinMro t).map (·.contains (.type n))else none)=some (t==n||(t== "bool"&&n== "int")):=by decide+kernel
 have ht:JZ d∈["NoneType","bool","int","str","list","tuple"]:=by
  cases d<;>simp [JZ]at hd ⊢
 exact go _ ht n hn
theorem De:hV X (.builtin "isinstance") (CY X.K):=by
 intro pins s σ H xs us Q I rv h;obtain⟨x,n,d,rfl,hx,hd,hn,q⟩:=h;obtain⟨u,w',rfl,r1,r2⟩:=rv.two;cases r2;have e:=Nv (K:=X.K) d hd n hn;have fin:∀tk,EP X pins σ Q (.bool (rm d n)) {s with toks:=tk}:=λtk=>⟨.bl _,H,I.tok tk,rfl,q⟩
 cases d with
 |none=>exact jT I r1 (by rw [show x=.non from hx];exact TyOf.non) e fin
 |bool b=>exact jT I r1 (by rw [show x=.bl b from hx];exact TyOf.bl b) e fin
 |int b=>exact jT I r1 (by rw [show x=.int b from hx];exact TyOf.int b) e fin
 |str b=>exact jT I r1 (by rw [show x=.str b from hx];exact TyOf.str b) e fin
 |list ds=>
  obtain⟨a,ys,rfl,q',_⟩:=hx;exact jT I r1 (TyOf.lst q') e fin
 |tuple ds=>
  obtain⟨a,ys,rfl,q',_⟩:=hx;exact jT I r1 (TyOf.tup q') e fin
 |dict _=>cases hd
theorem im(K:Fg)(h:X.K=K:=by rfl):hV X (.builtin "isinstance") (CY K):=h▸De
end
section
variable {K:Fg}
noncomputable def lA(n:String)(f:aT->Option PyData)(δ:aT):Option PyData:=(f δ).bind λd=>match d with
 | .dict _=>none
 |d=>some (.bool (rm d n))
theorem oU {te:TE}{n:String}{f:aT->Option PyData}(a:SE K te f)(hn:n∈["int","bool","str","list","tuple"]:=by decide):SE K (FG (CY K) (bH te (bH (tC (.ty n)) dM))) (lA n f):=λH0 F0 F σ H δ d Q R e h=>by
 obtain⟨dx,e1,e2⟩:=bind_some e;refine a H0 F0 F σ H δ dx _ R e1 λv H1 F1 g1 i1=>?_;cases dx with
 |dict _=>cases e2
 |none=>cases e2;exact⟨v,n,_,rfl,i1.same g1.s,rfl,hn,h _ H1 F1 g1 rfl⟩
 |bool _=>cases e2;exact⟨v,n,_,rfl,i1.same g1.s,rfl,hn,h _ H1 F1 g1 rfl⟩
 |int _=>cases e2;exact⟨v,n,_,rfl,i1.same g1.s,rfl,hn,h _ H1 F1 g1 rfl⟩
 |str _=>cases e2;exact⟨v,n,_,rfl,i1.same g1.s,rfl,hn,h _ H1 F1 g1 rfl⟩
 |list _=>cases e2;exact⟨v,n,_,rfl,i1.same g1.s,rfl,hn,h _ H1 F1 g1 rfl⟩
 |tuple _=>cases e2;exact⟨v,n,_,rfl,i1.same g1.s,rfl,hn,h _ H1 F1 g1 rfl⟩
noncomputable def mY:List PyData->Option (List Bool)
 |[]=>some []
 | .bool n::r=>(mY r).map (n:: ·)
 |_::_=>none
theorem rG:∀{ds:List PyData} {ns:List Bool},mY ds=some ns->ds=ns.map PyData.bool
 |[],ns,h=>by cases h;rfl
 | .bool n::r,ns,h=>by
  obtain⟨ms,e1,e2⟩:=Q0.mp h;subst e2;rw [rG e1];rfl
 | .none::r,ns,h=>by cases h
 | .int _::r,ns,h=>by cases h
 | .str _::r,ns,h=>by cases h
 | .list _::r,ns,h=>by cases h
 | .tuple _::r,ns,h=>by cases h
 | .dict _::r,ns,h=>by cases h
theorem lW:∀ns:List Bool,mY (ns.map PyData.bool)=some ns
 |[]=>rfl
 |n::r=>by
  show(mY (r.map PyData.bool)).map (n:: ·)=_
  rw [lW r];rfl
noncomputable def qU:List PyData->Option PyData
 |[.list ds]=>(mY ds).map λbs=>.bool (bs.all id)
 |_=>none
theorem BO:ya K (L9 K) qU:=λF H xs ds d Q s ar e k=>by
 unfold qU at e;split at e
 · obtain⟨bs,e1,e2⟩:=Q0.mp e;subst e2;obtain⟨x,r,rfl,hx,hr⟩:=ar;rw [show r=[]from hr]
   obtain⟨p,ys,rfl,q,ar⟩:=hx;have:=rG e1;subst this;have:=Are.bools.mp ar;subst this;exact⟨p,bs,rfl,SqL.of (s _ _ q),k _ H F (Grow.refl s) rfl⟩
 · cases e
noncomputable def yq:List PyData->Option PyData
 |[.list ds]=>some (.tuple ds)
 |[.tuple ds]=>some (.tuple ds)
 |_=>none
theorem GE:ya K (yX K) yq:=λF H xs ds d Q s ar e k=>by
 unfold yq at e;split at e
 · cases e;obtain⟨x,r,rfl,hx,hr⟩:=ar;rw [show r=[]from hr]
   obtain⟨p,ys,rfl,q,ar⟩:=hx;exact⟨p,ys,rfl,.inl ⟨SqL.of (s _ _ q),λt ht=>k _ _ _ (Grow.new s ht) ⟨t,_,rfl,aS,ar.same (bf (s.free ht) _)⟩⟩⟩
 · cases e;obtain⟨x,r,rfl,hx,hr⟩:=ar;rw [show r=[]from hr]
   obtain⟨p,ys,rfl,q,ar⟩:=hx;exact⟨p,ys,rfl,.inr ⟨SqT.of (s _ _ q),k _ H F (Grow.refl s) ⟨p,ys,rfl,q,ar⟩⟩⟩
 · cases e
noncomputable def oV(fs:aT->Option (List PyData))(δ:aT):Option (List PyData):=(fs δ).bind λds=>match ds with
 |[d]=>jL d
 |_=>none
theorem qV {t:TA}{fs:aT->Option (List PyData)}(a:SA K t fs):SO K (FG (xA K) t) (oV fs):=λH0 F0 F σ H δ es Q R e h=>by
 obtain⟨ds,e1,e2⟩:=bind_some e;refine a H0 F0 F σ H δ ds _ R e1 λvs H1 F1 g1 ar=>?_;split at e2
 · rename_i d;obtain⟨x,r,rfl,hx,hr⟩:=ar;rw [show r=[]from hr]
   cases d with
   |list us=>
    cases e2;obtain⟨p,ys,rfl,q,ar⟩:=hx;exact⟨p,ys,rfl,.inl (SqL.of (g1.s _ _ q)),λl hl=>h l ys _ F1 (g1.trans (Grow.fresh g1.s hl)) (g1.h.free hl) (g1.s.free hl) aS ar⟩
   |tuple us=>
    cases e2;obtain⟨p,ys,rfl,q,ar⟩:=hx;exact⟨p,ys,rfl,.inr (SqT.of (g1.s _ _ q)),λl hl=>h l ys _ F1 (g1.trans (Grow.fresh g1.s hl)) (g1.h.free hl) (g1.s.free hl) aS ar⟩
   |_=>cases e2
 · cases e2
noncomputable def pB(neg:Bool)(i:Nat)(f:aT->Option PyData)(δ:aT):Option PyData:=match δ[i]? with
 |some (some (.ow ds))=>(f δ).bind λd=>match d with
  | .int n=>(jz ds).bind λns=>some (.bool (if neg=true then !decide (n∈ns)else decide (n∈ns)))
  |_=>none
 |_=>none
theorem GF {te:TE}{f:aT->Option PyData}(neg:Bool)(i:Nat)(a:SE K te f):SE K (Ke (Nm K neg) te (bX i)) (pB neg i f):=λH0 F0 F σ H δ d Q R e h=>by
 unfold pB at e;split at e
 · rename_i ds q;obtain⟨dx,e1,e2⟩:=bind_some e;split at e2
   · rename_i n;obtain⟨ns,e3,e4⟩:=bind_some e2;cases e4;obtain⟨p,xs,q1,q2,q3,q4,q5⟩:=R.ow i ds q;have ed:=dh e3;subst ed;have ex:=Are.ints.mp q5;subst ex;refine a H0 F0 F σ H δ _ _ R e1 λv H1 F1 g1 i1=>⟨.ref p,q1,p,_,rfl,.inl (SqL.of (g1.h _ _ q2)),?_,vh _,?_⟩
     · rw [show v=.int n from i1];rfl
     · rw [show v=.int n from i1,CP]
       exact h _ H1 F1 g1 (by cases neg<;>rfl)
   · cases e2
 · cases e
end
def GG(K:Fg)(neg:Bool):R2:=λx y H Q=>∃dx ds p xs,L2.IsD K H x dx/\y=.ref p/\(SqL K H p xs\/SqT K H p xs)/\L2.AllD K H xs ds/\vf dx/\(∀d∈ds,vf d)/\Q (.bl (if neg=true then !(ds.any λe=>PyData.eqv e dx)else ds.any λe=>PyData.eqv e dx)) H
noncomputable def lX(h:Heap)(dx:PyData)(y:Value):Bool:=@decide (∃d as,Reads h y d as/\d.canLay0=true/\PyData.eqv d dx=true) (Classical.propDecidable _)
theorem xO {h:Heap}{dx d:PyData}{y:Value}{as:List Addr}(r:Reads h y d as)(c:d.canLay0=true):lX h dx y=PyData.eqv d dx:=by
 unfold lX;cases e:PyData.eqv d dx with
 |true=>exact @decide_eq_true _ (Classical.propDecidable _) ⟨d,as,r,c,e⟩
 |false=>
  refine @decide_eq_false _ (Classical.propDecidable _) ?_;rintro⟨d',as',r',c',e'⟩;have:=(SeqAt.Reads.unique d d' y as as' c r r');subst this;rw [e]at e';cases e'
theorem qW {h:Heap}{dx:PyData}:∀{us:List Value} {ds:List PyData} {as:List Addr},ReadsAll h us ds as->(∀d∈ds,d.canLay0=true)->us.any (lX h dx)=ds.any λd=>PyData.eqv d dx
 |_,_,_,.nil,_=>rfl
 |_,_,_,.cons r t,c=>by
  rw [Ip,Ip,xO r (c _ lN),qW t λd hd=>c d (ke _ hd)]
theorem qX {h:Heap}:∀{us:List Value} {ds:List PyData} {as:List Addr},ReadsAll h us ds as->∀y∈us,∃d∈ds,∃as',Reads h y d as'
 |_,_,_,.nil,y,hy=>by cases hy
 |_,_,_,.cons r t,y,hy=>by
  rcases Q4.mp hy with z|z
  · subst z;exact⟨_,lN,_,r⟩
  · obtain⟨d,hd,q⟩:=qX t y z;exact⟨d,ke _ hd,q⟩
section
variable {X:Cx}
theorem Lm(hu:X.A.units+64 < cLine):OpR X (compareOp .In) (GG X.K false):=by
 intro pins s σ H x y v u Q I rx ry h;obtain⟨dx,ds,p,xs,hx,rfl,hq,al,cx,cs,q⟩:=h;cases ry;obtain⟨as,ra⟩:=hx.reads I _ rx;have eq:∀{its:List Value},Vals xs its->(∀w∈its,SeqAt.EqAt X.A.in1 s w v (lX s.heap dx w))/\its.any (lX s.heap dx)=ds.any λe=>PyData.eqv e dx:=λ{its} r=>by
  obtain⟨bs,rb⟩:=AllD.reads I ds al r;refine⟨λw hw=>?_,qW rb λd hd=>(cs d hd).1⟩;obtain⟨d,hd,as',rd⟩:=qX rb w hw;rw [xO rd (cs d hd).1];refine SeqAt.eqAt_reads d dx X.A.in1 s w v as' as rd ra (cs d hd).1 cx.1 ?_;have:=cx.2;show X.A.units+1+min d.depth dx.depth < cLine;omega
 rcases hq with hq|hq
 · obtain⟨its,r,pl,hz⟩:=I.list hq;obtain⟨e1,e2⟩:=eq r;refine SeqAt.in_listAt (lX s.heap dx) pl.isList (λw hw=>e1 w (by simpa using hw)) ⟨.bl _,H,I,rfl,?_⟩
   rw [show its.toArray.any (lX s.heap dx)=its.any (lX s.heap dx)by simp,e2]
   exact q
 · obtain⟨its,r,pl,hz⟩:=I.tuple hq;obtain⟨e1,e2⟩:=eq r;refine SeqAt.in_tupleAt (lX s.heap dx) pl (λw hw=>e1 w (by simpa using hw)) ⟨.bl _,H,I,rfl,?_⟩
   rw [show its.toArray.any (lX s.heap dx)=its.any (lX s.heap dx)by simp,e2]
   exact q
theorem Df(hu:X.A.units+64 < cLine):OpR X (compareOp .NotIn) (GG X.K true):=by
 intro pins s σ H x y v u Q I rx ry h;obtain⟨dx,ds,p,xs,hx,rfl,hq,al,cx,cs,q⟩:=h;cases ry;obtain⟨as,ra⟩:=hx.reads I _ rx;have eq:∀{its:List Value},Vals xs its->(∀w∈its,SeqAt.EqAt X.A.in1 s w v (lX s.heap dx w))/\its.any (lX s.heap dx)=ds.any λe=>PyData.eqv e dx:=λ{its} r=>by
  obtain⟨bs,rb⟩:=AllD.reads I ds al r;refine⟨λw hw=>?_,qW rb λd hd=>(cs d hd).1⟩;obtain⟨d,hd,as',rd⟩:=qX rb w hw;rw [xO rd (cs d hd).1];refine SeqAt.eqAt_reads d dx X.A.in1 s w v as' as rd ra (cs d hd).1 cx.1 ?_;have:=cx.2;show X.A.units+1+min d.depth dx.depth < cLine;omega
 rcases hq with hq|hq
 · obtain⟨its,r,pl,hz⟩:=I.list hq;obtain⟨e1,e2⟩:=eq r;refine SeqAt.notIn_listAt (lX s.heap dx) pl.isList (λw hw=>e1 w (by simpa using hw)) ⟨.bl _,H,I,rfl,?_⟩
   rw [show its.toArray.any (lX s.heap dx)=its.any (lX s.heap dx)by simp,e2]
   exact q
 · obtain⟨its,r,pl,hz⟩:=I.tuple hq;obtain⟨e1,e2⟩:=eq r;refine SeqAt.notIn_tupleAt (lX s.heap dx) pl (λw hw=>e1 w (by simpa using hw)) ⟨.bl _,H,I,rfl,?_⟩
   rw [show its.toArray.any (lX s.heap dx)=its.any (lX s.heap dx)by simp,e2]
   exact q
theorem Ln(K:Fg)(hu:X.A.units+64 < cLine)(h:X.K=K:=by rfl):OpR X (compareOp .In) (GG K false):=h▸Lm hu
theorem Dg(K:Fg)(hu:X.A.units+64 < cLine)(h:X.K=K:=by rfl):OpR X (compareOp .NotIn) (GG K true):=h▸Df hu
end
section
variable {K:Fg}
noncomputable def Ii(neg:Bool)(a b:PyData):Option PyData:=(jL b).bind λds=>if(qL a&&ds.all qL)=true then some (.bool (if neg=true then !(ds.any λe=>PyData.eqv e a)else ds.any λe=>PyData.eqv e a))else none
theorem sK {ds:List PyData}(h:∀d∈ds,d.canLay0=true):PyData.canLayAll0 ds=true:=by
 induction ds with
 |nil=>simp [PyData.canLayAll0]
 |cons d r ih=>simp [PyData.canLayAll0,h d lN,ih λx hx=>h x (ke _ hx)]
theorem Ko(neg:Bool):xF K (GG K neg) (Ii neg):=λF H x y dx dy d Q s hx hy e k=>by
 obtain⟨ds,e1,e2⟩:=bind_some e;split at e2
 · rename_i c;rw [Q5,Q9]at c;cases e2;have cs:∀d∈ds,vf d:=λd hd=>dH (c.2 d hd);cases dy with
   |list es=>
    cases e1;obtain⟨p,xs,rfl,q,ar⟩:=hy;exact⟨dx,_,p,xs,Fy dx (dH c.1).1 (hx.same s),rfl,.inl (SqL.of (s _ _ q)),toDs _ (sK λd hd=>(cs d hd).1) (ar.same s),dH c.1,cs,k _ H F (Grow.refl s) rfl⟩
   |tuple es=>
    cases e1;obtain⟨p,xs,rfl,q,ar⟩:=hy;exact⟨dx,_,p,xs,Fy dx (dH c.1).1 (hx.same s),rfl,.inr (SqT.of (s _ _ q)),toDs _ (sK λd hd=>(cs d hd).1) (ar.same s),dH c.1,cs,k _ H F (Grow.refl s) rfl⟩
   |_=>cases e1
 · cases e2
end
theorem GH {K:Fg}{f:List PyData->Option PyData}{H:Hp}{a:Addr}{ns:List Int}(h:f [qK ns]=some (.bool true))(q:SqL K H a (ns.map V.int))(tb:Tb K H):cF K 1 f [.ref a] H (λv _=>v=.bl true) λ_ _ _=>False:=
 ⟨H,[qK ns],.bool true,⟨Same.refl _,tb⟩,rfl,⟨.ref a,[],rfl,⟨a,rfl,.inl ⟨ns,rfl,q⟩⟩,rfl⟩,h,λv H' F' _ i=>i⟩
end DL
namespace DL
open PySem L2
theorem cE {fg:PyData->aT->Option aT}{fb:aT->Option DFlow}:∀{ds:List PyData} (P:Nat->aT->Prop) {δ:aT},P 0 δ->
 (∀(i:Nat) (hi:i < ds.length) (δ:aT),P i δ->∃δ1 δ2,fg ds[i] δ=some δ1/\fb δ1=some (.nx δ2)/\P (i+1) δ2)->∃δ',fw fg fb ds δ=some (.nx δ')/\P ds.length δ'
 |[],P,δ,h0,_=>⟨δ,rfl,h0⟩
 |d::r,P,δ,h0,h=>by
  obtain⟨δ1,δ2,e1,e2,h1⟩:=h 0 (by simp) δ h0
  obtain⟨δ',e3,h3⟩:=cE (ds:=r) (λi=>P (i+1)) h1 λi hi δ hp=>by
   have:=h (i+1) (by simpa using hi) δ hp
   simpa using this
  refine⟨δ',?_,h3⟩;have e1':fg d δ=some δ1:=e1;show((fg d δ).bind λδ1=>(fb δ1).bind λfl=>match fl with
   | .nx δ2=>fw fg fb r δ2
   | .ct δ2=>fw fg fb r δ2
   | .bk δ2=>some (.nx δ2)
   | .rt v=>some (.rt v)
   | .ro v=>some (.ro v))=_
  rw [e1'];show((fb δ1).bind λfl=>match fl with
   | .nx δ2=>fw fg fb r δ2
   | .ct δ2=>fw fg fb r δ2
   | .bk δ2=>some (.nx δ2)
   | .rt v=>some (.rt v)
   | .ro v=>some (.ro v))=_
  rw [e2];exact e3
theorem oW {fg:PyData->aT->Option aT}{fb:aT->Option DFlow}{d:PyData}{r:List PyData}{δ:aT}:fw fg fb (d::r) δ=((fg d δ).bind λδ1=>(fb δ1).bind λfl=>match fl with
 | .nx δ2=>fw fg fb r δ2
 | .ct δ2=>fw fg fb r δ2
 | .bk δ2=>some (.nx δ2)
 | .rt v=>some (.rt v)
 | .ro v=>some (.ro v)):=rfl
theorem vw {f:PyData->Option (Option PyData)}{g:PyData->PyData}:∀{ds:List PyData},(∀d∈ds,f d=some (some (g d)))->j8 f ds=some (ds.map g)
 |[],_=>rfl
 |d::r,h=>by
  show((f d).bind λo=>match o with
   |some y=>(j8 f r).map (y:: ·)
   |none=>j8 f r)=_
  rw [h d lN];show(j8 f r).map (g d:: ·)=_
  rw [vw λx hx=>h x (ke _ hx)];rfl
theorem pC {f:PyData->Option (Option PyData)}{p:PyData->Bool}{g:PyData->PyData}:∀{ds:List PyData},(∀d∈ds,f d=some (if p d=true then some (g d)else none))->j8 f ds=some ((ds.filter p).map g)
 |[],_=>rfl
 |d::r,h=>by
  have ih:=pC (ds:=r) (f:=f) (p:=p) (g:=g) λx hx=>h x (ke _ hx);show((f d).bind λo=>match o with
   |some y=>(j8 f r).map (y:: ·)
   |none=>j8 f r)=_
  rw [h d lN];cases e:p d with
  |true=>
   show(j8 f r).map (g d:: ·)=_
   rw [ih,List.filter_cons,e];rfl
  |false=>
   show j8 f r=_;rw [ih,List.filter_cons,e];rfl
theorem dL {n:Nat}{fr:List (Str×Nat)}{fi:aT->Option (List PyData)}{fg:PyData->aT->Option aT}{fc:aT->Option Bool}{fe:aT->Option PyData}{δ:aT}{ds:List PyData}(g:PyData->PyData)(h1:fi δ=some ds)(hl:ds.length<=eD)
 (h:∀d∈ds,((fg d (iJ n fr δ)).bind λδ1=>(fc δ1).bind λb=>if b=true then(fe δ1).map some else some none)=some (some (g d))):bE n fr fi fg fc fe δ=some (ds.map g):=by
 unfold bE;rw [h1];show(if ds.length<=eD then _ else none)=_;rw [if_pos hl];exact vw h
theorem np {n:Nat}{fr:List (Str×Nat)}{fi:aT->Option (List PyData)}{fg:PyData->aT->Option aT}{fc:aT->Option Bool}{fe:aT->Option PyData}{δ:aT}{ds:List PyData}(p:PyData->Bool)(g:PyData->PyData)(h1:fi δ=some ds)(hl:ds.length<=eD)
 (h:∀d∈ds,((fg d (iJ n fr δ)).bind λδ1=>(fc δ1).bind λb=>if b=true then(fe δ1).map some else some none)=some (if p d=true then some (g d)else none)):bE n fr fi fg fc fe δ=some ((ds.filter p).map g):=by
 unfold bE;rw [h1];show(if ds.length<=eD then _ else none)=_;rw [if_pos hl];exact pC h
noncomputable def aJ(c:List Int):PyData:=.tuple (c.map PyData.int)
mutual
noncomputable def nb:PyData->Bool
 | .none=>true
 | .bool _=>false
 | .int _=>true
 | .str _=>true
 | .list ds=>nbs ds
 | .tuple ds=>nbs ds
 | .dict _=>false
noncomputable def nbs:List PyData->Bool
 |[]=>true
 |d::r=>nb d&&nbs r
end
mutual
theorem xP:∀(a b:PyData),nb a=true->nb b=true->(PyData.eqv a b=true↔a=b)
 | .none,b,_,hb=>by cases b<;>simp [PyData.eqv,nb]at hb ⊢
 | .bool _,_,ha,_=>by simp [nb]at ha
 | .int i,b,_,hb=>by cases b<;>simp [PyData.eqv,nb]at hb ⊢
 | .str i,b,_,hb=>by cases b<;>simp [PyData.eqv,nb]at hb ⊢
 | .list xs,b,ha,hb=>by
  cases b with
  |list ys=>
   have:=eqvs_iff xs ys (by simpa [nb]using ha) (by simpa [nb]using hb)
   simp [PyData.eqv,this]
  |_=>simp [PyData.eqv,nb]at hb ⊢
 | .tuple xs,b,ha,hb=>by
  cases b with
  |tuple ys=>
   have:=eqvs_iff xs ys (by simpa [nb]using ha) (by simpa [nb]using hb)
   simp [PyData.eqv,this]
  |_=>simp [PyData.eqv,nb]at hb ⊢
 | .dict _,_,ha,_=>by simp [nb]at ha
theorem eqvs_iff:∀(a b:List PyData),nbs a=true->nbs b=true->(PyData.eqvAll a b=true↔a=b)
 |[],[],_,_=>by simp [PyData.eqvAll]
 |[],_::_,_,_=>by simp [PyData.eqvAll]
 |_::_,[],_,_=>by simp [PyData.eqvAll]
 |x::xs,y::ys,ha,hb=>by
  simp only [nbs,Q5]at ha hb;have h1:=xP x y ha.1 hb.1;have h2:=eqvs_iff xs ys ha.2 hb.2;simp [PyData.eqvAll,h1,h2]
end
theorem CZ {ds:List PyData}:nbs ds=true↔ ∀d∈ds,nb d=true:=by
 induction ds with
 |nil=>simp [nbs]
 |cons d r ih=>simp [nbs,ih]
theorem J5 {ds:List PyData}(h:∀d∈ds,nb d=true):nb (.list ds)=true:=by simpa [nb]using CZ.mpr h
theorem Lo {ds:List PyData}(h:∀d∈ds,nb d=true):nb (.tuple ds)=true:=by simpa [nb]using CZ.mpr h
theorem xQ(c:List Int):nb (aJ c)=true:=Lo λd hd=>by
 obtain⟨n,_,rfl⟩:=Qd.mp hd;rfl
def okN(n:Nat)(d:PyData):Prop:=d.canLay0=true/\d.depth<=n
theorem okN.ok {n:Nat}{d:PyData}(h:okN n d)(hn:n<=60:=by decide):qL d=true:=by
 unfold qL;rw [Q5,decide_eq_true_eq];exact⟨h.1,Q7 h.2 hn⟩
theorem okN.mono {n m:Nat}{d:PyData}(h:okN n d)(hn:n<=m):okN m d:=⟨h.1,Q7 h.2 hn⟩
theorem io(i:Int):okN 0 (.int i):=⟨by simp [PyData.canLay0],by simp [PyData.depth]⟩
theorem yr(b:Bool):okN 0 (.bool b):=⟨by simp [PyData.canLay0],by simp [PyData.depth]⟩
theorem GI {ds:List PyData}{n:Nat}(h:∀d∈ds,d.depth<=n):PyData.depthAll ds<=n:=by
 induction ds with
 |nil=>simp [PyData.depthAll]
 |cons d r ih=>
  have h1:=h d lN;have h2:=ih λx hx=>h x (ke _ hx);simp only [PyData.depthAll];omega
theorem tG {ds:List PyData}{n:Nat}(h:∀d∈ds,okN n d):okN (n+1) (.list ds):=by
 refine⟨?_,?_⟩
 · simp only [PyData.canLay0];exact sK λd hd=>(h d hd).1
 · simp only [PyData.depth];have:=GI λd hd=>(h d hd).2;omega
theorem sL {ds:List PyData}{n:Nat}(h:∀d∈ds,okN n d):okN (n+1) (.tuple ds):=by
 refine⟨?_,?_⟩
 · simp only [PyData.canLay0];exact sK λd hd=>(h d hd).1
 · simp only [PyData.depth];have:=GI λd hd=>(h d hd).2;omega
theorem hZ(c:List Int):okN 1 (aJ c):=sL λd hd=>by
 obtain⟨n,_,rfl⟩:=Qd.mp hd;exact io n
theorem yt {a b:List Int}(h:aJ a=aJ b):a=b:=by
 unfold aJ at h;injection h with h
 have:=congrArg jz h;rw [bn,bn]at this;exact zV this
theorem iw(a b:List Int):PyData.eqv (aJ a) (aJ b)=decide (a=b):=by
 rw [Bool.eq_iff_iff,xP _ _ (xQ a) (xQ b),decide_eq_true_eq];exact⟨yt,λh=>by rw [h]⟩
theorem xR(i j:Int):PyData.eqv (.int i) (.int j)=decide (i=j):=by
 rw [PyData.eqv];rfl
theorem BP {a b:PyData}(ha:qL a=true)(hb:qL b=true):ou a b=some (.bool (PyData.eqv a b)):=by
 unfold ou;rw [ha,hb];rfl
theorem GJ {a b:PyData}(ha:qL a=true)(hb:qL b=true):CW a b=some (.bool (!PyData.eqv a b)):=by
 unfold CW;rw [ha,hb];rfl
theorem iA(i j:Int):ou (.int i) (.int j)=some (.bool (decide (i=j))):=by rw [BP (io i).ok (io j).ok,xR]
theorem J6(i j:Int):CW (.int i) (.int j)=some (.bool (!decide (i=j))):=by rw [GJ (io i).ok (io j).ok,xR]
theorem GK(a b:List Int):ou (aJ a) (aJ b)=some (.bool (decide (a=b))):=by rw [BP (hZ a).ok (hZ b).ok,iw]
theorem GL(i:Int):rm (.int i) "int"=true:=by simp [rm,JZ]
theorem GM(i:Int):rm (.int i) "bool"=false:=by simp [rm,JZ]
theorem BQ(ds:List PyData):rm (.tuple ds) "tuple"=true:=by simp [rm,JZ]
theorem Lp(ds:List PyData):rm (.list ds) "list"=true:=by simp [rm,JZ]
theorem kR(i j:Int):bc (.int i) (.int j)=some (.int (i+j)):=rfl
theorem GN(i j:Int):BL (.int i) (.int j)=some (.int (i - j)):=rfl
theorem Kp(i j:Int):nn (.int i) (.int j)=some (.bool (decide (i < j))):=rfl
theorem Kq(i j:Int):Li (.int i) (.int j)=some (.bool (decide (i<=j))):=rfl
theorem GO(i j:Int):Kl (.int i) (.int j)=some (.bool (decide (j < i))):=rfl
theorem pD(i j:Int):kt (.int i) (.int j)=some (.int (i+j)):=rfl
theorem xS(i j:Int):ku (.int i) (.int j)=if pA i j=true then some (.int (i*j))else none:=rfl
theorem Lq(i j:Int):Dc (.int i) (.int j)=if Fm i j=true then some (.int (i % j))else none:=rfl
theorem GP(ds:List PyData):yo (.tuple ds)=some ds.length:=rfl
theorem nq(ds:List PyData):yo (.list ds)=some ds.length:=rfl
theorem yu(ns:List Int):BM (qK ns)=some ns:=bn ns
theorem yw(ns:List Int):yo (qK ns)=some ns.length:=by
 show(BM (qK ns)).map List.length=_;rw [yu];rfl
theorem J7(ns:List Int)(i:Int):cV (qK ns) (.int i)=(rD ns i).map PyData.int:=by
 show((BM (qK ns)).bind λns=>(rD ns i).map PyData.int)=_;rw [yu];rfl
theorem pE {α:Type}{xs:List α}{j:Nat}(h:j < xs.length):rD xs (j:Int)=some xs[j]:=wv (cY h)
end DL
namespace DL
open PySem PySem.Spec PyProof.Rows L2
noncomputable def Dh(f:Expr->Option PyData):List Expr->Option (List PyData)
 |[]=>some []
 |e::r=>(f e).bind λd=>(Dh f r).map (d:: ·)
noncomputable def lit:Nat->Expr->Option PyData
 |0,_=>none
 |n+1,e=>match e with
  | .Constant (.int i) _ _=>some (.int i)
  | .Constant (.bool b) _ _=>some (.bool b)
  | .Constant .none _ _=>some .none
  | .Constant (.str x) _ _=>some (.str x)
  | .Tuple es _ _=>(Dh (lit n) es).map .tuple
  | .List es _=>(Dh (lit n) es).map .list
  |_=>none
mutual
noncomputable def N8:PyData->TE
 | .none=>tC .non
 | .bool b=>tC (.bl b)
 | .int i=>tC (.int i)
 | .str x=>tC (.str x)
 | .tuple ds=>FD (tOfs ds)
 | .list ds=>BA (tOfs ds)
 | .dict _=>λ_ _ _=>False
noncomputable def tOfs:List PyData->TA
 |[]=>dM
 |d::r=>bH (N8 d) (tOfs r)
end
mutual
noncomputable def yx:PyData->Bool
 | .none=>true
 | .bool _=>true
 | .int _=>true
 | .str _=>true
 | .tuple ds=>decide (ds.length<=eD)&&litsOk ds
 | .list ds=>decide (ds.length<=eD)&&litsOk ds
 | .dict _=>false
noncomputable def litsOk:List PyData->Bool
 |[]=>true
 |d::r=>yx d&&litsOk r
end
section
variable {X:Cx}
theorem tH {n:Nat}{e:Expr}{d:PyData}{es:List Expr}(h:lit n e=some d):starEach (e::es) X.env=(false,eval e X.env)::starEach es X.env:=by
 cases n with
 |zero=>cases h
 |succ n=>cases e<;>first|rfl|(simp [lit]at h)
theorem pF {f:Expr->Option PyData}(hf:∀e d,f e=some d->PE X e (N8 d)/\∀es,starEach (e::es) X.env=(false,eval e X.env)::starEach es X.env):∀{es:List Expr} {ds:List PyData},Dh f es=some ds->PA X es (tOfs ds)
 |[],ds,h=>by cases h;exact aK
 |e::r,ds,h=>by
  obtain⟨d,e1,e2⟩:=bind_some h;obtain⟨us,e3,e4⟩:=Q0.mp e2;subst e4;exact aD (hf e d e1).1 (pF hf e3) ((hf e d e1).2 r)
theorem BR:∀(n:Nat) (e:Expr) (d:PyData),lit n e=some d->PE X e (N8 d)
 |0,_,_,h=>by cases h
 |n+1,e,d,h=>by
  unfold lit at h;split at h
  · cases h;exact af
  · cases h;exact rA
  · cases h;exact qM
  · cases h;exact LL
  · obtain⟨us,e3,e4⟩:=Q0.mp h;subst e4;exact jD (pF (λe d q=>⟨BR n e d q,λes=>tH q⟩) e3)
  · obtain⟨us,e3,e4⟩:=Q0.mp h;subst e4;exact de (pF (λe d q=>⟨BR n e d q,λes=>tH q⟩) e3)
  · cases h
@[irreducible] noncomputable def yy (ds:List PyData):TA:=tOfs ds
theorem J8 {es:List Expr}(ds:List PyData)(h:Dh (lit 4) es=some ds):PA X es (yy ds):=by
 unfold yy;exact pF (λe d q=>⟨BR 4 e d q,λes=>tH q⟩) h
theorem J9 {i:Nat}{x:Str}{es:List Expr}{p1 p2 pos:Pos}(ds:List PyData)(hN:X.N.Nodup)(hi:X.N[i]? =some x)(hx:K8 X.env.scope x)(h:Dh (lit 4) es=some ds)(hs:swapsWith (.List es p2) (some (.Name x p1)) pos.line X.env=pure false)(hf:X.fn x=true\/X.env.scope.names.lookup x=some .local):
 PS X (.Assign [.Name x p1] (.List es p2) pos) (oM (BA (yy ds)) (eE i)):=Em hN hi hx (de (J8 ds h)) hs hf
theorem GQ {st:Stmt}{iM:List Stmt}{t u:TS}(h1:PS X st t)(h2:PSs X iM u):PSs X (st::iM) (kf t u):=aM h1 h2
end
section
variable {K:Fg}
noncomputable def yz(ds:List PyData)(_:aT):Option (List PyData):=some ds
mutual
theorem Lr:∀(d:PyData),yx d=true->SE K (N8 d) (dC d)
 | .none,_=>sw
 | .bool _,_=>rE
 | .int _,_=>aX
 | .str _,_=>Lc
 | .tuple ds,h=>by
  simp only [yx,Q5,decide_eq_true_eq]at h;have q:=j6 (sa_litsF ds h.2);intro H0 F0 F σ H δ d Q R e k;refine q H0 F0 F σ H δ d Q R ?_ k;cases e;show((some ds).bind λds=>if ds.length<=eD then some (PyData.tuple ds)else none)=_;simp [h.1]
 | .list ds,h=>by
  simp only [yx,Q5,decide_eq_true_eq]at h;have q:=cO (fW (sa_litsF ds h.2));intro H0 F0 F σ H δ d Q R e k;refine q H0 F0 F σ H δ d Q R ?_ k;cases e;show(((some ds).bind λds=>if ds.length<=eD then some ds else none).map PyData.list)=_;simp [h.1]
 | .dict _,h=>by simp [yx]at h
theorem sa_litsF:∀(ds:List PyData),litsOk ds=true->SA K (tOfs ds) (yz ds)
 |[],_=>aO
 |d::r,h=>by
  simp only [litsOk,Q5]at h;have q:=aG (Lr d h.1) (sa_litsF r h.2);intro H0 F0 F σ H δ ds Q R e k;refine q H0 F0 F σ H δ ds Q R ?_ k;cases e;rfl
end
theorem Ja(ds:List PyData)(h:litsOk ds=true):SA K (yy ds) (yz ds):=by
 unfold yy;exact sa_litsF ds h
end
def GR:List V->Hp->VK->Prop:=λvs H Q=>∃j:Int,vs=[.int j]/\∀p,H p=none->Q (.ref p) (bv H p (.rng 0 j))
def tI:List V->Hp->VK->Prop:=λvs H Q=>∃(p:Addr) (j:Int),vs=[.ref p]/\H p=some (.rng 0 j)/\0<=j/\j<=100000/\∀l,H l=none->Q (.ref l) (bv H l (.lst ((List.range j.toNat).map λk:Nat=>V.int (k:Int))))
section
variable {X:Cx}
theorem Di:hV X (.type "range") GR:=by
 intro pins s σ H xs us Q I rv h;obtain⟨j,rfl,q⟩:=h;obtain⟨u,rfl,t,rfl⟩:=rv.one;refine call_range_1 ⟨.ref s.heap.objs.size,_,I.laid (a:=s.heap.objs.size) (o:=.rng 0 j) (λ_ _ e=>gH _ e) (Q1 _) ⟨_,_,_,jS _ rfl⟩,rfl,q _ (I.hok.fresh (Q1 _))⟩
theorem BS {acc:Array Value}:∀{n:Nat},ItemsOf (λi v=>∃t,v=.int (0+(i:Int)*1) t) acc n->Vals ((List.range n).map λk:Nat=>V.int (k:Int)) acc.toList:=by
 intro n h;obtain⟨hz,hv⟩:=h;have go:∀(m:Nat),m<=n->Vals ((List.range m).map λk:Nat=>V.int (k:Int)) (acc.toList.take m):=by
  intro m
  induction m with
  |zero=>intro _;exact .nil
  |succ m ih=>
   intro hm;have hlt:m < acc.toList.length:=by rw [wg,hz];omega
   rw [List.range_succ,ux,Ic hlt];refine(ih (by omega)).append (.cons ?_ .nil)
   obtain⟨t,e⟩:=hv m acc.toList[m] (by rw [<-Eg,cY hlt])
   refine⟨t,?_⟩;rw [e];congr 1
   omega
 have:=go n (Q1 _)
 rwa [List.take_of_length_le (by rw [wg,hz];exact Q1 _)]at this
theorem xT(hc:X.calm=true):hV X (.type "list") tI:=by
 intro pins s σ H xs us Q I rv h;obtain⟨p,j,rfl,hp,h0,h1,q⟩:=h;obtain⟨u,rfl,r⟩:=rv.one;cases r;obtain⟨t,t',v,e⟩:=I.hok p _ hp;have hh:X.A.handled=none:=I.ok.hd hc;refine call_list_range (a:=0) (b:=j) (c:=1) (n:=j.toNat) hh e (small_one (by omega) (by omega) (by omega) (by omega)) ?_ (by omega) λh' tk acc c hk hS hI=>?_
 · rw [rangeSize_one];split<;>omega
 have rv':=BS hI;refine⟨.ref s.heap.objs.size,_,I.laid (t':=tk) hk (Q1 _) (show ObjOk X.prog X.w _ h' _ (.lst _)from⟨?_,acc.toList,c,rv',by simpa using hS⟩),rfl,q _ (I.hok.fresh (Q1 _))⟩
 rw [zJ,DM];exact Q7 (show _<=eD by unfold eD;omega) (by decide)
theorem Jb(K:Fg):hV X (.type "range") GR:=Di
theorem BT(K:Fg)(hc:X.calm=true:=by rfl):hV X (.type "list") tI:=xT hc
end
section
variable {K:Fg}
noncomputable def lB(f:aT->Option PyData)(δ:aT):Option (List PyData):=(f δ).bind λd=>match d with
 | .int j=>if(decide (0<=j)&&decide (j<=100000))=true then some (am 0 j.toNat)else none
 |_=>none
theorem Dj {F:Hp}(n:Nat):Are K F ((List.range n).map λk:Nat=>V.int (k:Int)) (am 0 n):=by
 have e:am 0 n=((List.range n).map λk:Nat=>(k:Int)).map PyData.int:=by
  unfold am;rw [zO];apply Eh
  intro k _;show PyData.int (0+(k:Int))=PyData.int (k:Int);rw [Int.zero_add]
 rw [e,Are.ints,zO];rfl
theorem BU {te:TE}{f:aT->Option PyData}(a:SE K te f):SO K (FG tI (bH (FG GR (bH te dM)) dM)) (lB f):=λH0 F0 F σ H δ es Q R e h=>by
 obtain⟨d,e1,e2⟩:=bind_some e;split at e2
 · rename_i j;split at e2
   · rename_i c;rw [Q5,decide_eq_true_eq,decide_eq_true_eq]at c;cases e2;refine a H0 F0 F σ H δ _ _ R e1 λv H1 F1 g1 i1=>⟨j,by rw [show v=.int j from i1],λp hp=>?_⟩
     have g2:Grow F1 H1 F1 (bv H1 p (.rng 0 j)):=Grow.fresh g1.s hp;refine⟨p,j,rfl,aS,c.1,c.2,λl hl=>?_⟩;exact h l _ _ F1 ((g1.trans g2).trans (Grow.fresh g2.s hl)) ((g1.trans g2).h.free hl) (g2.s.free hl) aS (Dj _)
   · cases e2
 · cases e2
end
section
variable {X:Cx}
end
section
variable {K:Fg}
end
end DL
namespace DL
open PySem L2 PyProof.Rows
section
variable {K:Fg}
structure XI where
 c:Addr
 z:Option Int
instance:Coe Addr XI:=⟨λc=>⟨c,none⟩⟩
variable {E:XK} {C:XI}
end
section
variable {P:Program} {w:World} {K:Fg} {mg:Str->Option Value} {base:Heap}
end
section
variable {K:Fg}
end
section
variable {X:Cx}
end
end DL
namespace DL
open PySem PySem.Spec PyProof.Rows L2
noncomputable def Kr(nm:Str):PyData:=.dict [(.bool true,.str nm)]
structure OwnN (P:Program) (w:World) (K:Fg) (mg:Str->Option Value) (base:Heap) (k:Nat) (x:Str) (ps:List Str) (sp:Sp):Prop where
 ex:∃(f:Addr) (fd:FuncData),FnOk P w K mg base gY k f fd ps sp/\PySem.W.nsIn K mainGlobals x=some (some (.ref f))/\PySem.W.keepIn K (.ref f)=true/\Binds K fd ps []
def GS(K:Fg)(i:Nat)(nm:Str)(sp:Sp)(t:TA):TE:=λσ H Q=>∃f,σ[i]? =some (some (.ref f))/\PySem.W.nsIn K mainGlobals nm=some (some (.ref f))/\t σ H λvs H1=>sp (vs++[]) H1 Q E0
theorem Jc {X:Cx}{k n i:Nat}{x nm:Str}{ps:List Str}{sp:Sp}{p pos:Pos}{e:Expr}{es:List Expr}{t:TA}(O:OwnN X.prog X.w X.K X.mg X.base k nm ps sp)(hr:Room n X.A)(hv:PE X (.Name x p) (bX i))(ha:PA X (e::es) t)(hkn:k<=n:=by decide)
 (he:starEach (e::es) X.env=(false,eval e X.env)::starEach es X.env:=by rfl) (hpl:(backTo pos (starEach es X.env)).any (·.1)=false:=by rfl):
 PE X (.Call (.Name x p) (e::es) [] pos) (GS X.K i nm sp t):=by
 intro pins s σ H Q I h;obtain⟨f,hs,hn,h⟩:=h;obtain⟨f',fd,F,m,kp,b⟩:=O.ex;rw [hn]at m;cases m;refine wpAny_Call_Name_kw (dN (hv pins s σ H (λv H1=>v=.ref f/\H1=H) I ⟨_,hs,rfl,rfl⟩) λu s1 ⟨v,H1,I1,r,q⟩=>?_);obtain⟨rfl,rfl⟩:=q;obtain rfl:u=.ref f:=r;refine PySem.W.callWith_K (h₀:=X.base) I1.ok.mod.kin kp (dN (ha pos pins s1 σ _ _ I1 h) λus s2 ⟨vs,H2,I2,r2,q2⟩=>⟨I2.kIn,?_⟩) he hpl;exact FF F (hr.mono hkn) b .nil Kh I2 r2 q2
section
variable {K:Fg}
theorem NA {a:Addr}{nm:Str}(h:PySem.W.nsIn K mainGlobals nm=some (some (.ref a))):SE K (tC (.ref a)) (dC (Kr nm)):=by
 intro H0 F0 F σ H δ d Q R e k;cases e;exact k (.ref a) H F (Grow.refl R.g.s) ⟨a,rfl,.inr (.inr (.inl ⟨nm,rfl,h⟩))⟩
noncomputable def Ls(nm:Str):PyData->Bool
 | .dict [(.bool true,.str x)]=>x==nm
 |_=>false
theorem Dk(nm:Str):Ls nm (Kr nm)=true:=by
 show(nm==nm)=true
 simp
noncomputable def tJ(i:Nat)(nm:Str)(n:Nat)(g:List PyData->Option PyData)(fs:aT->Option (List PyData))(δ:aT):Option PyData:=(aB i δ).bind λd=>if Ls nm d=true then aE n g fs δ else none
theorem GT {i n:Nat}{nm:Str}{g:List PyData->Option PyData}{t:TA}{fs:aT->Option (List PyData)}(a:SA K t fs):SE K (GS K i nm (cF K n g) t) (tJ i nm n g fs):=by
 intro H0 F0 F σ H δ d Q R e h;obtain⟨d0,e1,e2⟩:=bind_some e;split at e2
 · rename_i hd;have hf:d0=Kr nm:=by
    unfold Ls at hd;split at hd
    · rw [show _=nm from eq_of_beq hd];rfl
    · cases hd
   subst hf;unfold aB at e1;split at e1
   · rename_i d1 e0;cases e1;obtain⟨v,hv,a0,rfl,hh⟩:=R.fz i _ e0
     rcases hh with⟨ns,z,_⟩|⟨m,z,kv⟩|⟨nm',z,hn⟩|⟨m,z,kv⟩
     · cases z
     · obtain⟨q,m',_,q2,_⟩:=kv;cases q2.1
     · cases z;exact⟨a0,hv,hn,aU (K:=K) a H0 F0 F σ H δ d Q R e2 h⟩
     · cases kv.1
   · cases e1
 · cases e2
end
end DL
namespace SRT
open PySem PySem.W PyProof.Rows
noncomputable def Dl {α:Type}(lt:Nat->Nat->Bool)(n:Nat):KasT α->(α->Prop)->Prop
 | .ret a,Q=>Q a
 | .ask i j k,Q=>i < n/\j < n/\Dl lt n (k (lt i j)) Q
theorem iz {α:Type}{lt:Nat->Nat->Bool}{n:Nat}{Q Q':α->Prop}(h:∀a,Q a->Q' a):∀{t:KasT α},Dl lt n t Q->Dl lt n t Q'
 | .ret a,q=>h a q
 | .ask i j k,q=>⟨q.1,q.2.1,iz h q.2.2⟩
theorem lD {α β:Type}{lt:Nat->Nat->Bool}{n:Nat}{f:α->KasT β}{Q:β->Prop}:∀{t:KasT α},Dl lt n t (λa=>Dl lt n (f a) Q)->Dl lt n (t.bind f) Q
 | .ret a,q=>q
 | .ask i j k,q=>⟨q.1,q.2.1,lD q.2.2⟩
theorem BV {α:Type}{lt:Nat->Nat->Bool}{n:Nat}{cmp:Nat->Nat->(Bool->Shared->Prop)->Shared->Prop}{J:Shared->Prop}(hc:∀i j C s,i < n->j < n->J s->(∀s',J s'->C (lt i j) s')->cmp i j C s){Q:α->Prop}{Q':α->Shared->Prop}
 (h:∀a s,Q a->J s->Q' a s):∀{t:KasT α} {s:Shared},J s->Dl lt n t Q->t.kasWp cmp Q' s
 | .ret a,s,js,q=>h a s q js
 | .ask i j k,s,js,q=>hc i j _ s q.1 q.2.1 js λs' js'=>BV hc h js' q.2.2
noncomputable def g(p:Array Nat)(i:Nat):Nat:=(p[i]?).getD 0
theorem mZ(p:Array Nat)(i:Nat):p.getD i 0=g p i:=by unfold g;rw [Array.getD_eq_getD_getElem?]
structure Ord (lt:Nat->Nat->Bool) (n:Nat):Prop where
 tr:∀a b c,lt a b=true->lt b c=true->lt a c=true
 to:∀a b,a < n->b < n->a≠b->lt a b=false->lt b a=true
structure Pm (n:Nat) (p:Array Nat):Prop where
 sz:p.size=n
 lt:∀i,i < n->g p i < n
 inj:∀i j,i < n->j < n->g p i=g p j->i=j
 pe:p.Perm (List.range n).toArray
def xU(lt:Nat->Nat->Bool)(p:Array Nat)(m:Nat):Prop:=∀i j,i < j->j < m->lt (g p i) (g p j)=true
def NB(lt:Nat->Nat->Bool)(p:Array Nat)(m:Nat):Prop:=∀i j,i < j->j < m->lt (g p j) (g p i)=true
theorem C2 {n:Nat}{p:Array Nat}(h:p.Perm (List.range n).toArray):Pm n p:=by
 have hl:p.toList.Perm (List.range n):=by simpa using M7.mp h
 have hz:p.size=n:=by rw [<-wg,hl.length_eq,DM]
 have hnd:p.toList.Nodup:=hl.nodup_iff.mpr List.nodup_range;have hg:∀i (hi:i < p.toList.length),g p i=p.toList[i]:=λi hi=>by
  unfold g;rw [<-Eg,cY hi];rfl
 have hlen:p.toList.length=n:=by rw [wg];exact hz
 refine⟨hz,λi hi=>?_,λi j hi hj e=>?_,h⟩
 · rw [hg i (by omega)]
   have:=hl.mem_iff.mp (Qc (l:=p.toList) (n:=i) (by omega))
   simpa using this
 · rw [hg i (by omega),hg j (by omega)]at e
   exact(List.getElem_inj hnd).mp e
section
variable {lt:Nat->Nat->Bool} {n:Nat} (O:Ord lt n)
include O
theorem GU {p:Array Nat}{m:Nat}(h1:1<=m)(a:xU lt p m)(l:lt (g p (m - 1)) (g p m)=true):xU lt p (m+1):=λi j hij hj=>by
 by_cases e:j=m
 · subst e
   by_cases e2:i=j - 1
   · rw [e2];exact l
   · exact O.tr _ _ _ (a i (j - 1) (by omega) (by omega)) l
 · exact a i j hij (by omega)
theorem GV {p:Array Nat}{m:Nat}(h1:1<=m)(a:NB lt p m)(l:lt (g p m) (g p (m - 1))=true):NB lt p (m+1):=λi j hij hj=>by
 by_cases e:j=m
 · subst e
   by_cases e2:i=j - 1
   · rw [e2];exact l
   · exact O.tr _ _ _ l (a i (j - 1) (by omega) (by omega))
 · exact a i j hij (by omega)
theorem BW {p:Array Nat}(P:Pm n p):∀(f m:Nat),1<=m->m+f=n->xU lt p m->Dl lt n (kas_asc p f m) (λr=>m<=r/\r<=n/\xU lt p r/\(r < n->lt (g p r) (g p (r - 1))=true))
 |0,m,h1,hm,a=>⟨Q1 _,by omega,a,λz=>absurd z (by omega)⟩
 |f+1,m,h1,hm,a=>by
  unfold kas_asc;rw [mZ,mZ];refine⟨P.lt _ (by omega),P.lt _ (by omega),?_⟩
  cases c:lt (g p m) (g p (m - 1))with
  |true=>exact⟨Q1 _,by omega,a,λ_=>c⟩
  |false=>
   have l:=O.to _ _ (P.lt m (by omega)) (P.lt (m - 1) (by omega)) (λe=>by have:=P.inj m (m - 1) (by omega) (by omega) e;omega) c
   exact iz (λr q=>⟨by omega,q.2⟩) (BW P f (m+1) (by omega) (by omega) (GU O h1 a l))
theorem C3 {p:Array Nat}(P:Pm n p):∀(f m:Nat),1<=m->m+f=n->NB lt p m->Dl lt n (kas_desc f p m 0) (λr=>r.1=p/\r.2.2=0/\m<=r.2.1/\r.2.1<=n/\NB lt p r.2.1)
 |0,m,h1,hm,a=>⟨rfl,rfl,Q1 _,by show m<=n;omega,a⟩
 |f+1,m,h1,hm,a=>by
  unfold kas_desc;rw [mZ,mZ];refine⟨P.lt _ (by omega),P.lt _ (by omega),?_⟩
  cases c:lt (g p m) (g p (m - 1))with
  |true=>exact iz (λr q=>⟨q.1,q.2.1,by omega,q.2.2.2⟩) (C3 P f (m+1) (by omega) (by omega) (GV O h1 a c))
  |false=>
   have l:=O.to _ _ (P.lt m (by omega)) (P.lt (m - 1) (by omega)) (λe=>by have:=P.inj m (m - 1) (by omega) (by omega) e;omega) c
   refine⟨P.lt _ (by omega),P.lt _ (by omega),?_⟩
   rw [l];exact⟨rfl,rfl,Q1 _,by show m<=n;omega,a⟩
omit O in
theorem GW {p:Array Nat}(P:Pm n p)(i j:Nat):Pm n (kas_rev p i j):=C2 ((mirror_perm _ _ _ _).trans P.pe)
omit O in
theorem Jd {p:Array Nat}(P:Pm n p){m:Nat}(hm:m<=n)(a:NB lt p m):xU lt (kas_rev p 0 m) m:=λi j hij hj=>by
 have e:∀k,k < m->g (kas_rev p 0 m) k=g p (m - 1 - k):=λk hk=>by
  unfold g kas_rev;rw [getElem?_mirror_all (by rw [P.sz];exact hm),if_pos ⟨zU _,hk⟩,Nat.zero_add]
 rw [e i (by omega),e j hj]
 exact a _ _ (by omega) (by omega)
theorem GY {p:Array Nat}(P:Pm n p)(hn:2<=n):Dl lt n (kas_count n p) (λr=>1<=r.1/\r.1<=n/\Pm n r.2/\xU lt r.2 r.1):=by
 unfold kas_count;refine lD (iz (λm q_=>?_) (BW O P (n - 1) 1 (Q1 _) (by omega) (λi j hij hj=>by omega)))
 obtain⟨h1,h2,a,h3⟩:=q_;split
 · exact⟨h1,h2,P,a⟩
 · rename_i ne;have hm:m < n:=by
    have:m≠n:=λz=>ne (by rw [z];exact beq_self_eq_true n)
    omega
   split
   · rename_i g1;rw [mZ,mZ];refine⟨P.lt _ (by omega),P.lt _ (by omega),?_⟩
     rw [a 0 (m - 1) (by omega) (by omega)]
     exact⟨h1,h2,P,a⟩
   · rename_i g1;have m1:m=1:=by omega
     subst m1;unfold kas_descPart;refine lD (iz (λr ⟨q1,q2,q3,q4,q5⟩=>?_) (C3 O P (n - (1+1)) (1+1) (by omega) (by omega) (λi j hij hj=>?_)))
     · have:i=0:=by omega
       have:j=1:=by omega
       subst i j;exact h3 (by omega)
     · rw [q2,if_neg (by omega),q1]
       unfold kas_tail3;refine lD (iz (λm q_=>?_) (BW O (GW P 0 r.2.1) (n - r.2.1) r.2.1 (by omega) (by omega) (Jd P q4 q5)))
       obtain⟨h1,h2,a,h3⟩:=q_;exact⟨by show 1<=m;omega,h2,GW P 0 r.2.1,a⟩
theorem tK {p:Array Nat}(P:Pm n p){k:Nat}(hk:k < n)(a:xU lt p k):∀(f l r:Nat),l<=r->r<=k->r - l<=f->(∀i,i < l->lt (g p i) (g p k)=true)->(∀i,r<=i->i < k->lt (g p k) (g p i)=true)->
 Dl lt n (kas_place p k f l r) (λm=>m<=k/\(∀i,i < m->lt (g p i) (g p k)=true)/\∀i,m<=i->i < k->lt (g p k) (g p i)=true)
 |0,l,r,h1,h2,h3,b1,b2=>⟨by omega,b1,λi hi hk=>b2 i (by omega) hk⟩
 |f+1,l,r,h1,h2,h3,b1,b2=>by
  unfold kas_place;split
  · exact⟨by omega,b1,λi hi hk=>b2 i (by omega) hk⟩
  · rename_i hlr;rw [mZ,mZ];have hmid:(l+r) / 2 < r:=by omega
    refine⟨P.lt _ hk,P.lt _ (by omega),?_⟩
    cases c:lt (g p k) (g p ((l+r) / 2))with
    |true=>
     refine tK P hk a f l ((l+r) / 2) (by omega) (by omega) (by omega) b1 λi hi hik=>?_
     by_cases e:i=(l+r) / 2
     · rw [e];exact c
     · exact O.tr _ _ _ c (a _ i (by omega) hik)
    |false=>
     have q:=O.to _ _ (P.lt k hk) (P.lt ((l+r) / 2) (by omega)) (λe=>by have:=P.inj _ _ hk (by omega) e;omega) c
     refine tK P hk a f ((l+r) / 2+1) r (by omega) h2 (by omega) (λi hi=>?_) b2
     by_cases e:i=(l+r) / 2
     · rw [e];exact q
     · exact O.tr _ _ _ (a i _ (by omega) (by omega)) q
theorem GZ:∀(f:Nat) {p:Array Nat} (_:Pm n p) (k:Nat),k+f=n->xU lt p k->Dl lt n (kas_bin f p k) (λq=>Pm n q/\xU lt q n)
 |0,p,P,k,hk,a=>⟨P,by rw [<-hk];exact a⟩
 |f+1,p,P,k,hk,a=>by
  unfold kas_bin;refine lD (iz (λl q_=>?_) (tK O P (by omega) a k 0 k (zU _) (Q1 _) (by omega) (λi hi=>absurd hi (Nat.not_lt_zero _)) (λi hi hk=>by omega)))
  obtain⟨hl,b1,b2⟩:=q_;have e:∀i,i<=k->g (bubble p k (k - l)) i=if i=l then g p k else if l < i then g p (i - 1)else g p i:=λi hi=>by
   unfold g;rw [getElem?_bubble (by rw [P.sz];omega) (k - l) (by omega)]
   by_cases c1:i=l
   · rw [if_pos (by omega),if_pos c1]
   · rw [if_neg (by omega),if_neg c1]
     by_cases c2:l < i
     · rw [if_pos (by omega),if_pos c2]
     · rw [if_neg (by omega),if_neg c2]
  refine GZ f (C2 ((bubble_perm _ _ _).trans P.pe)) (k+1) (by omega) λi j hij hj=>?_
  rw [e i (by omega),e j (by omega)]
  by_cases c1:i=l
  · rw [if_pos c1,if_neg (by omega),if_pos (by omega)]
    exact b2 _ (by omega) (by omega)
  · rw [if_neg c1]
    by_cases c2:j=l
    · rw [if_pos c2,if_neg (by omega)]
      exact b1 _ (by omega)
    · rw [if_neg c2]
      by_cases c3:l < i
      · rw [if_pos c3,if_pos (by omega)]
        exact a _ _ (by omega) (by omega)
      · rw [if_neg c3]
        by_cases c4:l < j
        · rw [if_pos c4];exact a _ _ (by omega) (by omega)
        · rw [if_neg c4];exact a _ _ hij (by omega)
theorem sM(hn:2<=n):Dl lt n (kas_sort n) (λq=>Pm n q/\xU lt q n):=by
 unfold kas_sort;refine lD (iz (λr q_=>?_) (GY O (C2 (Array.Perm.refl _)) hn));obtain⟨h1,h2,P,a⟩:=q_;split
 · have:max r.1 1=r.1:=by omega
   rw [this];exact GZ O _ P r.1 (by omega) a
 · have:r.1=n:=by omega
   exact⟨P,by rw [<-this];exact a⟩
end
end SRT
namespace L2
open PySem PySem.Spec PyProof.Rows PySem.W Att
noncomputable def cT:List Int->List Int->Bool
 |[],[]=>false
 |[],_::_=>true
 |_::_,[]=>false
 |a::x,c::y=>if a=c then cT x y else decide (a < c)
noncomputable def BX(fin:Bool):List Int->List Int->Bool
 |a::x,c::y=>if a=c then BX fin x y else decide (a < c)
 |_,_=>fin
theorem C4:∀(x y:List Int),BX (decide (x.length < y.length)) x y=cT x y
 |[],[]=>rfl
 |[],_::_=>by simp [BX,cT]
 |_::_,[]=>by simp [BX,cT]
 |a::x,c::y=>by
  have e:decide ((a::x).length < (c::y).length)=decide (x.length < y.length):=by simp
  rw [e];unfold BX cT;rw [C4 x y]
theorem kC:∀(x y z:List Int),cT x y=true->cT y z=true->cT x z=true
 |[],[],_,h,_=>by cases h
 |[],_::_,[],_,h=>by cases h
 |[],_::_,_::_,_,_=>rfl
 |_::_,[],_,h,_=>by cases h
 |_::_,_::_,[],_,h=>by cases h
 |a::x,b::y,c::z,h1,h2=>by
  unfold cT at h1 h2 ⊢
  by_cases e1:a=b
  · rw [if_pos e1]at h1
    by_cases e2:b=c
    · rw [if_pos e2]at h2;rw [if_pos (e1.trans e2)];exact kC x y z h1 h2
    · rw [if_neg e2]at h2;rw [if_neg (by omega),e1]
      exact h2
  · rw [if_neg e1]at h1;have l1:=of_decide_eq_true h1
    by_cases e2:b=c
    · rw [if_neg (by omega), <-e2]
      exact h1
    · rw [if_neg e2]at h2;have l2:=of_decide_eq_true h2;rw [if_neg (by omega)]
      exact decide_eq_true (by omega)
theorem pG:∀(x y:List Int),x≠y->cT x y=false->cT y x=true
 |[],[],h,_=>absurd rfl h
 |[],_::_,_,h=>by cases h
 |_::_,[],_,_=>rfl
 |a::x,c::y,hn,h=>by
  unfold cT at h ⊢
  by_cases e:a=c
  · rw [if_pos e]at h;rw [if_pos e.symm];exact pG x y (λz=>hn (by rw [e,z])) h
  · rw [if_neg e]at h;rw [if_neg (λz=>e z.symm)];have:=of_decide_eq_false h;exact decide_eq_true (by omega)
section
variable {prog:Program} {w:World} {A:Around} {E:Value->Shared->Prop} {s:Shared} {b:Bool} {Q:Bool->Shared->Prop}
theorem BY {p:Bool}{x y:Int}{t u:Tok}(h:Q (decide (x < y)) s):wpAny (model prog w) A (oneLt' p (.int x t) (.int y u)) Q E s:=by
 cases p with
 |true=>exact oneLt_int h
 |false=>exact kat_one _ _ (lt_int h)
theorem zW {fin:Bool}{xs ys:List Value}{ns ms:List Int}(hx:IntsAre xs ns)(hy:IntsAre ys ms):∀i,Q (BX fin ns ms) s->KatLex prog w A b fin Q (xs.zip ys) i s:=by
 induction hx generalizing ys ms with
 |nil=>exact λi h=>kat_nil h
 |cons a t hx ih=>
  intro i h;cases hy with
  |nil=>exact kat_nil h
  |cons c u hy=>
   refine kat_cons (wpAny_eqBool_int ?_);unfold BX at h
   by_cases e:a=c
   · rw [if_pos e]at h;rw [show(a==c)=true from beq_iff_eq.mpr e]
     exact kat_yes (ih hy (i+1) h)
   · rw [if_neg e]at h;rw [show(a==c)=false from beq_eq_false_iff_ne.mpr e]
     exact kat_no (BY h)
end
def TpI(h:Heap)(v:Value)(k:List Int):Prop:=∃a o arr n,v=.ref a/\h.get? a=some o/\o.cls=.type "tuple"/\o.data=.seq arr n/\IntsAre arr.toList k
theorem TpI.firsts {h:Heap}{vs:List Value}{ks:List (List Int)}(p:Paired (TpI h) vs ks)(hp:∀k∈ks,k≠[]):∃fs,KatTups h vs fs/\fs.length=vs.length/\∀f∈fs,∃n t,f=Value.int n t:=by
 induction p with
 |nil=>exact⟨[],KatTups.nil,rfl,λf hf=>nomatch hf⟩
 |cons q r ih=>
  obtain⟨a,o,arr,n,e1,e2,e3,e4,e5⟩:=q;obtain⟨fs,h1,h2,h3⟩:=ih λk hk=>hp k (ke _ hk);subst e1;have ne:=hp _ lN;generalize hl:arr.toList=l at e5;cases e5 with
  |nil=>exact absurd rfl ne
  |cons x t hx=>
   refine⟨.int x t::fs,KatTups.cons e2 e3 e4 (by rw [<-Eg,hl];rfl) h1,by rw [zC,zC,h2],λf hf=>?_⟩
   rcases Q4.mp hf with rfl|hf
   · exact⟨x,t,rfl⟩
   · exact h3 f hf
theorem pH {α β:Type}{R:α->β->Prop}{x:α}{y:β}:∀{l:List α} {m:List β} (i:Nat),Paired R l m->i < l.length->R (l.getD i x) (m.getD i y)
 |_,_,_,.nil,h=>absurd h (Nat.not_lt_zero _)
 |_,_,0,.cons r _,_=>r
 |_::_,_::_,i+1,.cons _ t,h=>pH i t (Nat.lt_of_succ_lt_succ h)
section
variable {prog:Program} {w:World} {A:Around} {E:Value->Shared->Prop} {s:Shared}
theorem zX {L D:Addr}{m:Str->Option Value}{c:Nat}{vs:List Value}{ks:List (List Int)}{Q:Value->Shared->Prop}(hL:s.heap.Ns L m)(hne:D≠L)(hD:s.heap.get? D=some (listOf vs.toArray c))(ht:Paired (TpI s.heap) vs ks)
 (hnd:ks.Nodup) (hpos:∀k∈ks,k≠[]) (h2:2<=vs.length) (h64:vs.length < 64)
 (k : ∀ h' c' (q : Array Nat), (∀ b o, b ≠ L -> b ≠ D -> s.heap.get? b = some o -> h'.get? b = some o) -> h'.Ns L m -> h'.get? D = some (listOf (q.toList.map λ i => vs.getD i .none).toArray c') ->
  SRT.Pm vs.length q->SRT.xU (λi j=>cT (ks.getD i []) (ks.getD j [])) q vs.length->Q .none {s with heap:=h'}):
 wpAny (model prog w) A (call (.builtin "list.sort") [.ref D]) Q E s:=by
 have hlen:vs.length=ks.length:=Paired.length ht;have led:∀p∈kQ s.heap L D,p.1≠D:=λ⟨_,_⟩ hp=>(ef.mp hp).2.1;refine kat_lsort (h₀:=qO s.heap) (L:=L) (m:=m) (news:=(D,listOf vs.toArray c)::kQ s.heap L D) (g:=λo=>(D,o)::kQ s.heap L D) (its:=vs.toArray) (BG hL) (mU hne hD) (.head led) (by simp) h2 h64 λe1 h' F' N'=>?_
 have keep:∀b o,b≠L->b≠D->s.heap.get? b=some o->h'.get? b=some o:=λb o n1 n2 e=>(N' (b,o) (ke _ (ef.mpr ⟨n1,n2,e⟩))).1;obtain⟨oL,esL,epL,hoL,hdL,_⟩:=hL;have tup:∀{v:Value} {kk:List Int},TpI s.heap v kk->TpI h' v kk:=λq=>by
  obtain⟨a,o,arr,n,e1,e2,e3,e4,e5⟩:=q;exact⟨a,o,arr,n,e1,keep a o (λz=>by rw [z,hoL]at e2;cases e2;rw [hdL]at e4;cases e4) (λz=>by rw [z,hD]at e2;cases e2;exact absurd (Value.type.inj e3) (by decide)) e2,e3,e4,e5⟩
 have ht':Paired (TpI h') vs ks:=Paired.mapP ht λa b q=>tup q;obtain⟨fs,t1,t2,t3⟩:=TpI.firsts ht' hpos;refine kat_kind (T:=.type "int") t1 (by omega) (λv hv=>by obtain⟨n,t,rfl⟩:=t3 v hv;exact Looks.of_pure rfl) rfl ?_
 have O:SRT.Ord (λi j=>cT (ks.getD i []) (ks.getD j [])) vs.length:=⟨λa b c=>kC _ _ _,λa b ha hb hab=>pG _ _ λe=>hab (by
  rw [iI,iI,cY (by omega),cY (by omega)]at e
  exact(List.getElem_inj hnd).mp e)⟩
 refine SRT.BV (lt:=λi j=>cT (ks.getD i []) (ks.getD j [])) (n:=vs.length) (J:=λs'=>s'={s with heap:=h'}) (λi j C s' hi hj js hC=>?_) (λp s' hp js=>?_) rfl (SRT.sM O h2)
 · subst js;obtain⟨a1,o1,r1,n1,x1,x2,x3,x4,x5⟩:=pH (x:=Value.none) (y:=[]) i ht' hi;obtain⟨a2,o2,r2,n2,y1,y2,y3,y4,y5⟩:=pH (x:=Value.none) (y:=[]) j ht' hj;unfold kas_ask;rw [x1,y1];refine kat_lt x2 x4 y2 y4 (zW x5 y5 0 ?_);have z1:r1.size=(ks.getD i []).length:=by rw [<-wg];exact x5.length
   have z2:r2.size=(ks.getD j []).length:=by rw [<-wg];exact y5.length
   rw [z1,z2,C4];exact hC _ rfl
 · subst js;refine KasFin.intro F' N' (.head led) λh'' c' F'' N''=>?_;exact k h'' c' p (λb o n1 n2 e=>(N'' (b,o) (ke _ (ef.mpr ⟨n1,n2,e⟩))).1) F''.ns (N'' _ lN).1 hp.1 hp.2
theorem rH {D:Addr}{c:Nat}{vs:List Value}{Q:Value->Shared->Prop}(hD:s.heap.get? D=some (listOf vs.toArray c))(h2:vs.length < 2)
 (k:∀h' c',(∀b o,b≠D->s.heap.get? b=some o->h'.get? b=some o)->h'.get? D=some (listOf vs.toArray c')->Q .none {s with heap:=h'}):wpAny (model prog w) A (call (.builtin "list.sort") [.ref D]) Q E s:=by
 refine wpAny_call_entry slot_list_sort ⟨_,hD,rfl⟩ entry_list_sort ?_ (args_list_sort _);rw [list_sort_plain];have ha:D < s.heap.objs.size:=fS hD;refine wB (listItems_at hD rfl ?_);refine wB (listUpdate_at hD rfl ?_ (hsz:=by rw [zM,sizeLine_eq];omega))
 obtain⟨e1,ho1⟩:∃e1,(s.heap.update D (Obj.mapSeq λ_=> #[])).get? D=some (seqObj "list" #[] e1):=⟨_,get?_update_seq hD (λ_=> #[])⟩;have kk:∀b o,b≠D->s.heap.get? b=some o->(s.heap.update D (Obj.mapSeq λ_=> #[])).get? b=some o:=λb o nb e=>(CC _ _ (Ne.symm nb)).trans e;generalize s.heap.update D (Obj.mapSeq λ_=> #[])=G0 at ho1 kk;refine wB (seqEpoch_at ho1 rfl ?_);refine wB (wpAny_newTuple ?_ (by rw [List.toList_toArray,sizeLine_eq];omega));refine wB (wpAny_newList ?_);refine wpAny_holding ?_
 have ho2:=gH (seqObj "list" #[] 0) (gH (seqObj "tuple" vs.toArray 0) ho1);have k2:∀b o,b≠D->s.heap.get? b=some o->((G0.push (seqObj "tuple" vs.toArray 0)).push (seqObj "list" #[] 0)).get? b=some o:=λb o nb e=>gH _ (gH _ (kk b o nb e));show wpAny (model prog w) _ _ _ _ {s with heap:=(G0.push (seqObj "tuple" vs.toArray 0)).push (seqObj "list" #[] 0)}
 generalize (G0.push (seqObj "tuple" vs.toArray 0)).push (seqObj "list" #[] 0)=G at ho2 k2;have h2':vs.toArray.size < 2:=by rw [zM];exact h2
 rw [if_pos h2',if_pos h2'];refine wB (wP ?_);dsimp only;rw [StateT.run_pure];refine wB (wP ?_);dsimp only;have out:(arrOf (SortSt.mk' general' (vs.toArray.zip vs.toArray) #[] 7 none)).map (·.2)=vs.toArray:=by
  show(vs.toArray.zip vs.toArray).map (·.2)=vs.toArray
  rcases vs with _|⟨v,_|⟨u,r⟩⟩
  · simp
  · simp
  · exact absurd h2 (Nat.not_lt.mpr (Nat.le_add_left 2 _))
 rw [out];refine wB (seqEpoch_at ho2 rfl ?_);refine wB (listUpdate_at ho2 rfl ?_ (hsz2:=by show vs.toArray.size<=_;rw [sizeLine_eq];omega))
 simp only [bne_self_eq_false,zN,if_false];exact wP ⟨_,rfl,k _ _ (λb o nb e=>(CC _ _ (Ne.symm nb)).trans (k2 b o nb e)) (get?_update_seq ho2 (λ_=>vs.toArray))⟩
theorem zY {n:Nat}(h:n < 2)(lt:Nat->Nat->Bool):SRT.Pm n (Array.range n)/\SRT.xU lt (Array.range n) n:=by
 refine⟨SRT.C2 (by rw [show Array.range n=(List.range n).toArray by simp]),λi j hij hj=>?_⟩
 omega
theorem vx {vs:List Value}(h:vs.length < 2):((Array.range vs.length).toList.map λi=>vs.getD i .none)=vs:=by
 rcases vs with _|⟨v,_|⟨u,r⟩⟩
 · rfl
 · rfl
 · exact absurd h (Nat.not_lt.mpr (Nat.le_add_left 2 _))
theorem BZ {L D:Addr}{m:Str->Option Value}{c:Nat}{vs:List Value}{ks:List (List Int)}{Q:Value->Shared->Prop}(hL:s.heap.Ns L m)(hne:D≠L)(hD:s.heap.get? D=some (listOf vs.toArray c))(ht:Paired (TpI s.heap) vs ks)
 (hnd:ks.Nodup) (hpos:∀k∈ks,k≠[]) (h64:vs.length < 64)
 (k : ∀ h' c' (q : Array Nat), (∀ b o, b ≠ L -> b ≠ D -> s.heap.get? b = some o -> h'.get? b = some o) -> h'.Ns L m -> h'.get? D = some (listOf (q.toList.map λ i => vs.getD i .none).toArray c') ->
  SRT.Pm vs.length q->SRT.xU (λi j=>cT (ks.getD i []) (ks.getD j [])) q vs.length->Q .none {s with heap:=h'}):
 wpAny (model prog w) A (call (.builtin "list.sort") [.ref D]) Q E s:=by
 by_cases h2:2<=vs.length
 · exact zX hL hne hD ht hnd hpos h2 h64 k
 · have h2':vs.length < 2:=by omega
   obtain⟨p1,p2⟩:=zY h2' (λi j=>cT (ks.getD i []) (ks.getD j []));exact rH hD h2' λh' c' kp hD'=>k h' c' (Array.range vs.length) (λb o _ nb e=>kp b o nb e) (by obtain⟨o,es,ep,e1,e2⟩:=hL;exact⟨o,es,ep,kp _ _ hne.symm e1,e2⟩) (by rw [vx h2'];exact hD') p1 p2
end
end L2
namespace L2
open PySem PySem.Spec PyProof.Rows PySem.W
def Raw(h:Heap)(d:Addr)(es:Array DictEntry)(ep:Nat):Prop:=∃ob,h.get? d=some ob/\ob.ExactDict/\ob.data=.dict es ep
theorem Raw.ty {s:Shared}{d:Addr}{es:Array DictEntry}{ep:Nat}(x:Raw s.heap d es ep):s.TypeIs (.ref d) "dict":=let ⟨ob,e,c,_⟩:=x;⟨ob,e,c.1⟩
theorem Raw.lt {h:Heap}{d:Addr}{es:Array DictEntry}{ep:Nat}(x:Raw h d es ep):d < h.objs.size:=let ⟨_,e,_⟩:=x;fS e
theorem Raw.stay {h h':Heap}{d:Addr}{es:Array DictEntry}{ep:Nat}(x:Raw h d es ep)(k:∀o,h.get? d=some o->h'.get? d=some o):Raw h' d es ep:=let ⟨ob,e,r⟩:=x;⟨ob,k _ e,r⟩
section
variable {prog:Program} {w:World} {A:Around} {E:Value->Shared->Prop} {s:Shared} {d it:Addr} {es:Array DictEntry} {ep:Nat}
theorem Ga {Q:Value->Shared->Prop}(nsm:(d==sysModules)=false)(x:Raw s.heap d es ep)
 (q:Q (.ref s.heap.objs.size) {s with heap:=s.heap.push {cls:=.type "dict_keyiterator",data:=.fields #[.ref d,.int 0 0,.int es.size 0,.int ep 0]}}):wpAny (model prog w) A (pyIter (.ref d)) Q E s:=by
 have ty:=x.ty;obtain⟨ob,at_,ex,dat⟩:=x;refine wpAny_pyIter_slot ty F.slot_dict_iter (wpAny_call_entry F.slot_dict_iter ty F.entry_dict_iter ?_ (F.args_dict_iter_1 _));unfold Builtin.«dict.__iter__»;refine wB ?_;unfold Builtin.Dict.dictSlotNone;refine wB (wpAny_notOrdered_dict ty ?_);show wpAny _ _ (pure (Value.ref d)) _ _ s;refine wP ?_;show wpAny _ _ (Builtin.Dict.showsAll d >>=_) _ _ s;unfold Builtin.Dict.showsAll;rw [if_neg (by rw [nsm];exact Q8)]
 refine wB (wP ?_);refine wB (wpAny_dictEntries at_ dat ?_);refine wB (wpAny_dictEpoch at_ dat ?_);refine wB (wpAny_newObj_type (wP ⟨_,rfl,"dict_keyiterator",_,⟨_,jS _ rfl,rfl⟩,F.slot_dict_keyiterator_next.lookup,?_⟩));simpa [rawInt]using q
theorem Gb {i:Nat}{Q:Option Value->Shared->Prop}(ki:s.heap.IsKeyIter it d i es.size ep)(x:Raw s.heap d es ep)(hi:i < es.size)
 (q:∀h',h'.IsKeyIter it d (i+1) es.size ep->Heap.SameBut it s.heap h'->Q (some es[i].key) {s with heap:=h'}):wpAny (model prog w) A (pyNext (.ref it)) Q E s:=by
 obtain⟨oi,ati,ci,di⟩:=id ki;obtain⟨ob,at_,ex,dat⟩:=id x;unfold pyNext;refine wB (wpAny_attempt (wpAny_callSpecial?_slot (name:=Str.ofString "__next__") ki.typeIs F.slot_dict_keyiterator_next (wpAny_call_entry F.slot_dict_keyiterator_next ki.typeIs F.entry_dict_keyiterator_next ?_ (F.args_dict_keyiterator_next_1 _))));refine wB (wP (wB (wB ?_)))
 first|refine wB (wpAny_typeNameOfWhole_keyiter ki.typeIs (wP ?_))|refine wB (wpAny_typeNameOf_keyiter ki.typeIs (wP ?_))
 refine wB (wpAny_fieldsOf ati di ?_);simp only [show Builtin.Dict_items.ownsTuple "dict_keyiterator"=false by decide,zN,if_false]
 show wpAny _ _ (if(Value.ref d==Value.none)=true then _ else _) _ _ s;rw [if_neg (show ¬((Value.ref d==Value.none)=true)from Q8)];refine wB (wP (wB (wpAny_dictEntries at_ dat ?_)))
 rw [if_neg (by simp)]
 refine wB (wP (wB (wpAny_dictEpoch at_ dat ?_)));rw [if_neg (by simp)]
 refine wP ?_;simp only [show ¬((i:Int) < 0)from by omega,if_false,yG,M8 hi]
 refine wB ?_
 first|refine wB (wpAny_typeNameOfWhole_keyiter ki.typeIs (wP ?_))|refine wB (wpAny_typeNameOf_keyiter ki.typeIs (wP ?_))
 refine wB (wpAny_isOneOf_keyiter ki.typeIs ?_);show wpAny _ _ (setField (.ref it) 1 (rawInt ((i:Int)+1)) >>=_) _ _ s;refine wB (wpAny_setField ati di (by simp) ?_)
 have k2:(s.heap.update it (Obj.mapFields (·.setIfInBounds 1 (rawInt ((i:Int)+1))))).IsKeyIter it d (i+1) es.size ep:=
  ⟨_,K5 _ ati (Obj.isFreed_of_fields (Obj.data_mapFields di _)),(Obj.cls_mapFields ..).trans ci,by rw [Obj.data_mapFields di];simp [rawInt]⟩
 refine wB (wpAny_holding ?_);refine wB (wpAny_isOneOf_keyiter (s:={s with heap:=s.heap.update it (Obj.mapFields (·.setIfInBounds 1 (rawInt ((i:Int)+1))))}) k2.typeIs ?_)
 show wpAny _ _ (pure es[i].key) _ _ _;exact wP (wP ⟨_,rfl,wP (q _ k2 (Heap.SameBut.update ..))⟩)
theorem Je {i:Nat}{Q:Option Value->Shared->Prop}(hh:A.handled=none)(ki:s.heap.IsKeyIter it d i es.size ep)(x:Raw s.heap d es ep)(hi:es.size<=i)
 (q:∀h',Heap.ExtBut it s.heap h'->Q none {s with heap:=h'}):wpAny (model prog w) A (pyNext (.ref it)) Q E s:=by
 obtain⟨oi,ati,ci,di⟩:=id ki;obtain⟨ob,at_,ex,dat⟩:=id x;unfold pyNext;refine wB (wpAny_attempt (wpAny_callSpecial?_slot (name:=Str.ofString "__next__") ki.typeIs F.slot_dict_keyiterator_next (wpAny_call_entry F.slot_dict_keyiterator_next ki.typeIs F.entry_dict_keyiterator_next ?_ (F.args_dict_keyiterator_next_1 _))));refine wB (wP (wB (wB ?_)))
 first|refine wB (wpAny_typeNameOfWhole_keyiter ki.typeIs (wP ?_))|refine wB (wpAny_typeNameOf_keyiter ki.typeIs (wP ?_))
 refine wB (wpAny_fieldsOf ati di ?_);simp only [show Builtin.Dict_items.ownsTuple "dict_keyiterator"=false by decide,zN,if_false]
 show wpAny _ _ (if(Value.ref d==Value.none)=true then _ else _) _ _ s;rw [if_neg (show ¬((Value.ref d==Value.none)=true)from Q8)];refine wB (wP (wB (wpAny_dictEntries at_ dat ?_)))
 rw [if_neg (by simp)]
 refine wB (wP (wB (wpAny_dictEpoch at_ dat ?_)));rw [if_neg (by simp)]
 refine wP ?_;simp only [show ¬((i:Int) < 0)from by omega,if_false,yG,Array.getElem?_eq_none hi]
 refine wB ?_
 first|refine wB (wpAny_typeNameOfWhole_keyiter ki.typeIs (wP ?_))|refine wB (wpAny_typeNameOf_keyiter ki.typeIs (wP ?_))
 show wpAny _ _ (setField (.ref it) 0 .none >>=_) _ _ s;refine wB (wpAny_setField ati di (by simp) ?_)
 show wpAny _ _ (newExc (.type "StopIteration") [] >>=_) _ _ _;refine wB ?_;simp only [newExc,newTuple];refine wB (wpAny_newObj_type ?_ (by size_fits))
 refine wB (m:=firstArgMember _ _) (wpAny_of_eq (a:=Value.none) (by first|rfl|(simp only [firstArgMember];rfl)) ?_);refine wpAny_newObj_type ?_ (by size_fits);simp only [raiseNew];refine wB (wpAny_handled ?_)
 rw [show A.in1.handled=none from hh];refine wB (wP (wpAny_throw (wB ?_)))
 refine wpAny_isInstance (T:="StopIteration") (b:=true) ⟨_,jS _ rfl,rfl⟩ isSubtype_stop ?_;exact wP (q _ (((Heap.SameBut.update ..).extBut.push _).push _))
end
theorem Jf {prog:Program}{w:World}{d:Addr}{es:Array DictEntry}{ep:Nat}(nsm:(d==sysModules)=false):KdlSrc prog w "dict" d d es.size (λi v=>∃e,es[i]? =some e/\v=e.key) (λh=>Raw h d es ep) where
 type:=λ_ x=>x.ty
 there:=λ_ x=>⟨x.lt,x.lt⟩
 keep:=λ_ _ x k=>x.stay λo e=>k d (.inl rfl) o e
 notList:=by decide
 notTuple:=by decide
 hint:=λ_ _ _ _ x q=>kdl_hint_dict x.ty q
 iter:=λA s hh x=>⟨_,λi h=>h.IsKeyIter s.heap.objs.size d i es.size ep/\Raw h d es ep,(λ_ _ q=>Ga nsm x q),{
  sub:=λb hb=>Q4.mpr (.inl (by simpa using hb))
  frame:=λ_ _ _ st k=>⟨st.1.at λo e=>k _ (by simp) o e,st.2.stay λo e=>k d (by simp) o e⟩
  item:=λi s2 Q E hi st q=>Gb st.1 st.2 hi λh' k2 sb=>q es[i].key h' s2.toks ⟨es[i],by simp [hi],rfl⟩ ⟨k2,st.2.stay λo e=>sb.extBut d o (lO x.lt) e⟩ λb o hb e=>sb.extBut b o (λz=>hb (by simp [z])) e
  done:=λs2 Q E st q=>Je hh st.1 st.2 (Q1 _) λh' xb=>q h' s2.toks λb o hb e=>xb b o (λz=>hb (by simp [z])) e
  self:=λ_ _ _ _ st q=>wpAny_pyIter_keyiter st.1 q},
  ⟨⟨_,jS _ rfl,rfl,rfl⟩,x.stay λo e=>gH _ e⟩⟩
end L2
namespace L2
open PySem PySem.Spec PyProof.Rows PySem.W Att
theorem vy {h:Heap}{L:Addr}{m m':Str->Option Value}(a:h.Ns L m)(b:h.Ns L m'):m=m':=by
 obtain⟨o,es,ep,e1,e2,e3,e4⟩:=a;obtain⟨o',es',ep',f1,f2,f3,f4⟩:=b;rw [e1]at f1;cases f1;rw [e2]at f2;cases f2
 funext x
 rw [<-e4 x, <-f4 x]
theorem pI {ks:List Int}{us:List Value}(h:Vals (ks.map V.int) us):IntsAre us ks:=by
 induction ks generalizing us with
 |nil=>cases h;exact .nil
 |cons k ks ih=>cases h with
  |cons r t=>
   obtain⟨tk,e⟩:=(show ∃t,_=Value.int k t from r)
   rw [e];exact .cons k tk (ih t)
theorem m7(k:List Int):(k.map (Sum.inl:Int->bx)).map kV=k.map V.int:=by
 rw [zO];rfl
theorem vz {α β:Type}{R:α->β->Prop}{x:α}{y:β}:∀{l:List α} {m:List β},l.length=m.length->(∀i,i < l.length->R (l.getD i x) (m.getD i y))->Paired R l m:=by
 intro l
 induction l with
 |nil=>intro m e h;cases m with
  |nil=>exact .nil
  |cons _ _=>cases e
 |cons a l ih=>intro m e h;cases m with
  |nil=>cases e
  |cons b m=>exact .cons (h 0 (Nat.succ_pos _)) (ih (Nat.succ.inj e) λi hi=>h (i+1) (Nat.succ_lt_succ hi))
theorem tL {α β γ:Type}{R:α×β->α×γ->Prop}(hR:∀p q,R p q->p.1=q.1):∀{l:List (α×β)} {m:List (α×γ)},Paired R l m->l.map (·.1)=m.map (·.1):=by
 intro l m h
 induction h with
 |nil=>rfl
 |cons r t ih=>rw [zI,zI,hR _ _ r,ih]
theorem qY:∀bs:List Addr,Vals (bs.map V.ref) (bs.map Value.ref)
 |[]=>.nil
 |b::bs=>.cons rfl (qY bs)
theorem jb {α β:Type}(f:α->β)(l:List α)(i:Nat)(x:α):(l.map f).getD i (f x)=f (l.getD i x):=by
 rw [iI,iI,zK];cases l[i]? <;>rfl
def Gc:List V->Hp->VK->Prop:=λxs H Q=>∃a kvs,∃ks:List (List Int),xs=[.ref a]/\H a=some (.dT kvs)/\kvs.map (·.1)=ks.map (λk=>k.map Sum.inl)/\(∀k∈ks,k≠[])/\ks.length < 64/\
 ∀p (bs:List Addr) (q:Array Nat),H p=none->SRT.Pm ks.length q->SRT.xU (λi j=>cT (ks.getD i []) (ks.getD j [])) q ks.length->bs.length=ks.length->
  (∀i,i < ks.length->H (bs.getD i 0)=some (.tup ((ks.getD (SRT.g q i) []).map V.int)))->Q (.ref p) (bv H p (.lst (bs.map V.ref)))
theorem B0 {X:Cx}(hc:X.calm=true):hV X (.builtin "sorted") Gc:=by
 intro pins s σ H xs us Q I rv h;obtain⟨a,kvs,ks,rfl,ha,hks,hpos,h64,q⟩:=h;obtain⟨u,rfl,ru⟩:=rB rv;cases(show u=Value.ref a from ru)
 obtain⟨hlen,nsm,ys,rel,ob,es,ep,at_,ex,dat,hes,nd,_⟩:=(show ObjOk X.prog X.w H s.heap a (.dT kvs)from I.hok a _ ha)
 obtain⟨m,hns,_⟩:=id I.loc;have neA:a≠X.env.locals:=λz=>by rw [z,I.free]at ha;cases ha
 have relLen:kvs.length=ys.length:=Paired.length rel;have ksLen:ks.length=kvs.length:=by rw [<-zJ (f:=λk:List Int=>k.map (Sum.inl:Int->bx)), <-hks,zJ]
 have esz:es.size=ys.length:=by rw [<-wg,hes,zJ]
 have kE:∀i,(kvs.getD i ([],.non)).1=(ks.getD i []).map Sum.inl:=λi=>by
  have e:=congrArg (λl:List (List bx)=>l.getD i []) hks;have e1:=jb (λp:List bx×V=>p.1) kvs i ([],.non);have e2:=jb (λk:List Int=>k.map (Sum.inl:Int->bx)) ks i [];exact e1.symm.trans (e.trans e2)
 have yk:∀i,i < ks.length->H (ys.getD i ([],0,.none)).2.1=some (.tup ((ks.getD i []).map V.int)):=λi hi=>by
  have r:=(pH (x:=(([],V.non):List bx×V)) (y:=(([],0,Value.none):List bx×Addr×Value)) i rel (by omega)).2.1
  rw [kE i,m7]at r;exact r
 have ksnd:ks.Nodup:=by
  have e:=tL (λp q z=>z.1) rel;rw [<-e,hks]at nd;exact(List.pairwise_map.mp nd).imp λz e=>z (by rw [e])
 refine kdu_sorted (Jf (es:=es) (ep:=ep) nsm) (I.ok.hd hc) (BG hns) (mU neA at_) ⟨ob,at_,ex,dat⟩ (by rw [esz, <-relLen];exact hlen) λD h' tk vs F' N' lt hl hP=>?_
 have nD:=N' (D,listOf vs.toArray 0) lN;have inNews:∀b o,b≠X.env.locals->s.heap.get? b=some o->(b,o)∈([]++(a,ob)::kQ s.heap X.env.locals a):=λb o nb e=>by
  by_cases z:b=a
  · subst z;rw [at_]at e;cases e;exact lN
  · exact ke _ (ef.mpr ⟨nb,z,e⟩)
 have kp:∀b o,b≠X.env.locals->s.heap.get? b=some o->h'.get? b=some o:=λb o nb e=>(N' _ (ke _ (inNews b o nb e))).1;have Dnew:s.heap.get? D=none:=by
  cases z:s.heap.get? D with
  |none=>rfl
  |some o=>exact absurd (lt _ (inNews D o nD.2.1 z)) (zT _)
 have HD:H D=none:=by
  cases z:H D with
  |none=>rfl
  |some o=>
   obtain⟨_,e⟩:=(I.hok D o z).there;rw [Dnew]at e;cases e
 have vlen:vs.length=ks.length:=by omega
 have vE:∀i,i < ks.length->vs.getD i .none=.ref (ys.getD i ([],0,.none)).2.1:=λi hi=>by
  have hv:i < vs.length:=by omega
  have hy:i < ys.length:=by omega
  obtain⟨e,e1,e2⟩:=hP i vs[i] (cY hv);rw [<-Eg,hes,zK,cY hy]at e1;cases e1;rw [iI,cY hv,iI,cY hy];exact e2
 have ht:Paired (TpI h') vs ks:=vz (x:=Value.none) (y:=[]) vlen λi hi=>by
  rw [vE i (by omega)]
  have tr:=yk i (by omega)
  obtain⟨_,its,rl,⟨o,e1,e2,n,e3⟩,_⟩:=(show ObjOk X.prog X.w H s.heap _ (.tup _)from I.hok _ _ tr)
  refine⟨_,o,_,n,rfl,kp _ o (λz=>by rw [z,I.free]at tr;cases tr) e1,e2,e3,?_⟩
  rw [List.toList_toArray];exact pI rl
 refine BZ (s:={s with heap:=h',toks:=tk}) (L:=X.env.locals) (D:=D) (m:=m) (c:=0) F'.ns nD.2.1 nD.1 ht ksnd hpos (by omega) λh2 c2 qq kp2 ns2 hD2 P2 A2=>?_
 rw [vlen]at P2 A2;have hb:∀i,i < ks.length->SRT.g qq i < ks.length:=P2.lt;have outE:(qq.toList.map λi=>vs.getD i .none)=(qq.toList.map λi=>(ys.getD i ([],0,Value.none)).2.1).map Value.ref:=by
  rw [zO];apply Eh
  intro i hi;have hl2:qq.toList.Perm (List.range ks.length):=by simpa using M7.mp P2.pe
  have:i < ks.length:=by simpa using hl2.mem_iff.mp hi
  exact vE i this
 rw [outE]at hD2;have kp3:∀b o,b≠X.env.locals->s.heap.get? b=some o->h2.get? b=some o:=λb o nb e=>kp2 b o nb (λz=>by rw [z,Dnew]at e;cases e) (kp b o nb e)
 have bl:(qq.toList.map λi=>(ys.getD i ([],0,Value.none)).2.1).length=ks.length:=by rw [zJ,wg,P2.sz]
 have hokN:HOk X.prog X.w (bv H D (.lst ((qq.toList.map λi=>(ys.getD i ([],0,Value.none)).2.1).map V.ref))) h2:=λb u e=>by
  by_cases z:b=D
  · subst z;rw [aS]at e;cases e;exact⟨by rw [zJ,bl];exact jy (by omega),_,c2,qY _,hD2⟩
  · rw [aN z]at e;refine(I.hok b u e).stay (λc v hc e1=>kp3 c v (λy=>?_) e1) (λc y=>by rw [aN (aQ y HD)];exact y) (λc xs y=>by rw [aN (aQ y HD)];exact y) λc ob xs y=>by rw [aN (aQ y HD)];exact y
    subst y
    rcases hc with y|y
    · rw [<-y,I.free]at e;cases e
    · rw [I.free]at y;cases y
 have I2:Inv X pins σ (bv H D (.lst ((qq.toList.map λi=>(ys.getD i ([],0,Value.none)).2.1).map V.ref))) {s with heap:=h2,gens:=s.gens,drawn:=s.drawn,toks:=tk}:=
  Inv.step (s:=s) (ch:=[]) I (λ_ z=>nomatch z) (λb o nb _ _ e _=>kp3 b o nb e) (λb o nb _ _ e _=>⟨o.slots,kp3 b o nb e⟩) (λb o _ e n=>by rw [aN (λz=>by rw [z,Dnew]at e;cases e)];exact n)
   (λ b o _ e => by
    by_cases z:b=X.env.locals
    · subst z;obtain⟨o2,_,_,e2,_⟩:=ns2;exact⟨o2,e2⟩
    · exact⟨o,kp3 b o z e⟩)
   (λb xs e=>by rw [aN (aQ e HD)];exact e) (λb o xs e=>by rw [aN (aQ e HD)];exact e) (λb ps e=>⟨#[],by rw [aN (aQ e HD),e];simp⟩) (λm2 hm2=>vy hns hm2▸ns2) hokN I.bare
 refine⟨.ref D,_,I2,rfl,q D _ qq HD P2 A2 bl λi hi=>?_⟩;have e:(qq.toList.map λi=>(ys.getD i ([],0,Value.none)).2.1).getD i 0=(ys.getD (SRT.g qq i) ([],0,Value.none)).2.1:=by
  have hq:i < qq.toList.length:=by rw [wg,P2.sz];exact hi
  rw [iI,zK,cY hq];show(ys.getD qq.toList[i] ([],0,Value.none)).2.1=_;congr 3
  unfold SRT.g;rw [<-Eg,cY hq];rfl
 rw [e];exact yk _ (hb i hi)
end L2
namespace DL
open PySem L2
noncomputable def Gd(a b:List Int):Bool:=cT a b||decide (a=b)
noncomputable def iL(ks:List (List Int)):List (List Int):=ks.mergeSort Gd
theorem gA:∀x:List Int,cT x x=false
 |[]=>rfl
 |a::x=>by unfold cT;rw [if_pos rfl];exact gA x
theorem Lu(a b c:List Int)(h1:Gd a b=true)(h2:Gd b c=true):Gd a c=true:=by
 unfold Gd at*
 rcases Bool.or_eq_true_iff.mp h1 with h1|h1
 · rcases Bool.or_eq_true_iff.mp h2 with h2|h2
   · rw [kC a b c h1 h2];rfl
   · rw [<-of_decide_eq_true h2,h1];rfl
 · rw [of_decide_eq_true h1];exact h2
theorem Lv(a b:List Int):(Gd a b||Gd b a)=true:=by
 unfold Gd
 by_cases e:a=b
 · simp [e]
 · cases h:cT a b with
   |true=>rfl
   |false=>rw [pG a b e h];simp
theorem nt:∀{l m:List (List Int)},l.Perm m->l.Pairwise (λa b=>cT a b=true)->m.Pairwise (λa b=>cT a b=true)->l=m
 |[],m,p,_,_=>by rw [List.nil_perm.mp p]
 |a::x,[],p,_,_=>absurd p.length_eq (by simp)
 |a::x,b::y,p,s1,s2=>by
  have e:a=b:=by
   have ha:a∈b::y:=p.mem_iff.mp lN;have hb:b∈a::x:=p.mem_iff.mpr lN
   rcases Q4.mp ha with ha|ha
   · exact ha
   · rcases Q4.mp hb with hb|hb
     · exact hb.symm
     · have l1:=(DK.mp s1).1 b hb;have l2:=(DK.mp s2).1 a ha;have:=kC a b a l1 l2;rw [gA]at this;cases this
  subst e;rw [nt (List.Perm.cons_inv p) (DK.mp s1).2 (DK.mp s2).2]
theorem Ge {ks l:List (List Int)}(nd:ks.Nodup)(p:l.Perm ks)(s:l.Pairwise λa b=>cT a b=true):l=iL ks:=by
 have p2:(iL ks).Perm ks:=List.mergeSort_perm ks Gd;have s2:(iL ks).Pairwise λa b=>Gd a b=true:=List.pairwise_mergeSort Lu Lv ks;have n2:(iL ks).Nodup:=p2.nodup_iff.mpr nd;refine nt (p.trans p2.symm) s ((s2.and n2).imp λh=>?_)
 rcases Bool.or_eq_true_iff.mp h.1 with z|z
 · exact z
 · exact absurd (of_decide_eq_true z) h.2
theorem Jg {ks:List (List Int)}{q:Array Nat}(nd:ks.Nodup)(P:SRT.Pm ks.length q)(A:SRT.xU (λi j=>cT (ks.getD i []) (ks.getD j [])) q ks.length):((List.range ks.length).map λi=>ks.getD (SRT.g q i) [])=iL ks:=by
 have hl2:q.toList.Perm (List.range ks.length):=by simpa using M7.mp P.pe
 have ql:q.toList=(List.range ks.length).map (SRT.g q):=by
  apply List.ext_getElem
  · rw [wg,P.sz,zJ,DM]
  · intro i h1 h2;rw [K7,Im];unfold SRT.g;rw [<-Eg,cY h1];rfl
 have kr:(List.range ks.length).map (λi=>ks.getD i [])=ks:=by
  apply List.ext_getElem
  · rw [zJ,DM]
  · intro i h1 h2;rw [K7,Im,iI,cY h2];rfl
 refine Ge nd ?_ ?_
 · have:((List.range ks.length).map λi=>ks.getD (SRT.g q i) [])=q.toList.map λi=>ks.getD i []:=by rw [ql,zO];rfl
   rw [this];have p:=hl2.map (λi=>ks.getD i []);rw [kr]at p;exact p
 · rw [List.pairwise_map];refine List.pairwise_iff_getElem.mpr λi j hi hj hij=>?_;rw [Im,Im];exact A i j hij (by simpa using hj)
noncomputable def gz:PyData->Option (List Int)
 | .tuple ds=>jz ds
 |_=>none
noncomputable def mB:List (PyData×PyData)->Option (List (List Int))
 |[]=>some []
 |p::r=>(gz p.1).bind λk=>(mB r).map (k:: ·)
noncomputable def zZ:List PyData->Option PyData
 |[.dict kvs]=>(mB kvs).bind λks=>if(ks.all (λk=> !k.isEmpty)&&decide (ks.length < 64)&&decide ks.Nodup)=true then some (.list ((iL ks).map λk=>.tuple (k.map .int)))else none
 |_=>none
theorem xV:∀{q:List bx} {ns:List Int},q.map kD=ns.map PyData.int->q=ns.map Sum.inl
 |[],[],_=>rfl
 |[],_::_,h=>by cases h
 |_::_,[],h=>by cases h
 |k::q,n::ns,h=>by
  rw [zI,zI]at h;injection h with h1 h2
  cases k with
  |inl i=>injection h1 with h1;rw [h1,xV h2];rfl
  |inr x=>cases h1
section
variable {K:Fg}
theorem tM {H:Hp}:∀{m:List (List bx×V)} {kvs:List (PyData×PyData)} {ks:List (List Int)},Kvs K H m kvs->mB kvs=some ks->m.map (·.1)=ks.map λk=>k.map Sum.inl
 |_,[],ks,h,e=>by
  cases e;rw [show _=[]from h]
  rfl
 |_,(k,d)::r,ks,h,e=>by
  obtain⟨q,m',rfl,⟨h1,_⟩,h2⟩:=h;unfold mB at e;obtain⟨k1,e1,e2⟩:=bind_some e;obtain⟨k2,e3,e4⟩:=Q0.mp e2;subst e4;rw [h1]at e1;have e5:=xV (dh e1);rw [zI,zI,e5,tM h2 e3]
theorem z9 {F:Hp}:∀{bs:List Addr} {ks:List (List Int)},bs.length=ks.length->(∀i,i < ks.length->F (bs.getD i 0)=some (.tup ((ks.getD i []).map V.int)))->Are K F (bs.map V.ref) (ks.map λk=>.tuple (k.map .int))
 |[],[],_,_=>rfl
 |[],_::_,e,_=>by cases e
 |_::_,[],e,_=>by cases e
 |b::bs,k::ks,e,h=>⟨.ref b,_,rfl,⟨b,_,rfl,h 0 (Nat.succ_pos _),Are.ints.mpr rfl⟩,z9 (Nat.succ.inj e) λi hi=>h (i+1) (Nat.succ_lt_succ hi)⟩
theorem Grow.tups {F H:Hp}(s:Same F H)(bs:List Addr)(hb:∀b∈bs,∃xs,H b=some (.tup xs)):∃F',Grow F H F' H/\∀b∈bs,F' b=H b:=by
 refine⟨λb=>if b∈bs then H b else F b,⟨λb u e=>?_,λb u e=>?_,Same.refl _,λb u e t n=>?_⟩,λb hb=>if_pos hb⟩
 · show(if b∈bs then H b else F b)=some u;split
   · exact s b u e
   · exact e
 · have e:(if b∈bs then H b else F b)=some u:=e;split at e
   · exact e
   · exact s b u e
 · show(if b∈bs then H b else F b)=none;split
   · rename_i hm;obtain⟨xs,z⟩:=hb b hm;rw [z]at e;cases e;exact absurd rfl (t xs)
   · exact n
theorem Jh:ya K Gc zZ:=λF H xs ds d Q s ar e k=>by
 unfold zZ at e;split at e
 · rename_i kvs;obtain⟨ks,e1,e2⟩:=bind_some e;split at e2
   · rename_i c;cases e2;simp only [Q5,decide_eq_true_eq,Q9]at c;obtain⟨⟨c1,c3⟩,c4⟩:=c;obtain⟨x,r,rfl,⟨a,rfl,hx⟩,hr⟩:=ar;rw [show r=[]from hr]
     rcases hx with⟨ns,z,_⟩|⟨m,z,kv⟩|⟨nm,z,_⟩|⟨m,z,kv⟩
     · subst z;cases e1
     rotate_left
     · subst z;cases e1
     · cases kvs with
       |nil=>exact kv.elim
       |cons p r=>
        obtain⟨rfl,_⟩:=kv;cases e1
     · refine⟨a,m,ks,rfl,s _ _ z,tM kv e1,(λk hk y=>absurd (c1 k hk) (by rw [y];decide)),c3,λp bs q hp P A hbl hbs=>?_⟩
       have allT:∀b∈bs,∃xs,H b=some (.tup xs):=λb hb=>by
        obtain⟨i,hi,rfl⟩:=List.getElem_of_mem hb;have:=hbs i (by omega)
        rw [iI,cY hi]at this;exact⟨_,this⟩
       obtain⟨F1,g1,f1⟩:=Grow.tups s bs allT;have g2:=g1.trans (Grow.new (p:=p) (o:=.lst (bs.map V.ref)) g1.s hp);refine k (.ref p) _ _ g2 ⟨p,_,rfl,aS,?_⟩;have sk:=Jg c4 P A;have len:(iL ks).length=ks.length:=by rw [<-sk,zJ,DM]
       refine(z9 (F:=F1) (by rw [len];exact hbl) λi hi=>?_).same (bf (g1.s.free hp) _)
       have hi':i < ks.length:=by omega
       have mem:bs.getD i 0∈bs:=by
        rw [iI,cY (by omega)]
        exact Qc _
       rw [f1 _ mem,hbs i hi'];have:(iL ks).getD i []=ks.getD (SRT.g q i) []:=by
        rw [<-sk,iI,zK,List.getElem?_range hi'];rfl
       rw [this]
   · cases e2
 · cases e
end
end DL
namespace L2
open PySem
section
variable {prog:Program} {w:World} {K:Type} [DecidableEq K] {knd:HeapKind prog w K} {A:Around} {E:Value->Shared->Prop} {s:Shared} {d a:Addr} {xs:List (K×Addr×Value)} {k:K} {v:Value} {o:Obj} {es:Array DictEntry} {ep:Nat}
theorem B1 {Q:Unit->Shared->Prop}(hu:knd.room A.in1)(hkey:knd.is s.heap k a)(ho:s.heap.get? d=some o)(hc:o.ExactDict)(hd:o.data=.dict es ep)(he:es.toList=xs.map (entryOfKey knd))(his:∀x∈xs,knd.is s.heap x.1 x.2.1)(hn:(xs.map (·.1)).Nodup)(hep:ep=xs.length)
 (hQ:∀h' o' es',h'.get? d=some o'->o'.ExactDict->o'.data=.dict es' (storedH xs k a v).length->es'.toList=(storedH xs k a v).map (entryOfKey knd)->((storedH xs k a v).map (·.1)).Nodup->Heap.SameBut d s.heap h'->Q () {s with heap:=h',toks:=s.toks+knd.draws k}) (hsz:xs.length<=sizeLine):
 wpAny (model prog w) A (setItem (.ref d) (.ref a) v) Q E s:=by
 have hm:s.heap.DictOfH knd d xs:=⟨o,es,ep,ho,hc,hd,he,his,hn⟩;unfold setItem;(try with_reducible refine wpAny_holding ?_);refine wB (wpAny_sequenceKey hm.typeIs (by decide) ?_)
 refine wB (wpAny_callSpecial?_slot (name:=Str.ofString "__setitem__") hm.typeIs slot_dict_setitem (wpAny_call_entry slot_dict_setitem hm.typeIs entry_dict_setitem ?_ (args_dict_setitem _ _ _)));show wpAny _ _ (Builtin.Dict.notOrdered "__setitem__" ⟨[.ref d,.ref a,v],[]⟩ >>=_) _ _ s;refine wB (wpAny_notOrdered_dict hm.typeIs ?_);show wpAny _ _ (dictSet d (.ref a) v >>=_) _ _ s;refine wB ?_;unfold dictSet;(try with_reducible refine wpAny_holding ?_);refine wB (knd.pyHash hu hkey ?_);unfold dictSetHashed;(try with_reducible refine wpAny_holding ?_);refine wB (wpAny_dictFind_heap (s:={s with toks:=s.toks+knd.draws k}) hu hkey ho hd he his hn ?_ ?_)
 · intro hno;have hnot:k ∉ xs.map (·.1):=not_mem_keys_of_get hno
   have st:=storedH_new (atKey_none_of_get hno) a v;refine wB (wpAny_rule (wpAny_updateDictKeys (hz:=by have e:=size_of_entries he;omega) (s:={s with toks:=s.toks+knd.draws k}) ho hd ?_))
   refine wP ⟨.none,rfl,wP (hQ _ _ (es.push ⟨knd.hash k,.ref a,v⟩) (K5 _ ho (Obj.isFreed_of_dict (Obj.data_mapDictKeys hd _))) (hc.mapDictKeys _) ?_ ?_ ?_ (Heap.SameBut.update ..))⟩
   · rw [st,zQ,LF, <-hep];exact Obj.data_mapDictKeys hd _
   · rw [st];simp [he,entryOfKey]
   · rw [st,ux,List.nodup_append];refine⟨hn,by simp,λx hx y hy=>?_⟩
     simp only [zI,zL,Qf]at hy;subst hy;exact λe=>hnot (e▸hx)
 · intro j p hj;have st:=storedH_old (atKey_of_get hn hj) a v;refine wB (wpAny_rule (wB (wpAny_updateDict (s:={s with toks:=s.toks+knd.draws k}) ho hd (wpAny_point ?_))))
   refine wP ⟨.none,rfl,wP (hQ _ _ (es.modify j λe=>{e with val:=v}) (K5 _ ho (Obj.isFreed_of_dict (Obj.data_mapDict hd _))) (hc.mapDict _) ?_ ?_ ?_ (Heap.SameBut.update ..))⟩
   · rw [st,zJ, <-hep];exact Obj.data_mapDict hd _
   · rw [st];have:=modify_map_putAt (entryOfKey knd) (λe:DictEntry=>{e with val:=v}) k v (λ_ _=>rfl) hn hj
     rw [<-he]at this;obtain⟨l⟩:=es;simpa using this
   · rw [st,keys_map_putAt];exact hn
end
end L2
namespace L2
open PySem PySem.Spec PyProof.Rows
section
variable {κ:Type} [DecidableEq κ]
noncomputable def nc(kvs:List (κ×V))(k:κ):Option V:=(kvs.find? λkv=>decide (kv.1=k)).map (·.2)
noncomputable def qZ(kvs:List (κ×V))(k:κ)(v:V):List (κ×V):=
 if(kvs.any λkv=>decide (kv.1=k))=true then kvs.map (λkv=>if kv.1=k then(kv.1,v)else kv)else kvs++[(k,v)]
theorem tN {p:κ×V}{r:List (κ×V)}{k:κ}(e:p.1=k):nc (p::r) k=some p.2:=by simp [nc,List.find?_cons,e]
theorem tO {p:κ×V}{r:List (κ×V)}{k:κ}(e:¬p.1=k):nc (p::r) k=nc r k:=by simp [nc,List.find?_cons,e]
theorem za(k:κ):∀kvs:List (κ×V),(kvs.any λkv=>decide (kv.1=k))=(nc kvs k).isSome
 |[]=>rfl
 |p::r=>by
  rw [Ip]
  by_cases e:p.1=k
  · simp only [tN e,decide_eq_true e,Bool.true_or,Option.isSome_some]
  · rw [tO e,decide_eq_false e,Bool.false_or];exact za k r
theorem rJ(kvs:List (κ×V))(k:κ)(v:V):(qZ kvs k v).length<=kvs.length+1:=by
 unfold qZ;split
 · rw [zJ];omega
 · rw [zQ,zC,zH];omega
theorem RelO.isSome_eq {o:Option V}{u:Option Value}(r:RelO o u):o.isSome=u.isSome:=by
 cases o with
 |none=>cases u with
  |none=>rfl
  |some _=>exact(show False from r).elim
 |some _=>cases u with
  |none=>exact(show False from r).elim
  |some _=>rfl
theorem RelO.getD {o:Option V}{u:Option Value}{d:V}{d':Value}(r:RelO o u)(rd:RelV d d'):RelV (o.getD d) (u.getD d'):=by
 cases o with
 |none=>cases u with
  |none=>exact rd
  |some _=>exact(show False from r).elim
 |some _=>cases u with
  |none=>exact(show False from r).elim
  |some _=>exact r
theorem KV.val {kvs:List (κ×V)}{vs:List (κ×Value)}(r:KV kvs vs)(k:κ):RelO (nc kvs k) (valueAt vs k):=by
 unfold KV at r
 induction r with
 |nil=>exact True.intro
 | @cons p q ps qs h t ih=>
  obtain⟨h1,h2⟩:=h
  by_cases e:p.1=k
  · have e':q.1=k:=h1.symm.trans e;have b:valueAt (q::qs) k=some q.2:=by simp [valueAt,List.find?_cons,e']
    rw [tN e,b];exact h2
  · have e':¬q.1=k:=λz=>e (h1.trans z);have b:valueAt (q::qs) k=valueAt qs k:=by simp [valueAt,List.find?_cons,e']
    rw [tO e,b];exact ih
theorem KV.any {kvs:List (κ×V)}{vs:List (κ×Value)}(r:KV kvs vs)(k:κ):(kvs.any λkv=>decide (kv.1=k))=vs.any λkv=>decide (kv.1=k):=by
 unfold KV at r
 induction r with
 |nil=>rfl
 |cons h t ih=>rw [Ip,Ip,ih,h.1]
theorem KV.repl {kvs:List (κ×V)}{vs:List (κ×Value)}(r:KV kvs vs)(k:κ){y:V}{u:Value}(ry:RelV y u):
 KV (kvs.map λkv=>if kv.1=k then(kv.1,y)else kv) (vs.map λkv=>if kv.1=k then(kv.1,u)else kv):=by
 unfold KV at r ⊢
 induction r with
 |nil=>exact .nil
 | @cons p q ps qs h t ih=>
  rw [zI,zI];refine .cons ?_ ih;obtain⟨h1,h2⟩:=h
  by_cases e:p.1=k
  · rw [if_pos e,if_pos (h1.symm.trans e)];exact⟨h1,ry⟩
  · rw [if_neg e,if_neg (λz=>e (h1.trans z))];exact⟨h1,h2⟩
theorem KV.put {kvs:List (κ×V)}{vs:List (κ×Value)}(r:KV kvs vs)(k:κ){y:V}{u:Value}(ry:RelV y u):KV (qZ kvs k y) (stored vs k u):=by
 unfold qZ stored;rw [r.any k]
 by_cases e:(vs.any λkv=>decide (kv.1=k))=true
 · rw [if_pos e,if_pos e];exact r.repl k ry
 · rw [if_neg e,if_neg e];exact Paired.snoc r ⟨rfl,ry⟩
theorem KV.length {kvs:List (κ×V)}{vs:List (κ×Value)}(r:KV kvs vs):kvs.length=vs.length:=Paired.length r
end
theorem Gf {P:Program}{w:World}{k:bx}{u:Value}(r:RelV (kV k) u):(be P w).is k u=true:=by
 cases k with
 |inl i=>obtain⟨t,e⟩:=(show ∃t,u=Value.int i t from r);subst e;exact yJ P w i t
 |inr x=>obtain⟨t,e⟩:=(show ∃t,u=Value.str x t from r);subst e;exact yK P w x t
theorem wA {P:Program}{w:World}:∀{ks:List bx} {us:List Value},Vals (ks.map kV) us->ItemsAre (be P w) ks us
 |[],_,r=>by rw [zL]at r;cases r;exact .nil
 |k::ks,_,r=>by
  rw [zI]at r;cases r with
  |cons h t=>exact .cons (Gf h) (wA t)
abbrev KT(H:Hp):List (List bx×V)->List (List bx×Addr×Value)->Prop:=Paired λp q=>p.1=q.1/\H q.2.1=some (.tup (p.1.map kV))/\RelV p.2 q.2.2
theorem KT.val {H:Hp}{kvs:List (List bx×V)}{xs:List (List bx×Addr×Value)}(r:KT H kvs xs)(k:List bx):RelO (nc kvs k) ((atKey xs k).map (·.2)):=by
 induction r with
 |nil=>exact True.intro
 | @cons p q ps qs h t ih=>
  obtain⟨h1,_,h2⟩:=h
  by_cases e:p.1=k
  · have e':q.1=k:=h1.symm.trans e;have b:atKey (q::qs) k=some q.2:=by simp [atKey,List.find?_cons,e']
    rw [tN e,b];exact h2
  · have e':¬q.1=k:=λz=>e (h1.trans z);have b:atKey (q::qs) k=atKey qs k:=by simp [atKey,List.find?_cons,e']
    rw [tO e,b];exact ih
theorem KT.repl {H:Hp}{kvs:List (List bx×V)}{xs:List (List bx×Addr×Value)}(r:KT H kvs xs)(k:List bx){y:V}{u:Value}(ry:RelV y u):
 KT H (kvs.map λkv=>if kv.1=k then(kv.1,y)else kv) (xs.map (putAt k u)):=by
 induction r with
 |nil=>exact .nil
 | @cons p q ps qs h t ih=>
  rw [zI,zI];refine .cons ?_ ih;obtain⟨h1,h2,h3⟩:=h;unfold putAt
  by_cases e:p.1=k
  · rw [if_pos e,if_pos (h1.symm.trans e)];exact⟨h1,h2,ry⟩
  · rw [if_neg e,if_neg (λz=>e (h1.trans z))];exact⟨h1,h2,h3⟩
theorem KT.put {H:Hp}{kvs:List (List bx×V)}{xs:List (List bx×Addr×Value)}(r:KT H kvs xs)(k:List bx){b:Addr}{y:V}{u:Value}(hb:H b=some (.tup (k.map kV)))(ry:RelV y u):
 KT H (qZ kvs k y) (storedH xs k b u):=by
 have e:(kvs.any λkv=>decide (kv.1=k))=(atKey xs k).isSome:=by
  rw [za,(r.val k).isSome_eq,Option.isSome_map]
 unfold qZ storedH;rw [e]
 by_cases q:(atKey xs k).isSome=true
 · rw [if_pos q,if_pos q];exact r.repl k ry
 · rw [if_neg q,if_neg q];exact Paired.snoc r ⟨rfl,hb,ry⟩
theorem KT.keeps {H H':Hp}{kvs:List (List bx×V)}{xs:List (List bx×Addr×Value)}(r:KT H kvs xs)(ht:∀b ys,H b=some (.tup ys)->H' b=some (.tup ys)):KT H' kvs xs:=
 Paired.mapP r λ_ _ z=>⟨z.1,ht _ _ z.2.1,z.2.2⟩
section
variable {P:Program} {w:World} {H:Hp} {h:Heap} {a:Addr}
theorem Ks {u:HO}(ok:HOk P w H h)(e:Rd H a u):ObjOk P w H h a u:=e.ok ok
theorem Gg {kvs:List (bx×V)}(ok:HOk P w H h)(e:Rd H a (.dK kvs)):kvs.length<=sizeLine/\(a==sysModules)=false/\∃vs,KV kvs vs/\h.DictOf (be P w) a vs:=
 show ObjOk P w H h a (.dK kvs)from Ks ok e
theorem NC {kvs:List (bx×V)}(ok:HOk P w H h)(e:H a=some (.dK kvs)):kvs.length<=sizeLine/\(a==sysModules)=false/\∃vs,KV kvs vs/\h.DictOf (be P w) a vs:=Gg ok (.inl e)
theorem tP {ks:List bx}(ok:HOk P w H h)(e:H a=some (.tup (ks.map kV))):(tupleKind (be P w)).is h ks a:=by
 obtain⟨_,its,r,⟨o,h1,h2,n,h3⟩,_⟩:=(show ObjOk P w H h a (.tup (ks.map kV))from ok a _ e)
 exact⟨o,its.toArray,n,h1,h2,h3,by simpa using wA r⟩
theorem Lw {kvs:List (List bx×V)}{xs:List (List bx×Addr×Value)}(ok:HOk P w H h)(r:KT H kvs xs):∀x∈xs,(tupleKind (be P w)).is h x.1 x.2.1:=by
 have all:∀{l:List (List bx×V)} {m:List (List bx×Addr×Value)},KT H l m->∀x∈m,(tupleKind (be P w)).is h x.1 x.2.1:=by
  intro l m q
  induction q with
  |nil=>intro x hx;exact nomatch hx
  | @cons p q ps qs hq t ih=>
   intro x hx
   rcases Q4.mp hx with e|hx
   · subst e;exact tP ok (by rw [<-hq.1];exact hq.2.1)
   · exact ih x hx
 exact all r
theorem Kt {kvs:List (List bx×V)}(ok:HOk P w H h)(e:Rd H a (.dT kvs)):kvs.length<=sizeLine/\(a==sysModules)=false/\
 ∃xs,KT H kvs xs/\h.DictOfH (tupleKind (be P w)) a xs:=by
 obtain⟨z,y,xs,r,o,es,ep,h1,h2,h3,h4,h5,_⟩:=(show ObjOk P w H h a (.dT kvs)from Ks ok e)
 refine⟨z,y,xs,r,o,es,ep,h1,h2,h3,h4,λx hx=>?_,h5⟩;have all:∀{l:List (List bx×V)} {m:List (List bx×Addr×Value)},KT H l m->∀x∈m,(tupleKind (be P w)).is h x.1 x.2.1:=by
  intro l m q
  induction q with
  |nil=>intro x hx;exact nomatch hx
  | @cons p q ps qs hq t ih=>
   intro x hx
   rcases Q4.mp hx with e|hx
   · subst e;exact tP ok (by rw [<-hq.1];exact hq.2.1)
   · exact ih x hx
 exact all r x hx
end
def DGet(H:Hp)(a:Addr)(y:V)(r:Option V):Prop:=
 (∃kvs k,Rd H a (.dK kvs)/\y=kV k/\r=nc kvs k)\/∃kvs k b,Rd H a (.dT kvs)/\y=.ref b/\H b=some (.tup (k.map kV))/\r=nc kvs k
def DPut(H:Hp)(a:Addr)(y v:V)(H':Hp):Prop:=
 (∃kvs k,H a=some (.dK kvs)/\y=kV k/\kvs.length < sizeLine/\H'=bv H a (.dK (qZ kvs k v)))\/
 ∃kvs k b,H a=some (.dT kvs)/\y=.ref b/\H b=some (.tup (k.map kV))/\kvs.length < sizeLine/\H'=bv H a (.dT (qZ kvs k v))
theorem DGet.k {H:Hp}{a:Addr}{kvs:List (bx×V)}{k:bx}(e:H a=some (.dK kvs)):DGet H a (kV k) (nc kvs k):=.inl ⟨kvs,k,.inl e,rfl,rfl⟩
theorem DGet.t {H:Hp}{a b:Addr}{kvs:List (List bx×V)}{k:List bx}(e:H a=some (.dT kvs))(eb:H b=some (.tup (k.map kV))):DGet H a (.ref b) (nc kvs k):=.inr ⟨kvs,k,b,.inl e,rfl,eb,rfl⟩
theorem DPut.t {H:Hp}{a b:Addr}{kvs:List (List bx×V)}{k:List bx}{v:V}(e:H a=some (.dT kvs))(eb:H b=some (.tup (k.map kV)))(hl:kvs.length < sizeLine):
 DPut H a (.ref b) v (bv H a (.dT (qZ kvs k v))):=.inr ⟨kvs,k,b,e,rfl,eb,hl,rfl⟩
section
variable {X:Cx} {pins:List (Addr×Obj)} {σ:St} {H:Hp} {s:Shared} {a:Addr} {y v:V} {u r:Value} {o:Option V} {A:Around} {E:Value->Shared->Prop}
theorem Inv.big(I:Inv X pins σ H s):sysModules < s.heap.objs.size:=by
 have h:mainGlobals < s.heap.objs.size:=(I.mod.glob.keeps I.bk).lt;exact Nat.lt_trans (by decide) h
theorem xW {h':Heap}{t':Nat}{ob:HO}(I:Inv X pins σ H s)(mu:Ma (H a))(hs:Heap.SameBut a s.heap h')(he:∃q,h'.get? a=some q)(new:ObjOk X.prog X.w (bv H a ob) h' a ob):
 Inv X pins σ (bv H a ob) {s with heap:=h',toks:=t'}:=
 I.write (x:=a) (e:=a) mu (.inl rfl) (λb q hb z=>(hs.2 b hb).trans z) he new
theorem Lx {P:Program}{w:World}{H':Hp}{h':Heap}{kvs:List (bx×V)}{vs:List (bx×Value)}(z:kvs.length<=sizeLine)(hd:(a==sysModules)=false)(rel:KV kvs vs)(dd:h'.DictOf (be P w) a vs):
 ObjOk P w H' h' a (.dK kvs):=⟨z,hd,vs,rel,dd⟩
theorem Dm {H':Hp}{Q:Unit->Shared->Prop}(hu:A.units+1 < cLine)(I:Inv X pins σ H s)(g:DPut H a y v H')(ry:RelV y u)(rv:RelV v r)(h:∀s',Inv X pins σ H' s'->Q () s'):
 wpAny (model X.prog X.w) A (setItem (.ref a) u r) Q E s:=by
 rcases g with⟨kvs,k,e,ey,l,eH⟩|⟨kvs,k,b,e,ey,eb,l,eH⟩
 · subst ey eH;obtain⟨z,hd,vs,rel,dd⟩:=NC I.hok e;have hz:vs.length<=sizeLine:=by rw [<-rel.length];exact z
   have hl:(qZ kvs k v).length<=sizeLine:=by have:=rJ kvs k v;omega
   refine wpAny_setItem_pairs (hsz:=hz) (Gf ry) dd λh' dd' hs=>h _ ?_;have he:∃q,h'.get? a=some q:=let ⟨q,_,_,hq,_⟩:=dd';⟨q,hq⟩;exact xW I (by rw [e];exact True.intro) hs he (Lx hl hd (rel.put k rv) dd')
 · subst ey eH;cases(show u=Value.ref b from ry)
   obtain⟨z,hd,xs,rel,o,es,ep,h1,h2,h3,h4,h5,h6⟩:=(show ObjOk X.prog X.w H s.heap a (.dT kvs)from I.hok a _ e)
   have rel:KT H kvs xs:=rel;have hz:xs.length<=sizeLine:=by rw [<-Paired.length rel];exact z
   have hl:(qZ kvs k v).length<=sizeLine:=by have:=rJ kvs k v;omega
   refine B1 (tupleKind_room_in1 hu) (tP I.hok eb) h1 h2 h3 h4 (Lw I.hok rel) h5 h6 (λh' q es' hq g2 g3 g4 g5 hs=>h _ ?_) hz;refine xW I (by rw [e];exact True.intro) hs ⟨q,hq⟩ ⟨hl,hd,_,(rel.put k eb rv).keeps λc ys ec=>?_,q,es',_,hq,g2,g3,g4,g5,rfl⟩
   rw [aN (M9 ec e (λz=>nomatch z))];exact ec
end
section
variable {X:Cx} {pins:List (Addr×Obj)} {σ:St} {H:Hp} {s:Shared} {a:Addr} {kvs:List (bx×V)} {k:bx} {u:Value} {A:Around} {E:Value->Shared->Prop}
end
def ND(i:Expr):Prop:=∀ov iv,subscripted i false ov iv=operate [ov,iv] (getItem ov iv)
theorem Ji {prog:Program}{w:World}{A:Around}{E:Value->Shared->Prop}{s:Shared}{env:Env}{value slice:Expr}{pos:Pos}{T id:String}{Q:Value->Shared->Prop}
 (hl:typeLookup (.type T) "__getitem__"=pure (some (.builtin id))) (hs:ND slice)
 (h:wpAny (model prog w) A (eval value env) (λo s₁=>wpAny (model prog w) A (eval slice env) (λi s₂=>s₂.TypeIs o T/\wpAny (model prog w) A (getItem o i) Q E s₂) E s₁) E s):
 wpAny (model prog w) A (eval (.Subscript value slice pos) env) Q E s:=by
 refine Subscript_ (wpAny_mono h (λo s₁ h₁=>wpAny_mono h₁ (λi s₂ h₂=>?_) λ_ _ x=>x) λ_ _ x=>x);obtain⟨hT,h₂⟩:=h₂;unfold subscriptTail;refine wB ?_;rw [getitemInPython_of_ne hT.not_modules];refine wB (wpAny_specialOf hT hl ?_);have fin:wpAny (model prog w) A (subscripted slice false o i) (λr s₃=>wpAny (model prog w) A (letTemporaryGo value o r >>= λ_=>pure r) Q E s₃) E s₂:=by
  rw [hs o i];exact wpAny_operating (wpAny_mono h₂ (λr s₃ h₃=>wB (wpAny_letTemporaryGo (wP h₃))) λ_ _ x=>x)
 first
  |exact wP (wB fin)
  |exact wB (wP (wB fin))
  |exact wB fin
def Ku(td ty tv:TE):TS:=λD σ H=>tv σ H λv H1=>td σ H1 λx H2=>ty σ H2 λy H3=>∃a H4,x=.ref a/\DPut H3 a y v H4/\D.nx σ H4
section
variable {X:Cx} {o i e value:Expr} {pos pos' tpos:Pos} {td ty tv:TE}
theorem C5(hu:X.A.units+1 < cLine)(ho:PE X o td)(hi:PE X i ty)(hv:PE X value tv)(hs:swapsWith value (some (.Subscript o i pos')) pos.line X.env=pure false):
 PS X (.Assign [.Subscript o i pos'] value pos) (Ku td ty tv):=by
 intro pins s σ H D I h;refine wpAny_Assign_Subscript (dN (hv pins s σ H _ I h) λr s1 ⟨v,H1,I1,rv,q1⟩=>dN (ho pins s1 σ H1 _ I1 q1) λu s2 ⟨x,H2,I2,rx,q2⟩=>dN (hi pins s2 σ H2 _ I2 q2) λiv s3 q_=>?_) hs;obtain⟨y,H3,I3,ry,a,H4,ex,g,q3⟩:=q_;subst ex;obtain rfl:u=Value.ref a:=rx;exact Dm hu I3 g ry rv λs4 I4=>⟨σ,H4,I4,q3⟩
end
theorem Gh {P:Program}{w:World}{H:Hp}(h:Heap)(hb:sysModules < h.objs.size):ObjOk P w H (h.push {cls:=.type "dict",data:=.dict #[]}) h.objs.size (.dT []):=
 ⟨zU _,beq_eq_false_iff_ne.mpr (Ne.symm (lO hb)),[],.nil,_, #[],0,jS _ rfl,⟨rfl,rfl,rfl⟩,rfl,rfl,List.nodup_nil,rfl⟩
def Gi:TE:=λ_ H Q=>∀p,H p=none->Q (.ref p) (bv H p (.dT []))
section
variable {X:Cx} {pos:Pos}
theorem zb:PE X (.Dict [] [] pos) Gi:=λpins s σ H Q I h=>
 wpAny_Dict_empty ⟨.ref s.heap.objs.size,_,I.laid (a:=s.heap.objs.size) (o:=.dT []) (t':=s.toks) (λ_ _ q=>gH _ q) (Q1 _) (Gh s.heap I.big),rfl,h _ (I.hok.fresh (Q1 _))⟩
end
structure M2 (X:Cx) (o:Expr) (m:Str) (apos:Pos) (e f:Expr) (cpos:Pos):Prop where
 base:attributeBase o m X.env (eval o X.env)=eval o X.env
 few:((backTo cpos (starEach [e,f] X.env)).all (λx=> !x.1)&&(backToKw cpos (keywordEach [] X.env)).all (λx=>x.1.isSome)
  &&decide (([e,f]:List Expr).length+([]:List Keyword).length+(if([]:List Keyword).isEmpty then 0 else 1) < 30))=true
 line:(apos.endLine==cpos.line)=true
 trees:backTo cpos (starEach [e,f] X.env)=[(false,eval e X.env),(false,eval f X.env)]
def Ly(H:Hp)(a:Addr):Prop:=(∃kvs,Rd H a (.dK kvs))\/∃kvs,Rd H a (.dT kvs)
theorem Lz {X:Cx}{pins:List (Addr×Obj)}{σ:St}{H:Hp}{s:Shared}{a:Addr}(I:Inv X pins σ H s)(d:Ly H a):
 s.TypeIs (.ref a) "dict"/\(∀b,Value.ref a=.ref b->∃ob,s.heap.get? b=some ob/\ob.dict=none)/\(a==sysModules)=false:=by
 rcases d with⟨kvs,e⟩|⟨kvs,e⟩
 · obtain⟨_,hd,vs,_,dd⟩:=Gg I.hok e;refine⟨dd.typeIs,λb q=>?_,hd⟩;cases q;obtain⟨ob,_,_,h1,h2,_⟩:=dd;exact⟨ob,h1,h2.2.1⟩
 · obtain⟨_,hd,xs,_,dd⟩:=Kt I.hok e;refine⟨dd.typeIs,λb q=>?_,hd⟩;cases q;obtain⟨ob,_,_,h1,h2,_⟩:=dd;exact⟨ob,h1,h2.2.1⟩
section
variable {X:Cx} {pins:List (Addr×Obj)} {σ:St} {H:Hp} {s:Shared} {a:Addr} {y d:V} {u r:Value} {o:Option V} {A:Around} {E:Value->Shared->Prop}
theorem MA {Q:Value->Shared->Prop}(hu:A.units+1 < cLine)(I:Inv X pins σ H s)(g:DGet H a y o)(ry:RelV y u)(rd:RelV d r)(h:∀w' s',Inv X pins σ H s'->RelV (o.getD d) w'->Q w' s'):
 wpAny (model X.prog X.w) A (call (.builtin "dict.get") [.ref a,u,r]) Q E s:=by
 rcases g with⟨kvs,k,e,ey,l⟩|⟨kvs,k,b,e,ey,eb,l⟩
 · subst ey;obtain⟨z,hd,vs,rel,dd⟩:=Gg I.hok e;refine call_meetsIn PySem.F.slot_dict_get dd.typeIs PySem.F.entry_dict_get (PySem.F.args_dict_get_3 _ _ _) (meets_dict_get_default (be X.prog X.w) a (Gf ry) hd r) ⟨_,dd.mapOf,h _ _ (I.tok _) ?_⟩;rw [l];exact(rel.val k).getD rd
 · subst ey;cases(show u=Value.ref b from ry)
   obtain⟨z,hd,xs,rel,dd⟩:=Kt I.hok e;refine call_meetsIn PySem.F.slot_dict_get dd.typeIs PySem.F.entry_dict_get (PySem.F.args_dict_get_3 _ _ _) (meetsH_dict_get_default (tupleKind (be X.prog X.w)) a b hd r) ⟨tupleKind_room_in1 hu,k,xs,tP I.hok eb,dd,h _ _ (I.tok _) ?_⟩;rw [l];exact(rel.val k).getD rd
end
def Gj(td ty tx:TE):TE:=λσ H Q=>td σ H λx H1=>∃a,x=.ref a/\Ly H1 a/\ty σ H1 λy H2=>tx σ H2 λz H3=>∃o,DGet H3 a y o/\Q (o.getD z) H3
section
variable {X:Cx} {o e f:Expr} {apos cpos:Pos} {td ty tx:TE}
theorem Gk(hu:X.A.units+1 < cLine)(ho:PE X o td)(he:PE X e ty)(hf:PE X f tx)(m:M2 X o "get" apos e f cpos):PE X (.Call (.Attribute o "get" apos) [e,f] [] cpos) (Gj td ty tx):=by
 intro pins s σ H Q I h;refine wpAny_Call_method m.base m.few m.line PySem.F.plainAttrs_dict PySem.F.slot_dict_get PySem.F.type_dict_get (dN (ho pins s σ H _ I h) λu s1 q_=>?_);obtain⟨x,H1,I1,rx,a,ex,d,q1⟩:=q_;subst ex;obtain rfl:u=Value.ref a:=rx;obtain⟨t1,t2,_⟩:=Lz I1 d;refine⟨t1,t2,?_⟩;rw [m.trees];refine Calls.callWith_builtin rfl (Calls.evalArgs_plain (Calls.spliced_cons (dN (he pins s1 σ H1 _ I1 q1) λiv s2 ⟨y,H2,I2,ry,q2⟩=>
  Calls.spliced_cons (dN (hf pins s2 σ H2 _ I2 q2) λfv s3 ⟨z,H3,I3,rz,ov,g,q3⟩=>Calls.spliced_nil ?_))))
 exact MA hu I3 g ry rz λw' s4 I4 rw'=>⟨_,H3,I4,rw',q3⟩
end
section
variable {X:Cx} {pins:List (Addr×Obj)} {σ:St} {H:Hp} {s:Shared} {a:Addr} {kvs:List (bx×V)} {A:Around} {E:Value->Shared->Prop}
end
section
variable {X:Cx} {pins:List (Addr×Obj)} {σ:St} {H:Hp} {s:Shared} {a:Addr} {y:V} {u:Value} {A:Around} {E:Value->Shared->Prop}
end
end L2
namespace DL
open PySem L2
section
variable {K:Fg} {H0 F0 F:Hp} {σ:St} {H:Hp} {δ:aT}
theorem Rep.setD(R:Rep K H0 F0 F σ H δ){i:Nat}{a:Addr}{m:HO}{kvs:List (PyData×PyData)}(ha:H a=some m)(hf:F a=none)(h0:H0 a=none)(h:DcO K F m kvs)
 (hn:∀j es,j≠i->δ[j]? =some (some (.od es))->σ[j]? ≠some (some (.ref a))):Rep K H0 F0 F (σ.set i (some (.ref a))) H (δ.set i (some (.od kvs))) where
 g:=R.g
 len:=by rw [Q6,Q6];exact R.len
 fz:=λj e q=>by
  rcases ai q with⟨rfl,z⟩|⟨n,q⟩
  · cases z
  · rw [bB n];exact R.fz j e q
 ow:=λj es q=>by
  rcases ai q with⟨rfl,z⟩|⟨n,q⟩
  · cases z
  · rw [bB n];exact R.ow j es q
 ap:=λj k ds es b q1 q2 q3 q4=>by
  rcases ai q1 with⟨rfl,z⟩|⟨n1,q1⟩
  · cases z
  · rcases ai q2 with⟨rfl,z⟩|⟨n2,q2⟩
    · cases z
    · rw [bB n1]at q3;rw [bB n2]at q4;exact R.ap j k ds es b q1 q2 q3 q4
 od:=λj es q=>by
  have hj:=g0 q;rw [Q6]at hj
  rcases ai q with⟨rfl,z⟩|⟨n,q⟩
  · injection z with z
    injection z with z
    subst z;exact⟨a,m,lU (by rw [R.len];exact hj),ha,hf,h0,h⟩
  · rw [bB n];exact R.od j es q
 ad:=λj k ds' es' b q1 q2 q3 q4=>by
  have hj:=g0 q1;have hk:=g0 q2;rw [Q6]at hj hk
  rcases ai q1 with⟨ej,z⟩|⟨n1,p1⟩
  · rcases ai q2 with⟨ek,z2⟩|⟨n2,p2⟩
    · rw [ej,ek]
    · rw [ej,lU (by rw [R.len, <-ej];exact hj)]at q3
      rw [bB n2]at q4;cases q3;exact absurd q4 (hn k es' n2 p2)
  · rcases ai q2 with⟨ek,z⟩|⟨n2,p2⟩
    · rw [ek,lU (by rw [R.len, <-ek];exact hk)]at q4
      rw [bB n1]at q3;cases q4;exact absurd q3 (hn j ds' n1 p1)
    · rw [bB n1]at q3;rw [bB n2]at q4;exact R.ad j k ds' es' b p1 p2 q3 q4
 tb:=R.tb
theorem Rep.mutD(R:Rep K H0 F0 F σ H δ){i:Nat}{a:Addr}{m:HO}{es ds:List (PyData×PyData)}(e:δ[i]? =some (some (.od es)))(hs:σ[i]? =some (some (.ref a)))(hf:F a=none)(h0:H0 a=none)(h:DcO K F m ds):
 Rep K H0 F0 F σ (bv H a m) (δ.set i (some (.od ds))) where
 g:=⟨R.g.f,λb u q=>by rw [aN (aQ q hf)];exact R.g.s b u q,λb u q=>by rw [aN (aQ q h0)];exact R.g.h b u q,R.g.o⟩
 len:=by rw [Q6];exact R.len
 fz:=λj d q=>by
  rcases ai q with⟨rfl,z⟩|⟨n,q⟩
  · cases z
  · exact R.fz j d q
 ow:=λj us q=>by
  rcases ai q with⟨rfl,z⟩|⟨n,q⟩
  · cases z
  · obtain⟨b,m,q1,q2,q3,q4,q5⟩:=R.ow j us q;have nb:b≠a:=λz=>by
     subst z;obtain⟨b2,ys,w1,w2,_,_,w5⟩:=R.od i es e;rw [hs]at w1;cases w1;rw [q2]at w2;exact w5.nlst _ (zV w2).symm
    exact⟨b,m,q1,by rw [aN nb];exact q2,q3,q4,q5⟩
 ap:=λj k ds' es' b q1 q2 q3 q4=>by
  rcases ai q1 with⟨rfl,z⟩|⟨n1,q1⟩
  · cases z
  · rcases ai q2 with⟨rfl,z⟩|⟨n2,q2⟩
    · cases z
    · exact R.ap j k ds' es' b q1 q2 q3 q4
 od:=λj us q=>by
  rcases ai q with⟨rfl,z⟩|⟨n,q⟩
  · injection z with z
    injection z with z
    subst z;exact⟨a,m,hs,aS,hf,h0,h⟩
  · obtain⟨b,ys,q1,q2,q3,q4,q5⟩:=R.od j us q;have nb:b≠a:=λz=>by subst z;exact n (R.ad j i us es b q e q1 hs)
    exact⟨b,ys,q1,by rw [aN nb];exact q2,q3,q4,q5⟩
 ad:=λj k ds' es' b q1 q2 q3 q4=>by
  have f:∀{m:Nat} {us:List (PyData×PyData)},(δ.set i (some (Sl.od ds)))[m]? =some (some (Sl.od us))->∃us':List (PyData×PyData),δ[m]? =some (some (Sl.od us')):=λ{m us} q=>by
   rcases ai q with⟨em,z⟩|⟨n,q⟩
   · exact⟨es,by rw [em];exact e⟩
   · exact⟨us,q⟩
  obtain⟨u1,p1⟩:=f q1;obtain⟨u2,p2⟩:=f q2;exact R.ad j k u1 u2 b p1 p2 q3 q4
 tb:=R.tb
end
section
variable {K:Fg}
noncomputable def tQ(i:Nat)(δ:aT):Option DFlow:=some (.nx (δ.set i (some (.od []))))
theorem C6(i:Nat):SS K (oM Gi (eE i)) (tQ i):=by
 intro H0 F0 F σ H δ r D R e h;cases e;intro p hp;have g1:Grow F H F (bv H p (.dT [])):=Grow.fresh R.g.s hp;refine h F _ _ ((R.grow g1).setD aS (R.g.s.free hp) (R.g.h.free hp) (.inl ⟨[],rfl,rfl⟩) λj es nj ej=>?_) (Same.refl _);obtain⟨b,ys,q1,q2,_⟩:=R.od j es ej;rw [q1];intro z;cases z;rw [q2]at hp;cases hp
noncomputable def B2(kvs:List (PyData×PyData))(k:List Int)(v:PyData):List (PyData×PyData):=
 if(kvs.any λp=>decide (gz p.1=some k))=true then kvs.map λp=>if gz p.1=some k then(p.1,v)else p else kvs++[(.tuple (k.map .int),v)]
end
section
variable {K:Fg}
theorem pJ {q:List bx}{k:List Int}:gz (.tuple (q.map kD))=some k↔q=k.map Sum.inl:=by
 constructor
 · intro h;exact xV (dh h)
 · intro h;subst h;show jz ((k.map Sum.inl).map kD)=some k;rw [zO];exact bn k
theorem C7 {F:Hp}:∀{m:List (List bx×V)} {kvs:List (PyData×PyData)},Kvs K F m kvs->m.length=kvs.length
 |_,[],h=>by rw [show _=[]from h];rfl
 |_,p::r,h=>by
  obtain⟨q,m',rfl,_,h2⟩:=h;rw [zC,zC,C7 h2]
theorem C8 {F:Hp}{k:List Int}:∀{m:List (List bx×V)} {kvs:List (PyData×PyData)},Kvs K F m kvs->(m.any λkv=>decide (kv.1=k.map Sum.inl))=kvs.any λp=>decide (gz p.1=some k)
 |_,[],h=>by rw [show _=[]from h];rfl
 |_,(pk,pd)::r,h=>by
  obtain⟨q,m',rfl,⟨h1,_⟩,h2⟩:=h;rw [Ip,Ip,C8 h2,h1];congr 1
  exact decide_eq_decide.mpr pJ.symm
theorem zc {F:Hp}{k:List Int}{v:V}{d:PyData}(hv:Is K F v d):∀{m:List (List bx×V)} {kvs:List (PyData×PyData)},Kvs K F m kvs->Kvs K F (m.map λkv=>if kv.1=k.map Sum.inl then(kv.1,v)else kv) (kvs.map λp=>if gz p.1=some k then(p.1,d)else p)
 |_,[],h=>by rw [show _=[]from h];exact rfl
 |_,(pk,pd)::r,h=>by
  obtain⟨q,m',rfl,⟨h1,h3⟩,h2⟩:=h;refine⟨_,_,rfl,?_,zc hv h2⟩;show Kv K F (if q.1=k.map Sum.inl then(q.1,v)else q) (if gz pk=some k then(pk,d)else(pk,pd))
  by_cases e:q.1=k.map Sum.inl
  · rw [if_pos e,if_pos (by rw [h1];exact pJ.mpr e)]
    exact⟨h1,hv⟩
  · rw [if_neg e,if_neg (by rw [h1];exact λz=>e (pJ.mp z))]
    exact⟨h1,h3⟩
theorem zd {F:Hp}{k:List bx}{v:V}{d:PyData}(hv:Is K F v d):∀{m:List (List bx×V)} {kvs:List (PyData×PyData)},Kvs K F m kvs->Kvs K F (m++[(k,v)]) (kvs++[(.tuple (k.map kD),d)])
 |_,[],h=>by rw [show _=[]from h];exact⟨(k,v),[],rfl,⟨rfl,hv⟩,rfl⟩
 |_,p::r,h=>by
  obtain⟨q,m',rfl,h1,h2⟩:=h;exact⟨q,_,rfl,h1,zd hv h2⟩
theorem Jj {F:Hp}{k:List Int}{v:V}{d:PyData}(hv:Is K F v d){m:List (List bx×V)}{kvs:List (PyData×PyData)}(h:Kvs K F m kvs):Kvs K F (qZ m (k.map Sum.inl) v) (B2 kvs k d):=by
 unfold qZ B2;rw [C8 h];split
 · exact zc hv h
 · have:=zd (k:=k.map Sum.inl) hv h;rw [zO]at this;exact this
noncomputable def MB:List (PyData×PyData)->Bool
 |(.none,_)::_=>false
 |_=>true
theorem Gm {F:Hp}{m:List (bx×V)}{kvs:List (PyData×PyData)}(h:KvsS K F m kvs):MB kvs=false:=by
 cases kvs with
 |nil=>exact h.elim
 |cons p r=>
  obtain⟨rfl,_⟩:=h;rfl
noncomputable def rn(i:Nat)(fk fv:aT->Option PyData)(δ:aT):Option DFlow:=(fv δ).bind λv=>(fk δ).bind λk=>match δ[i]? with
 |some (some (.od kvs))=>(gz k).bind λks=>if kvs.length < eD then if MB kvs=true then some (.nx (δ.set i (some (.od (B2 kvs ks v)))))else none else none
 |_=>none
theorem C9(i:Nat){tv ty:TE}{fk fv:aT->Option PyData}(b:SE K ty fk)(a:SE K tv fv):SS K (Ku (bX i) ty tv) (rn i fk fv):=by
 intro H0 F0 F σ H δ r D R e h;obtain⟨v,e1,e⟩:=bind_some e;obtain⟨kk,e2,e⟩:=bind_some e;split at e
 · rename_i kvs q;obtain⟨ks,e3,e⟩:=bind_some e;split at e
   · rename_i hl;split at e
     rotate_left
     · cases e
     rename_i ht;cases e;obtain⟨p,o,q1,q2,q3,q4,q5⟩:=R.od i kvs q;refine a H0 F0 F σ H δ v _ R e1 λx H1 F1 g1 i1=>⟨.ref p,q1,b H0 F0 F1 σ H1 δ kk _ (R.grow g1) e2 λy H2 F2 g2 i2=>?_⟩;unfold gz at e3;split at e3
     · rename_i ds;obtain⟨c,xs,rfl,w1,w2⟩:=i2;rw [dh e3]at w2;have w3:=Are.ints.mp w2;subst w3;have hm:H2 p=some o:=g2.h _ _ (g1.h _ _ q2);have hc:H2 c=some (.tup ((ks.map (Sum.inl:Int->bx)).map kV)):=by
        rw [m7];exact g2.s _ _ w1
       have g:=g1.trans g2
       rcases q5 with⟨m,rfl,q5⟩|⟨m,rfl,q5⟩
       · refine⟨p,_,rfl,DPut.t hm hc (by rw [C7 q5];exact sx (An hl)),?_⟩
         exact h F2 σ _ ((R.grow g).mutD q q1 (g.o _ _ q2 (λ_ z=>nomatch z) q3) q4 (.inl ⟨_,rfl,Jj (i1.same g2.f) (Kvs.same g.f _ q5)⟩)) g.f
       · rw [Gm q5]at ht;cases ht
     · cases e3
   · cases e
 · cases e
end
end DL
namespace L2
open PySem PySem.Spec PyProof.Rows
mutual
noncomputable def nn:PyData->PyData->Option Bool
 | .int i,.int j=>some (decide (i < j))
 | .bool p,.bool q=>some (decide (b2i p < b2i q))
 | .tuple xs,.tuple ys=>ltL xs ys
 |_,_=>none
noncomputable def ltL:List PyData->List PyData->Option Bool
 |[],[]=>some false
 |[],_::_=>some true
 |_::_,[]=>some false
 |x::xs,y::ys=>if PyData.eqv x y=true then ltL xs ys else nn x y
end
def Dn(A:Around)(s:Shared)(a b:Value)(r:Bool):Prop:=
 ∀(prog:Program) (w:World) (E:Value->Shared->Prop) (Q:Value->Shared->Prop),Q (.bool r) s->wpAny (model prog w) A (richCompare .Lt a b) Q E s
noncomputable def ze(A:Around)(s:Shared)(fin:Bool):List Value->List Value->Bool->Prop
 |v::vs,w::ws,r=>(SeqAt.EqAt A s v w true/\ze A s fin vs ws r)\/(SeqAt.EqAt A s v w false/\Dn A s v w r)
 |_,_,r=>r=fin
section
open PySem.SeqAt
open PySem.AutoSeq1 (wpAny_loadPart')
open PySem.MeetsSeq PySem.MeetsSeq2 PySem.MeetsSeq3
theorem xX(l b:Addr)(items items2:Array Value)(n n2:Nat)(dd dd2:Option Addr)(sl sl2:Array (Option Value))(r:Bool):
 Meets (Builtin.«tuple.__lt__» ⟨[.ref l,.ref b],[]⟩)
  (λ A R s => s.heap.get? l = some { cls := .type "tuple", dict := dd, data := .seq items n, slots := sl } /\ s.heap.get? b = some { cls := .type "tuple", dict := dd2, data := .seq items2 n2, slots := sl2 } /\
   ze A.in1 s (decide (items.size < items2.size)) items.toList items2.toList r/\R (.ok (.ret (.bool r))) s):=
 .of_wp λprog w A R s h=>by
  obtain⟨hp,g,d,tk,os⟩:=s;obtain⟨hl,hb,hx,h⟩:=h;have f2:=AutoSeq1.sub_tuple_tuple
  wp_walk using wpAny_loadPart' hl,wpAny_loadPart' hb,wpAny_forIn_list _ (λiM b s'=>b.1=none/\s'=⟨hp,g,d,tk,os⟩/\∃(vs ws:List Value),iM=vs.zip ws/\
   ze A.in1 ⟨hp,g,d,tk,os⟩ (decide (items.size < items2.size)) vs ws r) _
  case turn=>
   rintro⟨y,x⟩ iM b s' ⟨hb',rfl,vs,ws,hz,hL⟩;cases vs with
   |nil=>rw [List.zip_nil_left]at hz;cases hz
   |cons v vs=>
    cases ws with
    |nil=>rw [List.zip_nil_right]at hz;cases hz
    |cons u ws=>
     rw [List.zip_cons_cons]at hz;injection hz with hyx hrest
     injection hyx with hy hx
     subst hy hx
     rcases hL with⟨he,hL⟩|⟨he,hlt⟩
     · refine wB (he prog w _ _ ?_)
       wp_walk
       exact⟨rfl,rfl,_,_,hrest,hL⟩
     · refine wB (he prog w _ _ ?_);have hri:=hlt prog w
       wp_walk using hri
       exact⟨_,rfl,by simpa using h⟩
  case fin=>
   rintro⟨b1,b2⟩ s' ⟨hb',rfl,vs,ws,hz,hL⟩;simp only at hb';subst hb';have hv:r=decide (items.size < items2.size):=by
    cases vs with
    |nil=>cases ws<;>exact hL
    |cons v vs=>
     cases ws with
     |nil=>exact hL
     |cons u ws=>rw [List.zip_cons_cons]at hz;cases hz
   subst hv
   wp_walk
   exact⟨_,rfl,by simpa [Builtin.Tuple.tupleCompareSizes]using h⟩
  case h=>
   exact⟨rfl,rfl,items.toList,items2.toList,rfl,hx⟩
end
theorem Go {A:Around}{s:Shared}{l b:Addr}{items items2:Array Value}{r:Bool}(hl:s.heap.IsTuple l items)(hb:s.heap.IsTuple b items2)(hu:A.units < cLine)(hx:ze A.in1 s (decide (items.size < items2.size)) items.toList items2.toList r):
 Dn A s (.ref l) (.ref b) r:=by
 intro prog w E Q h;obtain⟨⟨cls,dd,data,sl⟩,ho,hc,n,hd⟩:=id hl;obtain⟨⟨cls2,dd2,data2,sl2⟩,ho2,hc2,n2,hd2⟩:=id hb;simp only at hc hd hc2 hd2;subst hc hd hc2 hd2;exact richCompare_meets_room (op:=.Lt) ⟨_,ho,rfl⟩ ⟨_,ho2,rfl⟩ PySem.F.slot_tuple_lt PySem.F.entry_tuple_lt (PySem.F.args_tuple_lt_2 _ _) (xX l b items items2 n n2 dd dd2 sl sl2 r)
  ⟨ho,ho2,hx,show Value.bool r≠Value.notImplemented/\Q (.bool r) s from⟨(λx=>nomatch x),h⟩⟩ hu
open PySem.SeqAt (room_here room_in room_head room_tail)
theorem Ca {xs ys:List PyData}{r:Bool}(h:ltL xs ys=some r)(e:xs=[]\/ys=[]):r=decide (xs.length < ys.length):=by
 cases xs with
 |nil=>
  cases ys with
  |nil=>cases h;rfl
  |cons y ys=>cases h;simp
 |cons x xs=>
  cases ys with
  |nil=>cases h;simp
  |cons y ys=>rcases e with e|e<;>cases e
mutual
theorem lY:∀(da db:PyData) (A:Around) (s:Shared) (a b:Value) (as bs:List Addr) (r:Bool),Reads s.heap a da as->Reads s.heap b db bs->da.canLay0=true->db.canLay0=true->
 A.units+min da.depth db.depth < cLine->nn da db=some r->Dn A s a b r
 | .int x,db,A,s,_,_,_,_,r,ra,rb,_,hb,hu,e=>by
  cases ra with
  |int _ t=>
   cases rb with
   |int y u=>
    cases e;exact λprog w E Q h=>(PyProof.Rows.lt_int h:wpAny (model prog w) A (compareOp .Lt _ _) Q E s)
   |_=>cases e
 | .bool x,db,A,s,_,_,_,_,r,ra,rb,_,hb,hu,e=>by
  cases ra;cases rb with
  |bool y=>
   cases e;exact λprog w E Q h=>(PyProof.Rows.lt_bool h:wpAny (model prog w) A (compareOp .Lt _ _) Q E s)
  |_=>cases e
 | .tuple xs,db,A,s,_,_,_,_,r,ra,rb,ha,hb,hu,e=>by
  cases ra with
  | @tuple l o vs n _ as₁ h1 h2 h3 h4=>
   cases rb with
   | @tuple l' o' vs' n' ys bs₁ k1 k2 k3 k4=>
    have hl:s.heap.IsTuple l vs:=⟨_,h1,h2,_,h3⟩;have hl':s.heap.IsTuple l' vs':=⟨_,k1,k2,_,k3⟩;have n1:vs.size=xs.length:=by simpa using SeqAt.ReadsAll.length _ _ _ h4
    have n2:vs'.size=ys.length:=by simpa using SeqAt.ReadsAll.length _ _ _ k4
    refine Go hl hl' (room_here hu) ?_;have e2:ltL xs ys=some r:=by rw [nn]at e;exact e
    exact lexAt_reads xs ys A.in1 s vs.toList vs'.toList _ _ r _ h4 k4 ha hb (room_in hu) e2 ⟨0,by rw [n1,n2];rfl⟩
   |_=>simp [nn]at e
 | .none,_,_,_,_,_,_,_,_,_,_,_,_,_,e=>by simp [nn]at e
 | .str _,_,_,_,_,_,_,_,_,_,_,_,_,_,e=>by simp [nn]at e
 | .list _,_,_,_,_,_,_,_,_,_,_,_,_,_,e=>by simp [nn]at e
 | .dict _,_,_,_,_,_,_,_,_,_,_,_,_,_,e=>by simp [nn]at e
theorem lexAt_reads:∀(xs ys:List PyData) (A:Around) (s:Shared) (vs ws:List Value) (as bs:List Addr) (r fin:Bool),ReadsAll s.heap vs xs as->ReadsAll s.heap ws ys bs->PyData.canLayAll0 xs=true->PyData.canLayAll0 ys=true->
 A.units+min (PyData.depthAll xs) (PyData.depthAll ys) < cLine->ltL xs ys=some r->(∃k,fin=decide (xs.length+k < ys.length+k))->ze A s fin vs ws r
 |[],ys,A,s,_,ws,_,_,r,fin,ra,rb,_,_,_,e,⟨k,hf⟩=>by
  cases ra;have q:=Ca e (.inl rfl);rw [hf,q];show decide _=decide _;exact decide_eq_decide.mpr (by omega)
 |x::xs,[],A,s,_,_,_,_,r,fin,ra,rb,_,_,_,e,⟨k,hf⟩=>by
  cases rb;have q:=Ca e (.inr rfl);cases ra;rw [hf,q];show decide _=decide _;exact decide_eq_decide.mpr (by omega)
 |x::xs,y::ys,A,s,_,_,_,_,r,fin,ra,rb,ha,hb,hu,e,⟨k,hf⟩=>by
  have ha':x.canLay0=true/\PyData.canLayAll0 xs=true:=by simpa [PyData.canLayAll0]using ha
  have hb':y.canLay0=true/\PyData.canLayAll0 ys=true:=by simpa [PyData.canLayAll0]using hb
  cases ra with
  |cons r1 rs=>
   cases rb with
   |cons r1' rs'=>
    have eq:=SeqAt.eqAt_reads x y A s _ _ _ _ r1 r1' ha'.1 hb'.1 (room_head hu);rw [ltL]at e
    by_cases c:PyData.eqv x y=true
    · rw [if_pos c]at e;rw [c]at eq;exact .inl ⟨eq,lexAt_reads xs ys A s _ _ _ _ r fin rs rs' ha'.2 hb'.2 (room_tail hu) e ⟨k+1,by rw [hf];exact decide_eq_decide.mpr (by simp only [zC];omega)⟩⟩
    · rw [if_neg c]at e;have c':PyData.eqv x y=false:=by simpa using c
      rw [c']at eq;exact .inr ⟨eq,lY x y A s _ _ _ _ r r1 r1' ha'.1 hb'.1 (room_head hu) e⟩
end
end L2
namespace DL
open PySem L2
section
variable {K:Fg}
noncomputable def Kw(n:Int):PyData->Bool
 | .int i=>decide (i=n)
 |_=>false
theorem MC {n:Int}(q:bx):Kw n (kD q)=decide (q=Sum.inl n):=by
 cases q with
 |inl i=>exact decide_eq_decide.mpr ⟨λe=>by rw [e],λe=>Sum.inl.inj e⟩
 |inr x=>exact(decide_eq_false (λe=>nomatch e)).symm
noncomputable def OQ(kvs:List (PyData×PyData))(k:Int)(v:PyData):List (PyData×PyData):=
 if(kvs.any λp=>Kw k p.1)=true then kvs.map λp=>if Kw k p.1=true then(p.1,v)else p else kvs++[(.int k,v)]
noncomputable def MD(K:Fg)(F:Hp)(ov:Option V):Option PyData->Prop
 |none=>ov=none
 |some d=>∃v,ov=some v/\Is K F v d
noncomputable def B3(n:Int):List (PyData×PyData)->Option (Option PyData)
 |(.none,.none)::r=>some ((r.find? λp=>Kw n p.1).map (·.2))
 |_=>none
noncomputable def Cb(kvs:List (PyData×PyData)):PyData->Option (Option PyData)
 | .int n=>B3 n kvs
 | .tuple ds=>(jz ds).bind λks=>if MB kvs=true then some ((kvs.find? λp=>decide (gz p.1=some ks)).map (·.2))else none
 |_=>none
theorem zg {F:Hp}{k:List Int}:∀{m:List (List bx×V)} {kvs:List (PyData×PyData)},Kvs K F m kvs->MD K F (nc m (k.map Sum.inl)) ((kvs.find? λp=>decide (gz p.1=some k)).map (·.2))
 |_,[],h=>by rw [show _=[]from h];rfl
 |_,(pk,pd)::r,h=>by
  obtain⟨q,m',rfl,⟨h1,h3⟩,h2⟩:=h;have ih:=zg (k:=k) h2;unfold nc at ih ⊢
  by_cases e:q.1=k.map Sum.inl
  · rw [Ie (by exact decide_eq_true e),Ie (by show decide _=true;rw [h1];exact decide_eq_true (pJ.mpr e))]
    exact⟨_,rfl,h3⟩
  · rw [Ed (by exact λz=>e (of_decide_eq_true z)),Ed (by show ¬decide _=true;rw [h1];exact λz=>e (pJ.mp (of_decide_eq_true z)))]
    exact ih
theorem wC {F:Hp}{k:Int}:∀{m:List (bx×V)} {kvs:List (PyData×PyData)},KvsI K F m kvs->MD K F (nc m (Sum.inl k)) ((kvs.find? λp=>Kw k p.1).map (·.2))
 |_,[],h=>by rw [show _=[]from h];rfl
 |_,(pk,pd)::r,h=>by
  obtain⟨q,m',rfl,⟨h1,h3⟩,h2⟩:=h;have ih:=wC (k:=k) h2;have e0:Kw k pk=decide (q.1=Sum.inl k):=by rw [h1];exact MC q.1
  unfold nc at ih ⊢
  by_cases e:q.1=Sum.inl k
  · rw [Ie (by exact decide_eq_true e),Ie (by show Kw k pk=true;rw [e0];exact decide_eq_true e)]
    exact⟨_,rfl,h3⟩
  · rw [Ed (by exact λz=>e (of_decide_eq_true z)),Ed (by show ¬Kw k pk=true;rw [e0,decide_eq_false e];decide)]
    exact ih
theorem Jk {F H:Hp}{a:Addr}{o:HO}{kvs:List (PyData×PyData)}{y:V}{k:PyData}{r:Option PyData}(s:Same F H)(ha:H a=some o)(hd:DcO K F o kvs)(hy:Is K F y k)(e:Cb kvs k=some r):
 ∃ov,DGet H a y ov/\MD K F ov r:=by
 cases k with
 |int n=>
  cases(show y=V.int n from hy)
  have e:B3 n kvs=some r:=e;unfold B3 at e;split at e
  · rename_i kr;cases e
    rcases hd with⟨m,rfl,q⟩|⟨m,rfl,q⟩
    · obtain⟨z,m',_,q6,_⟩:=q;cases q6.1
    · exact⟨_,DGet.k (k:=Sum.inl n) ha,wC q.2⟩
  · cases e
 |tuple ds=>
  obtain⟨ks,e1,e2⟩:=bind_some (show((jz ds).bind λks=>if MB kvs=true then some ((kvs.find? λp=>decide (gz p.1=some ks)).map (·.2))else none)=some r from e)
  split at e2
  · rename_i ht;cases e2;obtain⟨c,xs,rfl,w1,w2⟩:=hy;rw [dh e1]at w2;have w3:=Are.ints.mp w2;subst w3;have hc:H c=some (.tup ((ks.map (Sum.inl:Int->bx)).map kV)):=by
     rw [m7];exact s _ _ w1
    rcases hd with⟨m,rfl,q⟩|⟨m,rfl,q⟩
    · exact⟨_,DGet.t ha hc,zg q⟩
    · rw [Gm q]at ht;cases ht
  · cases e2
 |none=>cases e
 |bool b=>cases e
 |str x=>cases e
 |list ds=>cases e
 |dict ds=>cases e
noncomputable def Cc(i:Nat)(δ:aT):Option (List (PyData×PyData)):=match δ[i]? with
 |some (some (.od kvs))=>some kvs
 |_=>none
theorem Gp {H0 F0 F:Hp}{σ:St}{H:Hp}{δ:aT}{i:Nat}{kvs:List (PyData×PyData)}(R:Rep K H0 F0 F σ H δ)(e:Cc i δ=some kvs):∃a o,σ[i]? =some (some (.ref a))/\H a=some o/\DcO K F o kvs:=by
 unfold Cc at e;split at e
 · rename_i kv q;cases e;obtain⟨p,o,q1,q2,q3,q4,q5⟩:=R.od i _ q;exact⟨p,o,q1,q2,q5⟩
 · cases e
theorem Jl {F H:Hp}{a:Addr}{o:HO}{kvs:List (PyData×PyData)}(ha:H a=some o)(hd:DcO K F o kvs):Ly H a:=by
 rcases hd with⟨m,rfl,_⟩|⟨m,rfl,_⟩
 · exact .inr ⟨m,.inl ha⟩
 · exact .inl ⟨m,.inl ha⟩
noncomputable def tR(i:Nat)(fk fz:aT->Option PyData)(δ:aT):Option PyData:=(Cc i δ).bind λkvs=>(fk δ).bind λk=>(fz δ).bind λz=>(Cb kvs k).map λr=>r.getD z
theorem Do {ty tz:TE}{fk fz:aT->Option PyData}(i:Nat)(b:SE K ty fk)(c:SE K tz fz):SE K (Gj (bX i) ty tz) (tR i fk fz):=by
 intro H0 F0 F σ H δ d Q R e h;obtain⟨kvs,e1,e⟩:=bind_some e;obtain⟨k,e2,e⟩:=bind_some e;obtain⟨z,e4,e⟩:=bind_some e;obtain⟨r,e3,e⟩:=Q0.mp e;subst e;obtain⟨a,o,q1,q2,q3⟩:=Gp R e1;refine⟨.ref a,q1,a,rfl,Jl q2 q3,b H0 F0 F σ H δ k _ R e2 λy H1 F1 g1 i1=>c H0 F0 F1 σ H1 δ z _ (R.grow g1) e4 λzv H2 F2 g2 i2=>?_⟩;have g:=g1.trans g2;obtain⟨ov,dg,iv⟩:=Jk g2.s (g.h _ _ q2) (q3.same g.f) (i1.same g2.f) e3;refine⟨ov,dg,h _ H2 F2 g ?_⟩;cases r with
 |none=>rw [show ov=none from iv];exact i2
 |some d=>
  obtain⟨v,rfl,iv⟩:=iv;exact iv
end
end DL
namespace L2
open PySem PySem.Spec PyProof.Rows
noncomputable def lP(lt:Nat->Nat->Bool):Nat->Nat
 |0=>0
 |n+1=>if lt (n+1) (lP lt n)=true then n+1 else lP lt n
theorem tS(lt:Nat->Nat->Bool):∀n,lP lt n<=n
 |0=>Q1 _
 |n+1=>by
  unfold lP;split
  · exact Q1 _
  · exact Nat.le_succ_of_le (tS lt n)
theorem pK {xs:List V}{us:List Value}(r:Vals xs us){i:Nat}{u:Value}(e:us[i]? =some u):∃x,xs[i]? =some x/\RelV x u:=by
 induction r generalizing i with
 |nil=>simp at e
 |cons h _ ih=>
  cases i with
  |zero=>
   simp at e;subst e;exact⟨_,rfl,h⟩
  |succ i=>exact ih (by simpa using e)
section
variable {X:Cx} {pins:List (Addr×Obj)} {σ:St} {S I l:Addr} {xs:List V} {F H0:Hp} {lt:Nat->Nat->Bool} {R:Result->Shared->Prop}
end
end L2
namespace DL
open PySem L2
section
variable {K:Fg}
noncomputable def Jm:List PyData->Option PyData
 |[.list ds]=>if(!ds.isEmpty&&ds.all qL&&ds.all (λa=>ds.all λb=>(L2.nn a b).isSome))=true then ds[lP (λi j=>(L2.nn (ds.getD i .none) (ds.getD j .none)).getD false) (ds.length - 1)]? else none
 |_=>none
end
end DL
namespace L2
open PySem PySem.Spec PyProof.Rows
section
variable {X:Cx}
end
section
variable {prog:Program} {w:World} {A:Around} {E:Value->Shared->Prop} {s:Shared}
end
section
variable {X:Cx}
end
end L2
namespace DL
open PySem L2
section
variable {K:Fg}
end
section
variable {X:Cx}
end
end DL
namespace L2
open PySem PySem.Spec PyProof.Rows PySem.W PySem.Calls PySem.Builtin PySem.Builtin.ObjectAttr PySem.Builtin.Getset_descriptor
section
variable {pr:Program} {wd:World} {Ar:Around} {Ex:Value->Shared->Prop} {t:Shared} {K:Frag} {x C:Addr}
end
end L2
namespace DL
open PySem L2 PyProof.Rows
section
variable {X:Cx}
def NE:TS:=λ_ _ _=>False
theorem Cd {sts:List Stmt}:PSs X sts NE:=λ_ _ _ _ _ _ h=>h.elim
end
section
variable {K:Fg} {E:XK} {C:XI}
theorem Gq:SS K NE fX:=λH0 F0 F σ H δ r D R e h=>nomatch e
end
section
variable {K:Fg} {E:XK} {C:Addr}
end
end DL
namespace L2
open PySem PySem.Spec PyProof.Rows
theorem Jn(a:Value):argsOk "max" ⟨[a],[]⟩:=by unfold argsOk;kernel_rfl
section
variable {X:Cx} {pins:List (Addr×Obj)} {σ:St} {S I l:Addr} {xs:List V} {F H0:Hp} {lt:Nat->Nat->Bool} {R:Result->Shared->Prop}
end
end L2
namespace DL
open PySem L2
section
variable {K:Fg}
end
section
variable {K:Fg}
end
end DL
namespace L2
open PySem PySem.Spec PyProof.Rows PySem.W
end L2
namespace DL
open PySem L2
section
variable {K:Fg}
end
end DL
namespace L2
open PySem PySem.Spec PyProof.Rows PySem.W
noncomputable def rK(X:Cx)(N:List Str)(qual:Str)(sc:Scope)(f:Addr)(cd:Value)(cl:List (Str×Addr))(s:Shared)(H:Hp):Cx where
 prog:=X.prog
 w:=X.w
 K:=X.K
 mg:=X.mg
 base:=X.base
 A:=X.A.in1.deeper (envX qual sc s.heap.objs.size f cd cl)
 N:=N
 s₀:=s
 H₀:=H
 env:=envX qual sc s.heap.objs.size f cd cl
 outer:=X.stack
 stack:=envX qual sc s.heap.objs.size f cd cl::X.stack
 ex:=[]
 fn:=λ_=>false
 calm:=true
 pn:=[]
 xe:=λ_ _=>False
section
variable {X:Cx} {pins:List (Addr×Obj)} {σ:St} {H:Hp} {s:Shared}
theorem ME {N:List Str}{qual:Str}{sc:Scope}{f:Addr}{cd:Value}(I:Inv X pins σ H s)(hh:X.A.handled=none)(hk:sc.kind=.function)(hcell:∀y∈sc.names,y.2≠ .cell)
 (hfree:∀y∈sc.names,y.2=.free->X.env.kindOf y.1=some .cell\/X.env.kindOf y.1=some .free):(rK X N qual sc f cd (dD X.env sc.names []) s H).Ok:=by
 have hcl:∀y∈sc.names,y.2=.free->∃c,X.env.cells.lookup y.1=some c:=λy hy e=>I.ok.has _ (hfree y hy e);have look:∀x c,(dD X.env sc.names []).lookup x=some c->X.env.cells.lookup x=some c:=λx c e=>by
  rcases j4 hcl (PySem.mem_of_lookup e)with q|q
  · simp at q
  · exact q
 have noA:∀b:Addr,b ∉ (rK X N qual sc f cd (dD X.env sc.names []) s H).ex:=λb z=>absurd (show b∈([]:List Addr)from z) (by simp)
 exact {
  mod:=I.ok.mod
  kind:=hk
  glob:=rfl
  blt:=rfl
  above:=Q1 _
  inj:=λx y c h1 h2=>I.ok.inj x y c (look x c h1) (look y c h2)
  has:=λx h=>by
   have h':sc.names.lookup x=some .cell\/sc.names.lookup x=some .free:=h
   rcases h' with q|q
   · exact absurd rfl (hcell _ (PySem.mem_of_lookup q))
   · obtain⟨c,hc⟩:=kj (env:=X.env) (acc:=[]) (.inl (PySem.mem_of_lookup q));exact fj hc
  cab:=λx c h=>by cases h
  hd:=λ_=>hh
  frames:=Around.frames_deeper I.ok.frames
  stk:=.inr ⟨rfl,rfl⟩
  exf:=λb z=>absurd z (noA b)
  bs:=I.bs
  bsz:=Q7 I.ok.bsz I.sz
  noex:=λb _ _=>noA b
  exfs:=λb z=>absurd z (noA b)
  funs:=I.stack
  frf:=I.stkFree}
theorem Gr {qual:Str}{sc:Scope}{params:Arguments}{body:Expr}{f c':Addr}{pm ctv u:Value}{v:V}{te:TE}{Q:VK}{p:Str}{fr:List (Str×Nat)}{E:Value->Shared->Prop}
 (I:Inv X pins σ H s) (hh:X.A.handled=none) (hk:sc.kind=.function) (hco:sc.isCoroutine=false) (hgen:sc.isGenerator=false) (hcell:∀y∈sc.names,y.2≠ .cell)
 (hfree:∀y∈sc.names,y.2=.free->X.env.kindOf y.1=some .cell\/X.env.kindOf y.1=some .free) (hp:sc.names.lookup p=some .local) (hfr:∀q∈fr,X.N[q.2]? =some q.1/\sc.names.lookup q.1=some .free)
 (ho:s.heap.get? f=some (kla_obj "<lambda>" qual params body sc (dD X.env sc.names []) pm c' ctv)) (hcd:s.heap.CodeRec (.ref c') qual)
 (hb:bindArgs (kla_fn "<lambda>" qual params body sc (dD X.env sc.names []) pm (.ref c') ctv) ⟨[u],[]⟩=pure [(p,u)]) (ru:RelV v u) (hd:X.A.in1.depth < recursionLimit)
 (he:PE (rK X (p::fr.map (·.1)) qual sc f (.ref c') (dD X.env sc.names []) s H) body te) (h:te (some v::fr.map λq=>(σ[q.2]?).join) H Q):
 wpAny (model X.prog X.w) X.A.in1 (call (.ref f) [u]) (EP X pins σ Q) E s:=by
 have hcl:∀y∈sc.names,y.2=.free->∃c,X.env.cells.lookup y.1=some c:=λy hy e=>I.ok.has _ (hfree y hy e);have look:∀x c,(dD X.env sc.names []).lookup x=some c->X.env.cells.lookup x=some c:=λx c e=>by
  rcases j4 hcl (PySem.mem_of_lookup e)with q|q
  · simp at q
  · exact q
 refine wpAny_call (kla_callFunE hd ho rfl hco hgen rfl hcd ?_);rw [hb];refine wP (wpAny_newFunctionEnv hcell (λy hy=>?_) (λh₁ hns hsb=>⟨I.nolimit.fresh _ hsb,?_⟩) hk)
 · have e:y=(p,u):=by simpa using hy
   rw [e];exact hp
 show codeAny _ _ (.expr body (envX qual sc s.heap.objs.size f (.ref c') (dD X.env sc.names []))) _ _;have old:∀b o,s.heap.get? b=some o->h₁.get? b=some o:=λb o e=>hsb.extBut b o (lO (fS e)) (gH _ e);have cellK:∀{c v},s.heap.IsCell c v->h₁.IsCell c v:=λ{c v} q=>by
  obtain⟨o,ho,r⟩:=q;exact⟨o,old _ _ ho,r⟩
 have J:Inv (rK X (p::fr.map (·.1)) qual sc f (.ref c') (dD X.env sc.names []) s H) [] (some v::fr.map λq=>(σ[q.2]?).join) H {s with heap:=h₁,toks:=s.toks+1}:=by
  refine⟨ME I hh hk hcell hfree,rfl,I.bare,Un.kept old,⟨_,hns,λi x v' h1 h2 h3=>?_⟩,λx c e=>?_,I.hok.fresh (Q1 _),λx c e=>I.freeC x c (look x c e),λq hq=>absurd (show q∈([]:List (Addr×Obj))from hq) (by simp),I.hok.kept old,?_⟩
  · cases i with
    |zero=>
     have e1:p=x:=by simpa [rK]using h1
     have e2:v=v':=by simpa using h2
     subst e1 e2;exact⟨u,ru,.inl ⟨hp,by simp⟩⟩
    |succ i=>
     have h1':(fr.map (·.1))[i]? =some x:=by simpa [rK]using h1
     have h2':(fr.map λq=>(σ[q.2]?).join)[i]? =some (some v'):=by simpa using h2
     rw [zK]at h1' h2';obtain⟨q,e1,e2⟩:=Q0.mp h1';rw [e1]at h2';subst e2;have h3':(σ[q.2]?).join=some v':=zV h2';have hσ:σ[q.2]? =some (some v'):=by
      cases z:σ[q.2]? with
      |none=>rw [z]at h3';cases h3'
      |some y=>rw [z]at h3';exact congrArg some h3'
     obtain⟨hN,hl⟩:=hfr q (Ik e1);obtain⟨m0,_,q0⟩:=I.loc;have kk:=hfree (q.1,.free) (PySem.mem_of_lookup hl) rfl;obtain⟨u',ru',lk⟩:=q0 q.2 q.1 v' hN hσ (.inr kk);refine⟨u',ru',.inr ⟨.inr hl,?_⟩⟩
     rcases lk with⟨k1,_⟩|⟨_,c,e3,e4⟩
     · rcases kk with kk|kk
       · have kk':X.env.kindOf q.1=some .cell:=kk;rw [k1]at kk';cases kk'
       · have kk':X.env.kindOf q.1=some .free:=kk;rw [k1]at kk';cases kk'
     · obtain⟨d,hd⟩:=kj (env:=X.env) (acc:=[]) (.inl (PySem.mem_of_lookup hl));obtain⟨d',hd'⟩:=fj hd;have e5:=look _ _ hd';rw [e3]at e5;cases e5;exact⟨c,hd',cellK e4⟩
  · obtain⟨w',hw⟩:=I.cell x c (look x c e);exact⟨w',cellK hw⟩
  · show(some v::fr.map λq=>(σ[q.2]?).join).length=(p::fr.map (·.1)).length
    simp
 refine kla_codeExpr (wpAny_mono (he [] _ _ H Q J h) (λv' s' h'=>?_) λ_ _ z=>z.elim);obtain⟨v2,H2,J2,r2,q2⟩:=h';exact I.after ⟨v2,H2,J2.os,J2.bare,J2.base,J2.hok,r2,q2⟩
structure BMd (X:Cx):Prop where
 ex:∃(bm:Addr) (o:Obj),X.mg "__builtins__"=some (.ref bm)/\bm≠builtinsNs/\bm≠mainGlobals/\X.base.get? bm=some o/\o.cls=.type "module"/\o.dict=some builtinsNs/\o.data=.plain
theorem Gs {P c:Addr}{params:Arguments}{body:Expr}{sc:Scope}{pos:Pos}{qual:Str}{Q:Value->Shared->Prop}{E:Value->Shared->Prop}(I:Inv X pins σ H s)
 (hP:H P=some (.tbl #[rawInt pos.line,rawInt pos.col,.str qual 0])) (hC:codeHdIn X.K c P=true) (hcode:X.env.code=.ref c) (hq:X.env.qual++ "<lambda>"=qual)
 (hfree:∀y∈sc.names,y.2=.free->X.env.kindOf y.1=some .cell\/X.env.kindOf y.1=some .free) (hdef:defaultsOf params X.env=([],[])) (Bm:BMd X)
 (h : ∀ f c' pm ctv h' tk H', Inv X pins σ H' { s with heap := h', toks := tk } -> H' f = some (.frz (kla_obj "<lambda>" qual params body sc (dD X.env sc.names []) pm c' ctv) (.own f)) ->
  (∃o u vs t,H' c'=some (.frz o u)/\o.data=.fields vs/\vs[1]? =some (.str qual t))->Same H H'->Q (.ref f) {s with heap:=h',toks:=tk}):
 wpAny (model X.prog X.w) X.A (eval (.Lambda params body sc pos) X.env) Q E s:=by
 have hcl:∀y∈sc.names,y.2=.free->∃c,X.env.cells.lookup y.1=some c:=λy hy e=>I.ok.has _ (hfree y hy e);obtain⟨bm,ob,b1,b2,b3,b4,b5⟩:=Bm.ex;have nP:∀b o,X.base.get? b=some o->b≠P:=λb o e z=>by
  have:=(I.bs b o e).2;rw [z,hP]at this;cases this
 have hg0:=I.ok.mod.glob;have hgP:mainGlobals≠P:=by
  obtain⟨o,es,ep,e,_⟩:=id hg0;exact nP _ _ e
 have hgs:s.heap.Ns mainGlobals X.mg:=hg0.keeps I.bk;have hbb:s.heap.BuiltinsAt X.mg P:=⟨bm,ob,b1,b2,b3,nP _ _ b4,I.bk _ _ b4,b5⟩;have C:=codeHd_of_K I.kIn hC;refine kla_eval hdef ?_;rw [hq];have hLP:X.env.locals≠P:=λz=>by
  have:=I.free;rw [z,hP]at this;cases this
 rcases(show ObjOk X.prog X.w H s.heap P (.tbl _)from I.hok P _ hP)with e0|⟨c',oc,u,l,cc,q0,t0,t2,vs,e1,e2,e3,e4,e5⟩
 · refine kla_makeFunction (mg:=X.mg) (ii hcl) I.ok.glob hgs hcode C e0 (by simp [TriplesOk]) rfl hgP hbb λc' ctv h' tk hx hge hlt hrec htb=>?_
   obtain⟨c2,oc,vs,t,ec,hoc,hd,hv⟩:=hrec;cases ec;generalize hfo:kla_obj "<lambda>" qual params body sc (dD X.env sc.names []) ((X.mg "__name__").getD .none) c' ctv=fo;have Hc:H c'=none:=I.hok.fresh hge;have Hf:H h'.objs.size=none:=I.hok.fresh (An (Il hge hlt));have ncf:c'≠h'.objs.size:=lO hlt;have old:∀b o,b≠P->s.heap.get? b=some o->(h'.push fo).get? b=some o:=λb o nb e=>gH _ (hx b o nb e);have lt1:∀b o,s.heap.get? b=some o->b≠c'/\b≠h'.objs.size:=λb o e=>⟨lO (lx (fS e) hge),lO (lx (fS e) (An (Il hge hlt)))⟩;have up:∀b o,H b=some o->bv (bv H c' (.frz oc (.own c'))) h'.objs.size (.frz fo (.own h'.objs.size)) b=some o:=λb o e=>by
    rw [aN (aQ e Hf),aN (aQ e Hc)];exact e
   have gf:(h'.push fo).get? h'.objs.size=some fo:=jS _ (by rw [<-hfo];rfl)
   have gc:(h'.push fo).get? c'=some oc:=gH _ hoc;have uc:bv (bv H c' (.frz oc (.own c'))) h'.objs.size (.frz fo (.own h'.objs.size)) c'=some (.frz oc (.own c')):=by rw [aN ncf,aS]
   refine h _ c' ((X.mg "__name__").getD .none) ctv _ tk (bv (bv H c' (.frz oc (.own c'))) h'.objs.size (.frz fo (.own h'.objs.size))) ?_ (by rw [aS,hfo]) ⟨oc,_,vs,t,uc,hd,hv⟩ up
   refine I.step (g':=s.gens) (d':=s.drawn) (ch:=[]) (λ_ z=>nomatch z) (λb o _ _ _ e n=>old b o (λz=>by rw [z,hP]at n;cases n) e) (λb o _ _ _ e n=>⟨o.slots,old b o (λz=>by rw [z,hP]at n;cases n) e⟩)
    (λb o _ e n=>by rw [aN (lt1 b o e).2,aN (lt1 b o e).1];exact n) (λb o _ e=>?_) (λb xs e=>up b _ e) (λb o u e=>up b _ e) (λb ps e=>⟨#[],by rw [up b _ e];simp⟩)
    (λm hm=>(hm.extBut hx hLP).push _) (λb u e=>?_) I.bare
   · by_cases nb:b=P
     · subst nb;exact⟨_,gH _ htb⟩
     · exact⟨o,old b o nb e⟩
   · by_cases hbf:b=h'.objs.size
     · subst hbf;rw [aS]at e;cases e;exact⟨gf,_,gf⟩
     · rw [aN hbf]at e
       by_cases hbc:b=c'
       · subst hbc;rw [aS]at e;cases e;exact⟨gc,_,gc⟩
       · rw [aN hbc]at e
         by_cases nb:b=P
         · subst nb;rw [hP]at e;cases e;exact Or.inr ⟨c',oc,_,_,_,_,_,_,vs,rfl,by simpa using gH _ htb,uc,hd,hv⟩
         · refine(I.hok b u e).stay (λd v hd q=>old d v (λz=>?_) q) (λd q=>up d _ q) (λd xs q=>up d _ q) λd ob xs q=>up d _ q
           rcases hd with z2|z2
           · exact nb (z2.symm.trans z)
           · rw [z,hP]at z2;cases z2
 · have e1':=(Array.mk.inj e1);simp only [List.cons.injEq,Value.str.injEq,and_true]at e1';obtain⟨rfl,rfl,rfl,_⟩:=e1';refine kla_makeFunctionHit (mg:=X.mg) (cv:=.ref c') (ii hcl) I.ok.glob hgs hcode C e2 (by simp [TriplesOk,rawInt]) (by simp [codeAmong,rawInt]) hbb λctv h' tk hk hsz=>?_
   show Q (.ref h'.objs.size) {s with heap:=h'.push (kla_obj "<lambda>" qual params body sc (dD X.env sc.names []) ((X.mg "__name__").getD .none) c' ctv),toks:=tk}
   generalize hfo:kla_obj "<lambda>" qual params body sc (dD X.env sc.names []) ((X.mg "__name__").getD .none) c' ctv=fo;have Hf:H h'.objs.size=none:=I.hok.fresh hsz;have gf:(h'.push fo).get? h'.objs.size=some fo:=jS _ (by rw [<-hfo];rfl)
   refine h _ c' ((X.mg "__name__").getD .none) ctv (h'.push fo) tk (bv H h'.objs.size (.frz fo (.own h'.objs.size))) (I.laid (λb o e=>gH _ (hk b o e)) hsz ⟨gf,_,gf⟩) (by rw [aS,hfo]) ⟨oc,u,vs,t2,by rw [aN (aQ e3 Hf)];exact e3,e4,e5⟩ λb o e=>?_
   rw [aN (aQ e Hf)];exact e
end
end L2
namespace DL
open PySem PySem.Spec PyProof.Rows L2 PySem.W
section
variable {K:Fg}
def NF(K:Fg)(f:aT->Option PyData):TE:=λσ H Q=>∃H0 F0 F δ d,Rep K H0 F0 F σ H δ/\f δ=some d/\∀v H' F',Grow F H F' H'->Is K F' v d->Q v H'
theorem MF {f:aT->Option PyData}:SE K (NF K f) f:=λH0 F0 F σ H δ d Q R e k=>⟨H0,F0,F,δ,d,R,e,k⟩
end
noncomputable def Gu(fk:PyData->Option PyData):List PyData->Option (List PyData)
 |[]=>some []
 |d::r=>(fk d).bind λk=>(Gu fk r).bind λks=>some (k::ks)
theorem zh {fk:PyData->Option PyData}:∀{ds ks:List PyData},Gu fk ds=some ks->ks.length=ds.length/\∀(i:Nat) (d:PyData),ds[i]? =some d->∃k,fk d=some k/\ks[i]? =some k
 |[],ks,h=>by cases h;exact⟨rfl,λi d e=>by simp at e⟩
 |d::r,ks,h=>by
  obtain⟨k,e1,h⟩:=bind_some h;obtain⟨ks',e2,h⟩:=bind_some h;cases h;obtain⟨l,q⟩:=zh e2;refine⟨by rw [zC,zC,l],λi d' e=>?_⟩
  cases i with
  |zero=>simp at e;subst e;exact⟨k,e1,rfl⟩
  |succ i=>exact q i d' (by simpa using e)
noncomputable def B5(ks:List PyData)(i j:Nat):Bool:=(L2.nn (ks.getD i .none) (ks.getD j .none)).getD false
noncomputable def Gv(fk:PyData->Option PyData)(ds:List PyData):Option PyData:=(Gu fk ds).bind λks=>
 if(!ds.isEmpty&&ks.all qL&&ks.all (λa=>ks.all λb=>(L2.nn a b).isSome))=true then ds[lP (B5 ks) (ds.length - 1)]? else none
section
variable {X:Cx} {pins:List (Addr×Obj)} {σ:St} {S I l f:Addr} {xs:List V} {ds ks:List PyData} {Fa Ha:Hp} {R:Result->Shared->Prop}
theorem Jo {F H:Hp}{s:Shared}{i j:Nat}{x y:V}{u v:Value}(hu:X.A.units+64 < cLine)(hok:∀d∈ks,qL d=true)(hcmp:∀a∈ks,∀b∈ks,(L2.nn a b).isSome=true)(hi:i < ks.length)(hj:j < ks.length)
 (J:Inv X pins σ H s) (sF:Same F H) (ix:Is X.K F x (ks.getD i .none)) (iy:Is X.K F y (ks.getD j .none)) (rx:RelV x u) (ry:RelV y v):Dn X.A.in1 s u v (B5 ks i j):=by
 have mx:ks.getD i .none∈ks:=by rw [iI,cY hi];exact Qc hi
 have my:ks.getD j .none∈ks:=by rw [iI,cY hj];exact Qc hj
 have cx:=dH (hok _ mx);have cy:=dH (hok _ my);obtain⟨as,ra⟩:=(Fy _ cx.1 (ix.same sF)).reads J _ rx;obtain⟨bs,rb⟩:=(Fy _ cy.1 (iy.same sF)).reads J _ ry;obtain⟨b,hb⟩:=Option.isSome_iff_exists.mp (hcmp _ mx _ my);unfold B5;rw [hb];exact lY _ _ X.A.in1 s u v as bs b ra rb cx.1 cy.1 (by have:=cx.2;show X.A.units+1+_ < cLine;omega) hb
def Turn(X:Cx)(σ:St)(f:Addr)(xs:List V)(ks:List PyData)(Fa Ha:Hp):Prop:=∀(i:Nat) (x:V),xs[i]? =some x->∀(pins':List (Addr×Obj)) (F H:Hp) (s:Shared) (u:Value),Inv X pins' σ H s->Grow Fa Ha F H->RelV x u->
 wpAny (model X.prog X.w) X.A.in1 (call (.ref f) [u]) (λr s'=>∃v H' F',Inv X pins' σ H' s'/\RelV v r/\Grow F H F' H'/\Is X.K F' v (ks.getD i .none)) (λ_ _=>False) s
theorem Gw(hcm:X.calm=true)(hu:X.A.units+64 < cLine)(hFl:Fa l=some (.lst xs))(hHS:Ha S=none)(hSI:S≠I)(hlen:ks.length=xs.length)(turn:Turn X σ f xs ks Fa Ha)
 (hok:∀d∈ks,qL d=true) (hcmp:∀a∈ks,∀b∈ks,(L2.nn a b).isSome=true)
 (hR:∀(v:V) (u:Value) (F' H':Hp) (s':Shared),xs[lP (B5 ks) (xs.length - 1)]? =some v->RelV v u->Inv X pins σ H' s'->Grow Fa Ha F' H'->R (.ok (.ret u)) s'):
 ∀(r j:Nat) (F H:Hp) (s:Shared) (vb kb:V),xs.length - (j+1)=r->j+1<=xs.length->Inv X pins σ H s->Grow Fa Ha F H->F S=none->H S=some (.lst [vb,kb])->xs[lP (B5 ks) j]? =some vb->Is X.K F kb (ks.getD (lP (B5 ks) j) .none)->
  mP X pins H I->s.heap.IsListIter I l (j+1)->codeAny (model X.prog X.w) X.A (.builtin "min.loop" ⟨[.ref I,.ref f,.ref S],[]⟩) R s:=by
 have hname:(toString "min"++toString ".loop":String)="min.loop":=by decide
 intro r
 induction r with
 |zero=>
  intro j F H s vb kb hr hj J G hFS hS hvb ikb hI hit;have hin:j+1=xs.length:=by omega
  have hl:=G.s _ _ (G.f _ _ hFl);have hlI:l≠I:=λz=>by rw [z,hI.1]at hl;cases hl
  obtain⟨zl,its,n,rl,ll,el⟩:=J.lstM hl;obtain⟨zS,itS,nS,rS,lS,eS⟩:=J.lstM hS;obtain⟨u1,u2,rfl,r1,r2⟩:=rS.two;have W:=Walks.list (prog:=X.prog) (w:=X.w) (A:=X.A.in1) (J.ok.hd hcm) I l hlI its.toArray;have hsz:its.toArray.size=its.length:=zM ..;refine codeAny_builtin PySem.F.entry_min_loop ?_;rw [Around.under_plainId PySem.F.plain_min_loop _];show wpAny _ X.A.in1 (seqItems? (.ref S) >>=_) _ _ _;refine wB (wpAny_seqItems eS rfl ?_);show wpAny _ X.A.in1 (tryCatch (pyNext (.ref I)) _ >>=_) _ _ _;refine wB (wpAny_tryCatch (W.done _ _ _ ⟨by rw [hsz, <-ll, <-hin];exact hit,⟨_,el,rfl,_,rfl⟩⟩ λh' tk' hk'=>?_))
  have J1:Inv X pins σ H {s with heap:=h',toks:=tk'}:=J.turned (it:=I) (λb o hb e=>hk' b o (by simpa using hb) e) hI.1 hI.2.1 hI.2.2.2.1 hI.2.2.2.2.1 hI.2.2.2.2.2
  have eS1:h'.get? S=some {cls:=.type "list",data:=.seq [u1,u2].toArray nS}:=hk' S _ (by simpa using hSI) eS
  show wpAny _ X.A.in1 (updateSeq S (λ_=> #[]) >>=_) _ _ _;refine wB ?_;refine wpAny_updateSeq eS1 rfl (wB (wpAny_letGo (wP ?_)));have J2:=J1.lset (l:=S) (ys:=[]) (its':=[]) (f:=λ_=> #[]) (t':=tk') hS eS1 rfl .nil (zU _);exact hR vb u1 F _ _ (by rw [<-hin];exact hvb) r1 J2 ⟨G.f,λb o e=>by rw [aN (aQ e hFS)];exact G.s b o e,λb o e=>by rw [aN (aQ e hHS)];exact G.h b o e,G.o⟩
 |succ r ih=>
  intro j F H s vb kb hr hj J G hFS hS hvb ikb hI hit;have hlt:j+1 < xs.length:=by omega
  have hl:=G.s _ _ (G.f _ _ hFl);have hlI:l≠I:=λz=>by rw [z,hI.1]at hl;cases hl
  obtain⟨zl,its,n,rl,ll,el⟩:=J.lstM hl;obtain⟨zS,itS,nS,rS,lS,eS⟩:=J.lstM hS;have W:=Walks.list (prog:=X.prog) (w:=X.w) (A:=X.A.in1) (J.ok.hd hcm) I l hlI its.toArray;have hsz:its.toArray.size=its.length:=zM ..;obtain⟨u1,u2,rfl,r1,r2⟩:=rS.two;refine codeAny_builtin PySem.F.entry_min_loop ?_;rw [Around.under_plainId PySem.F.plain_min_loop _];show wpAny _ X.A.in1 (seqItems? (.ref S) >>=_) _ _ _;refine wB (wpAny_seqItems eS rfl ?_);show wpAny _ X.A.in1 (tryCatch (pyNext (.ref I)) _ >>=_) _ _ _;refine wB (wpAny_tryCatch (W.item (j+1) _ _ _ (by rw [hsz, <-ll];exact hlt) ⟨hit,⟨_,el,rfl,_,rfl⟩⟩ λu h' tk' hP hst' hk'=>?_))
  have hv:its[j+1]? =some u:=by simpa using hP
  obtain⟨x,hx,rx⟩:=pK rl hv;have J1:Inv X pins σ H {s with heap:=h',toks:=tk'}:=J.turned (it:=I) (λb o hb e=>hk' b o (by simpa using hb) e) hI.1 hI.2.1 hI.2.2.2.1 hI.2.2.2.2.1 hI.2.2.2.2.2
  obtain⟨oI,hoI,hoc,hod⟩:=id hst'.1;have JP:=J1.pinned (fp:=[I]) (λb hb=>by rw [Qf.mp hb];exact hI) (λb hb=>by rw [Qf.mp hb];exact⟨oI,hoI,λv z=>by rw [hod]at z;cases z⟩)
  show wpAny _ X.A.in1 (tryCatch (holding [u] (call (.ref f) [u])) _ >>=_) _ _ _;refine wB (wpAny_tryCatch (wpAny_holding (wpAny_mono (turn (j+1) x hx _ F H _ u JP G rx) (λkv s2 he=>?_) λ_ _ hF=>hF.elim)));obtain⟨kx,H2,F2,J2P,rk,g2,ik⟩:=he;have J2:=J2P.unpinned;obtain⟨hoI2,HI2,_⟩:=J2P.pin (I,oI) (yI _ (yI _ (iN (Qf.mpr rfl) hoI)));have hI2:mP X pins H2 I:=⟨HI2,hI.2⟩;have hS2:=g2.h _ _ hS;have hFS2:F2 S=none:=g2.o _ _ hS (λ_ z=>nomatch z) hFS;have G2:=G.trans g2;obtain⟨zS2,itS2,nS2,rS2,lS2,eS2⟩:=J2.lstM hS2;have bnd:lP (B5 ks) j<=j:=tS _ j;have cm:=Jo (i:=j+1) (j:=lP (B5 ks) j) hu hok hcmp (by omega) (by omega) J2 g2.s ik (ikb.same g2.f) rk r2
  show wpAny _ X.A.in1 (tryCatch (holding [u,kv] (richCompare .Lt kv u2 >>=_)) _ >>=_) _ _ _;refine wB (wpAny_tryCatch (wpAny_holding (wB (cm _ _ _ _ ?_))));refine wB (wpAny_holding (wpAny_truthy_bool ?_));refine wB (wpAny_letGo (wP ?_))
  by_cases c:B5 ks (j+1) (lP (B5 ks) j)=true
  · rw [c];simp only [if_true];refine wB ?_;refine wpAny_updateSeq eS2 rfl (wB (wpAny_letGo ?_));rw [hname];have J3:=J2.lset (l:=S) (ys:=[x,kx]) (its':=[u,kv]) (f:=λ_=> #[u,kv]) (t':=s2.toks) hS2 eS2 rfl (.cons rx (.cons rk .nil)) (jy (show 2<=1000 by decide))
    refine wP ⟨plainId_quiet PySem.F.plain_min_loop _,ih (j+1) F2 _ _ x kx (by omega) hlt J3 ⟨G2.f,λb o e=>by rw [aN (aQ e hFS2)];exact G2.s b o e,λb o e=>by rw [aN (aQ e hHS)];exact G2.h b o e,G2.o⟩ hFS2 aS (by rw [lP,if_pos c];exact hx) (by rw [lP,if_pos c];exact ik) ⟨by rw [aN hSI.symm];exact hI2.1,hI2.2⟩ ⟨oI,?_,hoc,hod⟩⟩
    exact(CC s2.heap _ hSI).trans hoI2
  · have c':B5 ks (j+1) (lP (B5 ks) j)=false:=by simpa using c
    rw [c'];simp only [zN,if_false];refine wB (wpAny_letGo ?_);rw [hname];exact wP ⟨plainId_quiet PySem.F.plain_min_loop _,ih (j+1) F2 H2 _ vb kb (by omega) hlt J2 G2 hFS2 hS2 (by rw [lP,if_neg c];exact hvb) (by rw [lP,if_neg c];exact ikb.same g2.f) hI2 ⟨oI,hoI2,hoc,hod⟩⟩
end
noncomputable def Nw:List (Str×Nat)->aT->Option (List PyData)
 |[],_=>some []
 |q::r,δ=>(aB q.2 δ).bind λd=>(Nw r δ).bind λds=>some (d::ds)
noncomputable def Ce(fa:aT->Option PyData)(fr:List (Str×Nat))(fk:aT->Option PyData)(δ:aT):Option PyData:=(fa δ).bind λd=>match d with
 | .list ds=>(Nw fr δ).bind λes=>Gv (λx=>fk (gu (fr.length+1) (x::es))) ds
 |_=>none
theorem zi {K:Fg}{H0 F0 F H:Hp}{σ:St}{δ:aT}(R:Rep K H0 F0 F σ H δ):∀{fr:List (Str×Nat)} {es:List PyData},Nw fr δ=some es->∃evs:List V,(fr.map λq=>(σ[q.2]?).join)=evs.map some/\Are K F evs es/\es.length=fr.length
 |[],es,h=>by cases h;exact⟨[],rfl,rfl,rfl⟩
 |q::r,es,h=>by
  obtain⟨d,e1,h⟩:=bind_some h;obtain⟨ds,e2,h⟩:=bind_some h;cases h;obtain⟨evs,q1,q2,q3⟩:=zi R e2;unfold aB at e1;split at e1
  · rename_i d' z;cases e1;obtain⟨v,hv,is⟩:=R.fz _ _ z;refine⟨v::evs,?_,⟨v,evs,rfl,is,q2⟩,by rw [zC,zC,q3]⟩
    rw [zI,zI,q1,hv];rfl
  · cases e1
section
variable {X:Cx}
theorem Jp {arg body:Expr}{params:Arguments}{sc:Scope}{lpos kpos p1 pos:Pos}{ta te:TE}{fa fk:aT->Option PyData}{x qual:Str}{P c:Addr}{k:Nat}(pn:Str)(fr:List (Str×Nat))(hcm:X.calm=true)(hr:Room (k+2) X.A)
 (hg:Gl X x) (hm:X.mg x=none) (hv:bootBuiltins x=some (.builtin "min")) (ha:PE X arg ta) (sa:SE X.K ta fa)
 (tbl:Fe X.K P #[rawInt lpos.line,rawInt lpos.col,.str qual 0]) (hC:codeHdIn X.K c P=true) (hcode:X.env.code=.ref c) (hq:X.env.qual++ "<lambda>"=qual) (Bm:BMd X)
 (hk:sc.kind=.function) (hco:sc.isCoroutine=false) (hgen:sc.isGenerator=false) (hcell:∀y∈sc.names,y.2≠ .cell)
 (hfree:∀y∈sc.names,y.2=.free->X.env.kindOf y.1=some .cell\/X.env.kindOf y.1=some .free) (hp:sc.names.lookup pn=some .local) (hfr:∀q∈fr,X.N[q.2]? =some q.1/\sc.names.lookup q.1=some .free)
 (hdef:defaultsOf params X.env=([],[])) (hb:∀pm c' ctv u,bindArgs (kla_fn "<lambda>" qual params body sc (dD X.env sc.names []) pm (.ref c') ctv) ⟨[u],[]⟩=pure [(pn,u)])
 (he:∀f c' s H,Room k (rK X (pn::fr.map (·.1)) qual sc f (.ref c') (dD X.env sc.names []) s H).A->PE (rK X (pn::fr.map (·.1)) qual sc f (.ref c') (dD X.env sc.names []) s H) body te) (se:SE X.K te fk)
 (hn:x≠ "__name__":=by decide) (hdb:(x==("__debug__":Str))=false:=by decide)
 (hkn:(backToKw pos (keywordEach [⟨some "key",.Lambda params body sc lpos,kpos⟩] X.env)).filterMap (·.1)=[Str.ofString "key"]:=by rfl)
 (hea:backTo pos (starEach [arg] X.env)=(false,eval arg X.env)::backTo pos (starEach [] X.env):=by rfl) (hpl:(backTo pos (starEach [arg] X.env)).any (·.1)=false:=by rfl)
 (hst:starEach [arg] X.env=(false,eval arg X.env)::starEach [] X.env:=by rfl)
 (hall:(backToKw pos (keywordEach [⟨some "key",.Lambda params body sc lpos,kpos⟩] X.env)).all (·.1.isSome)=true:=by rfl) (hkw:(backToKw pos (keywordEach [⟨some "key",.Lambda params body sc lpos,kpos⟩] X.env)).any (·.1.isNone)=false:=by rfl):
 PE X (.Call (.Name x p1) [arg] [⟨some "key",.Lambda params body sc lpos,kpos⟩] pos) (NF X.K (Ce fa fr fk)):=by
 intro pins s σ H Q I hh;obtain⟨H0,F0,F,δ,d,R,e,kq⟩:=hh;obtain⟨d1,e1,e⟩:=bind_some e;split at e
 rotate_left
 · cases e
 rename_i ds;obtain⟨es,e2,e⟩:=bind_some e;obtain⟨ks,e3,e⟩:=bind_some e;split at e
 rotate_left
 · cases e
 rename_i cc;simp only [Q5,Q9,Bool.not_eq_true',List.isEmpty_eq_false_iff]at cc;obtain⟨⟨c1,c2⟩,c3⟩:=cc;obtain⟨kl,kg⟩:=zh e3;obtain⟨evs,v1,v2,v3⟩:=zi R e2;refine wpAny_Call_Name_kw (lQ I hg hm hv ?_ hn hdb);refine PyProof.Rows.callWith_kw (dN (aD ha aK hst pos pins s σ H (λvs H1=>∃v F1,vs=[v]/\Grow F H F1 H1/\Is X.K F1 v (.list ds)) I (sa H0 F0 F σ H δ _ _ R e1 λv H1 F1 g1 i1=>⟨v,F1,rfl,g1,i1⟩)) λus s1 h1=>?_) hea hpl hall hkw;obtain⟨vs,H1,I1,r1,v,F1,rfl,g1,i1⟩:=h1;obtain⟨l,xs,rfl,hFl,ar⟩:=i1;obtain⟨u,rfl,ru⟩:=rB r1;cases(show u=Value.ref l from ru)
 have tb1:Tb X.K F1:=R.tb.same g1.f;refine PyProof.Rows.kws_cons (Gs I1 (g1.s _ _ (tb1 _ _ tbl)) hC hcode hq hfree hdef Bm λf c' pm ctv h2 tk2 Ha I2 hf hc sm=>PyProof.Rows.kws_nil ?_);rw [hkn];show wpAny _ X.A (call (.builtin "min") [.ref l] [(Str.ofString "key",.ref f)]) _ _ _;have g2:Grow F1 H1 F1 Ha:=⟨Same.refl _,g1.s.trans sm,sm,λ_ _ _ _ n=>n⟩;have hlen:ks.length=xs.length:=by rw [kl,ar.length]
 have turn:Turn X σ f xs ks F1 Ha:=λi x hx pins' F' H' s' u J G ru=>by
  obtain⟨dx,ex,ix⟩:=ar.get' hx;obtain⟨kd,ek,ek2⟩:=kg i dx ex;have gk:ks.getD i .none=kd:=by rw [iI,ek2];rfl
  obtain⟨fo1,_⟩:=J.hok f _ (G.h _ _ hf);obtain⟨oc,uu,vs',t',hc1,hc2,hc3⟩:=hc;obtain⟨co1,_⟩:=J.hok c' _ (G.h _ _ hc1);have hrm:=hr.in1;refine wpAny_mono (Gr (v:=x) (te:=te) (E:=λ_ _=>False) (Q:=λv H2=>∃F2,Grow F' H' F2 H2/\Is X.K F2 v kd) J hr.hd hk hco hgen hcell hfree hp hfr fo1 ⟨c',oc,vs',t',rfl,co1,hc2,hc3⟩ (hb _ _ _ _) ru hrm.depth (he f c' s' H' (hrm.deeper _)) ?_) (λr s2 q=>?_) λ_ _ z=>z
  · have ar2:Are X.K F' (x::evs) (dx::es):=⟨x,evs,rfl,ix.same G.f,(v2.same g1.f).same G.f⟩;have RR:=ja (K:=X.K) (N:=pn::fr.map (·.1)) (F:=F') (H:=H') ⟨G.s,tb1.same G.f⟩ ar2
    have eσ:L2.eZ (pn::fr.map (·.1)) (x::evs)=some x::fr.map λq=>(σ[q.2]?).join:=by
     unfold L2.eZ;rw [v1];have:(pn::fr.map (·.1)).length - (x::evs).length=0:=by
      have:=v2.length;rw [zC,zC,zJ];omega
     rw [this]
     simp
    rw [eσ]at RR;refine se H' F' F' _ H' _ kd _ RR ?_ λv H2 F2 g i=>⟨F2,g,i⟩;rw [show(pn::fr.map (·.1)).length=fr.length+1 by simp]
    exact ek
  · obtain⟨v,H2,J2,rv,F2,gg,iv⟩:=q;exact⟨v,H2,F2,J2,rv,gg,by rw [gk];exact iv⟩
 have hname:(toString "min"++toString ".loop":String)="min.loop":=by decide
 have hl:=g2.s _ _ hFl;obtain⟨zl,its,n,rl,ll,el⟩:=I2.lstM hl;have pos:0 < xs.length:=by
  rw [ar.length];cases ds with
  |nil=>exact absurd rfl c1
  |cons _ _=>exact Nat.succ_pos _
 refine kmk_tree PySem.F.kind_min PySem.F.plain_min PySem.F.entry_min (kmk_min_key _ _) ?_;show wpAny _ X.A.in1 (Builtin.Builtins.bindParams "min" ["key","default"] 0 ⟨[],[(Str.ofString "key",.ref f)]⟩ >>=_) _ _ _;refine wB (wpAny_of_eq (show Builtin.Builtins.bindParams "min" ["key","default"] 0 ⟨[],[(Str.ofString "key",.ref f)]⟩=pure [some (.ref f),none]from rfl) ?_)
 refine wB (wP ?_);refine wB (wpAny_pyIter_list ⟨_,el,rfl,_,rfl⟩ ?_);refine wB (wpAny_newList ?_ (zU _));rw [hname];have hlt:l < h2.objs.size:=fS el;generalize hG:h2.push {cls:=.type "list_iterator",data:=.fields #[.ref l,.int 0 0]}=G1;have hS:G1.objs.size=h2.objs.size+1:=by rw [<-hG];exact size_push' ..
 have hSI:G1.objs.size≠h2.objs.size:=by rw [hS];exact vV (Ig _)
 have hlI:l≠h2.objs.size:=lO hlt;refine wP ⟨plainId_quiet PySem.F.plain_min_loop _,?_⟩;have J0:Inv X pins σ Ha {s1 with heap:=G1,toks:=tk2}:=I2.kept (t':=tk2) λb o e=>by rw [<-hG];exact gH _ e
 have HS0:Ha G1.objs.size=none:=J0.fresh;have FS0:F1 G1.objs.size=none:=g2.s.free HS0;have J1:=J0.lnew (ys:=[]) (its:=[]) (t':=tk2) .nil (zU _);have gI:(G1.push {cls:=.type "list",data:=.seq #[] 0}).get? h2.objs.size=some {cls:=.type "list_iterator",data:=.fields #[.ref l,.int 0 0]}:=gH _ (by rw [<-hG];exact jS _ rfl)
 have gS:(G1.push {cls:=.type "list",data:=.seq #[] 0}).get? G1.objs.size=some {cls:=.type "list",data:=.seq #[] 0}:=jS _ rfl;have fI:mP X pins (bv Ha G1.objs.size (.lst [])) h2.objs.size:=I2.fpOk (Q1 _) (by rw [aN hSI.symm];exact I2.fresh)
 have gSa:Grow F1 Ha F1 (bv Ha G1.objs.size (.lst [])):=⟨Same.refl _,g2.s.trans (bf HS0 _),bf HS0 _,λ_ _ _ _ n=>n⟩;have el1:(G1.push {cls:=.type "list",data:=.seq #[] 0}).get? l=some {cls:=.type "list",data:=.seq its.toArray n}:=gH _ (by rw [<-hG];exact gH _ el)
 have W:=Walks.list (prog:=X.prog) (w:=X.w) (A:=X.A.in1) hr.hd h2.objs.size l hlI its.toArray;have hsz:its.toArray.size=its.length:=zM ..;refine codeAny_builtin PySem.F.entry_min_loop ?_;rw [Around.under_plainId PySem.F.plain_min_loop _];show wpAny _ X.A.in1 (seqItems? (.ref _) >>=_) _ _ _;refine wB (wpAny_seqItems gS rfl ?_);show wpAny _ X.A.in1 (tryCatch (pyNext (.ref h2.objs.size)) _ >>=_) _ _ _;refine wB (wpAny_tryCatch (W.item 0 _ _ _ (by rw [hsz, <-ll];exact pos) ⟨⟨_,gI,rfl,rfl⟩,⟨_,el1,rfl,_,rfl⟩⟩ λu h' tk' hP hst' hk'=>?_))
 have hv:its[0]? =some u:=by simpa using hP
 obtain⟨x0,hx,rx⟩:=pK rl hv;have J2:=J1.turned (h':=h') (t':=tk') (it:=h2.objs.size) (λb o hb e=>hk' b o (by simpa using hb) e) fI.1 fI.2.1 fI.2.2.2.1 fI.2.2.2.2.1 fI.2.2.2.2.2
 obtain⟨oI,hoI,hoc,hod⟩:=id hst'.1;have JP:=J2.pinned (fp:=[h2.objs.size]) (λb hb=>by rw [Qf.mp hb];exact fI) (λb hb=>by rw [Qf.mp hb];exact⟨oI,hoI,λv z=>by rw [hod]at z;cases z⟩)
 show wpAny _ X.A.in1 (tryCatch (holding [u] (call (.ref f) [u])) _ >>=_) _ _ _;refine wB (wpAny_tryCatch (wpAny_holding (wpAny_mono (turn 0 x0 hx _ F1 _ _ u JP gSa rx) (λkv s3 he=>?_) λ_ _ hF=>hF.elim)));obtain⟨kx,H3,F3,J3P,rk,g3,ik⟩:=he;have J3:=J3P.unpinned;obtain⟨hoI3,HI3,_⟩:=J3P.pin (h2.objs.size,oI) (yI _ (yI _ (iN (Qf.mpr rfl) hoI)));have hS3:=g3.h _ _ (aS (H:=Ha) (a:=G1.objs.size) (o:=.lst []));have hFS3:F3 G1.objs.size=none:=g3.o _ _ aS (λ_ z=>nomatch z) FS0;obtain⟨zS3,itS3,nS3,rS3,lS3,eS3⟩:=J3.lstM hS3;show wpAny _ X.A.in1 (updateSeq G1.objs.size (λ_=> #[u,kv]) >>=_) _ _ _;refine wB ?_;refine wpAny_updateSeq eS3 rfl ?_;rw [hname];have J4:=J3.lset (ys:=[x0,kx]) (its':=[u,kv]) (f:=λ_=> #[u,kv]) (t':=s3.toks) hS3 eS3 rfl (.cons rx (.cons rk .nil)) (jy (show 2<=1000 by decide))
 have G3:=gSa.trans g3;refine wP ⟨plainId_quiet PySem.F.plain_min_loop _,Gw (S:=G1.objs.size) (I:=h2.objs.size) (Fa:=F1) (Ha:=Ha) hcm hr.units hFl HS0 hSI hlen turn c2 c3 (λv u' F' H' s' a1 a2 a3 a4=>?_) _ 0 F3 _ _ x0 kx rfl pos J4
  ⟨G3.f,λb o e=>by rw [aN (aQ e hFS3)];exact G3.s b o e,λb o e=>by rw [aN (aQ e HS0)];exact G3.h b o e,G3.o⟩ hFS3 aS hx ik ⟨by rw [aN hSI.symm];exact HI3,fI.2⟩ ⟨oI,?_,hoc,hod⟩⟩
 · obtain⟨v',b1,b2⟩:=ar.get e;rw [ar.length,b1]at a1;cases a1;exact⟨v,H',a3,a2,kq v H' F' (g1.trans (g2.trans a4)) (b2.same a4.f)⟩
 · exact(CC s3.heap _ hSI).trans hoI3
end
end DL
namespace L2
open PySem PySem.Spec PyProof.Rows PySem.W
section
variable {prog:Program} {w:World} {A:Around} {E:Value->Shared->Prop} {s:Shared} {d it r:Addr} {es:Array DictEntry} {ep:Nat}
theorem B6 {Q:Value->Shared->Prop}(nsm:(d==sysModules)=false)(x:Raw s.heap d es ep)(q:Q (.ref s.heap.objs.size) {s with heap:=s.heap.push {cls:=.type "dict_values",data:=.fields #[.ref d]}}):
 wpAny (model prog w) A (call (.builtin "dict.values") [.ref d]) Q E s:=by
 have ty:=x.ty;refine wpAny_call_entry F.slot_dict_values ty F.entry_dict_values ?_ (F.args_dict_values_1 _);refine wB ?_;unfold Builtin.Dict.noArgs;refine wB (wpAny_notOrdered_dict ty ?_);show wpAny _ _ (pure d) _ _ s;refine wP ?_;show wpAny _ _ (Builtin.Dict.showsAll d >>=_) _ _ s;unfold Builtin.Dict.showsAll;rw [if_neg (by rw [nsm];exact Q8)];refine wB (wP ?_)
 exact wB (wpAny_newObj_type (wP ⟨_,rfl,q⟩))
theorem Dp {Q:Value->Shared->Prop}(hv:s.heap.IsValuesView r d)(x:Raw s.heap d es ep)
 (q:Q (.ref s.heap.objs.size) {s with heap:=s.heap.push {cls:=.type "dict_valueiterator",data:=.fields #[.ref d,.int 0 0,.int es.size 0,.int ep 0]}}):wpAny (model prog w) A (pyIter (.ref r)) Q E s:=by
 obtain⟨ov,hov,hcv,hdv⟩:=id hv;obtain⟨ob,at_,ex,dat⟩:=x;refine wpAny_pyIter_slot hv.typeIs F.slot_dict_values_iter (wpAny_call_entry F.slot_dict_values_iter hv.typeIs F.entry_dict_values_iter ?_ (F.args_dict_values_iter_1 _));unfold Builtin.«dict_values.__iter__»;refine wB (wP ?_);refine wB ?_;unfold Builtin.Dict_items.dictOf;refine wB (wpAny_field hov hdv (x:=.ref d) rfl (wP ?_));refine wB ?_;unfold Builtin.Dict_items.newIterator;refine wB (wpAny_dictEntries at_ dat ?_);refine wB (wpAny_dictEpoch at_ dat ?_);simp only [show Builtin.Dict_items.ownsTuple "dict_valueiterator"=false by decide,zN,if_false]
 refine wpAny_newObj_type (wP ⟨_,rfl,"dict_valueiterator",_,⟨_,jS _ rfl,rfl⟩,F.slot_dict_valueiterator_next.lookup,?_⟩);simpa [rawInt]using q
theorem wD {i:Nat}{Q:Option Value->Shared->Prop}(ki:s.heap.IsValIter it d i es.size ep)(x:Raw s.heap d es ep)(hi:i < es.size)
 (q:∀h',h'.IsValIter it d (i+1) es.size ep->Heap.SameBut it s.heap h'->Q (some es[i].val) {s with heap:=h'}):wpAny (model prog w) A (pyNext (.ref it)) Q E s:=by
 obtain⟨oi,ati,ci,di⟩:=id ki;obtain⟨ob,at_,ex,dat⟩:=id x;unfold pyNext;refine wB (wpAny_attempt (wpAny_callSpecial?_slot (name:=Str.ofString "__next__") ki.typeIs F.slot_dict_valueiterator_next (wpAny_call_entry F.slot_dict_valueiterator_next ki.typeIs F.entry_dict_valueiterator_next ?_ (F.args_dict_valueiterator_next_1 _))));refine wB (wP (wB (wB ?_)))
 first|refine wB (wpAny_typeNameOfWhole_valiter ki.typeIs (wP ?_))|refine wB (wpAny_typeNameOf_valiter ki.typeIs (wP ?_))
 refine wB (wpAny_fieldsOf ati di ?_);simp only [show Builtin.Dict_items.ownsTuple "dict_valueiterator"=false by decide,zN,if_false]
 show wpAny _ _ (if(Value.ref d==Value.none)=true then _ else _) _ _ s;rw [if_neg (show ¬((Value.ref d==Value.none)=true)from Q8)];refine wB (wP (wB (wpAny_dictEntries at_ dat ?_)))
 rw [if_neg (by simp)];refine wB (wP (wB (wpAny_dictEpoch at_ dat ?_)))
 rw [if_neg (by simp)];refine wP ?_
 simp only [show ¬((i:Int) < 0)from by omega,if_false,yG,M8 hi];refine wB ?_
 first|refine wB (wpAny_typeNameOfWhole_valiter ki.typeIs (wP ?_))|refine wB (wpAny_typeNameOf_valiter ki.typeIs (wP ?_))
 refine wB (wpAny_isOneOf_valiter ki.typeIs ?_);show wpAny _ _ (setField (.ref it) 1 (rawInt ((i:Int)+1)) >>=_) _ _ s;refine wB (wpAny_setField ati di (by simp) ?_)
 have k2:(s.heap.update it (Obj.mapFields (·.setIfInBounds 1 (rawInt ((i:Int)+1))))).IsValIter it d (i+1) es.size ep:=
  ⟨_,K5 _ ati (Obj.isFreed_of_fields (Obj.data_mapFields di _)),(Obj.cls_mapFields ..).trans ci,by rw [Obj.data_mapFields di];simp [rawInt]⟩
 refine wB (wpAny_holding ?_);refine wB (wpAny_isOneOf_valiter (s:={s with heap:=s.heap.update it (Obj.mapFields (·.setIfInBounds 1 (rawInt ((i:Int)+1))))}) k2.typeIs ?_)
 refine wB (wpAny_isOneOf_valiter (s:={s with heap:=s.heap.update it (Obj.mapFields (·.setIfInBounds 1 (rawInt ((i:Int)+1))))}) k2.typeIs ?_);show wpAny _ _ (pure es[i].val) _ _ _
 exact wP (wP ⟨_,rfl,wP (q _ k2 (Heap.SameBut.update ..))⟩)
theorem Gx {i:Nat}{Q:Option Value->Shared->Prop}(hh:A.handled=none)(ki:s.heap.IsValIter it d i es.size ep)(x:Raw s.heap d es ep)(hi:es.size<=i)
 (q:∀h',Heap.ExtBut it s.heap h'->Q none {s with heap:=h'}):wpAny (model prog w) A (pyNext (.ref it)) Q E s:=by
 obtain⟨oi,ati,ci,di⟩:=id ki;obtain⟨ob,at_,ex,dat⟩:=id x;unfold pyNext;refine wB (wpAny_attempt (wpAny_callSpecial?_slot (name:=Str.ofString "__next__") ki.typeIs F.slot_dict_valueiterator_next (wpAny_call_entry F.slot_dict_valueiterator_next ki.typeIs F.entry_dict_valueiterator_next ?_ (F.args_dict_valueiterator_next_1 _))));refine wB (wP (wB (wB ?_)))
 first|refine wB (wpAny_typeNameOfWhole_valiter ki.typeIs (wP ?_))|refine wB (wpAny_typeNameOf_valiter ki.typeIs (wP ?_))
 refine wB (wpAny_fieldsOf ati di ?_);simp only [show Builtin.Dict_items.ownsTuple "dict_valueiterator"=false by decide,zN,if_false]
 show wpAny _ _ (if(Value.ref d==Value.none)=true then _ else _) _ _ s;rw [if_neg (show ¬((Value.ref d==Value.none)=true)from Q8)];refine wB (wP (wB (wpAny_dictEntries at_ dat ?_)))
 rw [if_neg (by simp)];refine wB (wP (wB (wpAny_dictEpoch at_ dat ?_)))
 rw [if_neg (by simp)];refine wP ?_
 simp only [show ¬((i:Int) < 0)from by omega,if_false,yG,Array.getElem?_eq_none hi];refine wB ?_
 first|refine wB (wpAny_typeNameOfWhole_valiter ki.typeIs (wP ?_))|refine wB (wpAny_typeNameOf_valiter ki.typeIs (wP ?_))
 show wpAny _ _ (setField (.ref it) 0 .none >>=_) _ _ s;refine wB (wpAny_setField ati di (by simp) ?_)
 show wpAny _ _ (newExc (.type "StopIteration") [] >>=_) _ _ _;refine wB ?_;simp only [newExc,newTuple];refine wB (wpAny_newObj_type ?_ (by size_fits))
 refine wB (m:=firstArgMember _ _) (wpAny_of_eq (a:=Value.none) (by first|rfl|(simp only [firstArgMember];rfl)) ?_);refine wpAny_newObj_type ?_ (by size_fits);simp only [raiseNew];refine wB (wpAny_handled ?_)
 rw [show A.in1.handled=none from hh];refine wB (wP (wpAny_throw (wB ?_)))
 refine wpAny_isInstance (T:="StopIteration") (b:=true) ⟨_,jS _ rfl,rfl⟩ isSubtype_stop ?_;exact wP (q _ (((Heap.SameBut.update ..).extBut.push _).push _))
end
noncomputable def Cf(ns:List Int):Nat->Int
 |0=>ns.getD 0 0
 |j+1=>if decide (ns.getD (j+1) 0 > Cf ns j)=true then ns.getD (j+1) 0 else Cf ns j
section
variable {X:Cx} {pins:List (Addr×Obj)} {σ:St} {S I d:Addr} {ns:List Int} {es:Array DictEntry} {ep:Nat} {H0:Hp} {R:Result->Shared->Prop}
theorem Ny(hcm:X.calm=true)(hSI:S≠I)(hdI:d≠I)(hdS:d≠S)(hlen:es.size=ns.length)(hes:∀(i:Nat) (h:i < es.size),∃t,es[i].val=.int (ns.getD i 0) t)
 (hR:∀(t:Tok) (H':Hp) (s':Shared),Inv X pins σ H' s'->(∀b,b≠S->H' b=H0 b)->R (.ok (.ret (.int (Cf ns (ns.length - 1)) t))) s'):
 ∀(r j:Nat) (H:Hp) (s:Shared),ns.length - (j+1)=r->j+1<=ns.length->Inv X pins σ H s->(∀b,b≠S->H b=H0 b)->H S=some (.lst [.int (Cf ns j),.int (Cf ns j)])->mP X pins H I->s.heap.IsValIter I d (j+1) es.size ep->Raw s.heap d es ep->
  codeAny (model X.prog X.w) X.A (.builtin "max.loop" ⟨[.ref I,.none,.ref S],[]⟩) R s:=by
 have hname:(toString "max"++toString ".loop":String)="max.loop":=by decide
 intro r
 induction r with
 |zero=>
  intro j H s hr hj J hb hS hI hit hraw;have hin:j+1=ns.length:=by omega
  obtain⟨zS,itS,nS,rS,lS,eS⟩:=J.lstM hS;obtain⟨u1,u2,rfl,⟨t1,rfl⟩,r2⟩:=rS.two;refine codeAny_builtin PySem.F.entry_max_loop ?_;rw [Around.under_plainId PySem.F.plain_max_loop _];show wpAny _ X.A.in1 (seqItems? (.ref S) >>=_) _ _ _;refine wB (wpAny_seqItems eS rfl ?_);show wpAny _ X.A.in1 (tryCatch (pyNext (.ref I)) _ >>=_) _ _ _;refine wB (wpAny_tryCatch (Gx (J.ok.hd hcm) hit hraw (by omega) λh' xb=>?_))
  have J1:Inv X pins σ H {s with heap:=h',toks:=s.toks}:=J.turned (it:=I) (λb o hb e=>xb b o hb e) hI.1 hI.2.1 hI.2.2.2.1 hI.2.2.2.2.1 hI.2.2.2.2.2
  have eS1:=xb S _ hSI eS;show wpAny _ X.A.in1 (updateSeq S (λ_=> #[]) >>=_) _ _ _;refine wB ?_;refine wpAny_updateSeq eS1 rfl (wB (wpAny_letGo (wP ?_)));have J2:=J1.lset (l:=S) (ys:=[]) (its':=[]) (f:=λ_=> #[]) (t':=s.toks) hS eS1 rfl .nil (zU _);rw [show j=ns.length - 1 by omega]
  exact hR t1 _ _ J2 λb n=>by rw [aN n];exact hb b n
 |succ r ih=>
  intro j H s hr hj J hb hS hI hit hraw;have hlt:j+1 < es.size:=by omega
  obtain⟨zS,itS,nS,rS,lS,eS⟩:=J.lstM hS;obtain⟨u1,u2,rfl,r1,⟨t2,rfl⟩⟩:=rS.two;refine codeAny_builtin PySem.F.entry_max_loop ?_;rw [Around.under_plainId PySem.F.plain_max_loop _];show wpAny _ X.A.in1 (seqItems? (.ref S) >>=_) _ _ _;refine wB (wpAny_seqItems eS rfl ?_);show wpAny _ X.A.in1 (tryCatch (pyNext (.ref I)) _ >>=_) _ _ _;refine wB (wpAny_tryCatch (wD hit hraw hlt λh' hit' sb=>?_));have J1:Inv X pins σ H {s with heap:=h',toks:=s.toks}:=J.turned (it:=I) (λb o hb e=>sb.extBut b o hb e) hI.1 hI.2.1 hI.2.2.2.1 hI.2.2.2.2.1 hI.2.2.2.2.2
  have eS1:=sb.extBut S _ hSI eS;have hraw':Raw h' d es ep:=hraw.stay λo e=>sb.extBut d o hdI e;obtain⟨tv,ev⟩:=hes (j+1) hlt;rw [ev];show wpAny _ X.A.in1 (pure (Value.int _ tv) >>=_) _ _ _;refine wB (wP ?_);show wpAny _ X.A.in1 (tryCatch (holding [.int _ tv,.int _ tv] (richCompare .Gt (.int _ tv) (.int _ t2) >>=_)) _ >>=_) _ _ _;refine wB (wpAny_tryCatch (wpAny_holding (wB ((PyProof.Rows.gt_int ?_ :wpAny (model X.prog X.w) X.A.in1 (compareOp .Gt (.int (ns.getD (j+1) 0) tv) (.int (Cf ns j) t2)) _ _ _)))));refine wB (wpAny_holding (wpAny_truthy_bool ?_));refine wB (wpAny_letGo (wP ?_))
  by_cases c:decide (ns.getD (j+1) 0 > Cf ns j)=true
  · rw [c];simp only [if_true];refine wB ?_;refine wpAny_updateSeq eS1 rfl (wB (wpAny_letGo ?_));rw [hname];have J2:=J1.lset (l:=S) (ys:=[.int (ns.getD (j+1) 0),.int (ns.getD (j+1) 0)]) (its':=[.int (ns.getD (j+1) 0) tv,.int (ns.getD (j+1) 0) tv]) (f:=λ_=> #[.int (ns.getD (j+1) 0) tv,.int (ns.getD (j+1) 0) tv]) (t':=s.toks) hS eS1 rfl (.cons ⟨tv,rfl⟩ (.cons ⟨tv,rfl⟩ .nil)) (jy (show 2<=1000 by decide))
    obtain⟨oI,hoI,hoc,hod⟩:=id hit';refine wP ⟨plainId_quiet PySem.F.plain_max_loop _,ih (j+1) _ _ (by omega) (by omega) J2 (λb n=>by rw [aN n];exact hb b n) (by rw [aS,Cf,if_pos c]) ⟨by rw [aN hSI.symm];exact hI.1,hI.2⟩ ⟨oI,?_,hoc,hod⟩ (hraw'.stay λo e=>?_)⟩
    · exact(CC h' _ hSI).trans hoI
    · exact(CC h' _ hdS.symm).trans e
  · have c':decide (ns.getD (j+1) 0 > Cf ns j)=false:=by simpa using c
    rw [c'];simp only [zN,if_false];refine wB (wpAny_letGo ?_);rw [hname];exact wP ⟨plainId_quiet PySem.F.plain_max_loop _,ih (j+1) H _ (by omega) (by omega) J1 hb (by rw [Cf,if_neg c];exact hS) hI hit' hraw'⟩
end
def M3(T:String)(p a:Addr):HO:=.ext λh=>h.get? p=some {cls:=.type T,data:=.fields #[.ref a]}
def Cg(T:String):V->List V->Hp->VK->Prop:=λx xs H Q=>xs=[]/\∃a kvs,x=.ref a/\H a=some (.dT kvs)/\∀p,H p=none->Q (.ref p) (bv H p (M3 T p a))
section
variable {X:Cx} {pins:List (Addr×Obj)} {σ:St} {H:Hp} {s:Shared}
theorem Inv.raw {a:Addr}{kvs:List (List bx×V)}(I:Inv X pins σ H s)(ha:H a=some (.dT kvs)):(a==sysModules)=false/\∃(ys:List (List bx×Addr×Value)) (es:Array DictEntry) (ep:Nat),Raw s.heap a es ep/\
 Paired (λ(p:List bx×V) (q:List bx×Addr×Value)=>p.1=q.1/\H q.2.1=some (.tup (p.1.map kV))/\RelV p.2 q.2.2) kvs ys/\es.toList=ys.map (entryOfKey (tupleKind (be X.prog X.w)))/\(ys.map (·.1)).Nodup/\kvs.length<=sizeLine:=by
 obtain⟨hlen,nsm,ys,rel,ob,es,ep,at_,ex,dat,hes,nd,_⟩:=(show ObjOk X.prog X.w H s.heap a (.dT kvs)from I.hok a _ ha)
 exact⟨nsm,ys,es,ep,⟨ob,at_,ex,dat⟩,rel,hes,nd,hlen⟩
theorem Dq:N3 X "dict.values" (Cg "dict_values"):=by
 intro pins s σ H x xs v us Q I rx rs h;obtain⟨rfl,a,kvs,rfl,ha,q⟩:=h;cases rs;cases(show v=Value.ref a from rx)
 obtain⟨nsm,ys,es,ep,raw,_⟩:=I.raw ha;refine B6 nsm raw ?_;have gf:(s.heap.push {cls:=.type "dict_values",data:=.fields #[.ref a]}).get? s.heap.objs.size=some {cls:=.type "dict_values",data:=.fields #[.ref a]}:=jS _ rfl;exact⟨.ref s.heap.objs.size,_,I.laid (t':=s.toks) (o:=M3 "dict_values" s.heap.objs.size a) (λb o e=>gH _ e) (Q1 _) ⟨gf,⟨_,gf⟩,λh1 h2 e k=>k _ e⟩,rfl,q _ I.fresh⟩
def Kx:List V->Hp->VK->Prop:=λas H Q=>∃(p a:Addr) (kvs:List (List bx×V)) (ns:List Int),as=[.ref p]/\H p=some (M3 "dict_values" p a)/\H a=some (.dT kvs)/\kvs.map (·.2)=ns.map V.int/\ns≠[]/\
 ∀H',Same H H'->Q (.int (Cf ns (ns.length - 1))) H'
theorem Dr(hcm:X.calm=true):hV X (.builtin "max") Kx:=by
 intro pins s σ H as us Q J rv h;obtain⟨p,a,kvs,ns,rfl,hp,ha,hkv,hne,q⟩:=h;obtain⟨u,rfl,ru⟩:=rB rv;cases(show u=Value.ref p from ru)
 have hname:(toString "max"++toString ".loop":String)="max.loop":=by decide
 obtain⟨nsm,ys,es,ep,raw,rel,hes,_⟩:=J.raw ha;obtain⟨gp,_⟩:=(show ObjOk X.prog X.w H s.heap p (.ext _)from J.hok p _ hp)
 have view:s.heap.IsValuesView p a:=⟨_,gp,rfl,rfl⟩;have kl:kvs.length=ns.length:=by rw [<-zJ (f:=λz:List bx×V=>z.2),hkv,zJ]
 have yl:kvs.length=ys.length:=Paired.length rel;have esz:es.size=ns.length:=by rw [<-wg,hes,zJ, <-yl,kl]
 have vE:∀(i:Nat) (h:i < es.size),∃t,es[i].val=.int (ns.getD i 0) t:=λi h=>by
  have hy:i < ys.length:=by omega
  have r:=(pH (x:=(([],V.non):List bx×V)) (y:=(([],0,Value.none):List bx×Addr×Value)) i rel (by omega)).2.2
  have e1:=congrArg (λl:List V=>l.getD i .non) hkv;have e2:=jb (λz:List bx×V=>z.2) kvs i ([],.non);have e3:(ns.map V.int).getD i .non=.int (ns.getD i 0):=by
   rw [iI,zK,cY (show i < ns.length by omega),iI,cY (show i < ns.length by omega)]
   rfl
  have e4:(kvs.getD i ([],.non)).2=.int (ns.getD i 0):=e2.symm.trans (e1.trans e3);rw [e4]at r;obtain⟨t,r⟩:=r;refine⟨t,?_⟩;have e5:es[i]? =some (entryOfKey (tupleKind (be X.prog X.w)) ys[i]):=by rw [<-Eg,hes,zK,cY hy];rfl
  rw [M8 h]at e5;rw [zV e5];rw [iI,cY hy]at r;exact r
 have pos:0 < ns.length:=by
  cases ns with
  |nil=>exact absurd rfl hne
  |cons _ _=>exact Nat.succ_pos _
 refine kmk_tree PySem.F.kind_max PySem.F.plain_max PySem.F.entry_max (Jn _) ?_;show wpAny _ X.A.in1 (Builtin.Builtins.bindParams "max" ["key","default"] 0 ⟨[],[]⟩ >>=_) _ _ s;refine wB (wpAny_of_eq (show Builtin.Builtins.bindParams "max" ["key","default"] 0 ⟨[],[]⟩=pure [none,none]from rfl) ?_)
 refine wB (wP ?_);refine wB (Dp view raw ?_);refine wB (wpAny_newList ?_ (zU _));rw [hname];generalize hG:s.heap.push {cls:=.type "dict_valueiterator",data:=.fields #[.ref a,.int 0 0,.int es.size 0,.int ep 0]}=G1;have hS:G1.objs.size=s.heap.objs.size+1:=by rw [<-hG];exact size_push' ..
 have hSI:G1.objs.size≠s.heap.objs.size:=by rw [hS];exact vV (Ig _)
 have haI:a≠s.heap.objs.size:=lO raw.lt;have haS:a≠G1.objs.size:=by rw [hS];exact lO (K6 raw.lt)
 refine wP ⟨plainId_quiet PySem.F.plain_max_loop _,?_⟩;have old:∀b o,s.heap.get? b=some o->G1.get? b=some o:=λb o e=>by rw [<-hG];exact gH _ e
 have J0:Inv X pins σ H {s with heap:=G1,toks:=s.toks}:=J.kept (t':=s.toks) old
 have HS0:H G1.objs.size=none:=J0.fresh;have J1:=J0.lnew (ys:=[]) (its:=[]) (t':=s.toks) .nil (zU _);have gI:(G1.push {cls:=.type "list",data:=.seq #[] 0}).IsValIter s.heap.objs.size a 0 es.size ep:=⟨_,gH _ (by rw [<-hG];exact jS _ rfl),rfl,rfl⟩
 have gS:(G1.push {cls:=.type "list",data:=.seq #[] 0}).get? G1.objs.size=some {cls:=.type "list",data:=.seq #[] 0}:=jS _ rfl;have fI:mP X pins (bv H G1.objs.size (.lst [])) s.heap.objs.size:=J.fpOk (Q1 _) (by rw [aN hSI.symm];exact J.fresh)
 have raw1:Raw (G1.push {cls:=.type "list",data:=.seq #[] 0}) a es ep:=raw.stay λo e=>gH _ (old _ _ e);refine codeAny_builtin PySem.F.entry_max_loop ?_;rw [Around.under_plainId PySem.F.plain_max_loop _];show wpAny _ X.A.in1 (seqItems? (.ref _) >>=_) _ _ _;refine wB (wpAny_seqItems gS rfl ?_);show wpAny _ X.A.in1 (tryCatch (pyNext (.ref s.heap.objs.size)) _ >>=_) _ _ _;refine wB (wpAny_tryCatch (wD gI raw1 (by omega) λh' hit' sb=>?_))
 obtain⟨tv,ev⟩:=vE 0 (by omega)
 rw [ev];have J2:=J1.turned (h':=h') (t':=s.toks) (it:=s.heap.objs.size) (λb o hb e=>sb.extBut b o hb e) fI.1 fI.2.1 fI.2.2.2.1 fI.2.2.2.2.1 fI.2.2.2.2.2;have eS1:=sb.extBut _ _ hSI gS;show wpAny _ X.A.in1 (pure (Value.int _ tv) >>=_) _ _ _;refine wB (wP ?_);show wpAny _ X.A.in1 (updateSeq G1.objs.size (λ_=> #[.int _ tv,.int _ tv]) >>=_) _ _ _;refine wB ?_;refine wpAny_updateSeq eS1 rfl ?_;rw [hname];have J3:=J2.lset (ys:=[.int (ns.getD 0 0),.int (ns.getD 0 0)]) (its:=[]) (its':=[.int (ns.getD 0 0) tv,.int (ns.getD 0 0) tv]) (f:=λ_=> #[.int (ns.getD 0 0) tv,.int (ns.getD 0 0) tv]) (t':=s.toks) aS eS1 rfl (.cons ⟨tv,rfl⟩ (.cons ⟨tv,rfl⟩ .nil)) (jy (show 2<=1000 by decide))
 obtain⟨oI,hoI,hoc,hod⟩:=id hit';refine wP ⟨plainId_quiet PySem.F.plain_max_loop _,Ny (S:=G1.objs.size) (I:=s.heap.objs.size) (H0:=H) hcm hSI haI haS esz vE (λt H' s' a1 a2=>?_) _ 0 _ _ rfl pos J3 (λb nb=>by rw [aN nb,aN nb]) aS ⟨by rw [aN hSI.symm];exact fI.1,fI.2⟩ ⟨oI,?_,hoc,hod⟩ ((raw1.stay λo e=>sb.extBut a o haI e).stay λo e=>?_)⟩
 · exact⟨.int (Cf ns (ns.length - 1)),H',a1,⟨t,rfl⟩,q H' λb o e=>by rw [a2 b (aQ e HS0)];exact e⟩
 · exact(CC h' _ hSI).trans hoI
 · exact(CC h' _ haS.symm).trans e
end
end L2
namespace DL
open PySem L2
noncomputable def jd:List (PyData×PyData)->Option (List Int)
 |[]=>some []
 |(_,.int n)::r=>(jd r).map (n:: ·)
 |_::_=>none
noncomputable def Gy:PyData->Option PyData
 | .dict kvs=>(jd kvs).bind λns=>if ns.isEmpty=true then none else some (.int (Cf ns (ns.length - 1)))
 |_=>none
noncomputable def Ch(fe:aT->Option PyData)(δ:aT):Option PyData:=(fe δ).bind Gy
theorem m8 {K:Fg}{F:Hp}:∀{kvs:List (PyData×PyData)} {m:List (List bx×V)} {ns:List Int},jd kvs=some ns->Kvs K F m kvs->m.map (·.2)=ns.map V.int
 |[],m,ns,h,k=>by cases h;rw [show m=[]from k];rfl
 |(k,d)::r,m,ns,h,kv=>by
  cases d with
  |int n=>
   obtain⟨ns',e1,rfl⟩:=Q0.mp (show(jd r).map (n:: ·)=some ns from h)
   obtain⟨q,m',rfl,h1,h2⟩:=kv;rw [zI,zI,m8 e1 h2,show q.2=V.int n from h1.2]
  |_=>cases h
section
variable {X:Cx} {K:Fg}
def Ky(K:Fg)(te:TE):TE:=FG Kx (bH (JH K "dict" (Cg "dict_values") te) dM)
theorem Jq {te:TE}{fe:aT->Option PyData}(a:SE K te fe):SE K (Ky K te) (Ch fe):=by
 intro H0 F0 F σ H δ d Q R e h;obtain⟨d1,e1,e2⟩:=bind_some e;unfold Gy at e2;split at e2
 · rename_i kvs;obtain⟨ns,e3,e4⟩:=bind_some e2;split at e4
   · cases e4
   · rename_i hne;cases e4;refine a H0 F0 F σ H δ _ _ R e1 λv H1 F1 g1 i1=>?_;obtain⟨p,rfl,hh⟩:=i1;have hd:∃m,F1 p=some (.dT m)/\Kvs K F1 m kvs:=by
      rcases hh with⟨ms,rfl,_⟩|⟨m,z,kv⟩|⟨nm,rfl,_⟩|⟨m,z,kv⟩
      · cases e3
      · exact⟨m,z,kv⟩
      · cases e3
      · cases kvs with
        |nil=>exact kv.elim
        |cons q r=>rw [kv.1]at e3;cases e3
     obtain⟨m,hm,kv⟩:=hd;have hmH:=g1.s _ _ hm;refine⟨.inr (.inr (.inl ⟨rfl,.inr ⟨m,hmH⟩⟩)),rfl,p,m,rfl,hmH,λq hq=>?_⟩;refine⟨q,p,m,ns,rfl,aS,by rw [aN (aQ hmH hq)];exact hmH,m8 e3 kv,λz=>hne (by rw [z];rfl),λH' sm=>?_⟩
     have sm1:Same H1 H':=(bf hq _).trans sm;exact h _ H' F1 ⟨g1.f,g1.s.trans sm1,g1.h.trans sm1,g1.o⟩ rfl
 · cases e2
theorem Jr(K:Fg){x:Str}{E:Expr}{ap cp p1 pos:Pos}{te:TE}(hc:X.calm=true)(hg:Gl X x)(hm:X.mg x=none)(hv:bootBuiltins x=some (.builtin "max"))(ha:PE X E te)(h:X.K=K:=by rfl)(hn:x≠ "__name__":=by decide)(hdb:(x==("__debug__":Str))=false:=by decide)
 (hbase:attributeBase E "values" X.env (eval E X.env)=eval E X.env:=by rfl) (hline:(ap.endLine==cp.line)=true:=by rfl)
 (he:starEach [.Call (.Attribute E "values" ap) [] [] cp] X.env=(false,eval (.Call (.Attribute E "values" ap) [] [] cp) X.env)::starEach [] X.env:=by rfl) (hpl:(backTo pos (starEach [] X.env)).any (·.1)=false:=by rfl):
 PE X (.Call (.Name x p1) [.Call (.Attribute E "values" ap) [] [] cp] [] pos) (Ky K te):=by
 subst h;exact bT (Dr hc) hg hm hv (aD (BE PySem.F.plainAttrs_dict PySem.F.slot_dict_values PySem.F.type_dict_values Dq ha hbase hline) aK he) hn hdb he hpl
end
end DL
namespace L2
open PySem PySem.Spec PyProof.Rows PySem.W Att
def ItSt(h:Heap)(it d S:Addr)(i n ep:Nat):Prop:=∃x0 f ok ov,h.get? it=some {cls:=.type "dict_itemiterator",dict:=none,data:=.fields #[x0,.bool f,.ref d,.int i 0,.int n 0,.int ep 0,ok,ov],slots:= #[]}/\
 (x0=.none\/∃(a:Addr) (oa:Obj),x0=rawInt a/\h.get? a=some oa/\a≠it/\a≠S)
theorem ItSt.keep {h h':Heap}{it d S:Addr}{i n ep:Nat}(x:ItSt h it d S i n ep)(k:∀b o,b≠S->h.get? b=some o->h'.get? b=some o)(n1:it≠S):ItSt h' it d S i n ep:=by
 obtain⟨x0,f,ok,ov,e,r⟩:=x;refine⟨x0,f,ok,ov,k _ _ n1 e,r.imp id λ⟨a,oa,r1,r2,r3,r4⟩=>⟨a,oa,r1,k _ _ r4 r2,r3,r4⟩⟩
section
variable {prog:Program} {w:World} {A:Around} {E:Value->Shared->Prop} {s:Shared} {d it r S:Addr} {es:Array DictEntry} {ep:Nat}
theorem Ds {Q:Value->Shared->Prop}(nsm:(d==sysModules)=false)(x:Raw s.heap d es ep)(q:Q (.ref s.heap.objs.size) {s with heap:=s.heap.push {cls:=.type "dict_items",data:=.fields #[.ref d]}}):
 wpAny (model prog w) A (call (.builtin "dict.items") [.ref d]) Q E s:=by
 have ty:=x.ty;refine wpAny_call_entry F.slot_dict_items ty F.entry_dict_items ?_ (F.args_dict_items_1 _);unfold Builtin.«dict.items»;refine wB ?_;unfold Builtin.Dict.noArgs;refine wB (wpAny_notOrdered_dict ty ?_);show wpAny _ _ (pure d) _ _ s;refine wP ?_;show wpAny _ _ (Builtin.Dict.showsAll d >>=_) _ _ s;unfold Builtin.Dict.showsAll;rw [if_neg (by rw [nsm];exact Q8)];refine wB (wP ?_)
 exact wB (wpAny_newObj_type (wP ⟨_,rfl,q⟩))
theorem Dt {Q:Value->Shared->Prop}(hv:s.heap.IsItemsView r d)(x:Raw s.heap d es ep)
 (q:Q (.ref s.heap.objs.size) {s with heap:=s.heap.push {cls:=.type "dict_itemiterator",data:=.fields #[.none,.bool false,.ref d,.int 0 0,.int es.size 0,.int ep 0,.none,.none]}}):wpAny (model prog w) A (pyIter (.ref r)) Q E s:=by
 obtain⟨ov,hov,hcv,hdv⟩:=id hv;obtain⟨ob,at_,ex,dat⟩:=x;refine wpAny_pyIter_slot hv.typeIs F.slot_dict_items_iter (wpAny_call_entry F.slot_dict_items_iter hv.typeIs F.entry_dict_items_iter ?_ (F.args_dict_items_iter_1 _));unfold Builtin.«dict_items.__iter__»;refine wB (wP ?_);refine wB ?_;unfold Builtin.Dict_items.dictOf;refine wB (wpAny_field hov hdv (x:=.ref d) rfl (wP ?_));refine wB ?_;unfold Builtin.Dict_items.newIterator;refine wB (wpAny_dictEntries at_ dat ?_);refine wB (wpAny_dictEpoch at_ dat ?_);simp only [show Builtin.Dict_items.ownsTuple "dict_itemiterator"=true by decide,if_true]
 refine wpAny_newObj_type (wP ⟨_,rfl,"dict_itemiterator",_,⟨_,jS _ rfl,rfl⟩,F.slot_dict_itemiterator_next.lookup,?_⟩) (by simp only [sizeOk,Builtin.Dict_items.ownedTupleFields,zM,zQ,zC,zH,sizeLine_eq];omega);simpa [rawInt,Builtin.Dict_items.ownedTupleFields]using q
theorem Du {i:Nat}{Q:Option Value->Shared->Prop}(st:ItSt s.heap it d S i es.size ep)(hS:S < s.heap.objs.size)(x:Raw s.heap d es ep)(hi:i < es.size)
 (q : ∀ h', ItSt h' it d S (i + 1) es.size ep -> h'.get? s.heap.objs.size = some { cls := .type "tuple", data := .seq #[es[i].key, es[i].val] } -> h'.objs.size = s.heap.objs.size + 1 ->
  (∀b o,b≠it->s.heap.get? b=some o->h'.get? b=some o)->Q (some (.ref s.heap.objs.size)) {s with heap:=h'}):wpAny (model prog w) A (pyNext (.ref it)) Q E s:=by
 obtain⟨hp,g,dr,tk,os⟩:=s;obtain⟨x0,f,ok,ov,hit,own⟩:=st;obtain⟨ob,at_,ex,dat⟩:=id x;have hT:Shared.TypeIs ⟨hp,g,dr,tk,os⟩ (.ref it) "dict_itemiterator":=⟨_,hit,rfl⟩;unfold pyNext;refine wB (wpAny_attempt (wpAny_callSpecial?_slot (name:=Str.ofString "__next__") hT F.slot_dict_itemiterator_next (wpAny_call_entry F.slot_dict_itemiterator_next hT F.entry_dict_itemiterator_next ?_ (F.args_dict_itemiterator_next_1 _))));refine wB (wP (wB (wB ?_)))
 first|refine wB (wpAny_typeNameOfWhole_itemiter hT (wP ?_));skip|refine wB (wpAny_typeNameOf_itemiter hT (wP ?_));skip
 refine wB (wpAny_fieldsOf hit rfl ?_);simp only [show Builtin.Dict_items.ownsTuple "dict_itemiterator"=true by decide,if_true]
 show wpAny _ _ (if(Value.ref d==Value.none)=true then _ else _) _ _ _;rw [if_neg (show ¬((Value.ref d==Value.none)=true)from Q8)];refine wB (wP (wB (wpAny_dictEntries at_ dat ?_)))
 rw [if_neg (by simp)];refine wB (wP (wB (wpAny_dictEpoch at_ dat ?_)))
 rw [if_neg (by simp)];refine wP ?_
 simp only [show ¬((i:Int) < 0)from by omega,if_false,yG,M8 hi];refine wB ?_
 first|refine wB (wpAny_typeNameOfWhole_itemiter hT (wP ?_));skip|refine wB (wpAny_typeNameOf_itemiter hT (wP ?_));skip
 refine wB (wpAny_isOneOf_itemiter hT ?_);show wpAny _ _ (setField (.ref it) 3 (rawInt ((i:Int)+1)) >>=_) _ _ ⟨hp,g,dr,tk,os⟩;refine wB (wpAny_setField_rec hit (by simp) λh1 e1 s1=>?_)
 replace s1:Heap.SameBut it hp h1:=s1
 replace e1:h1.get? it=some {cls:=.type "dict_itemiterator",dict:=none,data:=.fields #[x0,.bool f,.ref d,.int ((i+1:Nat):Int) 0,.int es.size 0,.int ep 0,ok,ov],slots:= #[]}:=by
  rw [show((i+1:Nat):Int)=(i:Int)+1 by omega];simpa [rawInt]using e1
 have hT1:Shared.TypeIs ⟨h1,g,dr,tk,os⟩ (.ref it) "dict_itemiterator":=⟨_,e1,rfl⟩;refine wB (wpAny_holding ?_);refine wB (wpAny_isOneOf_itemiter hT1 ?_);refine wB (wpAny_isOneOf_itemiter hT1 ?_);show wpAny _ _ (Builtin.Dict_items.pairFromOwner (.ref it) 6 es[i].key es[i].val) _ _ ⟨h1,g,dr,tk,os⟩;unfold Builtin.Dict_items.pairFromOwner;refine wB (wpAny_newTuple ?_);have e2:=gH {cls:=.type "tuple",data:=.seq #[es[i].key,es[i].val]} e1;generalize hh2:h1.push {cls:=.type "tuple",data:=.seq #[es[i].key,es[i].val]}=h2 at e2;have z1:h1.objs.size=hp.objs.size:=s1.1;have lt0:it < hp.objs.size:=fS hit;have t2:h2.get? hp.objs.size=some {cls:=.type "tuple",data:=.seq #[es[i].key,es[i].val]}:=by rw [<-hh2, <-z1];exact jS _ rfl
 have z2:h2.objs.size=hp.objs.size+1:=by rw [<-hh2,CF,z1]
 have k2:∀b o,b≠it->hp.get? b=some o->h2.get? b=some o:=λb o nb e=>by rw [<-hh2];exact gH _ (s1.extBut b o nb e)
 show wpAny _ _ (Builtin.Dict_items.ownedTupleIsFree (.ref it) >>=_) _ _ ⟨h2,g,dr,tk,os⟩;rw [z1];clear hh2 e1 s1 hT1 z1 h1;have ni:=vV lt0;refine wB ?_;unfold Builtin.Dict_items.ownedTupleIsFree
 rcases own with rfl|⟨a,oa,rfl,ha,hai,haS⟩
 · refine wB (wpAny_field e2 rfl (x:=.none) rfl (wP ?_));simp only [if_true];refine wB (wpAny_field e2 rfl (x:=ok) rfl ?_);refine wB (wpAny_field e2 rfl (x:=ov) rfl ?_);refine wB (wpAny_setField_rec e2 (by simp) λh3 e3 s3=>?_);refine wB (wpAny_setField_rec e3 (by simp) λh4 e4 s4=>?_)
   refine wB (wpAny_setField_rec e4 (by simp) λh5 e5 s5=>?_);refine wB (wpAny_setField_rec e5 (by simp) λh6 e6 s6=>?_)
   have kk:∀b o,b≠it->h2.get? b=some o->h6.get? b=some o:=λb o nb e=>s6.extBut b o nb (s5.extBut b o nb (s4.extBut b o nb (s3.extBut b o nb e)));refine wB (wpAny_letGo (wP (wP ⟨_,rfl,wP (q h6 ?_ (kk _ _ ni t2) ?_ λb o nb e=>kk b o nb (k2 b o nb e))⟩)))
   · exact⟨_,_,_,_,e6,.inr ⟨hp.objs.size,_,rfl,kk _ _ ni t2,ni,vV hS⟩⟩
   · show h6.objs.size=hp.objs.size+1;rw [s6.1,s5.1,s4.1,s3.1,z2]
 · have ha2:h2.get? a=some oa:=k2 a oa hai ha;refine wB (wpAny_field e2 rfl (x:=rawInt a) rfl ?_);show wpAny _ _ (loadIfAlive ((a:Int).toNat) >>=_) _ _ _;rw [yG];refine wB (kdx_alive ha2 ?_);simp only [Option.isNone_some,zN,if_false];refine wB (wpAny_field e2 rfl (x:=.bool f) rfl ?_);cases f with
   |true=>
    rw [if_neg (show ¬((Value.bool true != Value.bool true)=true)from Q8)];refine wP ?_;simp only [zN,if_false]
    exact wP (wP ⟨_,rfl,wP (q h2 ⟨_,_,_,_,e2,.inr ⟨a,oa,rfl,ha2,hai,haS⟩⟩ t2 z2 k2)⟩)
   |false=>
    rw [if_pos (show(Value.bool false != Value.bool true)=true from rfl)];refine wB (wpAny_setField_rec e2 (by simp) λh3 e3 s3=>?_);refine wP ?_;simp only [zN,if_false]
    exact wP (wP ⟨_,rfl,wP (q h3 ⟨_,_,_,_,e3,.inr ⟨a,oa,rfl,s3.extBut a oa hai ha2,hai,haS⟩⟩ (s3.extBut _ _ ni t2) (by show h3.objs.size=hp.objs.size+1;rw [s3.1,z2]) λb o nb e=>s3.extBut b o nb (k2 b o nb e))⟩)
theorem Gz {i:Nat}{Q:Option Value->Shared->Prop}(hh:A.handled=none)(st:ItSt s.heap it d S i es.size ep)(x:Raw s.heap d es ep)(hi:es.size<=i)
 (q:∀h',Heap.ExtBut it s.heap h'->Q none {s with heap:=h'}):wpAny (model prog w) A (pyNext (.ref it)) Q E s:=by
 obtain⟨x0,f,ok,ov,hit,own⟩:=st;obtain⟨ob,at_,ex,dat⟩:=id x;have hT:s.TypeIs (.ref it) "dict_itemiterator":=⟨_,hit,rfl⟩;unfold pyNext;refine wB (wpAny_attempt (wpAny_callSpecial?_slot (name:=Str.ofString "__next__") hT F.slot_dict_itemiterator_next (wpAny_call_entry F.slot_dict_itemiterator_next hT F.entry_dict_itemiterator_next ?_ (F.args_dict_itemiterator_next_1 _))));refine wB (wP (wB (wB ?_)))
 first|refine wB (wpAny_typeNameOfWhole_itemiter hT (wP ?_));skip|refine wB (wpAny_typeNameOf_itemiter hT (wP ?_));skip
 refine wB (wpAny_fieldsOf hit rfl ?_);simp only [show Builtin.Dict_items.ownsTuple "dict_itemiterator"=true by decide,if_true]
 show wpAny _ _ (if(Value.ref d==Value.none)=true then _ else _) _ _ s;rw [if_neg (show ¬((Value.ref d==Value.none)=true)from Q8)];refine wB (wP (wB (wpAny_dictEntries at_ dat ?_)))
 rw [if_neg (by simp)];refine wB (wP (wB (wpAny_dictEpoch at_ dat ?_)))
 rw [if_neg (by simp)];refine wP ?_
 simp only [show ¬((i:Int) < 0)from by omega,if_false,yG,Array.getElem?_eq_none hi];refine wB ?_
 first|refine wB (wpAny_typeNameOfWhole_itemiter hT (wP ?_));skip|refine wB (wpAny_typeNameOf_itemiter hT (wP ?_));skip
 show wpAny _ _ (setField (.ref it) 2 .none >>=_) _ _ s;refine wB (wpAny_setField hit rfl (by simp) ?_)
 show wpAny _ _ (newExc (.type "StopIteration") [] >>=_) _ _ _;refine wB ?_;simp only [newExc,newTuple];refine wB (wpAny_newObj_type ?_ (by size_fits))
 refine wB (m:=firstArgMember _ _) (wpAny_of_eq (a:=Value.none) (by first|rfl|(simp only [firstArgMember];rfl)) ?_);refine wpAny_newObj_type ?_ (by size_fits);simp only [raiseNew];refine wB (wpAny_handled ?_)
 rw [show A.in1.handled=none from hh];refine wB (wP (wpAny_throw (wB ?_)))
 refine wpAny_isInstance (T:="StopIteration") (b:=true) ⟨_,jS _ rfl,rfl⟩ isSubtype_stop ?_;exact wP (q _ (((Heap.SameBut.update ..).extBut.push _).push _))
end
structure ItG (es:Array DictEntry) (lo:Addr) (h:Heap) (as:List Addr):Prop where
 nd:as.Nodup
 up:∀a∈as,lo < a/\a < h.objs.size
 prs:∀(j:Nat) (a:Addr),as[j]? =some a->∃e,es[j]? =some e/\h.get? a=some {cls:=.type "tuple",data:=.seq #[e.key,e.val]}
section
variable {prog:Program} {w:World} {A:Around} {s:Shared} {R:Result->Shared->Prop} {es:Array DictEntry} {ep:Nat}
theorem Js {S I d:Addr}(hh:A.handled=none)(hSI:S < I)(hSd:d≠S)(hId:d≠I)(hn:es.size<=sizeLine)(res:Value){h0:Heap}
 (hR:∀h' tk acc c as,(∀b o,b≠S->b≠I->h0.get? b=some o->h'.get? b=some o)->h'.get? S=some {cls:=.type "list",dict:=none,data:=.seq acc c,slots:= #[]}->as.length=es.size->ItG es I h' as->acc.toList=as.map Value.ref->R (.ok (.ret res)) {s with heap:=h',toks:=tk}):
 ∀(k i:Nat) (h:Heap) (tk c:Nat) (acc:Array Value) (as:List Addr),es.size - i=k->i<=es.size->ItSt h I d S i es.size ep->Raw h d es ep->(∀b o,b≠S->b≠I->h0.get? b=some o->h.get? b=some o)->
  h.get? S=some {cls:=.type "list",dict:=none,data:=.seq acc c,slots:= #[]}->acc.toList=as.map Value.ref->as.length=i->ItG es I h as->I < h.objs.size->
  codeAny (model prog w) A (.builtin "list.extend.loop" ⟨[.ref S,.ref I,res],[]⟩) R {s with heap:=h,toks:=tk}:=by
 have hne:S≠I:=lO hSI;intro k
 induction k with
 |zero=>
  intro i h tk c acc as hk hi st hD keep hS hacc hal G hIs;refine codeAny_builtin PySem.F.entry_extend_loop ?_;rw [Around.under_plainId PySem.F.plain_extend_loop _];show wpAny _ A.in1 (pyNext (.ref I) >>=_) _ _ _;refine wB (Gz (s:={s with heap:=h,toks:=tk}) (A:=A.in1) hh st hD (by omega) λh' he=>?_)
  refine wP (hR h' tk acc c as (λb o n1 n2 e=>he b o n2 (keep b o n1 n2 e)) (he S _ hne hS) (by omega) ⟨G.nd,λa ha=>?_,λj a hj=>?_⟩ hacc)
  · obtain⟨j,hj⟩:=List.mem_iff_getElem?.mp ha;obtain⟨e,q1,q2⟩:=G.prs j a hj;exact⟨(G.up a ha).1,fS (he a _ (vV (G.up a ha).1) q2)⟩
  · obtain⟨e,q1,q2⟩:=G.prs j a hj;exact⟨e,q1,he a _ (vV (G.up a (Ik hj)).1) q2⟩
 |succ k ih=>
  intro i h tk c acc as hk hi st hD keep hS hacc hal G hIs;have hlt:i < es.size:=by omega
  have hsz:acc.size=i:=by rw [<-wg,hacc,zJ,hal]
  refine codeAny_builtin PySem.F.entry_extend_loop ?_;rw [Around.under_plainId PySem.F.plain_extend_loop _];show wpAny _ A.in1 (pyNext (.ref I) >>=_) _ _ _;refine wB (Du (s:={s with heap:=h,toks:=tk}) (S:=S) st (fS hS) hD hlt λh' st' ht hz kp=>?_)
  dsimp only at ht hz kp ⊢
  have hS':=kp S _ hne hS;have up:∀b o,b≠S->h'.get? b=some o->(h'.update S (Obj.mapSeq (·.push (Value.ref h.objs.size)))).get? b=some o:=λb o nb e=>(CC _ _ (Ne.symm nb)).trans e
  have hSl:S < h.objs.size:=fS hS;have hsz2:(h'.update S (Obj.mapSeq (·.push (Value.ref h.objs.size)))).objs.size=h.objs.size+1:=by rw [Heap.size_update,hz]
  show wpAny _ A.in1 (updateSeq S (·.push (Value.ref h.objs.size)) >>=_) _ _ _;refine wB ?_
  refine wpAny_updateSeq hS' rfl (wP ⟨plainId_quiet PySem.F.plain_extend_loop _,ih (i+1) _ tk _ (acc.push (Value.ref h.objs.size)) (as++[h.objs.size]) (by omega) hlt (st'.keep up (Ne.symm hne)) (hD.stay λo e=>up d o hSd (kp d o hId e))
   (λb o n1 n2 e=>up b o n1 (kp b o n2 (keep b o n1 n2 e))) (K5 _ hS' rfl) (by rw [Array.toList_push,hacc,ux];rfl) (by rw [zQ,hal];rfl) ⟨?_,?_,?_⟩ (by rw [hsz2];exact K6 hIs)⟩) (by rw [hsz];omega) (by show(acc.push (Value.ref h.objs.size)).size<=sizeLine+1;rw [Array.size_push,hsz];omega)
  · refine List.nodup_append.mpr ⟨G.nd,List.pairwise_singleton _ _,λa ha b hb=>?_⟩;rw [Qf.mp hb];exact lO (G.up a ha).2
  · intro a ha;rw [hsz2]
    rcases CD.mp ha with ha|ha
    · exact⟨(G.up a ha).1,K6 (G.up a ha).2⟩
    · rw [Qf.mp ha];exact⟨hIs,Ig _⟩
  · intro j b hj
    rcases Nat.lt_trichotomy j as.length with h1|h1|h1
    · rw [Qb h1]at hj;obtain⟨e,q1,q2⟩:=G.prs j b hj;have hb:=(G.up b (Ik hj)).1;exact⟨e,q1,up b _ (vV (Nat.lt_trans hSI hb)) (kp b _ (vV hb) q2)⟩
    · subst h1;have hb:h.objs.size=b:=by simpa using hj
      subst hb;exact⟨es[as.length],by rw [M8],up _ _ (vV hSl) (by subst hal;exact ht)⟩
    · rw [List.getElem?_eq_none (by rw [zQ,LF];omega)]at hj;cases hj
end
section
variable {prog:Program} {w:World} {A:Around} {E:Value->Shared->Prop} {s:Shared} {r d:Addr} {es:Array DictEntry} {ep:Nat}
theorem Dv {R:Result->Shared->Prop}(hh:A.handled=none)(hv:s.heap.IsItemsView r d)(x:Raw s.heap d es ep)(S:Addr)(hSr:S≠r)(hSd:d≠S)(res:Value)(c0:Nat)(hS:s.heap.get? S=some {cls:=.type "list",data:=.seq #[] c0})
 (hR : ∀ h' tk acc c as, (∀ b o, b ≠ S -> s.heap.get? b = some o -> h'.get? b = some o) -> h'.get? S = some { cls := .type "list", dict := none, data := .seq acc c, slots := #[] } -> as.length = es.size -> ItG es s.heap.objs.size h' as ->
  acc.toList=as.map Value.ref->R (.ok (.ret res)) {s with heap:=h',toks:=tk}) (hn:es.size<=sizeLine):
 wpAny (model prog w) A.in1 (Builtin.List.listExtendWith (.ref S) (.ref r) res)
  (λfin s'=>match fin with| .done f=>R (.ok f) s'| .again c'=>c'.quiet=true/\codeAny (model prog w) A c' R s') (λe s'=>R (.error e) s') s:=by
 have hSI:S < s.heap.objs.size:=fS hS;have go:∀(h:Heap) (c1 tk:Nat),(∀b o,b≠S->(s.heap.push {cls:=.type "dict_itemiterator",data:=.fields #[.none,.bool false,.ref d,.int 0 0,.int es.size 0,.int ep 0,.none,.none]}).get? b=some o->h.get? b=some o)->
  h.get? S=some {cls:=.type "list",data:=.seq #[] c1}->codeAny (model prog w) A (.builtin "list.extend.loop" ⟨[.ref S,.ref s.heap.objs.size,res],[]⟩) R {s with heap:=h,toks:=tk}:=by
  intro h c1 tk hk hS1;have hI:=hk s.heap.objs.size _ (vV hSI) (jS _ rfl);exact Js (es:=es) (ep:=ep) (s:=s) (h0:=s.heap) hh hSI hSd (lO x.lt) hn res (λh' tk' acc c as hk' hS' hl G hacc=>hR h' tk' acc c as (λb o nb e=>hk' b o nb (lO (fS e)) e) hS' hl G hacc)
   es.size 0 h tk c1 #[] [] (Nat.sub_zero _) (zU _) ⟨_,_,_,_,hI,.inl rfl⟩ (x.stay λo e=>hk d o hSd (gH _ e)) (λb o nb _ e=>hk b o nb (gH _ e)) hS1 rfl rfl
   ⟨List.nodup_nil,(λ_ ha=>nomatch ha),(λj a hj=>by simp at hj)⟩ (fS hI)
 unfold Builtin.List.listExtendWith;refine wB (wpAny_typeOf (T:="dict_items") hv.typeIs ?_);simp only [show Builtin.List.listSameRef (.ref S) (.ref r)=false by simp [Builtin.List.listSameRef,hSr],show(Value.type "dict_items"==Value.type "list")=false by decide,show(Value.type "dict_items"==Value.type "tuple")=false by decide,Bool.or_false,zN,if_false]
 refine wB (Dt hv x ?_);have hS1:=gH {cls:=.type "dict_itemiterator",data:=.fields #[.none,.bool false,.ref d,.int 0 0,.int es.size 0,.int ep 0,.none,.none]} hS;refine wB (wpAny_holding (kdx_hint (let ⟨o,ho,hc,_⟩:=hv;⟨o,gH _ ho,hc⟩) ?_));refine wpAny_ite_split (λ_=>?_) (λ_=>wP ⟨plainId_quiet PySem.F.plain_extend_loop _,go _ c0 _ (λb o _ e=>e) hS1⟩);refine wB (wpAny_rule ?_);refine wB ?_;show wpAny _ _ (updateSeq S (·.push .none) >>= λ_=>updateSeq S (·.pop)) _ _ _
 refine wB (wpAny_updateSeq hS1 rfl ?_);have hS2:=K5 (Obj.mapSeq (·.push Value.none)) hS1 rfl
 refine wpAny_updateSeq (hz:=by seq_fits) hS2 rfl ?_
 have hS3:=K5 (Obj.mapSeq (·.pop)) hS2 rfl
 exact wP ⟨plainId_quiet PySem.F.plain_extend_loop _,go _ _ _ (λb o nb e=>(CC _ _ (Ne.symm nb)).trans ((CC _ _ (Ne.symm nb)).trans e)) hS3⟩
theorem B8 {R:List Value->Shared->Prop}(hh:A.handled=none)(hv:s.heap.IsItemsView r d)(x:Raw s.heap d es ep)(hn:es.size<=sizeLine)
 (h:∀(h':Heap) (tk:Nat) (as:List Addr),(∀b o,s.heap.get? b=some o->h'.get? b=some o)->as.length=es.size->ItG es s.heap.objs.size h' as->s.heap.objs.size < h'.objs.size->R (as.map Value.ref) {s with heap:=h',toks:=tk}):
 wpAny (model prog w) A (collect (.ref r)) R E s:=by
 have hr:r < s.heap.objs.size:=let ⟨_,ho,_⟩:=hv;fS ho;unfold collect;refine wB (wpAny_runValue (codeAny_builtin entry_proto_collect' ?_));rw [Around.under_plainId PySem.F.plain_proto_collect _];show wpAny _ A.in1 (newList [] >>= λl=>again (.builtin "list.__iadd__" ⟨[l,.ref r],[]⟩)) _ _ s;refine wB (wpAny_newObj_type ?_);refine wP ⟨plainId_quiet PySem.F.plain_list_iadd _,codeAny_builtin entry_list_iadd' ?_⟩;rw [Around.under_plainId PySem.F.plain_list_iadd _];have hS1:(s.heap.push {cls:=.type "list",data:=.seq ([]:List Value).toArray}).get? s.heap.objs.size=some {cls:=.type "list",data:=.seq #[]}:=jS _ rfl;have main:=Dv (prog:=prog) (w:=w) (A:=A) (s:={s with heap:=s.heap.push {cls:=.type "list",data:=.seq ([]:List Value).toArray}}) (es:=es) (ep:=ep)
  (R := λ (q : Result) (s' : Shared) => ∃ (h' : Heap) (tk : Nat) (acc : Array Value) (c' : Nat) (as : List Addr), q = .ok (.ret (.ref s.heap.objs.size)) /\ s' = { s with heap := h', toks := tk } /\
   (∀b o,s.heap.get? b=some o->h'.get? b=some o)/\h'.get? s.heap.objs.size=some {cls:=.type "list",dict:=none,data:=.seq acc c',slots:= #[]}/\as.length=es.size/\ItG es s.heap.objs.size h' as/\acc.toList=as.map Value.ref)
  hh (let ⟨o,ho,z⟩:=hv;⟨o,gH _ ho,z⟩) (x.stay λo e=>gH _ e) s.heap.objs.size (vV hr) (lO x.lt) (.ref s.heap.objs.size) 0 hS1
  (λh' tk acc c' as hk hS' hl G hacc=>⟨h',tk,acc,c',as,rfl,rfl,λb o e=>hk b o (lO (fS e)) (gH _ e),hS',hl,⟨G.nd,λa ha=>⟨Il (by show s.heap.objs.size<=(s.heap.push _).objs.size;rw [CF];exact Nat.le_succ _) (G.up a ha).1,(G.up a ha).2⟩,G.prs⟩,hacc⟩) hn
 refine wpAny_mono main (λfin s' y=>?_) λe s' y=>?_
 · cases fin with
   |done f=>
    obtain⟨h',tk,acc,c',as,e,rfl,hk,hS',hl,G,hacc⟩:=y;cases e;show wpAny _ A (load s.heap.objs.size >>=_) _ _ _;refine wB (wpAny_load hS' (wP ?_));show R acc.toList _;rw [hacc];exact h h' tk as hk hl G (fS hS')
   |again c1=>
    refine⟨y.1,codeAny_mono y.2 λq s2 y=>?_⟩;obtain⟨h',tk,acc,c',as,rfl,rfl,hk,hS',hl,G,hacc⟩:=y;show wpAny _ A (load s.heap.objs.size >>=_) _ _ _;refine wB (wpAny_load hS' (wP ?_));show R acc.toList _;rw [hacc];exact h h' tk as hk hl G (fS hS')
 · obtain⟨_,_,_,_,_,e',_⟩:=y;cases e'
end
theorem gA:∀x:List Int,cT x x=false
 |[]=>rfl
 |a::x=>by unfold cT;rw [if_pos rfl];exact gA x
theorem HA(x y:List Int):ltL (x.map PyData.int) (y.map PyData.int)=some (cT x y):=by
 induction x generalizing y with
 |nil=>cases y<;>rfl
 |cons a x ih=>cases y with
  |nil=>rfl
  |cons c y=>
   rw [zI,zI,ltL,cT,DL.xR]
   by_cases e:a=c
   · rw [if_pos e,if_pos (decide_eq_true e),ih y]
   · rw [if_neg e,if_neg (by simpa using e),nn]
theorem pL(x y:List Int):nn (DL.aJ x) (DL.aJ y)=some (cT x y):=by
 rw [DL.aJ,DL.aJ,nn];exact HA x y
theorem vB {h:Heap}{vs:List Value}{k:List Int}(r:IntsAre vs k):ReadsAll h vs (k.map PyData.int) []:=by
 induction r with
 |nil=>exact .nil
 |cons a t r ih=>exact ReadsAll.cons (as:=[]) (bs:=[]) (.int a t) ih
theorem zj {h:Heap}{v:Value}{k:List Int}(t:TpI h v k):Reads h v (DL.aJ k) []:=by
 obtain⟨a,o,arr,n,rfl,e2,e3,e4,e5⟩:=t;exact .tuple e2 e3 e4 (vB e5)
theorem tT:∀k:List Int,PyData.depthAll (k.map PyData.int)=0
 |[]=>rfl
 |a::k=>by rw [zI,PyData.depthAll,tT k];rfl
theorem zk:∀k:List Int,PyData.canLayAll0 (k.map PyData.int)=true
 |[]=>rfl
 |a::k=>by rw [zI,PyData.canLayAll0,zk k];rfl
theorem tU(k:List Int):(DL.aJ k).depth=1:=by rw [DL.aJ,PyData.depth,tT]
theorem pM(k:List Int):(DL.aJ k).canLay0=true:=by rw [DL.aJ,PyData.canLay0];exact zk k
def TpP(h:Heap)(v:Value)(k:List Int):Prop:=∃a o n x y,v=.ref a/\h.get? a=some o/\o.cls=.type "tuple"/\o.data=.seq #[x,y] n/\TpI h x k/\∃m t,y=Value.int m t
theorem TpP.firsts {h:Heap}{vs:List Value}{ks:List (List Int)}(p:Paired (TpP h) vs ks):∃fs,KatTups h vs fs/\fs.length=vs.length/\∀f∈fs,∃k,TpI h f k:=by
 induction p with
 |nil=>exact⟨[],KatTups.nil,rfl,λf hf=>nomatch hf⟩
 |cons q r ih=>
  obtain⟨a,o,n,x,y,e1,e2,e3,e4,e5,e6⟩:=q;obtain⟨fs,h1,h2,h3⟩:=ih;subst e1;refine⟨x::fs,KatTups.cons e2 e3 e4 rfl h1,by rw [zC,zC,h2],λf hf=>?_⟩
  rcases Q4.mp hf with rfl|hf
  · exact⟨_,e5⟩
  · exact h3 f hf
section
variable {prog:Program} {w:World} {A:Around} {E:Value->Shared->Prop} {s:Shared}
theorem B9 {L D:Addr}{m:Str->Option Value}{c:Nat}{vs:List Value}{ks:List (List Int)}{Q:Value->Shared->Prop}(hu:A.units+2 < cLine)(hL:s.heap.Ns L m)(hne:D≠L)(hD:s.heap.get? D=some (listOf vs.toArray c))(ht:Paired (TpP s.heap) vs ks)
 (hnd:ks.Nodup) (h2:2<=vs.length) (h64:vs.length < 64)
 (k : ∀ h' c' (q : Array Nat), (∀ b o, b ≠ L -> b ≠ D -> s.heap.get? b = some o -> h'.get? b = some o) -> h'.Ns L m -> h'.get? D = some (listOf (q.toList.map λ i => vs.getD i .none).toArray c') ->
  SRT.Pm vs.length q->SRT.xU (λi j=>cT (ks.getD i []) (ks.getD j [])) q vs.length->Q .none {s with heap:=h'}):
 wpAny (model prog w) A (call (.builtin "list.sort") [.ref D]) Q E s:=by
 have hlen:vs.length=ks.length:=Paired.length ht;have led:∀p∈kQ s.heap L D,p.1≠D:=λ⟨_,_⟩ hp=>(ef.mp hp).2.1;refine kat_lsort (h₀:=qO s.heap) (L:=L) (m:=m) (news:=(D,listOf vs.toArray c)::kQ s.heap L D) (g:=λo=>(D,o)::kQ s.heap L D) (its:=vs.toArray) (BG hL) (mU hne hD) (.head led) (by simp) h2 h64 λe1 h' F' N'=>?_
 have keep:∀b o,b≠L->b≠D->s.heap.get? b=some o->h'.get? b=some o:=λb o n1 n2 e=>(N' (b,o) (ke _ (ef.mpr ⟨n1,n2,e⟩))).1;obtain⟨oL,esL,epL,hoL,hdL,_⟩:=hL;have keepT:∀{a:Addr} {o:Obj} {arr:Array Value} {n:Nat},s.heap.get? a=some o->o.cls=.type "tuple"->o.data=.seq arr n->h'.get? a=some o:=λ{a o arr n} e2 e3 e4=>
  keep a o (λz=>by rw [z,hoL]at e2;cases e2;rw [hdL]at e4;cases e4) (λz=>by rw [z,hD]at e2;cases e2;exact absurd (Value.type.inj e3) (by decide)) e2
 have tup:∀{v:Value} {kk:List Int},TpI s.heap v kk->TpI h' v kk:=λq=>by
  obtain⟨a,o,arr,n,e1,e2,e3,e4,e5⟩:=q;exact⟨a,o,arr,n,e1,keepT e2 e3 e4,e3,e4,e5⟩
 have ht':Paired (TpP h') vs ks:=Paired.mapP ht λa b q=>by
  obtain⟨a1,o,n,x,y,e1,e2,e3,e4,e5,e6⟩:=q;exact⟨a1,o,n,x,y,e1,keepT e2 e3 e4,e3,e4,tup e5,e6⟩
 obtain⟨fs,t1,t2,t3⟩:=TpP.firsts ht';refine kat_kind (T:=.type "tuple") t1 (by omega) (λv hv=>by
  obtain⟨kk,a,o,arr,n,rfl,e2,e3,_⟩:=t3 v hv;rw [<-e3];exact(Looks.ld e2).andThen .now) rfl ?_
 rw [show(Value.type "tuple" != Value.type "tuple")=false from rfl]
 have O:SRT.Ord (λi j=>cT (ks.getD i []) (ks.getD j [])) vs.length:=⟨λa b c=>kC _ _ _,λa b ha hb hab=>pG _ _ λe=>hab (by
  rw [iI,iI,cY (by omega),cY (by omega)]at e
  exact(List.getElem_inj hnd).mp e)⟩
 refine SRT.BV (lt:=λi j=>cT (ks.getD i []) (ks.getD j [])) (n:=vs.length) (J:=λs'=>s'={s with heap:=h'}) (λi j C s' hi hj js hC=>?_) (λp s' hp js=>?_) rfl (SRT.sM O h2)
 · subst js;have Pi:=pH (x:=Value.none) (y:=[]) i ht' hi;have Pj:=pH (x:=Value.none) (y:=[]) j ht' hj;obtain⟨a1,o1,n1,x1,y1,v1,g1,c1,d1,T1,m1,q1,f1⟩:=id Pi;obtain⟨a2,o2,n2,x2,y2,v2,g2,c2,d2,T2,m2,q2,f2⟩:=id Pj;unfold kas_ask;rw [v1,v2];refine kat_lt g1 d1 g2 d2 ?_;have R1:=zj T1;have R2:=zj T2;have dp:=λ(z:Nat)=>show min (DL.aJ (ks.getD i [])).depth (DL.aJ (ks.getD j [])).depth=1 by rw [tU,tU];rfl
   have un:A.in1.units+min (DL.aJ (ks.getD i [])).depth (DL.aJ (ks.getD j [])).depth < cLine:=by rw [dp 0];show A.units+1+1 < cLine;omega
   have eq:=SeqAt.eqAt_reads _ _ A.in1 {s with heap:=h'} _ _ _ _ R1 R2 (pM _) (pM _) un
   rw [DL.iw]at eq;show KatLex prog w A.in1 false (decide (2 < 2)) _ [(x1,x2),(y1,y2)] 0 _;refine kat_cons (eq prog w _ _ ?_)
   by_cases e:ks.getD i []=ks.getD j []
   · have ij:i=j:=by
      rw [iI,iI,cY (by omega),cY (by omega)]at e
      exact(List.getElem_inj hnd).mp e
     subst ij;rw [v1]at v2;cases v2;rw [g1]at g2;cases g2;rw [d1]at d2;cases d2;rw [decide_eq_true e];refine kat_yes (kat_cons ?_);subst f1;refine wpAny_eqBool_int ?_;rw [show(m1==m1)=true from beq_self_eq_true _]
     refine kat_yes (kat_nil ?_);have hq:=hC _ rfl;rw [gA]at hq;exact hq
   · rw [decide_eq_false e];refine kat_no ?_;have lt:=lY _ _ A.in1 {s with heap:=h'} _ _ _ _ _ R1 R2 (pM _) (pM _) un (pL _ _)
     exact kat_one _ _ (lt prog w _ _ (hC _ rfl))
 · subst js;refine KasFin.intro F' N' (.head led) λh'' c' F'' N''=>?_;exact k h'' c' p (λb o n1 n2 e=>(N'' (b,o) (ke _ (ef.mpr ⟨n1,n2,e⟩))).1) F''.ns (N'' _ lN).1 hp.1 hp.2
theorem Dw {L D:Addr}{m:Str->Option Value}{c:Nat}{vs:List Value}{ks:List (List Int)}{Q:Value->Shared->Prop}(hu:A.units+2 < cLine)(hL:s.heap.Ns L m)(hne:D≠L)(hD:s.heap.get? D=some (listOf vs.toArray c))(ht:Paired (TpP s.heap) vs ks)
 (hnd:ks.Nodup) (h64:vs.length < 64)
 (k : ∀ h' c' (q : Array Nat), (∀ b o, b ≠ L -> b ≠ D -> s.heap.get? b = some o -> h'.get? b = some o) -> h'.Ns L m -> h'.get? D = some (listOf (q.toList.map λ i => vs.getD i .none).toArray c') ->
  SRT.Pm vs.length q->SRT.xU (λi j=>cT (ks.getD i []) (ks.getD j [])) q vs.length->Q .none {s with heap:=h'}):
 wpAny (model prog w) A (call (.builtin "list.sort") [.ref D]) Q E s:=by
 by_cases h2:2<=vs.length
 · exact B9 hu hL hne hD ht hnd h2 h64 k
 · have h2':vs.length < 2:=by omega
   obtain⟨p1,p2⟩:=zY h2' (λi j=>cT (ks.getD i []) (ks.getD j []));exact rH hD h2' λh' c' kp hD'=>k h' c' (Array.range vs.length) (λb o _ nb e=>kp b o nb e) (by obtain⟨o,es,ep,e1,e2⟩:=hL;exact⟨o,es,ep,kp _ _ hne.symm e1,e2⟩) (by rw [vx h2'];exact hD') p1 p2
end
end L2
namespace L2
open PySem PySem.Spec PyProof.Rows PySem.W
theorem HB {X:Cx}:N3 X "dict.items" (Cg "dict_items"):=by
 intro pins s σ H x xs v us Q I rx rs h;obtain⟨rfl,a,kvs,rfl,ha,q⟩:=h;cases rs;cases(show v=Value.ref a from rx)
 obtain⟨nsm,ys,es,ep,raw,_⟩:=I.raw ha;refine Ds nsm raw ?_;have gf:(s.heap.push {cls:=.type "dict_items",data:=.fields #[.ref a]}).get? s.heap.objs.size=some {cls:=.type "dict_items",data:=.fields #[.ref a]}:=jS _ rfl;exact⟨.ref s.heap.objs.size,_,I.laid (t':=s.toks) (o:=M3 "dict_items" s.heap.objs.size a) (λb o e=>gH _ e) (Q1 _) ⟨gf,⟨_,gf⟩,λh1 h2 e k=>k _ e⟩,rfl,q _ I.fresh⟩
def MG(H:Hp)(as:List Addr)(o:Nat->HO):Hp:=λb=>match as.findIdx? (λa=>a==b)with
 |some j=>some (o j)
 |none=>H b
theorem HC {H:Hp}{as:List Addr}{o:Nat->HO}(nd:as.Nodup){j:Nat}{a:Addr}(e:as[j]? =some a):MG H as o a=some (o j):=by
 have:as.findIdx? (λx=>x==a)=some j:=by
  obtain⟨hj,e⟩:=Ec.mp e;refine List.findIdx?_eq_some_iff_getElem.mpr ⟨hj,by rw [e];exact beq_self_eq_true _,λi hi z=>?_⟩
  have:=(List.getElem_inj nd (h₀:=Nat.lt_trans hi hj) (h₁:=hj)).mp ((beq_iff_eq.mp z).trans e.symm);omega
 unfold MG;rw [this]
theorem xY {H:Hp}{as:List Addr}{o:Nat->HO}{b:Addr}(n:b ∉ as):MG H as o b=H b:=by
 have:as.findIdx? (λx=>x==b)=none:=List.findIdx?_eq_none_iff.mpr λx hx=>beq_eq_false_iff_ne.mpr λz=>n (z▸hx);unfold MG;rw [this]
def HE:List V->Hp->VK->Prop:=λxs H Q=>∃(p a:Addr) (kvs:List (List bx×V)) (ks:List (List Int)) (ns:List Int),xs=[.ref p]/\H p=some (M3 "dict_items" p a)/\H a=some (.dT kvs)/\kvs.map (·.1)=ks.map (λk=>k.map Sum.inl)/\kvs.map (·.2)=ns.map V.int/\ks.length < 64/\
 ∀(H':Hp) (D:Addr) (bs ts:List Addr) (q:Array Nat),Same H H'->H D=none->ks.Nodup->SRT.Pm ks.length q->SRT.xU (λi j=>cT (ks.getD i []) (ks.getD j [])) q ks.length->bs.length=ks.length->H' D=some (.lst (bs.map V.ref))->
  (∀i,i < ks.length->H (bs.getD i 0)=none/\H' (bs.getD i 0)=some (.tup [.ref (ts.getD (SRT.g q i) 0),.int (ns.getD (SRT.g q i) 0)]))->(∀i,i < ks.length->H (ts.getD i 0)=some (.tup ((ks.getD i []).map V.int)))->ts.length=ks.length->Q (.ref D) H'
theorem Ba {X:Cx}(hcm:X.calm=true)(hu:X.A.units+64 < cLine):hV X (.builtin "sorted") HE:=by
 intro pins s σ H xs us Q I rv h;obtain⟨p,a,kvs,ks,ns,rfl,hp,ha,hks,hkv,h64,q⟩:=h;obtain⟨u,rfl,ru⟩:=rB rv;cases(show u=Value.ref p from ru)
 obtain⟨nsm,ys,es,ep,raw,rel,hes,nd,hlen⟩:=I.raw ha;obtain⟨gp,_⟩:=(show ObjOk X.prog X.w H s.heap p (.ext _)from I.hok p _ hp)
 have view:s.heap.IsItemsView p a:=⟨_,gp,rfl,rfl⟩;obtain⟨m,hns,_⟩:=id I.loc;have Llt:=I.lt;have relLen:kvs.length=ys.length:=Paired.length rel;have ksLen:ks.length=kvs.length:=by rw [<-zJ (f:=λk:List Int=>k.map (Sum.inl:Int->bx)), <-hks,zJ]
 have nsLen:ns.length=kvs.length:=by rw [<-zJ (f:=V.int), <-hkv,zJ]
 have esz:es.size=ks.length:=by rw [<-wg,hes,zJ];omega
 have kE:∀i,(kvs.getD i ([],.non)).1=(ks.getD i []).map Sum.inl:=λi=>by
  have e:=congrArg (λl:List (List bx)=>l.getD i []) hks;exact(jb (λp:List bx×V=>p.1) kvs i ([],.non)).symm.trans (e.trans (jb (λk:List Int=>k.map (Sum.inl:Int->bx)) ks i []))
 have yk:∀i,i < ks.length->H (ys.getD i ([],0,.none)).2.1=some (.tup ((ks.getD i []).map V.int)):=λi hi=>by
  have r:=(pH (x:=(([],V.non):List bx×V)) (y:=(([],0,Value.none):List bx×Addr×Value)) i rel (by omega)).2.1
  rw [kE i,m7]at r;exact r
 have yv:∀i,i < ks.length->∃t,(ys.getD i ([],0,.none)).2.2=.int (ns.getD i 0) t:=λi hi=>by
  have r:=(pH (x:=(([],V.non):List bx×V)) (y:=(([],0,Value.none):List bx×Addr×Value)) i rel (by omega)).2.2
  have e1:=congrArg (λl:List V=>l.getD i .non) hkv;have e2:=jb (λz:List bx×V=>z.2) kvs i ([],.non);have e3:(ns.map V.int).getD i .non=.int (ns.getD i 0):=by
   rw [iI,zK,cY (show i < ns.length by omega),iI,cY (show i < ns.length by omega)]
   rfl
  rw [e2.symm.trans (e1.trans e3)]at r;exact r
 have ksnd:ks.Nodup:=by
  have e:=tL (λp q z=>z.1) rel;rw [<-e,hks]at nd;exact(List.pairwise_map.mp nd).imp λz e=>z (by rw [e])
 have esE:∀i,i < ks.length->es[i]? =some (entryOfKey (tupleKind (be X.prog X.w)) (ys.getD i ([],0,.none))):=λi hi=>by
  rw [<-Eg,hes,zK,iI,cY (show i < ys.length by omega)]
  rfl
 refine Calls.call_function_entry kind_sorted plain_sorted entry_sorted (args_sorted1 _) ?_;unfold Builtin.«sorted»;refine wB (m:=checkCount "sorted" 1 1 _) (wP ?_);refine wB (B8 (I.ok.hd hcm) view raw (by omega) λtp tk as kT hal G Dgt=>?_)
 refine wB (wpAny_newList ?_ (by rw [zJ];omega))
 have hal':as.length=ks.length:=by omega
 have kN:∀b o,s.heap.get? b=some o->(tp.push (seqObj "list" (as.map Value.ref).toArray 0)).get? b=some o:=λb o e=>gH _ (kT b o e);have nD:(tp.push (seqObj "list" (as.map Value.ref).toArray 0)).get? tp.objs.size=some (listOf (as.map Value.ref).toArray 0):=jS _ rfl;have asT:∀i,i < ks.length->∃t,as[i]? =some (as.getD i 0)/\(tp.push (seqObj "list" (as.map Value.ref).toArray 0)).get? (as.getD i 0)=some {cls:=.type "tuple",data:=.seq #[.ref (ys.getD i ([],0,.none)).2.1,.int (ns.getD i 0) t]}:=λi hi=>by
  have ia:i < as.length:=by omega
  have eA:as[i]? =some (as.getD i 0):=by rw [iI,cY ia];rfl
  obtain⟨e,q1,q2⟩:=G.prs i _ eA;rw [esE i hi]at q1;cases q1;obtain⟨t,et⟩:=yv i hi;refine⟨t,eA,gH _ ?_⟩;rw [q2];show some ({cls:=.type "tuple",data:=.seq #[.ref (ys.getD i ([],0,.none)).2.1,(ys.getD i ([],0,.none)).2.2]}:Obj)=_;rw [et]
 have asN:∀b∈as,s.heap.get? b=none:=λb hb=>Heap.get?_none_of_le (An (G.up b hb).1);have asD:∀b∈as,b≠tp.objs.size:=λb hb=>lO (G.up b hb).2;have und:=G.nd;clear G;generalize hDv:tp.objs.size=D at nD Dgt asD;generalize hh':tp.push (seqObj "list" (as.map Value.ref).toArray 0)=h' at kN nD asT;have Dnew:s.heap.get? D=none:=Heap.get?_none_of_le (An Dgt);have DL':D≠X.env.locals:=vV (Nat.lt_trans Llt Dgt);have HN:∀b,s.heap.get? b=none->H b=none:=λb e=>by
  cases z:H b with
  |none=>rfl
  |some o=>
   obtain⟨_,e'⟩:=(I.hok b o z).there;rw [e]at e';cases e'
 have HD:H D=none:=HN D Dnew;have hns':h'.Ns X.env.locals m:=by
  obtain⟨o,es,ep,e1,e2⟩:=hns;exact⟨o,es,ep,kN _ _ e1,e2⟩
 have ge:∀i,i < ks.length->(as.map Value.ref).getD i .none=.ref (as.getD i 0):=λi hi=>by
  have ia:i < as.length:=by omega
  rw [iI,zK,cY ia,iI,cY ia];rfl
 have ht:Paired (TpP h') (as.map Value.ref) ks:=vz (x:=Value.none) (y:=[]) (by rw [zJ];omega) λi hi=>by
  have hi':i < ks.length:=by rw [zJ]at hi;omega
  obtain⟨t,_,gt⟩:=asT i hi';obtain⟨_,it2,r2,⟨o,e1,e2,n2,e3⟩,_⟩:=(show ObjOk X.prog X.w H s.heap _ (.tup _)from I.hok _ _ (yk i hi'))
  rw [ge i hi'];refine⟨_,_,0,_,_,rfl,gt,rfl,rfl,⟨_,o,_,n2,rfl,kN _ o e1,e2,e3,?_⟩,_,t,rfl⟩;rw [List.toList_toArray];exact pI r2
 refine wB (wpAny_holding ?_);refine Dw (s:={s with heap:=h',toks:=tk}) (L:=X.env.locals) (D:=D) (m:=m) (c:=0) (by show X.A.units+1+2 < cLine;omega) hns' DL' nD ht ksnd (by rw [zJ];omega) λh2' c2 qq kp2 ns2 hD2 P2 A2=>wP ?_
 rw [zJ,hal']at P2 A2;have hb:∀i,i < ks.length->SRT.g qq i < ks.length:=P2.lt;have hl2:qq.toList.Perm (List.range ks.length):=by simpa using M7.mp P2.pe
 have outE:(qq.toList.map λi=>(as.map Value.ref).getD i .none)=(qq.toList.map λi=>as.getD i 0).map Value.ref:=by
  rw [zO];apply Eh
  intro i hi;exact ge i (by simpa using hl2.mem_iff.mp hi)
 rw [outE]at hD2;have kp3:∀b o,b≠X.env.locals->s.heap.get? b=some o->h2'.get? b=some o:=λb o nb e=>kp2 b o nb (λy=>by rw [y,Dnew]at e;cases e) (kN b o e)
 have bl:(qq.toList.map λi=>as.getD i 0).length=ks.length:=by rw [zJ,wg,P2.sz]
 let oo:Nat->HO:=λj=>.tup [.ref (ys.getD j ([],0,.none)).2.1,.int (ns.getD j 0)]
 have memA:∀i,i < ks.length->as.getD i 0∈as:=λi hi=>by
  rw [iI,cY (by omega)]
  exact Qc _
 have nin:∀{b u},H b=some u->b ∉ as:=λ{b u} e hb=>by rw [HN b (asN b hb)]at e;cases e
 have sm:Same H (bv (MG H as oo) D (.lst ((qq.toList.map λi=>as.getD i 0).map V.ref))):=λb u e=>by
  rw [aN (aQ e HD),xY (nin e)];exact e
 have hokN:HOk X.prog X.w (bv (MG H as oo) D (.lst ((qq.toList.map λi=>as.getD i 0).map V.ref))) h2':=λb u e=>by
  by_cases y:b=D
  · subst y;rw [aS]at e;cases e;exact⟨by rw [zJ,bl];exact jy (by omega),_,c2,qY _,hD2⟩
  · rw [aN y]at e
    by_cases yb:b∈as
    · obtain⟨j,hj⟩:=List.mem_iff_getElem?.mp yb;have hjl:j < ks.length:=by
       have:=(Ec.mp hj).1;omega
      rw [HC und hj]at e;cases e;obtain⟨t,e1,gt⟩:=asT j hjl;rw [hj]at e1;cases e1;have g2:=kp2 _ _ (λz=>by
       have:=asN _ yb;rw [z]at this;obtain⟨oL,_,_,hoL,_⟩:=hns;rw [this]at hoL;cases hoL) y gt
      exact⟨jy (show 2<=1000 by decide),[.ref (ys.getD j ([],0,.none)).2.1,.int (ns.getD j 0) t],.cons rfl (.cons ⟨t,rfl⟩ .nil),⟨_,g2,rfl,_,rfl⟩,_,g2,rfl⟩
    · rw [xY yb]at e;refine(I.hok b u e).stay (λc v hc e1=>kp3 c v (λy=>?_) e1) (λc y=>sm _ _ y) (λc xs y=>sm _ _ y) λc ob xs y=>sm _ _ y;subst y
      rcases hc with y|y
      · rw [<-y,I.free]at e;cases e
      · rw [I.free]at y;cases y
 have I2:Inv X pins σ (bv (MG H as oo) D (.lst ((qq.toList.map λi=>as.getD i 0).map V.ref))) {s with heap:=h2',gens:=s.gens,drawn:=s.drawn,toks:=tk}:=
  Inv.step (s:=s) (ch:=[]) I (λ_ y=>nomatch y) (λb o nb _ _ e _=>kp3 b o nb e) (λb o nb _ _ e _=>⟨o.slots,kp3 b o nb e⟩) (λb o _ e n=>by rw [aN (λy=>by rw [y,Dnew]at e;cases e),xY (λy=>by rw [asN b y]at e;cases e)];exact n)
   (λ b o _ e => by
    by_cases y:b=X.env.locals
    · subst y;obtain⟨o2,_,_,e2,_⟩:=ns2;exact⟨o2,e2⟩
    · exact⟨o,kp3 b o y e⟩)
   (λb xs e=>sm _ _ e) (λb o xs e=>sm _ _ e) (λb ps e=>⟨#[],by rw [sm _ _ e];simp⟩) (λm2 hm2=>vy hns hm2▸ns2) hokN I.bare
 have tsE:∀i,i < ks.length->(ys.map λy=>y.2.1).getD i 0=(ys.getD i ([],0,Value.none)).2.1:=λi hi=>jb (λy:List bx×Addr×Value=>y.2.1) ys i ([],0,Value.none);refine⟨_,rfl,.ref D,_,I2,rfl,q _ D _ (ys.map λy=>y.2.1) qq sm HD ksnd P2 A2 bl aS (λi hi=>?_) (λi hi=>by rw [tsE i hi];exact yk i hi) (by rw [zJ];omega)⟩
 have e:(qq.toList.map λi=>as.getD i 0).getD i 0=as.getD (SRT.g qq i) 0:=by
  have hq:i < qq.toList.length:=by rw [wg,P2.sz];exact hi
  rw [iI,zK,cY hq];show as.getD qq.toList[i] 0=_;congr 1
  unfold SRT.g;rw [<-Eg,cY hq];rfl
 have hg:=hb i hi;have mg:=memA _ hg;obtain⟨t,eA,_⟩:=asT _ hg;rw [e,tsE _ hg];refine⟨HN _ (asN _ mg),?_⟩;rw [aN (asD _ mg),HC und eA]
end L2
namespace DL
open PySem L2
noncomputable abbrev KN:=List Int×Int
noncomputable def Dx(x:KN):List KN->List KN
 |[]=>[x]
 |y::r=>if cT x.1 y.1=true then x::y::r else y::Dx x r
noncomputable def pN:List KN->List KN
 |[]=>[]
 |x::r=>Dx x (pN r)
def vC(a b:KN):Prop:=cT a.1 b.1=true
theorem qa(x:KN):∀l,(Dx x l).Perm (x::l)
 |[]=>.refl _
 |y::r=>by
  unfold Dx;split
  · exact .refl _
  · exact((qa x r).cons y).trans (.swap x y r)
theorem nQ:∀l,(pN l).Perm l
 |[]=>.refl _
 |x::r=>(qa x _).trans ((nQ r).cons x)
theorem Ci(x:KN):∀{l:List KN},l.Pairwise vC->(∀y∈l,x.1≠y.1)->(Dx x l).Pairwise vC
 |[],_,_=>List.pairwise_singleton _ _
 |y::r,h,n=>by
  obtain⟨h1,h2⟩:=DK.mp h;unfold Dx;split
  · rename_i c;refine DK.mpr ⟨λz hz=>?_,h⟩
    rcases Q4.mp hz with rfl|hz
    · exact c
    · exact kC _ _ _ c (h1 z hz)
  · rename_i c;refine DK.mpr ⟨λz hz=>?_,Ci x h2 λz hz=>n z (ke _ hz)⟩
    rcases Q4.mp ((qa x r).mem_iff.mp hz)with rfl|hz
    · exact pG _ _ (n y lN) (by simpa using c)
    · exact h1 z hz
theorem Cj:∀{l:List KN},(l.map (·.1)).Nodup->(pN l).Pairwise vC
 |[],_=>.nil
 |x::r,h=>by
  rw [zI]at h;obtain⟨h1,h2⟩:=List.nodup_cons.mp h;exact Ci x (Cj h2) λy hy e=>h1 (e▸zP ((nQ r).mem_iff.mp hy))
theorem Kz:∀{l m:List KN},l.Perm m->l.Pairwise vC->m.Pairwise vC->l=m
 |[],m,p,_,_=>by rw [List.nil_perm.mp p]
 |a::x,[],p,_,_=>absurd p.length_eq (by simp)
 |a::x,b::y,p,s1,s2=>by
  have e:a=b:=by
   have ha:a∈b::y:=p.mem_iff.mp lN;have hb:b∈a::x:=p.mem_iff.mpr lN
   rcases Q4.mp ha with ha|ha
   · exact ha
   · rcases Q4.mp hb with hb|hb
     · exact hb.symm
     · have:=kC a.1 b.1 a.1 ((DK.mp s1).1 b hb) ((DK.mp s2).1 a ha);rw [gA]at this;cases this
  subst e;rw [Kz (List.Perm.cons_inv p) (DK.mp s1).2 (DK.mp s2).2]
theorem MH {ks:List (List Int)}{ns:List Int}{q:Array Nat}(nl:ns.length=ks.length)(nd:ks.Nodup)(P:SRT.Pm ks.length q)(A:SRT.xU (λi j=>cT (ks.getD i []) (ks.getD j [])) q ks.length):
 ((List.range ks.length).map λi=>((ks.getD (SRT.g q i) [],ns.getD (SRT.g q i) 0):KN))=pN (ks.zip ns):=by
 have hl2:q.toList.Perm (List.range ks.length):=by simpa using M7.mp P.pe
 have ql:q.toList=(List.range ks.length).map (SRT.g q):=by
  apply List.ext_getElem
  · rw [wg,P.sz,zJ,DM]
  · intro i h1 h2;rw [K7,Im];unfold SRT.g;rw [<-Eg,cY h1];rfl
 have kr:(List.range ks.length).map (λi=>((ks.getD i [],ns.getD i 0):KN))=ks.zip ns:=by
  apply List.ext_getElem
  · rw [zJ,DM,List.length_zip,nl,Nat.min_self]
  · intro i h1 h2;have hk:i < ks.length:=by simpa using h1
    rw [K7,Im,List.getElem_zip,iI,cY hk,iI,cY (by omega)]
    rfl
 have zf:(ks.zip ns).map (·.1)=ks:=by
  rw [<-kr,zO];apply List.ext_getElem
  · rw [zJ,DM]
  · intro i h1 h2;rw [K7,Im];show ks.getD i []=_;rw [iI,cY h2];rfl
 refine Kz ?_ ?_ (Cj (by rw [zf];exact nd))
 · refine List.Perm.trans ?_ (nQ _).symm;have:((List.range ks.length).map λi=>((ks.getD (SRT.g q i) [],ns.getD (SRT.g q i) 0):KN))=q.toList.map λi=>(ks.getD i [],ns.getD i 0):=by rw [ql,zO];rfl
   rw [this];have p:=hl2.map (λi=>((ks.getD i [],ns.getD i 0):KN));rw [kr]at p;exact p
 · rw [List.pairwise_map];refine List.pairwise_iff_getElem.mpr λi j hi hj hij=>?_;rw [Im,Im];exact A i j hij (by simpa using hj)
noncomputable def kF(p:KN):PyData:=.tuple [aJ p.1,.int p.2]
noncomputable def Bb:PyData->Option PyData
 | .dict kvs=>(mB kvs).bind λks=>(jd kvs).bind λns=>if decide (ks.length < 64)=true then some (.list ((pN (ks.zip ns)).map kF))else none
 |_=>none
noncomputable def xZ(fe:aT->Option PyData)(δ:aT):Option PyData:=(fe δ).bind Bb
section
variable {X:Cx} {K:Fg}
theorem Grow.more {F H H':Hp}(s:Same F H)(hh:Same H H')(T:List Addr)(hT:∀b∈T,H b=none\/∃xs,H b=some (.tup xs)):Grow F H (λb=>if b∈T then H' b else F b) H':=by
 refine⟨λb u e=>?_,λb u e=>?_,hh,λb u e t n=>?_⟩
 · show(if b∈T then H' b else F b)=some u;split
   · exact hh _ _ (s b u e)
   · exact e
 · have e:(if b∈T then H' b else F b)=some u:=e;split at e
   · exact e
   · exact hh _ _ (s b u e)
 · show(if b∈T then H' b else F b)=none;split
   · rename_i hm
     rcases hT b hm with z|⟨xs,z⟩
     · rw [z]at e;cases e
     · rw [z]at e;cases e;exact absurd rfl (t xs)
   · exact n
theorem Ck {F:Hp}:∀{bs:List Addr} {ps:List KN},bs.length=ps.length->(∀i,i < ps.length->∃t,F (bs.getD i 0)=some (.tup [.ref t,.int (ps.getD i ([],0)).2])/\F t=some (.tup ((ps.getD i ([],0)).1.map V.int)))->Are K F (bs.map V.ref) (ps.map kF)
 |[],[],_,_=>rfl
 |[],_::_,e,_=>by cases e
 |_::_,[],e,_=>by cases e
 |b::bs,p::ps,e,h=>by
  obtain⟨t,h1,h2⟩:=h 0 (Nat.succ_pos _);exact⟨.ref b,_,rfl,⟨b,_,rfl,h1,⟨.ref t,_,rfl,⟨t,_,rfl,h2,Are.ints.mpr rfl⟩,⟨.int p.2,_,rfl,rfl,rfl⟩⟩⟩,Ck (Nat.succ.inj e) λi hi=>h (i+1) (Nat.succ_lt_succ hi)⟩
theorem wE:∀{kvs:List (PyData×PyData)} {ks:List (List Int)},mB kvs=some ks->ks.length=kvs.length
 |[],_,h=>by cases h;rfl
 |p::r,_,h=>by
  obtain⟨k,_,e2⟩:=bind_some h;obtain⟨us,e3,rfl⟩:=Q0.mp e2;simp [wE e3]
theorem tV:∀{kvs:List (PyData×PyData)} {ns:List Int},jd kvs=some ns->ns.length=kvs.length
 |[],_,h=>by cases h;rfl
 |(k,d)::r,ns,h=>by
  cases d with
  |int n=>
   obtain⟨us,e3,rfl⟩:=Q0.mp (show(jd r).map (n:: ·)=some ns from h)
   simp [tV e3]
  |_=>cases h
def HF(K:Fg)(te:TE):TE:=FG HE (bH (JH K "dict" (Cg "dict_items") te) dM)
theorem HG {te:TE}{fe:aT->Option PyData}(a:SE K te fe):SE K (HF K te) (xZ fe):=by
 intro H0 F0 F σ H δ d Q R e h;obtain⟨d1,e1,e2⟩:=bind_some e;unfold Bb at e2;split at e2
 · rename_i kvs;obtain⟨ks,e3,e4⟩:=bind_some e2;obtain⟨ns,e5,e6⟩:=bind_some e4;split at e6
   · rename_i c;cases e6;simp only [decide_eq_true_eq]at c;have kl:=wE e3;have nl:=tV e5;refine a H0 F0 F σ H δ _ _ R e1 λv H1 F1 g1 i1=>?_;obtain⟨p,rfl,hh⟩:=i1;have hd:∃m,F1 p=some (.dT m)/\Kvs K F1 m kvs:=by
      rcases hh with⟨ms,rfl,_⟩|⟨m,z,kv⟩|⟨nm,rfl,_⟩|⟨m,z,kv⟩
      · cases e5
      · exact⟨m,z,kv⟩
      · cases e5
      · cases kvs with
        |nil=>exact kv.elim
        |cons q r=>rw [kv.1]at e5;cases e5
     obtain⟨m,hm,kv⟩:=hd;have hmH:=g1.s _ _ hm;refine⟨.inr (.inr (.inl ⟨rfl,.inr ⟨m,hmH⟩⟩)),rfl,p,m,rfl,hmH,λq hq=>?_⟩;refine⟨q,p,m,ks,ns,rfl,aS,by rw [aN (aQ hmH hq)];exact hmH,tM kv e3,m8 e5 kv,c,λH' D bs ts qq sm hD nd P A hbl hDl hbs hts htl=>?_⟩
     have sm1:Same H1 H':=(bf hq _).trans sm;have old:∀{b},bv H1 q (M3 "dict_items" q p) b=none->H1 b=none:=λ{b} z=>by
      by_cases y:b=q
      · rw [y];exact hq
      · rw [aN y]at z;exact z
     have tOld:∀i,i < ks.length->H1 (ts.getD i 0)=some (.tup ((ks.getD i []).map V.int)):=λi hi=>by
      have z:=hts i hi;rw [aN (λy=>by rw [y,aS]at z;cases z)]at z
      exact z
     have mem:∀{l:List Addr} {i:Nat},i < l.length->l.getD i 0∈l:=λ{l i} hi=>by
      rw [iI,cY hi];exact Qc _
     have gr:=Grow.more g1.s sm1 (D::(bs++ts)) λb hb=>by
      rcases Q4.mp hb with rfl|hb
      · exact .inl (old hD)
      · rcases CD.mp hb with hb|hb
        · obtain⟨i,hi,rfl⟩:=List.getElem_of_mem hb;have:=(hbs i (by omega)).1
          rw [iI,cY hi]at this;exact .inl (old this)
        · obtain⟨i,hi,rfl⟩:=List.getElem_of_mem hb;have:=tOld i (by omega)
          rw [iI,cY hi]at this;exact .inr ⟨_,this⟩
     refine h (.ref D) H' _ (g1.trans gr) ⟨D,_,rfl,(if_pos lN).trans hDl,?_⟩;have sk:=MH (ns:=ns) (by omega) nd P A
     rw [<-sk];refine Ck (by rw [zJ,DM];exact hbl) λi hi=>?_
     have hi':i < ks.length:=by simpa using hi
     have ge:((List.range ks.length).map λi=>((ks.getD (SRT.g qq i) [],ns.getD (SRT.g qq i) 0):KN)).getD i ([],0)=(ks.getD (SRT.g qq i) [],ns.getD (SRT.g qq i) 0):=by
      rw [iI,zK,List.getElem?_range hi'];rfl
     rw [ge];have hg:=P.lt i hi';refine⟨ts.getD (SRT.g qq i) 0,(if_pos (ke _ (List.mem_append_left _ (mem (l:=bs) (i:=i) (by omega))))).trans (hbs i hi').2,(if_pos (ke _ (yI _ (mem (l:=ts) (i:=SRT.g qq i) (by omega))))).trans ?_⟩
     exact sm1 _ _ (tOld _ hg)
   · cases e6
 · cases e2
theorem HH(K:Fg){x:Str}{E:Expr}{ap cp p1 pos:Pos}{te:TE}(hc:X.calm=true)(hu:X.A.units+64 < cLine)(hg:Gl X x)(hm:X.mg x=none)(hv:bootBuiltins x=some (.builtin "sorted"))(ha:PE X E te)(h:X.K=K:=by rfl)(hn:x≠ "__name__":=by decide)(hdb:(x==("__debug__":Str))=false:=by decide)
 (hbase:attributeBase E "items" X.env (eval E X.env)=eval E X.env:=by rfl) (hline:(ap.endLine==cp.line)=true:=by rfl)
 (he:starEach [.Call (.Attribute E "items" ap) [] [] cp] X.env=(false,eval (.Call (.Attribute E "items" ap) [] [] cp) X.env)::starEach [] X.env:=by rfl) (hpl:(backTo pos (starEach [] X.env)).any (·.1)=false:=by rfl):
 PE X (.Call (.Name x p1) [.Call (.Attribute E "items" ap) [] [] cp] [] pos) (HF K te):=by
 subst h;exact bT (Ba hc hu) hg hm hv (aD (BE PySem.F.plainAttrs_dict PySem.F.slot_dict_items PySem.F.type_dict_items HB ha hbase hline) aK he) hn hdb he hpl
end
end DL
namespace DL
open PySem PySem.Spec PyProof.Rows L2 PySem.W
noncomputable def HI(K:Frag)(q:Addr×Obj):Option (Addr×Array Value):=match q.2.data with
 | .func fd=>(Fd fd).bind λps=>match fd.code with
  | .ref c=>match K.lookup c with
   |some ⟨_,_,.fields vs,_⟩=>match (vs[11]? :Option Value)with
    |some (.ref P)=>if codeHdIn K c P=true then some (P,ps)else none
    |_=>none
   |_=>none
  |_=>none
 |_=>none
noncomputable def eh(K:Frag):List (Addr×Array Value):=K.filterMap (HI K)
theorem zm {K:Frag}{c P:Addr}(h:codeHdIn K c P=true):∃a b d vs,K.lookup c=some ⟨a,b,.fields vs,d⟩/\vs[11]? =some (Value.ref P):=by
 unfold codeHdIn at h;split at h
 · rename_i b vs d hk;simp only [Q5]at h;have e1:=h.1.1.1.1.1;split at e1
   · rename_i P' h11;exact⟨_,b,d,vs,hk,by rw [h11,beq_iff_eq.mp e1]⟩
   · cases e1
 · cases h
theorem HJ {α:Type}:∀{l:List (Addr×α)} {a:Addr} {o:α},l.lookup a=some o->(a,o)∈l
 |[],_,_,h=>by cases h
 |(b,u)::r,a,o,h=>by
  rw [wj]at h;split at h
  · rename_i z;cases h;rw [eq_of_beq z];exact lN
  · exact ke _ (HJ h)
theorem HK {K:Frag}{P:Addr}{ps:Array Value}(t:Fe K P ps):(P,ps)∈eh K:=by
 obtain⟨f,oc,od,fd,sl,c,h1,h2,h3,h4⟩:=t;obtain⟨a,b,d,vs,k1,k2⟩:=zm h3;refine List.mem_filterMap.mpr ⟨(f,⟨oc,od,.func fd,sl⟩),HJ h1,?_⟩;unfold HI;simp only [h4,zD,h2,k1,k2,h3,if_true]
theorem Jt {K:Frag}{q:Addr×Array Value}(m:q∈eh K):∃c,codeHdIn K c q.1=true:=by
 obtain⟨⟨f,o⟩,_,e⟩:=List.mem_filterMap.mp m;unfold HI at e;split at e
 · obtain⟨ps,_,e⟩:=bind_some e;split at e
   · split at e
     · split at e
       · split at e
         · rename_i hc;cases e;exact⟨_,hc⟩
         · cases e
       · cases e
     · cases e
   · cases e
 · cases e
structure Tabs (K:Frag) (h:Heap):Prop where
 one:∀x∈eh K,∀y∈eh K,x.1=y.1->x=y
 out:(eh K).all (λq=>(K.lookup q.1).isNone)=true
 at_:∀q∈eh K,h.get? q.1=some (tabObj #[])
theorem HL {α:Type}{l:List α}(h:l.length<=1){x y:α}(hx:x∈l)(hy:y∈l):x=y:=by
 match l,h with
 |[],_=>cases hx
 |[z],_=>rw [Qf.mp hx,Qf.mp hy]
noncomputable def HM(K:Frag):Hp:=λb=>((eh K).find? λq=>q.1==b).map λq=>.tbl q.2
theorem Dy {K:Frag}{b:Addr}{o:HO}(e:HM K b=some o):∃ps,(b,ps)∈eh K/\o=.tbl ps:=by
 unfold HM at e;obtain⟨q,e1,e2⟩:=Q0.mp e;have m:=zR e1;have z:q.1=b:=by
  have y:=List.find?_some e1;exact beq_iff_eq.mp y
 exact⟨q.2,by rw [<-z];exact m,e2.symm⟩
theorem Ju {K:Frag}(h1:∀x∈eh K,∀y∈eh K,x.1=y.1->x=y){b:Addr}{ps:Array Value}(m:(b,ps)∈eh K):HM K b=some (.tbl ps):=by
 unfold HM;cases z:(eh K).find? λq=>q.1==b with
 |none=>exact absurd (beq_self_eq_true b) (by have:=List.find?_eq_none.mp z _ m;simpa using this)
 |some q=>rw [h1 q (zR z) (b,ps) m (beq_iff_eq.mp (List.find?_some (p:=λq:Addr×Array Value=>q.1==b) z))];rfl
structure BMdB (base:Heap) (mg:Str->Option Value):Prop where
 ex:∃(bm:Addr) (o:Obj),mg "__builtins__"=some (.ref bm)/\bm≠builtinsNs/\bm≠mainGlobals/\base.get? bm=some o/\o.cls=.type "module"/\o.dict=some builtinsNs/\o.data=.plain
noncomputable def NG(K:Frag)(c:Addr):Addr:=match K.lookup c with
 |some ⟨_,_,.fields vs,_⟩=>match (vs[11]? :Option Value)with
  |some (.ref P)=>P
  |_=>0
 |_=>0
noncomputable def lZ(K:Frag)(a:Addr)(o:Option HO):Hp:=λb=>if b=a then o else HM K b
theorem Dz {P:Program}{w:World}{K:Frag}{mg mb:Str->Option Value}{CX:FE}{k:Nat}{fa a:Addr}{fd:FuncData}{x:Str}{sp:Sp}{s₁:Shared}{vs:List Value}{ns:List Int}
 (KX:K.In s₁.heap) (TB:Tabs K s₁.heap) (hns:s₁.heap.Ns mainGlobals mg) (hb:s₁.heap.Ns builtinsNs mb) (hbb:∀x:Str,x≠ "__name__"->mb x=bootBuiltins x) (hlim:s₁.heap.NoLimit) (hbm:∃bm ob,mg "__builtins__"=some (.ref bm)/\bm≠builtinsNs/\s₁.heap.get? bm=some ob/\ob.cls=.type "module"/\ob.dict=some builtinsNs/\ob.data=.plain) (hg:s₁.gens= #[])
 (ha:s₁.heap.get? a=some {cls:=.type "list",data:=.seq vs.toArray}) (hi:IntsAre vs ns) (hl:ns.length<=sizeLine) (hr:Room k callerA)
 (F:∀base:Heap,K.In base->base.Ns mainGlobals mg->BMdB base mg->FnOk P w K mg base CX k fa fd [x] sp) (hbind:∀(s:Shared) (u:Value),BindsTo s fd ⟨[u],[]⟩ [(x,u)])
 (hsp:∀H:Hp,Tb K H->SqL K H a (ns.map V.int)->sp [.ref a] H (λv _=>v=.bl true) λ_ _ _=>False)
 (hCX:∀H e s',CX [] H s₁ (λ_ _ _=>False) e s'->False):
 codeAny (model P w) callerA (.call (.ref fa) ⟨[.ref a],[]⟩) (λr s'=>r=.ok (.ret (.bool true))/\OldK s₁.heap s'.heap/\s'.os=s₁.os/\AllBare s'.gens) s₁:=by
 have rv:=DZ hi;have lenV:=hi.length;have atT:∀{b ps},(b,ps)∈eh K->s₁.heap.get? b=some (tabObj #[]):=λ{b ps} m=>TB.at_ _ m;have naT:∀{ps},(a,ps) ∉ eh K:=λ{ps} m=>by
  have e:=atT m;rw [ha]at e;cases e
 have core:∀o:Option HO,(o=none\/∃ob xs,o=some (.frz ob (.lst xs)))->SqL K (lZ K a o) a (ns.map V.int)->(∀u,o=some u->ObjOk P w (lZ K a o) s₁.heap a u)->(o≠none->K.lookup a=none)->
  codeAny (model P w) callerA (.call (.ref fa) ⟨[.ref a],[]⟩) (λr s'=>r=.ok (.ret (.bool true))/\OldK s₁.heap s'.heap/\s'.os=s₁.os/\AllBare s'.gens) s₁:=by
  intro o hO hS hok0 hK;have cases3:∀b u,lZ K a o b=some u->(b=a/\o=some u)\/∃ps,(b,ps)∈eh K/\u=.tbl ps:=λb u e=>by
   unfold lZ at e;split at e
   · exact .inl ⟨by assumption,e⟩
   · exact .inr (Dy e)
  have hok:HOk P w (lZ K a o) s₁.heap:=λb u e=>by
   rcases cases3 b u e with⟨rfl,z⟩|⟨ps,m,rfl⟩
   · exact hok0 u z
   · exact Or.inl (atT m)
  have noA:∀{b:Addr} {ob:Obj} {es:Array DictEntry} {ep:Nat},s₁.heap.get? b=some ob->ob.data=.dict es ep->lZ K a o b=none:=λ{b ob es ep} e d=>by
   cases q:lZ K a o b with
   |none=>rfl
   |some u=>
    rcases cases3 b u q with⟨rfl,z⟩|⟨ps,m,rfl⟩
    · rw [ha]at e;cases e;cases d
    · rw [atT m]at e;cases e;cases d
  have nsK:∀{b:Addr} {m:Str->Option Value},s₁.heap.Ns b m->(wk s₁.heap (lZ K a o)).Ns b m:=λ{b m} ⟨ob,es,ep,e,d,r⟩=>⟨ob,es,ep,sP e (noA e d),d,r⟩;have hKb:K.In (wk s₁.heap (lZ K a o)):=λb ob e=>sP (KX b ob e) (by
   cases q:lZ K a o b with
   |none=>rfl
   |some u=>
    rcases cases3 b u q with⟨rfl,z⟩|⟨ps,m,rfl⟩
    · rw [hK (by rw [z];exact λy=>nomatch y)]at e;cases e
    · have z:=Q9.mp TB.out _ m;rw [e]at z;cases z)
  have hB:BMdB (wk s₁.heap (lZ K a o)) mg:=by
   obtain⟨bm,ob,m1,m2,m3,m4,m5,m6⟩:=hbm;refine⟨bm,ob,m1,m2,λz=>?_,sP m3 ?_,m4,m5,m6⟩
   · obtain⟨og,es,ep,g1,g2,_⟩:=hns;rw [<-z,m3]at g1;cases g1;rw [m6]at g2;cases g2
   · cases q:lZ K a o bm with
     |none=>rfl
     |some u=>
      rcases cases3 bm u q with⟨rfl,z⟩|⟨ps,m,rfl⟩
      · rw [ha]at m3;cases m3;cases m6
      · rw [atT m]at m3;cases m3;cases m6
  have hM:Mod K mg (wk s₁.heap (lZ K a o)):=⟨hKb,nsK hns,⟨mb,nsK hb,hbb⟩,let ⟨mc,h1,h2⟩:=hlim;⟨mc,nsK h1,h2⟩⟩;have e0:Env0 P w K mg (wk s₁.heap (lZ K a o)) callerA [] s₁ (lZ K a o):=⟨rfl,hM,λb o e=>Iq e,Nat.le_of_eq (DQ _ _),trivial,(λb hb=>absurd (show b∈([]:List Addr)from hb) (by simp)),hok,.of_eq hg⟩
  have tb:Tb K (lZ K a o):=λb ps t=>by
   have m:=HK t;unfold lZ;rw [if_neg (λz=>naT (z▸m))];exact Ju TB.one m
  refine codeAny_mono ((F _ hKb (nsK hns) hB).run callerA [] s₁ (lZ K a o) ⟨[.ref a],[]⟩ [.ref a] [.ref a] _ _ hr e0 (hbind s₁ (.ref a)) (.cons rfl .nil) (hsp _ tb hS)) λr s' h=>?_;cases r with
  |error e=>exact(hCX _ e s' h).elim
  |ok fl=>
   cases fl with
   |next=>exact False.elim h
   |brk=>exact False.elim h
   |cont=>exact False.elim h
   |ret u=>
    obtain⟨v,H',os,bare,un,hok',r',q⟩:=h;have q':v=.bl true:=q;subst q';obtain rfl:u=Value.bool true:=r';have key:∀b ob,s₁.heap.get? b=some ob->s'.heap.get? b=some ob\/(∃arr,isCodeTable s₁.heap b/\ob=tabObj #[]/\s'.heap.get? b=some (tabObj arr)):=λb ob e=>by
     cases q:lZ K a o b with
     |none=>exact .inl (un.keep b ob e q (by intro z;exact absurd (show b∈([]:List Addr)from z) (by simp)) (by simp))
     |some u=>
      rcases cases3 b u q with⟨rfl,z⟩|⟨ps,m,rfl⟩
      · rcases hO with y|⟨oo,xs,y⟩
        · rw [y]at z;cases z
        · rw [y]at z;cases z;have z2:=un.frzs b oo _ q;obtain⟨e1,_⟩:=hok b _ q;obtain⟨e2,_⟩:=hok' b _ z2;rw [e]at e1;cases e1;exact .inl e2
      · obtain⟨more,z2⟩:=un.tbls b _ q;obtain⟨c,hc⟩:=Jt m;have ct:=((codeHd_of_K KX hc).tab (atT m)).isCodeTable;have eo:=atT m;rw [e]at eo;cases eo
        rcases(show ObjOk P w H' s'.heap b (.tbl _)from hok' b _ z2)with y|⟨c',oo,uu,l,cc,q0,t0,t2,vs',_,y,_⟩
        · exact .inr ⟨#[],ct,rfl,y⟩
        · exact .inr ⟨_,ct,rfl,y⟩
    refine⟨rfl,⟨λb ob e=>?_,λb ob e=>?_⟩,os,bare⟩
    · rcases key b ob e with z|⟨arr,z1,z2,z3⟩
      · exact .inl z
      · subst z2;exact .inr (.inl ⟨z1,rfl, #[],arr,rfl,by rw [Array.empty_append];exact z3⟩)
    · rcases key b ob e with z|⟨arr,_,_,z3⟩
      · exact⟨_,z⟩
      · exact⟨_,z3⟩
 cases hk:K.lookup a with
 |some o=>
  have e:=KX a o hk;rw [ha]at e;cases e;exact core none (.inl rfl) (.inr ⟨_,vs.toArray,_,hk,rfl,rfl,rfl,by rw [zM,lenV];exact hl,by simpa using rv⟩) (λu z=>nomatch z) λz=>absurd rfl z
 |none=>
  refine core (some (.frz {cls:=.type "list",data:=.seq vs.toArray} (.lst (ns.map V.int)))) (.inr ⟨_,_,rfl⟩) (.inl (.inr ⟨{cls:=.type "list",data:=.seq vs.toArray},if_pos rfl⟩)) (λu z=>?_) λ_=>hk;cases z;exact⟨ha,by rw [zJ];exact hl,vs,_,rv,ha⟩
theorem HP {l:OpenLaw}{n k:Nat}{q:Program}{loose:List Str}{XP:(Str->Option Value)->Heap->Prop}{YP:World->Heap->Prop}{d:DefRec}{K:Params->Frag}{CX:World->FE}{sp:World->Sp}{x:Str}
 (hn:l.most=some n) (hn2:n<=sizeLine) (hdf:d.params.defaults=[]) (hr:Room k callerA)
 (hY:∀(w:World) (h:Heap),YP w h->(K w.params).In h/\Tabs (K w.params) h)
 (F : ∀ (w : World) (mg : Str -> Option Value) (fa : Addr) (h : Heap), (K w.params).In h -> h.Ns mainGlobals mg -> mg d.name = some (.ref fa) ->
  ∃fd:FuncData,(∀(s:Shared) (u:Value),BindsTo s fd ⟨[u],[]⟩ [(x,u)])/\∀base:Heap,(K w.params).In base->base.Ns mainGlobals mg->BMdB base mg->FnOk l.prog w (K w.params) mg base (CX w) k fa fd [x] (sp w))
 (hsp:∀(w:World) (H:Hp) (a:Addr) (ns:List Int),ns.length<=n->Tb (K w.params) H->SqL (K w.params) H a (ns.map V.int)->sp w [.ref a] H (λv _=>v=.bl true) λ_ _ _=>False)
 (hCX:∀(w:World) (H:Hp) (s:Shared) (e:Value) (s':Shared),CX w [] H s (λ_ _ _=>False) e s'->False):
 WalkO q loose XP YP l.row.toRowW d [] (λf vs=>PySem.call f vs):=by
 refine Att.yT hn hdf λw s₀ s₁ mg mb fa o pm cd doc a vs ns G Y ho hd hcd hmg hobj hints hlen hg=>?_;obtain⟨KX,TB⟩:=hY w _ Y;obtain⟨fd,hb,hF⟩:=F w mg fa _ KX G.T.g hmg;exact Dz KX TB G.T.g G.T.b G.T.builtins G.T.nolimit G.T.bmain hg hobj hints (Q7 hlen hn2) hr hF hb (λH hO hS=>hsp w H a ns hlen hO hS) λH e s'=>hCX w H s₁ e s'
theorem Cm {K:Frag}{h:Heap}{ts:List Addr}(hT:∀P∈ts,h.get? P=some (tabObj #[]))(e:(eh K).map (·.1)=ts)(h1:ts.length<=1)(h2:(eh K).all (λq=>(K.lookup q.1).isNone)=true):Tabs K h:=
 ⟨λx hx y hy _=>HL (by rw [<-zJ (f:=λq:Addr×Array Value=>q.1),e];exact h1) hx hy,h2,λq m=>hT _ (e▸zP m)⟩
noncomputable def HQ:Expr->Option Scope
 | .Call _ _ [⟨_,.Lambda _ _ sc _,_⟩] _=>some sc
 |_=>none
noncomputable def MI:Stmt->Option Scope
 | .Return (some e) _=>HQ e
 | .Assign _ e _=>HQ e
 |_=>none
noncomputable def NH(st:Stmt):Scope:=((aZ st).findSome? MI).getD (aL st)
noncomputable def HR(st:Stmt):Pos:=((aZ st).findSome? Mt).getD ⟨0,0,0,0⟩
structure FunC (K:Frag) (x qual:Str) (st:Stmt) (f:Addr) (fd:FuncData) (c:Addr):Prop where
 ex:∃(oc:Value) (od:Option Addr) (kV doc pm:Value) (an:Option Addr) (ct:Value) (osl:Array (Option Value)),fd=fnOf x qual (ag st) (aZ st) (aL st) .none kV doc pm an (.ref c) ct/\K.lookup f=some ⟨oc,od,.func fd,osl⟩/\codeIn K (.ref c) qual=true
section
variable {P:Program} {w:World} {K:Frag} {mg:Str->Option Value} {base:Heap}
theorem Jv {x qual:Str}{st:Stmt}{f c:Addr}{oc:Value}{od an:Option Addr}{osl:Array (Option Value)}{kV doc pm ct:Value}(l:K.lookup f=some ⟨oc,od,.func (fnOf x qual (ag st) (aZ st) (aL st) .none kV doc pm an (.ref c) ct),osl⟩)
 (h:codeIn K (.ref c) qual=true):FunC K x qual st f (fnOf x qual (ag st) (aZ st) (aL st) .none kV doc pm an (.ref c) ct) c:=⟨oc,od,kV,doc,pm,an,ct,osl,rfl,l,h⟩
theorem Jw {x qual:Str}{st:Stmt}{f c:Addr}{fd:FuncData}{N ps:List Str}{k n m:Nat}{fb:aT->Option DFlow}(F:FunC K x qual st f fd c)(S:FnScope N ps (aL st))(hN:N.length=n)(hm:ps.length=m)
 (hbody : ∀ (A : Around) (outer : List Env) (s : Shared) (H : Hp) (E : XK), Room k (A.deeper (envOfC qual (aL st) s.heap.objs.size f (.ref c))) ->
  ∃t,PSs (wq gY P w K mg base N qual (aL st) f (.ref c) A outer s H E).nox (aZ st) t/\SS K t fb):FnOk P w K mg base gY (k+1) f fd ps (cF K m (bV n fb)):=by
 subst hN hm;obtain⟨oc,od,kV,doc,pm,an,ct,osl,rfl,lk,hcd⟩:=F.ex;refine Kf lk hcd S (λvs H Q E h=>?_) λA outer s H vs Q E hr h=>?_
 · obtain⟨F',ds,d,_,hl,_⟩:=h;exact hl
 · obtain⟨F',ds,d,sF,hl,ar,e,q⟩:=h;obtain⟨t,ht,hs⟩:=hbody A outer s H E hr;obtain⟨r,e1,e2⟩:=bind_some e;refine⟨t,ht.nox,hs H F' F' (L2.eZ N vs) H (gu N.length ds) r _ (ja sF ar) e1 ?_⟩;cases r with
   |nx δ=>cases e2;exact λF2 σ2 H2 R2 _=>q .non H2 F2 R2.g rfl
   |rt d'=>cases e2;exact λF2 v H2 g2 i2=>q v H2 F2 g2 i2
   |ro es=>
    cases e2;exact λF2 a xs H2 g2 h0 hf ha ar2=>q (.ref a) H2 _ (g2.frz h0 hf ha) ⟨a,xs,rfl,aS,ar2.same (bf hf _)⟩
   |bk _=>cases e2
   |ct _=>cases e2
theorem Jx {x qual:Str}{st:Stmt}{f c T:Addr}{fd:FuncData}{ps:Array Value}(F:FunC K x qual st f fd c)(hC:codeHdIn K c T=true)(hp:∀kV doc pm an ct,Fd (fnOf x qual (ag st) (aZ st) (aL st) .none kV doc pm an (.ref c) ct)=some ps):Fe K T ps:=by
 obtain⟨oc,od,kV,doc,pm,an,ct,osl,rfl,lk,hcd⟩:=F.ex;exact⟨f,oc,od,_,osl,c,lk,rfl,hC,hp _ _ _ _ _⟩
end
end DL
namespace DL
open PySem L2
noncomputable abbrev Cl:=List (List Int×List PyData)
noncomputable abbrev Es:=List (List Int×Addr×List V)
noncomputable def Nz(c:Cl):List (PyData×PyData):=c.map λp=>(aJ p.1,.list p.2)
noncomputable def OA(es:Es):List (List bx×V):=es.map λe=>(e.1.map Sum.inl,V.ref e.2.1)
noncomputable def OR(es:Es):List Addr:=es.map λe=>e.2.1
noncomputable def kS(δ:aT):Bool:=δ.all λs=>match s with
 |some (.ow _)=>false
 |some (.od _)=>false
 |_=>true
theorem gQ {δ:aT}(h:kS δ=true){j:Nat}{s:Sl}(e:δ[j]? =some (some s)):∃d,s=.fz d:=by
 have:=Q9.mp h _ (Ik e);cases s with
 |fz d=>exact⟨d,rfl⟩
 |ow _=>cases this
 |od _=>cases this
theorem tW {δ:aT}(h:kS δ=true)(j:Nat)(d:PyData):kS (δ.set j (some (.fz d)))=true:=by
 unfold kS;rw [Q9];intro s hs
 rcases List.mem_or_eq_of_mem_set hs with z|z
 · exact Q9.mp h s z
 · rw [z]
section
variable {K:Fg} {H0 F0 F F':Hp} {σ:St} {H H':Hp} {δ:aT}
noncomputable def Ent(K:Fg)(H0 F H:Hp):Es->Cl->Prop
 |[],[]=>True
 |e::es,p::ps=>(e.1=p.1/\H e.2.1=some (.lst e.2.2)/\F e.2.1=none/\H0 e.2.1=none/\Are K F e.2.2 p.2)/\Ent K H0 F H es ps
 |_,_=>False
theorem Co:∀{a b:List Int},a.map (Sum.inl:Int->bx)=b.map Sum.inl->a=b
 |[],[],_=>rfl
 |[],_::_,h=>by cases h
 |_::_,[],h=>by cases h
 |x::a,y::b,h=>by
  rw [zI,zI]at h;injection h with h1 h2
  injection h1 with h1
  rw [h1,Co h2]
theorem Ent.kvs {es:Es}{ps:Cl}(h:Ent K H0 F H es ps)(s:Same F F')(q:∀e∈es,F' e.2.1=H e.2.1):Kvs K F' (OA es) (Nz ps):=by
 induction es generalizing ps with
 |nil=>
  cases ps with
  |nil=>rfl
  |cons _ _=>exact h.elim
 |cons e es ih=>
  cases ps with
  |nil=>exact h.elim
  |cons p ps=>
   obtain⟨⟨h1,h2,h3,h4,h5⟩,r⟩:=h;refine⟨(e.1.map Sum.inl,V.ref e.2.1),OA es,rfl,⟨?_,?_⟩,ih r λx hx=>q x (ke _ hx)⟩
   · rw [h1];show aJ p.1=.tuple ((p.1.map Sum.inl).map kD);unfold aJ;rw [zO];rfl
   · exact⟨e.2.1,e.2.2,rfl,(q e lN).trans h2,h5.same s⟩
theorem Rep.upd_ {c:Addr}{o:HO}(R:Rep K H0 F0 F σ H δ)(z:kS δ=true)(fc:F c=none)(hc:H0 c=none):Rep K H0 F0 F σ (bv H c o) δ:=by
 refine⟨⟨R.g.f,λb u e=>by rw [aN (aQ e fc)];exact R.g.s b u e,λb u e=>by rw [aN (aQ e hc)];exact R.g.h b u e,R.g.o⟩,R.len,R.fz,λj ds e=>?_,R.ap,λj ds e=>?_,R.ad,R.tb⟩
 · obtain⟨d,y⟩:=gQ z e;cases y
 · obtain⟨d,y⟩:=gQ z e;cases y
structure PI (K:Fg) (H0 F0 F:Hp) (σ:St) (H:Hp) (δ:aT) (i N:Nat) (kls:Cl):Prop where
 R:Rep K H0 F0 F σ H δ
 z:kS δ=true
 ln:δ.length=N
 ex:∃a es,σ[i]? =some (some (.ref a))/\H a=some (.dT (OA es))/\F a=none/\H0 a=none/\Ent K H0 F H es kls/\(a::OR es).Nodup
theorem PI.set {i j N:Nat}{kls:Cl}{v:V}{d:PyData}(P:PI K H0 F0 F σ H δ i N kls)(n:j≠i)(h:Is K F v d):PI K H0 F0 F (σ.set j (some v)) H (δ.set j (some (.fz d))) i N kls:=by
 obtain⟨a,es,h1,r⟩:=P.ex;exact⟨P.R.set h,tW P.z j d,by rw [Q6];exact P.ln,a,es,by rw [Al n];exact h1,r⟩
end
section
variable {K:Fg}
end
end DL
namespace L2
open PySem PySem.Spec PyProof.Rows PySem.W
end L2
namespace DL
open PySem L2
section
variable {K:Fg}
end
end DL
namespace L2
open PySem PySem.Spec PyProof.Rows PySem.W
section
variable {prog:Program} {w:World} {A:Around} {E:Value->Shared->Prop} {s:Shared} {a b:Addr} {es:Array DictEntry} {ep ep2:Nat}
end
end L2
namespace DL
open PySem L2
section
variable {K:Fg}
end
theorem Ef {P:List Value->Prop}(h:∀a,P [a]):∀us:List Value,us.length=1->P us:=λus e=>by
 rcases us with _|⟨a,_|⟨b,r⟩⟩
 · cases e
 · exact h a
 · exact absurd e (by simp)
theorem qb {P:List Value->Prop}(h:∀a b,P [a,b]):∀us:List Value,us.length=2->P us:=λus e=>by
 rcases us with _|⟨a,r⟩
 · cases e
 · exact Ef (P:=λr=>P (a::r)) (h a) r (Nat.succ.inj e)
theorem M4 {P:List Value->Prop}(h:∀a b c,P [a,b,c]):∀us:List Value,us.length=3->P us:=λus e=>by
 rcases us with _|⟨a,r⟩
 · cases e
 · exact qb (P:=λr=>P (a::r)) (h a) r (Nat.succ.inj e)
end DL
namespace L2
open PySem
theorem aa {X:Cx}{pos:Pos}{i:Nat}{x:Str}{e:Expr}{te:TE}{pos':Pos}(hN:X.N.Nodup)(he:PE X e te)(hi:X.N[i]? =some x:=by rfl)(hx:K8 X.env.scope x:=by first|exact Or.inl rfl|exact Or.inr rfl)(hs:swapsWith e (some (.Name x pos')) pos.line X.env=pure false:=by rfl)
 (hf:X.fn x=true\/X.env.scope.names.lookup x=some .local:=by first|exact .inl rfl|exact .inr rfl|assumption):PS X (.Assign [.Name x pos'] e pos) (oM te (eE i)):=Em hN hi hx he hs hf
theorem kU {N P:List Str}{sc:Scope}(a:sc.kind=.function:=by rfl)(b:sc.isCoroutine=false:=by rfl)(c:sc.isGenerator=false:=by rfl)(d:N.Nodup:=by decide+kernel)(e:N.take P.length=P:=by rfl)
 (f:∀x∈P,sc.names.lookup x=some .local\/sc.names.lookup x=some .cell:=by decide+kernel) (g:∀y∈sc.names,y.2≠ .free:=by decide+kernel):FnScope N P sc:=⟨a,b,c,d,e,f,g⟩
end L2
namespace L2
open PySem PySem.Spec PyProof.Rows PySem.W
section
variable {X:Cx}
end
end L2
namespace DL
open PySem PySem.Spec PyProof.Rows L2
section
variable {K:Fg}
theorem Are.dropLast {F:Hp}{xs:List V}{ds:List PyData}(h:Are K F xs ds):Are K F xs.dropLast ds.dropLast:=by
 rw [List.dropLast_eq_take,List.dropLast_eq_take,h.length];exact h.take _
theorem qc:∀(l:List Str) (acc:Str),(l.foldl (· ++ ·) acc).length=acc.length+(l.map (·.length)).sum:=by
 intro l
 induction l with
 |nil=>intro acc;rfl
 |cons z r ih=>
  intro acc;rw [List.foldl_cons,ih,zI,List.sum_cons,show(acc++z).length=acc.length+z.length from strLen_append acc z]
  omega
end
end DL
namespace L2
open PySem PySem.Spec PyProof.Rows PySem.W
section
variable {prog:Program} {w:World} {A:Around} {E:Value->Shared->Prop} {hp:Heap} {gs:Array GenState} {dr:Drawn} {tk:Nat} {ost:OsState}
variable {n1 n2:Str} {C NS:Addr} {b1 b2 b3:List Value} {f1:Bool} {ss:List Str} {vs:List Value} {f2:Bool} {f3:Option Bool} {od:Option Addr} {z0 z1 z2 z3 z5:Option Value} {B nid iid:String}
end
theorem OwnTail.kept {h h':Heap}{bl tl:List Value}(T:OwnTail h bl tl)(k:∀b o,h.get? b=some o->h'.get? b=some o):OwnTail h' bl tl:=T.keeps k
section
variable {X:Cx}
end
section
variable {X:Cx} {pins:List (Addr×Obj)} {σ:St} {H:Hp} {s:Shared}
end
section
variable {P:Program} {w:World} {K:Frag} {mg:Str->Option Value} {base:Heap} {N:List Str} {qual:Str} {scope:Scope} {f:Addr} {cd:Value} {A:Around} {outer:List Env} {s₀:Shared} {H₀:Hp} {E:XK}
end
end L2
namespace DL
open PySem L2 PyProof.Rows
section
variable {K:Fg} {E:XK} {C:Addr}
end
end DL
namespace L2
open PySem PySem.Spec PyProof.Rows PySem.W
section
variable {M:Model} {A:Around} {E:Value->Shared->Prop} {s:Shared}
end
section
variable {X:Cx} {pins:List (Addr×Obj)} {σ:St} {H:Hp} {s:Shared}
end
section
variable {prog:Program} {w:World} {A:Around} {R:Result->Shared->Prop} {s:Shared}
end
section
variable {X:Cx}
section
variable {N:List Str} {sc:Scope} {C:Addr} {fp:List Addr} {s0:Shared} {H0:Hp} {E:XK} {pins:List (Addr×Obj)} {σ:St} {H:Hp} {s:Shared}
end
end
end L2
namespace DL
open PySem L2 PyProof.Rows
section
variable {K:Fg} {E:XK} {C:XI}
end
end DL
namespace L2
open PySem PySem.Spec PyProof.Rows PySem.W
section
variable {X:Cx} {pins:List (Addr×Obj)} {σ:St} {H:Hp} {s:Shared}
end
end L2
namespace DL
open PySem L2 PyProof.Rows
section
variable {K:Fg} {E:XK} {C:Addr}
end
end DL
namespace L2
open PySem PySem.Spec PyProof.Rows PySem.W
section
variable {prog:Program} {w:World} {A:Around} {E:Value->Shared->Prop} {hp:Heap} {gs:Array GenState} {dr:Drawn} {tk:Nat} {ost:OsState}
variable {n1 n2:Str} {C NS:Addr} {b1 b2 b3:List Value} {f1:Bool} {ss:List Str} {vs:List Value} {f2:Bool} {f3:Option Bool} {od:Option Addr} {z0 z1 z2 z3 z5:Option Value} {B nid iid:String}
end
section
variable {X:Cx} {pins:List (Addr×Obj)} {σ:St} {H:Hp} {s:Shared}
end
end L2
namespace DL
open PySem L2 PyProof.Rows
section
variable {K:Fg} {E:XK} {C:XI}
end
section
variable {K:Fg} {E:XK} {C:Addr}
end
end DL
namespace L2
open PySem
section
variable {prog:Program} {w:World} {K:Type} [DecidableEq K] (hk:HeapKind prog w K)
inductive RefsAre (h:Heap):List K->List Value->Prop
 |nil:RefsAre h [] []
 |cons {k:K} {b:Addr} {ks:List K} {vs:List Value}:hk.is h k b->RefsAre h ks vs->RefsAre h (k::ks) (.ref b::vs)
def IsTupH(h:Heap)(ks:List K)(a:Addr):Prop:=∃o items n,h.get? a=some o/\o.cls=.type "tuple"/\o.data=.seq items n/\RefsAre hk h ks items.toList
variable {hk}
theorem RefsAre.inj {h:Heap}{x:List K}{vs:List Value}(hx:RefsAre hk h x vs):∀{y:List K},RefsAre hk h y vs->x=y:=by
 induction hx with
 |nil=>intro y hy;cases hy;rfl
 |cons h1 _ ih=>
  intro y hy;cases hy with
  |cons h2 t2=>rw [hk.inj h1 h2,ih t2]
theorem RefsAre.keeps {h h':Heap}{d:Addr}{o:Obj}{es ep}{x:List K}{vs:List Value}(hx:RefsAre hk h x vs)(ho:h.get? d=some o)(hd:o.data=.dict es ep)(hs:Heap.SameBut d h h'):RefsAre hk h' x vs:=by
 induction hx with
 |nil=>exact .nil
 |cons h1 _ ih=>exact .cons (hk.keeps h1 ho hd hs) ih
theorem IsTupH.typeIs {s:Shared}{ks:List K}{a:Addr}(x:IsTupH hk s.heap ks a):s.TypeIs (.ref a) "tuple":=let ⟨o,_,_,ho,hc,_⟩:=x;⟨o,ho,hc⟩
theorem IsTupH.inj {h:Heap}{a:Addr}{x y:List K}(hx:IsTupH hk h x a)(hy:IsTupH hk h y a):x=y:=by
 obtain⟨o,items,n,ho,_,hd,hi⟩:=hx;obtain⟨o',items',n',ho',_,hd',hi'⟩:=hy;rw [ho]at ho';cases ho';rw [hd]at hd';cases hd';exact hi.inj hi'
theorem IsTupH.keeps {h h':Heap}{ks:List K}{a d:Addr}{o:Obj}{es ep}(x:IsTupH hk h ks a)(ho:h.get? d=some o)(hd:o.data=.dict es ep)(hs:Heap.SameBut d h h'):IsTupH hk h' ks a:=by
 obtain⟨o',items,n,ho',hc,hd',hi⟩:=x;have hne:a≠d:=λe=>by
  subst e;rw [ho]at ho';cases ho';rw [hd]at hd';cases hd'
 exact⟨o',items,n,(hs.2 a hne).trans ho',hc,hd',hi.keeps ho hd hs⟩
noncomputable def tX(hk:HeapKind prog w K)(ks:List K):Int:=reduceHash (Builtin.Tuple.tupleHashOf (ks.map hk.hash))
noncomputable def tY(hk:HeapKind prog w K)(ks:List K):Nat:=(ks.map hk.draws).sum+1
variable {A:Around} {E:Value->Shared->Prop} {s:Shared}
theorem EA {ks:List K}{a:Addr}{Q:Int->Shared->Prop}(hr:hk.room A.in1)(hu:A.units < cLine)(hkk:IsTupH hk s.heap ks a)(h:Q (tX hk ks) {s with toks:=s.toks+tY hk ks}):
 wpAny (model prog w) A (pyHash (.ref a)) Q E s:=by
 have hT:=hkk.typeIs;obtain⟨o,items,n,ho,_,hd,hi⟩:=hkk;unfold pyHash
 first|unfold pyHashByItsType|skip
 first|refine wB (wpAny_cRoomFor_or (.inr hu) ?_)|skip
 refine wB (wpAny_specialOf hT F.slot_tuple_hash.lookup ?_);show wpAny _ _ (if(some (Value.builtin "tuple.__hash__")==some Value.none)=true then _ else _) Q E s;rw [if_neg (by rw [beq_builtin_none];exact Q8)]
 refine wB (wpAny_specialOf hT F.slot_tuple_hash.lookup ?_);show wpAny _ _ (callSpecialIfBoundUnlessNone? (.ref a) "__hash__" _ >>=_) Q E s;refine wB (wpAny_callSpecialIfBoundUnlessNone?_slot hT F.slot_tuple_hash (wpAny_call_entry F.slot_tuple_hash hT F.entry_tuple_hash ?_ (F.args_tuple_hash_1 _)));show wpAny _ _ (Builtin.Tuple.tupleItemsOf (.ref a) >>=_) _ _ s;refine wB (wpAny_tupleItemsOf ho hd ?_);refine wB ?_;rw [<-Array.forIn_toList];refine wpAny_forIn_list _
  (λiM (b:Array Int) s'=>∃done left,ks=done++left/\RefsAre hk s.heap left iM/\b.toList=done.map hk.hash/\s'={s with toks:=s.toks+(done.map hk.draws).sum})
  _ ?_ ?_ _ _ ⟨[],ks,rfl,hi,rfl,rfl⟩
 · rintro x iM b s' ⟨done,left,rfl,hl,hb,rfl⟩;cases hl with
   | @cons k _ ks' _ h1 hl'=>
    refine wB (hk.pyHash hr h1 ?_);have fin:∃done' left',done++k::ks'=done'++left'/\RefsAre hk s.heap left' iM/\(b.push (hk.hash k)).toList=done'.map hk.hash/\
     ({s with toks:=s.toks+(done.map hk.draws).sum+hk.draws k}:Shared)={s with toks:=s.toks+(done'.map hk.draws).sum}:=
     ⟨done++[k],ks',by simp,hl',by simp [hb],by simp [Nat.add_assoc]⟩
    first
     |exact wP fin
     |exact wB (wP (wP fin))
 · rintro b s' ⟨done,left,rfl,hl,hb,rfl⟩;cases hl;rw [Qa]at h;show wpAny _ _ (retInt (Builtin.Tuple.tupleHashOf b.toList)) _ _ _;rw [hb];refine wpAny_ret_mkInt ?_;show wpAny _ _ (if(decide (-(2:Int) ^ 63<=Builtin.Tuple.tupleHashOf (done.map hk.hash))&&decide (Builtin.Tuple.tupleHashOf (done.map hk.hash) < 2 ^ 63))=true then _ else _) Q E _;unfold tX reduceHash tY at h
   by_cases hr:(decide (-(2:Int) ^ 63<=Builtin.Tuple.tupleHashOf (done.map hk.hash))&&decide (Builtin.Tuple.tupleHashOf (done.map hk.hash) < 2 ^ 63))=true
   · rw [if_pos hr];rw [if_pos hr]at h;exact wP (by simpa [Nat.add_assoc]using h)
   · rw [if_neg hr];rw [if_neg hr]at h;exact wB (wpAny_rule (wP (by simpa [Nat.add_assoc]using h)))
theorem HS {x y:List K}{a b:Addr}{P:PySem.Fin->Shared->Prop}(hr:hk.room A)(hx:IsTupH hk s.heap x a)(hy:IsTupH hk s.heap y b)(h:P (.done (.ret (.bool (decide (x=y))))) s):
 wpAny (model prog w) A (Builtin.«tuple.__eq__» ⟨[.ref a,.ref b],[]⟩) P E s:=by
 have hTb:=hy.typeIs;obtain⟨oa,xs,na,hoa,_,hda,hia⟩:=hx;obtain⟨ob,ys,nb,hob,_,hdb,hib⟩:=hy;show wpAny _ _ (isInstance (.ref b) (.type "tuple") >>=_) _ _ s;refine wB (wpAny_isInstance hTb isSubtype_tuple_tuple ?_);simp only [DN,zN,if_false];refine wB (wpAny_tupleItemsOf hoa hda ?_);refine wB (wpAny_tupleItemsOf hob hdb ?_);refine wB ?_;refine wpAny_forIn_list _
  (λiM r s'=>r.1=none/\s'=s/\∃x' y' xs' ys',iM=List.zip xs' ys'/\RefsAre hk s.heap x' xs'/\RefsAre hk s.heap y' ys'/\decide (x'=y')=decide (x=y)/\(xs'.length==ys'.length)=(xs.size==ys.size))
  _ ?_ ?_ _ _ ⟨rfl,rfl,x,y,xs.toList,ys.toList,rfl,hia,hib,rfl,by simp⟩
 · rintro⟨u,v⟩ iM r s' ⟨hrr,rfl,x',y',xs',ys',hz,hx',hy',hdec,hlen⟩;cases hx' with
   |nil=>simp at hz
   | @cons k1 u' x'' xs'' h1 hx''=>
    cases hy' with
    |nil=>simp at hz
    | @cons k2 v' y'' ys'' h2 hy''=>
     simp only [List.zip_cons_cons,List.cons.injEq,Prod.mk.injEq]at hz;obtain⟨⟨rfl,rfl⟩,rfl⟩:=hz;refine wB (hk.eqBool hr (x:=k1) (y:=k2) h1 h2 ?_)
     by_cases hkk:k1=k2
     · subst hkk;rw [decide_eq_true rfl];simp only [DN,zN,if_false];refine wP ⟨rfl,rfl,x'',y'',xs'',ys'',rfl,hx'',hy'',?_,by simpa using hlen⟩
       rw [<-hdec]
       by_cases hxy:x''=y''
       · simp [hxy]
       · simp [hxy]
     · rw [decide_eq_false hkk];simp only [Bool.not_false,if_true];have hf:decide (x=y)=false:=by rw [<-hdec];simp [hkk]
       rw [hf]at h;exact wB (wP (wP (wP h)))
 · rintro⟨r1,r2⟩ s' ⟨hrr,rfl,x',y',xs',ys',hz,hx',hy',hdec,hlen⟩;simp only at hrr;subst hrr;refine wP ?_;have hfin:(xs.size==ys.size)=decide (x=y):=by
    rw [<-hdec, <-hlen];cases hx' with
    |nil=>
     cases hy' with
     |nil=>simp
     |cons _ _=>simp
    |cons _ _=>
     cases hy' with
     |nil=>simp
     |cons _ _=>simp at hz
   show P (.done (.ret (.bool (xs.size==ys.size)))) s';rw [hfin];exact h
theorem Jy {x y:List K}{a b:Addr}{Q:Bool->Shared->Prop}(hr:hk.room A.in1)(hu:A.units < cLine)(hx:IsTupH hk s.heap x a)(hy:IsTupH hk s.heap y b)(h:Q (decide (x=y)) s):
 wpAny (model prog w) A (eqBool (.ref a) (.ref b)) Q E s:=by
 unfold eqBool
 try with_reducible refine wpAny_holding ?_
 show wpAny _ _ (if(Value.ref a==Value.ref b)=true then _ else _) Q E s
 by_cases hab:(Value.ref a==Value.ref b)=true
 · rw [if_pos hab];have e:a=b:=by have:=eq_of_beq hab;injection this
   subst e;obtain rfl:=hx.inj hy;exact wB (wpAny_rule (wP (by simpa using h)))
 · rw [if_neg hab];refine wB (wpAny_richCompare_same_room (op:=.Eq) hx.typeIs hy.typeIs F.slot_tuple_eq (wpAny_call_entry F.slot_tuple_eq hx.typeIs F.entry_tuple_eq ?_ (F.args_tuple_eq_2 _ _)) hu);exact HS hr hx hy ⟨_,rfl,(λe=>nomatch e),wpAny_truthy_bool h⟩
end
section
variable {prog:Program} {w:World} {K:Type} [DecidableEq K] {knd:KeyKind prog w K} {A:Around} {E:Value->Shared->Prop} {s:Shared}
theorem EB {n:Nat}{ks:List K}{a:Addr}{Q:Bool->Shared->Prop}(hk:IsTupleKey knd s.heap ks a)(h:Q true s):wpAny (model prog w) A (eqIsQuiet (n+1) (.ref a)) Q E s:=by
 have hT:=hk.typeIs;obtain⟨o,items,m,ho,_,hd,hi⟩:=hk;unfold eqIsQuiet;refine wB (wpAny_specialOf hT F.slot_tuple_eq.lookup ?_);show wpAny _ _ (isInstance (.ref a) (.type "tuple") >>=_) _ _ s;refine wB (wpAny_isInstance hT isSubtype_tuple_tuple ?_);simp only [DN,zN,if_false];refine wB (wpAny_seqItems ho hd ?_);refine wB ?_;show wpAny _ _ (forIn items _ _) _ _ s;rw [<-Array.forIn_toList];refine wpAny_forIn_list _ (λiM r s'=>r.1=none/\s'=s/\∀v∈iM,carriedByValue v=true) _ ?_ ?_ _ _ ⟨rfl,rfl,hi.byValue⟩
 · rintro v iM r s' ⟨hr,rfl,hall⟩;rw [eqIsQuiet_byValue _ (hall v lN)];refine wB (wP ?_);simp only [DN,zN,if_false];exact wP ⟨rfl,rfl,λu hu'=>hall u (ke _ hu')⟩
 · rintro⟨r1,r2⟩ s' ⟨hr,rfl,_⟩;simp only at hr;subst hr;exact wP h
theorem Bc {ks:List (List K)}{a:Addr}{Q:Bool->Shared->Prop}(hk:IsTupH (tupleKind knd) s.heap ks a)(h:Q true s):wpAny (model prog w) A (eqIsQuiet 8 (.ref a)) Q E s:=by
 have hT:=hk.typeIs;obtain⟨o,items,m,ho,_,hd,hi⟩:=hk;unfold eqIsQuiet;refine wB (wpAny_specialOf hT F.slot_tuple_eq.lookup ?_);show wpAny _ _ (isInstance (.ref a) (.type "tuple") >>=_) _ _ s;refine wB (wpAny_isInstance hT isSubtype_tuple_tuple ?_);simp only [DN,zN,if_false];refine wB (wpAny_seqItems ho hd ?_);refine wB ?_;show wpAny _ _ (forIn items _ _) _ _ s;rw [<-Array.forIn_toList];refine wpAny_forIn_list _ (λiM r s'=>r.1=none/\s'=s/\∃left,RefsAre (tupleKind knd) s.heap left iM) _ ?_ ?_ _ _ ⟨rfl,rfl,ks,hi⟩
 · rintro v iM r s' ⟨hr,rfl,left,hl⟩;cases hl with
   | @cons k b ks' _ h1 hl'=>
    refine wB (EB (n:=6) (knd:=knd) h1 ?_);simp only [DN,zN,if_false];exact wP ⟨rfl,rfl,ks',hl'⟩
 · rintro⟨r1,r2⟩ s' ⟨hr,rfl,_⟩;simp only at hr;subst hr;exact wP h
noncomputable def jA {prog:Program}{w:World}{K:Type}[DecidableEq K](knd:KeyKind prog w K):HeapKind prog w (List (List K)) where
 is:=IsTupH (tupleKind knd)
 hash:=tX (tupleKind knd)
 draws:=tY (tupleKind knd)
 room:=λA=>A.units+1 < cLine
 inj:=λhx hy=>hx.inj hy
 keeps:=λx ho hd hs=>x.keeps ho hd hs
 pyHash:=λhu hk h=>EA (tupleKind_room_in1 hu) (Nat.lt_of_succ_lt hu) hk h
 eqBool:=λhu hx hy h=>Jy (tupleKind_room_in1 hu) (Nat.lt_of_succ_lt hu) hx hy h
 quiet:=λhk h=>Bc hk h
end
noncomputable abbrev Ek:=List (List bx)×Addr×Value
def uw(P:Program)(w:World)(a:Addr)(xs:List Ek):HO:=.ext λh=>∃(o:Obj) (es:Array DictEntry) (ep:Nat),h.get? a=some o/\o.ExactDict/\o.data=.dict es ep/\es.toList=xs.map (entryOfKey (jA (be P w)))/\(xs.map (·.1)).Nodup/\xs.length<=sizeLine/\(a==sysModules)=false
def KeyAt(H:Hp)(b:Addr)(k:List (List bx)):Prop:=∃bs:List Addr,H b=some (.tup (bs.map .ref))/\Paired (λ(ks:List bx) (c:Addr)=>H c=some (.tup (ks.map kV))) k bs
def lf(H:Hp)(xs:List Ek):Prop:=∀x∈xs,KeyAt H x.2.1 x.1
section
variable {P:Program} {w:World} {H:Hp} {h:Heap}
theorem sN {b:Addr}{k:List (List bx)}(ok:HOk P w H h)(e:KeyAt H b k):(jA (be P w)).is h k b:=by
 obtain⟨bs,e1,e2⟩:=e;obtain⟨zz,its,r,⟨o,h1,h2,n,h3⟩,zz2⟩:=(show ObjOk P w H h b (.tup (bs.map .ref))from ok b _ e1)
 refine⟨o,its.toArray,n,h1,h2,h3,?_⟩;rw [List.toList_toArray];clear e1 h1 h2 h3 zz zz2
 induction e2 generalizing its with
 |nil=>cases r;exact .nil
 | @cons ks c k' bs' hc _ ih=>
  cases r with
  |cons r1 r2=>
   cases(show _=Value.ref c from r1)
   exact .cons (tP ok hc) (ih _ r2)
theorem MJ {a:Addr}{xs:List Ek}{H':Hp}(hk:∀x∈xs,(jA (be P w)).is h x.1 x.2.1)(d:h.DictOfH (jA (be P w)) a xs)(z:xs.length<=sizeLine)(m:(a==sysModules)=false):ObjOk P w H' h a (uw P w a xs):=by
 obtain⟨o,es,ep,h1,h2,h3,h4,_,h5⟩:=d;refine⟨⟨o,es,ep,h1,h2,h3,h4,h5,z,m⟩,⟨o,h1⟩,λg1 g2 p q=>?_⟩;obtain⟨o',es',ep',e1,r⟩:=p;exact⟨o',es',ep',q o' e1,r⟩
theorem Bd {a:Addr}{xs:List Ek}(ok:HOk P w H h)(e:H a=some (uw P w a xs))(ks:lf H xs):h.DictOfH (jA (be P w)) a xs/\xs.length<=sizeLine/\(a==sysModules)=false:=by
 obtain⟨⟨o,es,ep,h1,h2,h3,h4,h5,z,m⟩,_⟩:=(show ObjOk P w H h a (uw P w a xs)from ok a _ e)
 exact⟨⟨o,es,ep,h1,h2,h3,h4,λx hx=>sN ok (ks x hx),h5⟩,z,m⟩
end
section
variable {X:Cx} {pins:List (Addr×Obj)} {σ:St} {H:Hp} {s:Shared} {a b:Addr} {xs:List Ek} {k:List (List bx)} {A:Around} {E:Value->Shared->Prop}
theorem NI {p:Addr×Value}{Q:Value->Shared->Prop}(hu:A.units+2 < cLine)(I:Inv X pins σ H s)(e:H a=some (uw X.prog X.w a xs))(ks:lf H xs)(kb:KeyAt H b k)(hp:atKey xs k=some p)(h:∀s',Inv X pins σ H s'->Q p.2 s'):
 wpAny (model X.prog X.w) A (getItem (.ref a) (.ref b)) Q E s:=by
 obtain⟨d,z,m⟩:=Bd I.hok e ks;exact wpAny_getItem_heap (knd:=jA (be X.prog X.w)) (show A.units+1+1 < cLine by omega) (sN I.hok kb) d hp (h _ (I.tok _))
theorem OB {Q:Value->Shared->Prop}(hu:A.units+2 < cLine)(I:Inv X pins σ H s)(e:H a=some (uw X.prog X.w a xs))(ks:lf H xs)(kb:KeyAt H b k)(h:∀s',Inv X pins σ H s'->Q (.bool (atKey xs k).isSome) s'):
 wpAny (model X.prog X.w) A (compareOp .In (.ref b) (.ref a)) Q E s:=by
 obtain⟨d,z,m⟩:=Bd I.hok e ks;exact wpAny_in_heap (knd:=jA (be X.prog X.w)) (show A.units+1+1 < cLine by omega) (sN I.hok kb) m d (h _ (I.tok _))
theorem Be(xs:List Ek)(k:List (List bx))(b:Addr)(v:Value):(storedH xs k b v).length<=xs.length+1:=by
 unfold storedH;split
 · rw [zJ];omega
 · rw [zQ];exact Q1 _
theorem NJ {r:Value}{Q:Unit->Shared->Prop}(hu:A.units+2 < cLine)(I:Inv X pins σ H s)(e:H a=some (uw X.prog X.w a xs))(ks:lf H xs)(kb:KeyAt H b k)(hl:xs.length < sizeLine)(h:∀s',Inv X pins σ (bv H a (uw X.prog X.w a (storedH xs k b r))) s'->Q () s'):
 wpAny (model X.prog X.w) A (setItem (.ref a) (.ref b) r) Q E s:=by
 obtain⟨d,z,m⟩:=Bd I.hok e ks;refine wpAny_setItem_heap (knd:=jA (be X.prog X.w)) (show A.units+1+1 < cLine by omega) (sN I.hok kb) d (λh' d' hs=>h _ ?_) z
 have all:=d';obtain⟨q,es,ep,hq,_,_,_,hk,_⟩:=d';exact xW I (by rw [e];exact True.intro) hs ⟨q,hq⟩ (MJ hk all (by have:=Be xs k b r;omega) m)
end
def LA(P:Program)(w:World):TE:=λ_ H Q=>∀p,H p=none->Q (.ref p) (bv H p (uw P w p []))
def MK(P:Program)(w:World)(ty td:TE):TE:=λσ H Q=>ty σ H λy H1=>td σ H1 λx H2=>∃a b xs k,x=.ref a/\y=.ref b/\H2 a=some (uw P w a xs)/\lf H2 xs/\KeyAt H2 b k/\Q (.bl (atKey xs k).isSome) H2
def HU(P:Program)(w:World)(td ty:TE):TE:=λσ H Q=>td σ H λx H1=>ty σ H1 λy H2=>∃a b xs k c d,x=.ref a/\y=.ref b/\H2 a=some (uw P w a xs)/\lf H2 xs/\KeyAt H2 b k/\atKey xs k=some (c,Value.ref d)/\Q (.ref d) H2
def HV(P:Program)(w:World)(td ty tv:TE):TS:=λD σ H=>tv σ H λv H1=>td σ H1 λx H2=>ty σ H2 λy H3=>∃a b xs k d,x=.ref a/\y=.ref b/\v=.ref d/\H3 a=some (uw P w a xs)/\lf H3 xs/\KeyAt H3 b k/\xs.length < sizeLine/\
 D.nx σ (bv H3 a (uw P w a (storedH xs k b (.ref d))))
section
variable {X:Cx} {o i e value:Expr} {pos pos' tpos:Pos} {td ty tv:TE}
theorem Jz:PE X (.Dict [] [] pos) (LA X.prog X.w):=λpins s σ H Q I h=>by
 refine wpAny_Dict_empty ⟨.ref s.heap.objs.size,_,I.laid (a:=s.heap.objs.size) (o:=uw X.prog X.w s.heap.objs.size []) (t':=s.toks) (λ_ _ q=>gH _ q) (Q1 _) ⟨⟨_, #[],0,jS _ rfl,⟨rfl,rfl,rfl⟩,rfl,rfl,List.nodup_nil,zU _,beq_eq_false_iff_ne.mpr (Ne.symm (lO I.big))⟩,⟨_,jS _ rfl⟩,λg1 g2 p q=>?_⟩,rfl,h _ (I.hok.fresh (Q1 _))⟩;obtain⟨o',es',ep',e1,r⟩:=p;exact⟨o',es',ep',q o' e1,r⟩
theorem ML(hu:X.A.units+2 < cLine)(hi:PE X i ty)(ho:PE X o td):PC X .In i o (MK X.prog X.w ty td):=by
 intro pins s σ H Q I h;refine dN (hi pins s σ H _ I h) λiv s1 q_=>?_;obtain⟨y,H1,I1,ry,q1⟩:=q_;refine dN (ho pins s1 σ H1 _ I1 q1) λu s2 q_=>?_;obtain⟨x,H2,I2,rx,a,b,xs,k,rfl,rfl,e1,e2,e3,q2⟩:=q_;obtain rfl:u=Value.ref a:=rx;obtain rfl:iv=Value.ref b:=ry;exact OB hu I2 e1 e2 e3 λs3 I3=>⟨.bl _,H2,I3,rfl,q2⟩
theorem KA(hu:X.A.units+2 < cLine)(ho:PE X o td)(hi:PE X i ty)(hs:ND i):PE X (.Subscript o i pos) (HU X.prog X.w td ty):=by
 intro pins s σ H Q I h;refine Ji PySem.F.slot_dict_getitem.lookup hs (dN (ho pins s σ H _ I h) λu s1 q_=>?_);obtain⟨x,H1,I1,rx,q1⟩:=q_;refine dN (hi pins s1 σ H1 _ I1 q1) λiv s2 q_=>?_;obtain⟨y,H2,I2,ry,a,b,xs,k,c,d,rfl,rfl,e1,e2,e3,e4,q2⟩:=q_;obtain rfl:u=Value.ref a:=rx;obtain rfl:iv=Value.ref b:=ry;obtain⟨⟨o1,es,ep,h1,h2,_⟩,_⟩:=(show ObjOk X.prog X.w H2 s2.heap a (uw X.prog X.w a xs)from I2.hok a _ e1)
 exact⟨⟨o1,h1,h2.1⟩,NI hu I2 e1 e2 e3 e4 λs3 I3=>⟨.ref d,H2,I3,rfl,q2⟩⟩
theorem KB(hu:X.A.units+2 < cLine)(ho:PE X o td)(hi:PE X i ty)(hv:PE X value tv)(hs:swapsWith value (some (.Subscript o i pos')) pos.line X.env=pure false:=by rfl):
 PS X (.Assign [.Subscript o i pos'] value pos) (HV X.prog X.w td ty tv):=by
 intro pins s σ H D I h;refine wpAny_Assign_Subscript (dN (hv pins s σ H _ I h) λr s1 q_=>?_) hs;obtain⟨v,H1,I1,rv,q1⟩:=q_;refine dN (ho pins s1 σ H1 _ I1 q1) λu s2 q_=>?_;obtain⟨x,H2,I2,rx,q2⟩:=q_;refine dN (hi pins s2 σ H2 _ I2 q2) λiv s3 q_=>?_;obtain⟨y,H3,I3,ry,a,b,xs,k,d,rfl,rfl,rfl,e1,e2,e3,e4,q3⟩:=q_;obtain rfl:u=Value.ref a:=rx;obtain rfl:iv=Value.ref b:=ry;obtain rfl:r=Value.ref d:=rv;exact NJ hu I3 e1 e2 e3 e4 λs4 I4=>⟨σ,_,I4,q3⟩
end
end L2
namespace DL
open PySem L2
noncomputable abbrev Cn:=List (List (List Int)×PyData)
theorem Cp {P:Program}{w:World}{a:Addr}{xs:List Ek}(ys:List V)(h:uw P w a xs=.tup ys):False:=by unfold uw at h;cases h
theorem Cq {P:Program}{w:World}{a:Addr}{xs:List Ek}{ys:List V}(h:some (uw P w a xs)=some (.lst ys)):False:=by unfold uw at h;cases h
noncomputable def qd:List PyData->Option (List (List Int))
 |[]=>some []
 |d::r=>(gz d).bind λk=>(qd r).map (k:: ·)
noncomputable def HW:PyData->Option (List (List Int))
 | .tuple ds=>qd ds
 |_=>none
noncomputable def k2(k:List (List Int)):List (List bx):=k.map λr=>r.map Sum.inl
theorem HX {a b:List (List Int)}(h:k2 a=k2 b):a=b:=by
 unfold k2 at h;exact(List.map_inj_right λx y z=>Co z).mp h
noncomputable def LB:PyData->Bool
 | .tuple _=>true
 |_=>false
section
variable {K:Fg} {H0 F0 F F':Hp} {σ:St} {H H':Hp} {δ:aT}
theorem HY {ds:List PyData}{k:List (List Int)}{c:Addr}{xs:List V}(e:qd ds=some k)(hc:F c=some (.tup xs))(ar:Are K F xs ds):KeyAt F c (k2 k):=by
 have:∃bs:List Addr,xs=bs.map V.ref/\Paired (λ(ks:List bx) (c:Addr)=>F c=some (.tup (ks.map kV))) (k2 k) bs:=by
  clear hc
  induction ds generalizing k xs with
  |nil=>cases e;cases(show xs=[]from ar);exact⟨[],rfl,.nil⟩
  |cons d ds ih=>
   obtain⟨k1,e1,e2⟩:=bind_some (show(gz d).bind (λk=>(qd ds).map (k:: ·))=some k from e)
   obtain⟨kr,e3,rfl⟩:=Q0.mp e2;obtain⟨x,r,rfl,ix,ir⟩:=ar;obtain⟨bs,rfl,pr⟩:=ih e3 ir;unfold gz at e1;split at e1
   rotate_left
   · cases e1
   obtain⟨b,ys,rfl,hb,ay⟩:=ix;rw [dh e1]at ay;rw [Are.ints.mp ay, <-m7]at hb;exact⟨b::bs,rfl,.cons hb pr⟩
 obtain⟨bs,rfl,pr⟩:=this;exact⟨bs,hc,pr⟩
theorem KeyAt.same {b:Addr}{k:List (List bx)}(h:KeyAt F b k)(s:Same F F'):KeyAt F' b k:=by
 obtain⟨bs,e1,e2⟩:=h;refine⟨bs,s _ _ e1,?_⟩;clear e1
 induction e2 with
 |nil=>exact .nil
 |cons h1 _ ih=>exact .cons (s _ _ h1) ih
noncomputable def EntN(K:Fg)(F:Hp):List Ek->Cn->Prop
 |[],[]=>True
 |x::xs,e::es=>(x.1=k2 e.1/\KeyAt F x.2.1 x.1/\∃c,x.2.2=Value.ref c/\Is K F (.ref c) e.2)/\EntN K F xs es
 |_,_=>False
theorem EntN.same {xs:List Ek}{es:Cn}(h:EntN K F xs es)(s:Same F F'):EntN K F' xs es:=by
 induction xs generalizing es with
 |nil=>
  cases es with
  |nil=>exact True.intro
  |cons _ _=>exact h.elim
 |cons x xs ih=>
  cases es with
  |nil=>exact h.elim
  |cons e es=>
   obtain⟨⟨h1,h2,c,h3,h4⟩,r⟩:=h;exact⟨⟨h1,KeyAt.same h2 s,c,h3,h4.same s⟩,ih r⟩
theorem EntN.keys {xs:List Ek}{es:Cn}(h:EntN K F xs es)(s:Same F H):lf H xs:=by
 induction xs generalizing es with
 |nil=>exact λx hx=>nomatch hx
 |cons y xs ih=>
  cases es with
  |nil=>exact h.elim
  |cons e es=>
   obtain⟨⟨h1,h2,_⟩,r⟩:=h;intro x hx
   rcases Q4.mp hx with rfl|hx
   · exact KeyAt.same h2 s
   · exact ih r x hx
theorem EntN.len {xs:List Ek}{es:Cn}(h:EntN K F xs es):xs.length=es.length:=by
 induction xs generalizing es with
 |nil=>
  cases es with
  |nil=>rfl
  |cons _ _=>exact h.elim
 |cons y xs ih=>
  cases es with
  |nil=>exact h.elim
  |cons e es=>rw [zC,zC,ih h.2]
theorem EntN.snoc {xs:List Ek}{es:Cn}{k:List (List Int)}{b c:Addr}{d:PyData}(h:EntN K F xs es)(hb:KeyAt F b (k2 k))(hc:Is K F (.ref c) d):EntN K F (xs++[(k2 k,b,Value.ref c)]) (es++[(k,d)]):=by
 induction xs generalizing es with
 |nil=>
  cases es with
  |nil=>exact⟨⟨rfl,hb,c,rfl,hc⟩,True.intro⟩
  |cons _ _=>exact h.elim
 |cons y xs ih=>
  cases es with
  |nil=>exact h.elim
  |cons e es=>exact⟨h.1,ih h.2⟩
theorem EntN.none_ {xs:List Ek}{es:Cn}{k:List (List Int)}(h:EntN K F xs es)(e:es.find? (λe=>decide (e.1=k))=none):atKey xs (k2 k)=none:=by
 induction xs generalizing es with
 |nil=>rfl
 |cons y xs ih=>
  cases es with
  |nil=>exact h.elim
  |cons p es=>
   obtain⟨⟨h1,_⟩,r⟩:=h
   by_cases hk:p.1=k
   · rw [Ie (by simpa using hk)]at e;cases e
   · rw [Ed (by simpa using hk)]at e
     unfold atKey;rw [Ed (by rw [h1];simpa using λz=>hk (HX z))]
     exact ih r e
theorem EntN.some_ {xs:List Ek}{es:Cn}{k:List (List Int)}{p:List (List Int)×PyData}(h:EntN K F xs es)(e:es.find? (λe=>decide (e.1=k))=some p):∃b c,atKey xs (k2 k)=some (b,Value.ref c)/\Is K F (.ref c) p.2:=by
 induction xs generalizing es with
 |nil=>
  cases es with
  |nil=>cases e
  |cons _ _=>exact h.elim
 |cons y xs ih=>
  cases es with
  |nil=>exact h.elim
  |cons q es=>
   obtain⟨⟨h1,_,c,h3,h4⟩,r⟩:=h
   by_cases hk:q.1=k
   · rw [Ie (by simpa using hk)]at e
     cases e;unfold atKey;rw [Ie (by rw [h1,hk];simp)]
     exact⟨y.2.1,c,by rw [<-h3];rfl,h4⟩
   · rw [Ed (by simpa using hk)]at e
     unfold atKey;rw [Ed (by rw [h1];simpa using λz=>hk (HX z))]
     exact ih r e
theorem Rep.putO {j:Nat}{b:Addr}{vs:List V}{ds:List PyData}(R:Rep K H0 F0 F σ H δ)(z:kS δ=true)(hs:σ[j]? =some (some (.ref b)))(hb:H b=some (.lst vs))(fb:F b=none)(h0:H0 b=none)(ar:Are K F vs ds):Rep K H0 F0 F σ H (δ.set j (some (.ow ds))):=by
 have no:∀{i:Nat} {s:Sl},(δ.set j (some (.ow ds)))[i]? =some (some s)->(i=j/\s=.ow ds)\/δ[i]? =some (some s):=λ{i s} e=>by
  rcases ai e with⟨y,w⟩|⟨_,w⟩
  · exact .inl ⟨y,zV w⟩
  · exact .inr w
 refine⟨R.g,by rw [Q6];exact R.len,λi d e=>?_,λi ds e=>?_,λi l ds es c e1 e2=>?_,λi ds e=>?_,λi l ds es c e1 e2=>?_,R.tb⟩
 · rcases no e with⟨_,y⟩|y
   · cases y
   · exact R.fz i d y
 · rcases no e with⟨rfl,y⟩|y
   · cases y;exact⟨b,vs,hs,hb,fb,h0,ar⟩
   · obtain⟨_,w⟩:=gQ z y;cases w
 · rcases no e1 with⟨rfl,_⟩|y
   · rcases no e2 with⟨rfl,_⟩|y
     · exact λ_ _=>rfl
     · obtain⟨_,w⟩:=gQ z y;cases w
   · obtain⟨_,w⟩:=gQ z y;cases w
 · rcases no e with⟨_,y⟩|y
   · cases y
   · obtain⟨_,w⟩:=gQ z y;cases w
 · rcases no e1 with⟨_,y⟩|y
   · cases y
   · obtain⟨_,w⟩:=gQ z y;cases w
theorem Rep.any(R:Rep K H0 F0 F σ H δ)(i:Nat)(v:V):Rep K H0 F0 F (σ.set i (some v)) H (δ.set i none):=by
 have old:∀{j:Nat} {s:Sl},(δ.set i none)[j]? =some (some s)->j≠i/\δ[j]? =some (some s):=λ{j s} e=>by
  rcases ai e with⟨_,z⟩|⟨n,z⟩
  · cases z
  · exact⟨n,z⟩
 have ps:∀{j:Nat},j≠i->(σ.set i (some v))[j]? =σ[j]? :=λn=>Al (Ne.symm n);refine⟨R.g,by rw [Q6,Q6];exact R.len,λj d e=>?_,λj ds e=>?_,λj l ds es a e1 e2 e3 e4=>?_,λj ds e=>?_,λj l ds es a e1 e2 e3 e4=>?_,R.tb⟩
 · rw [ps (old e).1];exact R.fz j d (old e).2
 · rw [ps (old e).1];exact R.ow j ds (old e).2
 · rw [ps (old e1).1]at e3;rw [ps (old e2).1]at e4;exact R.ap j l ds es a (old e1).2 (old e2).2 e3 e4
 · rw [ps (old e).1];exact R.od j ds (old e).2
 · rw [ps (old e1).1]at e3;rw [ps (old e2).1]at e4;exact R.ad j l ds es a (old e1).2 (old e2).2 e3 e4
noncomputable def nu(fy:aT->Option PyData)(jc jo j:Nat):List PyData->aT->Cn->List PyData->Option aT
 |[],δ,_,ps=>some (δ.set j (some (.ow ps)))
 |d::r,δ,es,ps=>(fy (δ.set jc (some (.fz d)))).bind λo=>(HW o).bind λk=>if(decide (es.length < eD)&&decide (ps.length < eD)&&LB d)=true then
  match es.find? λe=>decide (e.1=k)with
  |some e=>nu fy jc jo j r ((δ.set jc (some (.fz d))).set jo (some (.fz o))) es (ps++[.tuple [e.2,d]])
  |none=>nu fy jc jo j r ((δ.set jc (some (.fz d))).set jo (some (.fz o))) (es++[(k,d)]) ps
  else none
noncomputable def pO(fi:aT->Option (List PyData))(jc jo i j:Nat)(fy:aT->Option PyData)(fr:aT->Option DFlow)(δ:aT):Option DFlow:=
 if(kS ((δ.set i none).set j none)&&decide (jc < δ.length)&&decide (jo < δ.length)&&decide (i < δ.length)&&decide (j < δ.length))=true then(fi ((δ.set i none).set j none)).bind λds=>(nu fy jc jo j ds ((δ.set i none).set j none) [] []).bind fr else none
structure QI (P:Program) (w:World) (K:Fg) (H0 F0 F:Hp) (σ:St) (H:Hp) (δ:aT) (i j N:Nat) (es:Cn) (ps:List PyData):Prop where
 R:Rep K H0 F0 F σ H δ
 z:kS δ=true
 ln:δ.length=N
 ex:∃a b xs vs,σ[i]? =some (some (.ref a))/\H a=some (uw P w a xs)/\F a=none/\H0 a=none/\EntN K F xs es/\σ[j]? =some (some (.ref b))/\H b=some (.lst vs)/\F b=none/\H0 b=none/\Are K F vs ps
variable {P:Program} {w:World}
theorem QI.grow {i j N:Nat}{es:Cn}{ps:List PyData}(I:QI P w K H0 F0 F σ H δ i j N es ps)(g:Grow F H F' H'):QI P w K H0 F0 F' σ H' δ i j N es ps:=by
 obtain⟨a,b,xs,vs,h1,h2,h3,h4,h5,h6,h7,h8,h9,hA⟩:=I.ex;exact⟨I.R.grow g,I.z,I.ln,a,b,xs,vs,h1,g.h _ _ h2,g.o _ _ h2 Cp h3,h4,h5.same g.f,h6,g.h _ _ h7,g.o _ _ h7 (λ_ z=>nomatch z) h8,h9,hA.same g.f⟩
theorem QI.set {i j l N:Nat}{es:Cn}{ps:List PyData}{v:V}{d:PyData}(I:QI P w K H0 F0 F σ H δ i j N es ps)(n1:l≠i)(n2:l≠j)(h:Is K F v d):QI P w K H0 F0 F (σ.set l (some v)) H (δ.set l (some (.fz d))) i j N es ps:=by
 obtain⟨a,b,xs,vs,h1,h2,h3,h4,h5,h6,r⟩:=I.ex;exact⟨I.R.set h,tW I.z l d,by rw [Q6];exact I.ln,a,b,xs,vs,by rw [Al n1];exact h1,h2,h3,h4,h5,by rw [Al n2];exact h6,r⟩
theorem EC {wi:TI}{ty:TE}{tr:TS}{fi:aT->Option (List PyData)}{fy:aT->Option PyData}{fr:aT->Option DFlow}(jc jo i j:Nat)(hi:SI K wi fi)(hy:SE K ty fy)(hr:SS K tr fr)
 (n1:jc≠i:=by decide) (n2:jo≠i:=by decide) (n3:jo≠jc:=by decide) (n4:jc≠j:=by decide) (n5:jo≠j:=by decide) (n6:j≠i:=by decide):
 SS K (kf (oM (LA P w) (eE i)) (kf (oM (BA dM) (eE j)) (kf (Aw wi (eE jc) (kf (oM ty (eE jo)) (sS (yP (MK P w (bX jo) (bX i))) (ly (L4 K "list" oy (bX j) (bH (FD (bH (HU P w (bX i) (bX jo)) (bH (bX jc) dM))) dM))) (HV P w (bX i) (bX jo) (bX jc))))) tr))) (pO fi jc jo i j fy fr):=by
 intro H0 F0 F σ H δ r D R e h;unfold pO at e;split at e
 rotate_left
 · cases e
 rename_i c;simp only [Q5,decide_eq_true_eq]at c;obtain⟨⟨⟨⟨z,lc⟩,lo⟩,li⟩,lj⟩:=c;obtain⟨ds,e1,e2⟩:=bind_some e;obtain⟨δ9,e3,e4⟩:=bind_some e2;clear e e2;intro a ha;refine⟨zU _,λb hb=>?_⟩;have Fa:F a=none:=R.g.s.free ha;have H0a:H0 a=none:=R.g.h.free ha;have g1:Grow F H F (bv H a (uw P w a [])):=⟨Same.refl _,λx o e=>by rw [aN (aQ e Fa)];exact R.g.s x o e,λx o e=>by rw [aN (aQ e ha)];exact e,λ_ _ _ _ q=>q⟩
 have R1:=(R.grow g1).any i (.ref a);have Fb:F b=none:=R1.g.s.free hb;have H0b:H0 b=none:=R1.g.h.free hb;have ab:a≠b:=λy=>by rw [<-y,aS]at hb;cases hb
 have g2:Grow F (bv H a (uw P w a [])) F (bv (bv H a (uw P w a [])) b (.lst [])):=⟨Same.refl _,λx o e=>by rw [aN (aQ e Fb)];exact R1.g.s x o e,λx o e=>by rw [aN (aQ e hb)];exact e,λ_ _ _ _ q=>q⟩
 have R2:=(R1.grow g2).any j (.ref b);have sl:σ.length=δ.length:=R.len;refine hi H0 F0 F _ _ _ ds _ R2 e1 λJ H1 F1 g3 it=>?_;have P0:QI P w K H0 F0 F1 ((σ.set i (some (.ref a))).set j (some (.ref b))) H1 ((δ.set i none).set j none) i j δ.length [] []:=by
  refine⟨R2.grow g3,z,by rw [Q6,Q6],a,b,[],[],?_,g3.h _ _ ?_,?_,H0a,True.intro,?_,g3.h _ _ aS,g3.o _ _ aS (λ_ y=>nomatch y) Fb,H0b,rfl⟩
  · rw [Al n6,Ap (by omega)]
  · rw [aN ab,aS]
  · exact g3.o _ _ (by rw [aN ab,aS]) Cp Fa
  · rw [Ap (by rw [Q6];omega)]
 refine⟨λq m σ H=>m=ds.length - q/\q<=ds.length/\∃F' δ' es ps,QI P w K H0 F0 F' σ H δ' i j δ.length es ps/\Same F1 F'/\nu fy jc jo j (ds.drop q) δ' es ps=some δ9,⟨ds.length,by simp,zU _,F1,_,[],[],P0,Same.refl _,e3⟩,?_⟩
 rintro q m σ' H' ⟨rfl,hle,F',δ',es,ps,I,s',e'⟩
 by_cases hlt:q < ds.length
 · refine .inr ⟨it.go q F' H' hlt s' I.R.g.s,λσ H=>q+1<=ds.length/\∃F' δ' es ps,QI P w K H0 F0 F' σ H δ' i j δ.length es ps/\Same F1 F'/\nu fy jc jo j (ds.drop (q+1)) δ' es ps=some δ9,λσ2 H2 y=>⟨ds.length - (q+1),by omega,rfl,y⟩,λx H2 y=>?_⟩
   have hd:ds[q]? =some ds[q]:=cY hlt;obtain⟨F2,g2',is⟩:=it.yld q _ F' H' x H2 hd s' I.R.g.s y;rw [List.drop_eq_getElem_cons hlt]at e';obtain⟨o,w1,e5⟩:=bind_some e';obtain⟨k,w2,e6⟩:=bind_some e5;clear e' e5;split at e6
   rotate_left
   · cases e6
   rename_i lims;simp only [Q5,decide_eq_true_eq]at lims;obtain⟨⟨lim1,lim2⟩,tp⟩:=lims;have I2:=(I.grow g2').set n1 n4 is;refine hy H0 F0 F2 _ H2 _ o _ I2.R w1 λv H3 F3 g4 i3=>?_;have I3:=(I2.grow g4).set n2 n5 i3;have sF3:Same F1 F3:=s'.trans (g2'.f.trans g4.f);have ix:Is K F3 x ds[q]:=is.same g4.f;have sl':σ'.length=δ.length:=I.R.len.trans I.ln;generalize hσ4:(σ'.set jc (some x)).set jo (some v)=σ4 at I3;have hjc:σ4[jc]? =some (some x):=by rw [<-hσ4,Al n3,Ap (by omega)]
   have hjo:σ4[jo]? =some (some v):=by rw [<-hσ4,Ap (by rw [Q6];omega)]
   generalize hδ4:(δ'.set jc (some (.fz ds[q]))).set jo (some (.fz o))=δ4 at I3 e6;show sS (yP (MK P w (bX jo) (bX i))) (ly (L4 K "list" oy (bX j) (bH (FD (bH (HU P w (bX i) (bX jo)) (bH (bX jc) dM))) dM))) (HV P w (bX i) (bX jo) (bX jc)) {D with nx:=_,ct:=_,bk:=_} ((σ'.set jc (some x)).set jo (some v)) H3
   rw [hσ4];unfold HW at w2;split at w2
   rotate_left
   · cases w2
   rename_i dk;obtain⟨c,xk,rfl,u1,u2⟩:=i3;have kc:KeyAt F3 c (k2 k):=HY w2 u1 u2;obtain⟨a',b',xs,vs,h1,h2,h3,h4,h5,h6,h7,h8,h9,hA⟩:=I3.ex;have ks:lf H3 xs:=h5.keys I3.R.g.s;have kH:KeyAt H3 c (k2 k):=KeyAt.same kc I3.R.g.s;obtain⟨c',hx⟩:∃c',x=.ref c':=by
    cases hq:ds[q]with
    |tuple _=>
     rw [hq]at ix;obtain⟨c',_,y,_⟩:=ix;exact⟨c',y⟩
    |_=>rw [hq]at tp;cases tp
   subst hx;refine⟨.ref c,hjo,.ref a',h1,a',c,xs,k2 k,rfl,rfl,h2,ks,kH,_,rfl,?_⟩;cases hf:es.find? λe=>decide (e.1=k)with
   |some p=>
    rw [hf]at e6;obtain⟨b1,c1,q1,q2⟩:=h5.some_ hf;rw [q1];refine⟨.ref b',h6,.inl ⟨rfl,vs,SqL.of h7⟩,.ref a',h1,.ref c,hjo,a',c,xs,k2 k,b1,c1,rfl,rfl,h2,ks,kH,q1,.ref c',hjc,(by show 2<=sizeLine;exact ft (by decide)),λt ht=>?_⟩
    have g5:Grow F3 H3 _ _:=Grow.new (o:=.tup [.ref c1,.ref c']) I3.R.g.s ht;have Ft:F3 t=none:=I3.R.g.s.free ht;have I4:=I3.grow g5;have bt:b'≠t:=aQ h7 ht;have at_:a'≠t:=aQ h2 ht;have ba:a'≠b':=λy=>Cq ((y▸h2.symm).trans h7);refine⟨b',vs,.ref t,rfl,rfl,by rw [aN bt];exact h7,?_,hlt,_,δ4,es,ps++[.tuple [p.2,ds[q]]],⟨I4.R.upd_ I4.z (by rw [aN bt];exact h8) h9,I4.z,I4.ln,a',b',xs,_,h1,by rw [aN ba,aN at_];exact h2,by rw [aN at_];exact h3,h4,h5.same g5.f,h6,aS,by rw [aN bt];exact h8,h9,?_⟩,sF3.trans g5.f,e6⟩
    · rw [hA.length];exact sx (An lim2)
    · exact(hA.same g5.f).append (Are.one ⟨t,[.ref c1,.ref c'],rfl,aS,_,_,rfl,q2.same g5.f,_,_,rfl,ix.same g5.f,rfl⟩)
   |none=>
    rw [hf]at e6;rw [h5.none_ hf];refine⟨.ref c',hjc,.ref a',h1,.ref c,hjo,a',c,xs,k2 k,c',rfl,rfl,rfl,h2,ks,kH,?_,hlt,F3,δ4,es++[(k,ds[q])],ps,⟨I3.R.upd_ I3.z h3 h4,I3.z,I3.ln,a',b',_,vs,h1,aS,h3,h4,?_,h6,?_,h8,h9,hA⟩,sF3,e6⟩
    · rw [h5.len];exact sx (An lim1)
    · rw [storedH_new (h5.none_ hf)];exact h5.snoc kc ix
    · rw [aN (λy=>Cq (h2.symm.trans (y▸h7)))];exact h7
 · have e5:q=ds.length:=by omega
   subst e5;rw [List.drop_length]at e';cases e';obtain⟨a',b',xs,vs,h1,h2,h3,h4,h5,h6,h7,h8,h9,hA⟩:=I.ex;refine .inl ⟨it.stop F' H' s' I.R.g.s,?_⟩;exact hr H0 F0 F' σ' H' _ r D (I.R.putO I.z h6 h7 h8 h9 hA) e4 (h.up (g3.f.trans s'))
end
theorem OC {n:Nat}(h:n+64 < cLine):n+2 < cLine:=Il (Nat.add_le_add_left (by decide) n) h
section
variable {K:Fg} {C:Addr}
end
end DL
namespace L2
open PySem PySem.Spec PyProof.Rows
theorem HZ(a:Value):argsOk "min" ⟨[a],[(Str.ofString "default",.none)]⟩:=by unfold argsOk;kernel_rfl
section
variable {X:Cx} {pins:List (Addr×Obj)} {σ:St} {S I l:Addr} {xs:List V} {F H0:Hp} {lt:Nat->Nat->Bool} {R:Result->Shared->Prop}
theorem Hb(hcm:X.calm=true)(hFl:F l=some (.lst xs))(hFS:F S=none)(hSI:S≠I)
 (hc:∀(i j:Nat) (x y:V) (u v:Value) (H:Hp) (s:Shared),xs[i]? =some x->xs[j]? =some y->Inv X pins σ H s->Same F H->RelV x u->RelV y v->Dn X.A.in1 s u v (lt i j))
 (hR:∀(v:V) (u:Value) (H':Hp) (s':Shared),xs[lP lt (xs.length - 1)]? =some v->RelV v u->Inv X pins σ H' s'->Same F H'->(∀b,b≠S->H' b=H0 b)->R (.ok (.ret u)) s'):
 ∀(r j:Nat) (H:Hp) (s:Shared) (vb:V),xs.length - (j+1)=r->j+1<=xs.length->Inv X pins σ H s->Same F H->(∀b,b≠S->H b=H0 b)->H S=some (.lst [vb,vb])->xs[lP lt j]? =some vb->mP X pins H I->s.heap.IsListIter I l (j+1)->
  codeAny (model X.prog X.w) X.A (.builtin "min.loop" ⟨[.ref I,.none,.ref S],[(Str.ofString "default",.none)]⟩) R s:=by
 have hname:(toString "min"++toString ".loop":String)="min.loop":=by decide
 intro r
 induction r with
 |zero=>
  intro j H s vb hr hj J sF hb hS hvb hI hit;have hin:j+1=xs.length:=by omega
  have hl:=sF _ _ hFl;have hlI:l≠I:=λz=>by rw [z,hI.1]at hl;cases hl
  obtain⟨zl,its,n,rl,ll,el⟩:=J.lstM hl;obtain⟨zS,itS,nS,rS,lS,eS⟩:=J.lstM hS;obtain⟨u1,u2,rfl,r1,r2⟩:=rS.two;have W:=Walks.list (prog:=X.prog) (w:=X.w) (A:=X.A.in1) (J.ok.hd hcm) I l hlI its.toArray;have hsz:its.toArray.size=its.length:=zM ..;refine codeAny_builtin PySem.F.entry_min_loop ?_;rw [Around.under_plainId PySem.F.plain_min_loop _];show wpAny _ X.A.in1 (seqItems? (.ref S) >>=_) _ _ _;refine wB (wpAny_seqItems eS rfl ?_);show wpAny _ X.A.in1 (tryCatch (pyNext (.ref I)) _ >>=_) _ _ _;refine wB (wpAny_tryCatch (W.done _ _ _ ⟨by rw [hsz, <-ll, <-hin];exact hit,⟨_,el,rfl,_,rfl⟩⟩ λh' tk' hk'=>?_))
  have J1:Inv X pins σ H {s with heap:=h',toks:=tk'}:=J.turned (it:=I) (λb o hb e=>hk' b o (by simpa using hb) e) hI.1 hI.2.1 hI.2.2.2.1 hI.2.2.2.2.1 hI.2.2.2.2.2
  have eS1:h'.get? S=some {cls:=.type "list",data:=.seq [u1,u2].toArray nS}:=hk' S _ (by simpa using hSI) eS
  show wpAny _ X.A.in1 (updateSeq S (λ_=> #[]) >>=_) _ _ _;refine wB ?_;refine wpAny_updateSeq eS1 rfl (wB (wpAny_letGo (wP ?_)));have J2:=J1.lset (l:=S) (ys:=[]) (its':=[]) (f:=λ_=> #[]) (t':=tk') hS eS1 rfl .nil (zU _);refine hR vb u1 _ _ (by rw [<-hin];exact hvb) r1 J2 (λb o e=>?_) λb n=>by rw [aN n];exact hb b n
  rw [aN (λz=>by rw [z,hFS]at e;cases e)]
  exact sF b o e
 |succ r ih=>
  intro j H s vb hr hj J sF hb hS hvb hI hit;have hlt:j+1 < xs.length:=by omega
  have hl:=sF _ _ hFl;have hlI:l≠I:=λz=>by rw [z,hI.1]at hl;cases hl
  obtain⟨zl,its,n,rl,ll,el⟩:=J.lstM hl;obtain⟨zS,itS,nS,rS,lS,eS⟩:=J.lstM hS;obtain⟨u1,u2,rfl,r1,r2⟩:=rS.two;have W:=Walks.list (prog:=X.prog) (w:=X.w) (A:=X.A.in1) (J.ok.hd hcm) I l hlI its.toArray;have hsz:its.toArray.size=its.length:=zM ..;refine codeAny_builtin PySem.F.entry_min_loop ?_;rw [Around.under_plainId PySem.F.plain_min_loop _];show wpAny _ X.A.in1 (seqItems? (.ref S) >>=_) _ _ _;refine wB (wpAny_seqItems eS rfl ?_);show wpAny _ X.A.in1 (tryCatch (pyNext (.ref I)) _ >>=_) _ _ _;refine wB (wpAny_tryCatch (W.item (j+1) _ _ _ (by rw [hsz, <-ll];exact hlt) ⟨hit,⟨_,el,rfl,_,rfl⟩⟩ λu h' tk' hP hst' hk'=>?_))
  have hv:its[j+1]? =some u:=by simpa using hP
  obtain⟨x,hx,rx⟩:=pK rl hv;have J1:Inv X pins σ H {s with heap:=h',toks:=tk'}:=J.turned (it:=I) (λb o hb e=>hk' b o (by simpa using hb) e) hI.1 hI.2.1 hI.2.2.2.1 hI.2.2.2.2.1 hI.2.2.2.2.2
  have eS1:h'.get? S=some {cls:=.type "list",data:=.seq [u1,u2].toArray nS}:=hk' S _ (by simpa using hSI) eS
  have cm:=hc (j+1) (lP lt j) x vb u u2 H _ hx hvb J1 sF rx r2;show wpAny _ X.A.in1 (pure u >>=_) _ _ _;refine wB (wP ?_);show wpAny _ X.A.in1 (tryCatch (holding [u,u] (richCompare .Lt u u2 >>=_)) _ >>=_) _ _ _;refine wB (wpAny_tryCatch (wpAny_holding (wB (cm _ _ _ _ ?_))));refine wB (wpAny_holding (wpAny_truthy_bool ?_));refine wB (wpAny_letGo (wP ?_))
  by_cases c:lt (j+1) (lP lt j)=true
  · rw [c];simp only [if_true];refine wB ?_;refine wpAny_updateSeq eS1 rfl (wB (wpAny_letGo ?_));rw [hname];have J2:=J1.lset (l:=S) (ys:=[x,x]) (its':=[u,u]) (f:=λ_=> #[u,u]) (t':=tk') hS eS1 rfl (.cons rx (.cons rx .nil)) (jy (show 2<=1000 by decide))
    obtain⟨oI,hoI,hoc,hod⟩:=id hst'.1;refine wP ⟨plainId_quiet PySem.F.plain_min_loop _,ih (j+1) _ _ x (by omega) hlt J2 (λb o e=>?_) (λb n=>by rw [aN n];exact hb b n) aS (by rw [lP,if_pos c];exact hx) ⟨by rw [aN hSI.symm];exact hI.1,hI.2⟩ ⟨oI,?_,hoc,hod⟩⟩
    · rw [aN (λz=>by rw [z,hFS]at e;cases e)]
      exact sF b o e
    · exact(CC h' _ hSI).trans hoI
  · have c':lt (j+1) (lP lt j)=false:=by simpa using c
    rw [c'];simp only [zN,if_false];refine wB (wpAny_letGo ?_);rw [hname];exact wP ⟨plainId_quiet PySem.F.plain_min_loop _,ih (j+1) H _ vb (by omega) hlt J1 sF hb hS (by rw [lP,if_neg c];exact hvb) hI hst'.1⟩
end
def LC(K:Fg):List V->Hp->VK->Prop:=λas H Q=>∃(l:Addr) (xs:List V) (F:Hp) (ds:List PyData),as=[.ref l]/\F l=some (.lst xs)/\Same F H/\DL.Are K F xs ds/\(∀d∈ds,DL.qL d=true)/\
 (∀a∈ds,∀b∈ds,(nn a b).isSome=true)/\(xs=[]->∀H':Hp,Same F H'->Same H H'->Q .non H')/\∀(v:V) (H':Hp),xs[lP (λi j=>(nn (ds.getD i .none) (ds.getD j .none)).getD false) (xs.length - 1)]? =some v->Same F H'->Same H H'->Q v H'
theorem ED {X:Cx}{pins:List (Addr×Obj)}{s:Shared}{σ:St}{H:Hp}{as:List V}{us:List Value}{Q:VK}(hcm:X.calm=true)(hu:X.A.units+64 < cLine)(J:Inv X pins σ H s)(rv:Vals as us)(h:LC X.K as H Q):
 wpAny (model X.prog X.w) X.A (call (.builtin "min") us [(Str.ofString "default",.none)]) (EP X pins σ Q) X.xe s:=by
 obtain⟨l,xs,F,ds,rfl,hFl,sF,ar,hok,hcmp,q0,q⟩:=h;obtain⟨u,rfl,ru⟩:=rB rv;cases(show u=Value.ref l from ru)
 have hname:(toString "min"++toString ".loop":String)="min.loop":=by decide
 have hl:=sF _ _ hFl;obtain⟨zl,its,n,rl,ll,el⟩:=J.lstM hl;have yo:=ar.length;have hc:∀(i j:Nat) (x y:V) (u v:Value) (H:Hp) (s:Shared),xs[i]? =some x->xs[j]? =some y->Inv X pins σ H s->Same F H->RelV x u->RelV y v->Dn X.A.in1 s u v ((nn (ds.getD i .none) (ds.getD j .none)).getD false):=by
  intro i j x y u v H1 s1 hx hy J1 s1F rx ry;obtain⟨dx,ex,ix⟩:=ar.get' hx;obtain⟨dy,ey,iy⟩:=ar.get' hy;have gx:ds.getD i .none=dx:=by rw [iI,ex];rfl
  have gy:ds.getD j .none=dy:=by rw [iI,ey];rfl
  have mx:=Ik ex;have my:=Ik ey;have cx:=DL.dH (hok dx mx);have cy:=DL.dH (hok dy my);obtain⟨as,ra⟩:=(DL.Fy dx cx.1 (ix.same s1F)).reads J1 _ rx;obtain⟨bs,rb⟩:=(DL.Fy dy cy.1 (iy.same s1F)).reads J1 _ ry;obtain⟨b,hb⟩:=Option.isSome_iff_exists.mp (hcmp dx mx dy my);rw [gx,gy,hb];exact lY dx dy X.A.in1 s1 u v as bs b ra rb cx.1 cy.1 (by have:=cx.2;show X.A.units+1+_ < cLine;omega) hb
 refine kmk_tree PySem.F.kind_min PySem.F.plain_min PySem.F.entry_min (HZ _) ?_;show wpAny _ X.A.in1 (Builtin.Builtins.bindParams "min" ["key","default"] 0 ⟨[],[(Str.ofString "default",.none)]⟩ >>=_) _ _ s;refine wB (wpAny_of_eq (show Builtin.Builtins.bindParams "min" ["key","default"] 0 ⟨[],[(Str.ofString "default",.none)]⟩=pure [none,some .none]from rfl) ?_)
 refine wB (wP ?_);refine wB (wpAny_pyIter_list ⟨_,el,rfl,_,rfl⟩ ?_);refine wB (wpAny_newList ?_ (zU _));rw [hname];have hlt:l < s.heap.objs.size:=fS el;have hS:(s.heap.push {cls:=.type "list_iterator",data:=.fields #[.ref l,.int 0 0]}).objs.size=s.heap.objs.size+1:=size_push' ..;have hSI:(s.heap.push {cls:=.type "list_iterator",data:=.fields #[.ref l,.int 0 0]}).objs.size≠s.heap.objs.size:=by rw [hS];exact vV (Ig _)
 have hlI:l≠s.heap.objs.size:=lO hlt;refine wP ⟨plainId_quiet PySem.F.plain_min_loop _,?_⟩;have J0:Inv X pins σ H {s with heap:=s.heap.push {cls:=.type "list_iterator",data:=.fields #[.ref l,.int 0 0]}}:=J.kept (t':=s.toks) λb o e=>gH _ e
 have HS0:H (s.heap.push {cls:=.type "list_iterator",data:=.fields #[.ref l,.int 0 0]}).objs.size=none:=J0.fresh;have FS0:F (s.heap.push {cls:=.type "list_iterator",data:=.fields #[.ref l,.int 0 0]}).objs.size=none:=by
  cases e:F (s.heap.push {cls:=.type "list_iterator",data:=.fields #[.ref l,.int 0 0]}).objs.size with
  |none=>rfl
  |some o=>rw [sF _ _ e]at HS0;cases HS0
 have J1:=J0.lnew (ys:=[]) (its:=[]) (t':=s.toks) .nil (zU _);have gI:((s.heap.push {cls:=.type "list_iterator",data:=.fields #[.ref l,.int 0 0]}).push {cls:=.type "list",data:=.seq #[] 0}).get? s.heap.objs.size=some {cls:=.type "list_iterator",data:=.fields #[.ref l,.int 0 0]}:=gH _ (jS _ rfl);have gS:((s.heap.push {cls:=.type "list_iterator",data:=.fields #[.ref l,.int 0 0]}).push {cls:=.type "list",data:=.seq #[] 0}).get? (s.heap.push {cls:=.type "list_iterator",data:=.fields #[.ref l,.int 0 0]}).objs.size=some {cls:=.type "list",data:=.seq #[] 0}:=jS _ rfl;have fI:mP X pins (bv H (s.heap.push {cls:=.type "list_iterator",data:=.fields #[.ref l,.int 0 0]}).objs.size (.lst [])) s.heap.objs.size:=J.fpOk (Q1 _) (by rw [aN hSI.symm];exact J.fresh)
 have sF1:Same F (bv H (s.heap.push {cls:=.type "list_iterator",data:=.fields #[.ref l,.int 0 0]}).objs.size (.lst [])):=λb o e=>by
  rw [aN (λz=>by rw [z,FS0]at e;cases e)]
  exact sF b o e
 have el1:((s.heap.push {cls:=.type "list_iterator",data:=.fields #[.ref l,.int 0 0]}).push {cls:=.type "list",data:=.seq #[] 0}).get? l=some {cls:=.type "list",data:=.seq its.toArray n}:=gH _ (gH _ el);have W:=Walks.list (prog:=X.prog) (w:=X.w) (A:=X.A.in1) (J.ok.hd hcm) s.heap.objs.size l hlI its.toArray;have hsz:its.toArray.size=its.length:=zM ..;refine codeAny_builtin PySem.F.entry_min_loop ?_;rw [Around.under_plainId PySem.F.plain_min_loop _];show wpAny _ X.A.in1 (seqItems? (.ref _) >>=_) _ _ _;refine wB (wpAny_seqItems gS rfl ?_);show wpAny _ X.A.in1 (tryCatch (pyNext (.ref s.heap.objs.size)) _ >>=_) _ _ _
 by_cases hne:xs=[]
 · have l0:its.length=0:=by rw [<-ll,hne];rfl
   refine wB (wpAny_tryCatch (W.done _ _ _ ⟨⟨_,gI,rfl,by rw [hsz,l0];rfl⟩,⟨_,el1,rfl,_,rfl⟩⟩ λh' tk' hk'=>?_))
   have J2:=J1.turned (h':=h') (t':=tk') (it:=s.heap.objs.size) (λb o hb e=>hk' b o (by simpa using hb) e) fI.1 fI.2.1 fI.2.2.2.1 fI.2.2.2.2.1 fI.2.2.2.2.2
   refine wB (wpAny_rule (wP ?_));refine⟨.non,_,J2,rfl,q0 hne _ sF1 λb o e=>?_⟩;rw [aN (λz=>by rw [z,HS0]at e;cases e)]
   exact e
 have pos:0 < xs.length:=by
  cases xs with
  |nil=>exact absurd rfl hne
  |cons _ _=>exact Nat.succ_pos _
 refine wB (wpAny_tryCatch (W.item 0 _ _ _ (by rw [hsz, <-ll];exact pos) ⟨⟨_,gI,rfl,rfl⟩,⟨_,el1,rfl,_,rfl⟩⟩ λu h' tk' hP hst' hk'=>?_))
 have hv:its[0]? =some u:=by simpa using hP
 obtain⟨x,hx,rx⟩:=pK rl hv;have J2:=J1.turned (h':=h') (t':=tk') (it:=s.heap.objs.size) (λb o hb e=>hk' b o (by simpa using hb) e) fI.1 fI.2.1 fI.2.2.2.1 fI.2.2.2.2.1 fI.2.2.2.2.2
 have eS1:=hk' _ _ (by simpa using hSI) gS
 show wpAny _ X.A.in1 (pure u >>=_) _ _ _;refine wB (wP ?_);show wpAny _ X.A.in1 (updateSeq (s.heap.push {cls:=.type "list_iterator",data:=.fields #[.ref l,.int 0 0]}).objs.size (λ_=> #[u,u]) >>=_) _ _ _;refine wB ?_;refine wpAny_updateSeq eS1 rfl ?_;rw [hname];have J3:=J2.lset (ys:=[x,x]) (its:=[]) (its':=[u,u]) (f:=λ_=> #[u,u]) (t':=tk') aS eS1 rfl (.cons rx (.cons rx .nil)) (jy (show 2<=1000 by decide))
 obtain⟨oI,hoI,hoc,hod⟩:=id hst'.1;refine wP ⟨plainId_quiet PySem.F.plain_min_loop _,Hb (S:=(s.heap.push {cls:=.type "list_iterator",data:=.fields #[.ref l,.int 0 0]}).objs.size) (I:=s.heap.objs.size) (H0:=H) hcm hFl FS0 hSI hc (λv u' H' s' e1 e2 e3 e4 e5=>?_) _ 0 _ _ x rfl pos J3 (λb o e=>?_) (λb nb=>by rw [aN nb,aN nb]) aS hx ⟨by rw [aN hSI.symm];exact fI.1,fI.2⟩ ⟨oI,?_,hoc,hod⟩⟩
 · refine⟨v,H',e3,e2,q v H' e1 e4 λb o e=>?_⟩;rw [e5 b (λz=>by rw [z,HS0]at e;cases e)]
   exact e
 · rw [aN (λz=>by rw [z,FS0]at e;cases e)]
   exact sF1 b o e
 · exact(CC h' _ hSI).trans hoI
def LD(K:Fg)(t:TA):TE:=λσ H Q=>t σ H λvs H1=>LC K vs H1 Q
theorem KC {X:Cx}{K:Fg}{x:Str}{p pos:Pos}{e:Expr}{t:TA}(hcm:X.calm=true)(hu:X.A.units+64 < cLine)(hg:Gl X x)(hm:X.mg x=none)(hv:bootBuiltins x=some (.builtin "min"))(ha:PA X [e] t)(hn:x≠ "__name__":=by decide)(hdb:(x==("__debug__":Str))=false:=by decide){kw:Keyword}
 (hk:∀s:Shared,∀Q:List Value->Shared->Prop,Q [.none] s->wpAny (model X.prog X.w) X.A (evalAll ((backToKw pos (keywordEach [kw] X.env)).map (·.2))) Q X.xe s)
 (hkn:(backToKw pos (keywordEach [kw] X.env)).filterMap (·.1)=[Str.ofString "default"]:=by rfl)
 (he:backTo pos (starEach [e] X.env)=(false,eval e X.env)::backTo pos (starEach [] X.env):=by rfl) (hpl:(backTo pos (starEach [e] X.env)).any (·.1)=false:=by rfl)
 (hall:(backToKw pos (keywordEach [kw] X.env)).all (·.1.isSome)=true:=by rfl) (hkw:(backToKw pos (keywordEach [kw] X.env)).any (·.1.isNone)=false:=by rfl) (hK:X.K=K:=by rfl):
 PE X (.Call (.Name x p) [e] [kw] pos) (LD K t):=by
 subst hK;intro pins s σ H Q I h;refine wpAny_Call_Name_kw (lQ I hg hm hv ?_ hn hdb);refine PyProof.Rows.callWith_kw (dN (ha pos pins s σ H _ I h) λus s1 ⟨vs,H1,I1,r1,q1⟩=>hk s1 _ ?_) he hpl hall hkw;rw [hkn];exact ED hcm hu I1 r1 q1
end L2
namespace DL
open PySem L2
theorem KD {M:Model}{A:Around}{E:Value->Shared->Prop}{s:Shared}{env:Env}{pos cp:Pos}{j:Nat}{nm:Str}{kp:Pos}{Q:List Value->Shared->Prop}(h:Q [.none] s):
 wpAny M A (evalAll ((backToKw pos (keywordEach [⟨some nm,.Constant .none j cp,kp⟩] env)).map (·.2))) Q E s:=
 PyProof.Rows.kws_cons (PyProof.Rows.Constant_none (PyProof.Rows.kws_nil h))
section
variable {K:Fg}
noncomputable def zn:List PyData->Option PyData
 |[.list []]=>some .none
 |ds=>Jm ds
noncomputable def Cr(fa:aT->Option (List PyData))(δ:aT):Option PyData:=(fa δ).bind zn
theorem KE {t:TA}{fa:aT->Option (List PyData)}(a:SA K t fa):SE K (LD K t) (Cr fa):=by
 intro H0 F0 F σ H δ d Q R e h;obtain⟨ds,e1,e2⟩:=bind_some e;refine a H0 F0 F σ H δ ds _ R e1 λvs H1 F1 g1 ar=>?_;unfold zn at e2;split at e2
 · cases e2;obtain⟨x,r,rfl,⟨b,ys,rfl,h1,h2⟩,hr⟩:=ar;rw [show r=[]from hr]
   have y0:ys=[]:=h2;refine⟨b,ys,F1,[],rfl,h1,g1.s,h2,(λ_ z=>nomatch z),(λ_ z=>nomatch z),λ_ H' s1 s2=>?_,λv H' ev=>?_⟩
   · exact h .non H' F1 (g1.trans ⟨Same.refl _,s1,s2,λ_ _ _ _ n=>n⟩) rfl
   · rw [y0]at ev;cases ev
 · unfold Jm at e2;split at e2
   · rename_i es _;split at e2
     · rename_i c;simp only [Q5,Q9,Bool.not_eq_true',List.isEmpty_eq_false_iff]at c;obtain⟨⟨c1,c2⟩,c3⟩:=c;obtain⟨x,r,rfl,⟨b,ys,rfl,h1,h2⟩,hr⟩:=ar;rw [show r=[]from hr]
       refine⟨b,ys,F1,es,rfl,h1,g1.s,h2,c2,c3,λz=>absurd ?_ c1,λv H' e1 s1 s2=>?_⟩
       · have:=h2.length;rw [z]at this;exact List.length_eq_zero_iff.mp this.symm
       · rw [h2.length]at e1;obtain⟨v',e4,iv⟩:=h2.get e2;rw [e4]at e1;cases e1;exact h _ H' F1 (g1.trans ⟨Same.refl _,s1,s2,λ_ _ _ _ n=>n⟩) iv
     · cases e2
   · cases e2
end
end DL
namespace L2
open PySem PySem.Spec PyProof.Rows
section
variable {prog:Program} {w:World} {A:Around} {E:Value->Shared->Prop} {s:Shared} {a I:Addr} {es:Array (Int×Value)} {ep i:Nat} {t:SetTable}
end
section
variable {prog:Program} {w:World} {A:Around} {E:Value->Shared->Prop} {s:Shared} {a:Addr} {es:Array (Int×Value)} {ep:Nat} {t:SetTable}
end
section
variable {prog:Program} {w:World} {A:Around} {E:Value->Shared->Prop} {s:Shared} {a b:Addr} {es:Array (Int×Value)} {ep:Nat} {t t':SetTable} {p:Nat} {k:List Int}
end
section
variable {prog:Program} {w:World} {A:Around} {E:Value->Shared->Prop} {s:Shared} {R:Result->Shared->Prop}
end
section
variable {prog:Program} {w:World} {A:Around} {E:Value->Shared->Prop} {s:Shared}
end
section
variable {prog:Program} {w:World} {A:Around} {E:Value->Shared->Prop} {s:Shared}
end
end L2
namespace L2
open PySem PySem.Spec PyProof.Rows PySem.W
end L2
namespace DL
end DL
namespace L2
open PySem PySem.Spec PyProof.Rows PySem.W
end L2
namespace DL
open PySem L2
section
variable {K:Fg} {X:Cx}
end
section
variable {K:Fg}
mutual
noncomputable def je:PyData->Bool
 | .tuple ds=>flats ds
 | .list _=>false
 | .dict _=>false
 |_=>true
noncomputable def flats:List PyData->Bool
 |[]=>true
 |d::r=>je d&&flats r
end
def tZ(F G:Hp):Prop:=∀a xs,F a=some (.tup xs)->G a=some (.tup xs)
mutual
theorem nR {F G:Hp}(s:tZ F G):∀{x:V} (d:PyData),je d=true->Is K F x d->Is K G x d
 |x,.none,_,h=>h
 |x,.bool _,_,h=>h
 |x,.int _,_,h=>h
 |x,.str _,_,h=>h
 |x,.tuple ds,e,h=>by
  obtain⟨a,xs,h1,h2,h3⟩:=h;exact⟨a,xs,h1,s a xs h2,flats_same s ds e h3⟩
 |x,.list _,e,_=>nomatch e
 |x,.dict _,e,_=>nomatch e
theorem flats_same {F G:Hp}(s:tZ F G):∀{xs:List V} (ds:List PyData),flats ds=true->Are K F xs ds->Are K G xs ds
 |_,[],_,h=>h
 |_,d::ds,e,h=>by
  obtain⟨e1,e2⟩:=M1.mp (show(je d&&flats ds)=true from e)
  obtain⟨x,r,h1,h2,h3⟩:=h;exact⟨x,r,h1,nR s d e1 h2,flats_same s ds e2 h3⟩
end
mutual
theorem Hd {F:Hp}:∀{x:V} (d e:PyData),je d=true->je e=true->Is K F x d->Is K F x e->d=e
 |x,.tuple ds,e,f1,f2,h1,h2=>by
  obtain⟨a,xs,rfl,q1,q2⟩:=h1;cases e with
  |tuple es=>
   obtain⟨b,ys,r1,r2,r3⟩:=h2;cases r1;rw [q1]at r2;cases r2;rw [flats_one ds es f1 f2 q2 r3]
  |none=>cases(show V.ref a=.non from h2)
  |bool _=>cases(show V.ref a=.bl _ from h2)
  |int _=>cases(show V.ref a=.int _ from h2)
  |str _=>cases(show V.ref a=.str _ from h2)
  |list _=>cases f2
  |dict _=>cases f2
 |x,.none,e,f1,f2,h1,h2=>by
  cases(show x=.non from h1)
  cases e with
  |tuple es=>obtain⟨b,ys,r1,_⟩:=h2;cases r1
  |none=>rfl
  |bool _=>cases(show V.non=.bl _ from h2)
  |int _=>cases(show V.non=.int _ from h2)
  |str _=>cases(show V.non=.str _ from h2)
  |list _=>cases f2
  |dict _=>cases f2
 |x,.bool b,e,f1,f2,h1,h2=>by
  cases(show x=.bl b from h1)
  cases e with
  |tuple es=>obtain⟨b,ys,r1,_⟩:=h2;cases r1
  |none=>cases(show V.bl b=.non from h2)
  |bool _=>cases(show V.bl b=.bl _ from h2);rfl
  |int _=>cases(show V.bl b=.int _ from h2)
  |str _=>cases(show V.bl b=.str _ from h2)
  |list _=>cases f2
  |dict _=>cases f2
 |x,.int b,e,f1,f2,h1,h2=>by
  cases(show x=.int b from h1)
  cases e with
  |tuple es=>obtain⟨b,ys,r1,_⟩:=h2;cases r1
  |none=>cases(show V.int b=.non from h2)
  |bool _=>cases(show V.int b=.bl _ from h2)
  |int _=>cases(show V.int b=.int _ from h2);rfl
  |str _=>cases(show V.int b=.str _ from h2)
  |list _=>cases f2
  |dict _=>cases f2
 |x,.str b,e,f1,f2,h1,h2=>by
  cases(show x=.str b from h1)
  cases e with
  |tuple es=>obtain⟨b,ys,r1,_⟩:=h2;cases r1
  |none=>cases(show V.str b=.non from h2)
  |bool _=>cases(show V.str b=.bl _ from h2)
  |int _=>cases(show V.str b=.int _ from h2)
  |str _=>cases(show V.str b=.str _ from h2);rfl
  |list _=>cases f2
  |dict _=>cases f2
 |x,.list _,e,f1,_,_,_=>nomatch f1
 |x,.dict _,e,f1,_,_,_=>nomatch f1
theorem flats_one {F:Hp}:∀{xs:List V} (ds es:List PyData),flats ds=true->flats es=true->Are K F xs ds->Are K F xs es->ds=es
 |xs,[],es,_,_,h1,h2=>by
  rw [show xs=[]from h1]at h2
  cases es with
  |nil=>rfl
  |cons e es=>obtain⟨_,_,r,_⟩:=h2;cases r
 |xs,d::ds,es,f1,f2,h1,h2=>by
  obtain⟨x,r,rfl,h3,h4⟩:=h1;cases es with
  |nil=>cases(show x::r=[]from h2)
  |cons e es=>
   obtain⟨y,r',q,h5,h6⟩:=h2;cases q;obtain⟨a1,a2⟩:=M1.mp (show(je d&&flats ds)=true from f1)
   obtain⟨b1,b2⟩:=M1.mp (show(je e&&flats es)=true from f2)
   rw [Hd d e a1 b1 h3 h5,flats_one ds es a2 b2 h4 h6]
end
def NK(F:Hp)(p:Addr):Hp:=λa=>if a=p then none else F a
theorem zo(F:Hp)(p:Addr):NK F p p=none:=if_pos rfl
theorem t5 {F:Hp}{p a:Addr}(h:a≠p):NK F p a=F a:=if_neg h
theorem nU {F H:Hp}{p:Addr}{o:HO}(s:Same F H)(h:H p=some o):Same (bv F p o) H:=λb u e=>by
 by_cases hb:b=p
 · subst hb;rw [aS]at e;rw [h];exact e
 · rw [aN hb]at e;exact s b u e
theorem Bf {F:Hp}{p:Addr}{o:HO}(t:Tb K F)(h:F p=none):Tb K (bv F p o):=λa ps q=>by
 have:=t a ps q;rw [aN (λz=>by rw [z,h]at this;cases this)]
 exact this
theorem Grow.lent {F H F' H':Hp}{p:Addr}{o:HO}(hn:F p=none)(g:Grow (bv F p o) H F' H'):Grow F H (NK F' p) H' where
 f:=λb u e=>by
  have hb:b≠p:=λz=>by rw [z,hn]at e;cases e
  rw [t5 hb];exact g.f b u (by rw [aN hb];exact e)
 s:=λb u e=>by
  by_cases hb:b=p
  · rw [hb,zo]at e;cases e
  · rw [t5 hb]at e;exact g.s b u e
 h:=g.h
 o:=λb u e t n=>by
  by_cases hb:b=p
  · rw [hb,zo]
  · rw [t5 hb];exact g.o b u e t (by rw [aN hb];exact n)
def lm(asks:List PyData)(d:PyData):Prop:=je d=true\/∃es,d=.list es/\flats es=true/\(es≠asks\/asks=[])
def Lent(K:Fg)(F H:Hp)(hd:Addr)(asks:List PyData):Prop:=∃hs,H hd=some (.lst hs)/\Are K F hs asks/\((F hd=none/\asks≠[])\/(asks=[]/\F hd=some (.lst hs)))
theorem Lent.grow {F H F' H':Hp}{hd:Addr}{asks:List PyData}(l:Lent K F H hd asks)(g:Grow F H F' H'):Lent K F' H' hd asks:=by
 obtain⟨hs,h1,h2,h3⟩:=l;refine⟨hs,g.h _ _ h1,h2.same g.f,h3.imp (λh=>⟨g.o _ _ h1 (λ_ z=>nomatch z) h.1,h.2⟩) (λh=>⟨h.1,g.f _ _ h.2⟩)⟩
theorem NL {F H:Hp}{hd:Addr}{asks:List PyData}{n:Nat}{f:List PyData->Option PyData}{vs:List V}{ds:List PyData}{d:PyData}{Q:VK}{E:XK}(s:jG K F H)(l:Lent K F H hd asks)(fa:flats asks=true)
 (av:∀G:Hp,Same F G->Is K G (.ref hd) (.list asks)->Are K G vs ds) (hl:vs.length=n) (e:f ds=some d) (ok:lm asks d) (q:∀v H' F',Grow F H F' H'->Is K F' v d->Q v H'):cF K n f vs H Q E:=by
 obtain⟨hs,h1,h2,h3⟩:=l
 rcases h3 with⟨hn,hne⟩|⟨ha,hf⟩
 · have s2:Same F (bv F hd (.lst hs)):=λb u e=>by
    rw [aN (λz=>by rw [z,hn]at e;cases e)];exact e
   refine⟨bv F hd (.lst hs),ds,d,⟨nU s.1 h1,Bf s.2 hn⟩,hl,av _ s2 ⟨hd,hs,rfl,aS,h2.same s2⟩,e,λv H' F' g i=>?_⟩;have gl:=g.lent hn;refine q v H' (NK F' hd) gl ?_;have fh:F' hd=some (.lst hs):=g.f _ _ aS;have su:tZ F' (NK F' hd):=λa xs e=>by
    rw [t5 (λz=>by rw [z,fh]at e;cases e)];exact e
   rcases ok with ok|⟨es,rfl,f1,f2⟩
   · exact nR su d ok i
   · obtain⟨a,xs,rfl,r1,r2⟩:=i;have na:a≠hd:=λz=>by
      rw [z,fh]at r1;cases r1;have:Are K F' hs asks:=h2.same (s2.trans g.f);exact(f2.resolve_right hne) (flats_one es asks f1 fa r2 this)
     exact⟨a,xs,rfl,by rw [t5 na];exact r1,flats_same su es f1 r2⟩
 · exact⟨F,ds,d,s,hl,av F (Same.refl _) ⟨hd,hs,rfl,hf,h2⟩,e,q⟩
end
section
variable {K:Fg}
theorem Grow.poke {F H F' H':Hp}{q:Addr}{o:HO}(g:Grow F H F' H')(hq:H q=none)(fq:F' q=none):Grow F H F' (bv H' q o) where
 f:=g.f
 s:=λb u e=>by rw [aN (aQ e fq)];exact g.s b u e
 h:=λb u e=>by rw [aN (aQ e hq)];exact g.h b u e
 o:=g.o
theorem Grow.keep {F H F' H':Hp}{q:Addr}{o:HO}(g:Grow F H F' H')(hq:H q=none)(fq:F' q=none)(e:H' q=some o):Grow F H (bv F' q o) H' where
 f:=λb u e=>by
  have:=g.f b u e;rw [aN (aQ this fq)];exact this
 s:=nU g.s e
 h:=g.h
 o:=λb u e t n=>by
  rw [aN (aQ e hq)];exact g.o b u e t n
theorem c1 {F H:Hp}{f:List PyData->Option PyData}{σ:St}{gv:V}{g d:PyData}{Q:VK}(s:jG K F H)(h0:σ[0]? =some (some gv))(i:Is K F gv g)(e:f [g]=some d)(q:∀v H' F',Grow F H F' H'->Is K F' v d->Q v H'):
 eF (cF K 1 f) [] E0 (bH (bX 0) dM) σ H Q:=⟨gv,h0,F,[g],d,s,rfl,⟨gv,[],rfl,i,rfl⟩,e,q⟩
theorem p2 {F H:Hp}{f:List PyData->Option PyData}{σ:St}{gv hv:V}{g h d:PyData}{Q:VK}(s:jG K F H)(h0:σ[0]? =some (some gv))(h2:σ[2]? =some (some hv))(i:Is K F gv g)(j:Is K F hv h)(e:f [g,h]=some d)(q:∀v H' F',Grow F H F' H'->Is K F' v d->Q v H'):
 eF (cF K 2 f) [] E0 (bH (bX 0) (bH (bX 2) dM)) σ H Q:=⟨gv,h0,hv,h2,F,[g,h],d,s,rfl,⟨gv,_,rfl,i,hv,_,rfl,j,rfl⟩,e,q⟩
theorem l2 {F H:Hp}{f:List PyData->Option PyData}{σ:St}{gv:V}{hd:Addr}{asks:List PyData}{g d:PyData}{Q:VK}(s:jG K F H)(l:Lent K F H hd asks)(fa:flats asks=true)(h0:σ[0]? =some (some gv))(h1:σ[1]? =some (some (.ref hd)))(i:Is K F gv g)(e:f [g,.list asks]=some d)(ok:lm asks d)(q:∀v H' F',Grow F H F' H'->Is K F' v d->Q v H'):
 eF (cF K 2 f) [] E0 (bH (bX 0) (bH (bX 1) dM)) σ H Q:=
 ⟨gv,h0,.ref hd,h1,NL (E:=E0) (vs:=[gv,.ref hd]) (ds:=[g,.list asks]) s l fa (λG sG il=>⟨gv,_,rfl,i.same sG,.ref hd,_,rfl,il,rfl⟩) rfl e ok q⟩
theorem l3 {F H:Hp}{f:List PyData->Option PyData}{σ:St}{gv hv:V}{hd:Addr}{asks:List PyData}{g h d:PyData}{Q:VK}(s:jG K F H)(l:Lent K F H hd asks)(fa:flats asks=true)(h0:σ[0]? =some (some gv))(h1:σ[1]? =some (some (.ref hd)))(h2:σ[2]? =some (some hv))(i:Is K F gv g)(j:Is K F hv h)(e:f [g,.list asks,h]=some d)(ok:lm asks d)(q:∀v H' F',Grow F H F' H'->Is K F' v d->Q v H'):
 eF (cF K 3 f) [] E0 (bH (bX 0) (bH (bX 1) (bH (bX 2) dM))) σ H Q:=
 ⟨gv,h0,.ref hd,h1,hv,h2,NL (E:=E0) (vs:=[gv,.ref hd,hv]) (ds:=[g,.list asks,h]) s l fa (λG sG il=>⟨gv,_,rfl,i.same sG,.ref hd,_,rfl,il,hv,_,rfl,j.same sG,rfl⟩) rfl e ok q⟩
structure Told8 (f0 f1 f2 f3 f4 f5 f6 f7:List PyData->Option PyData) (g:PyData) (asks:List PyData) (h:PyData) (rows:List PyData):Prop where
 ex:∃d0 d1 d2 d3 d4 d5 d6,f0 [g]=some d0/\f1 [g]=some d1/\f2 [g,.list asks]=some d2/\f3 [g,.list asks]=some d3/\f4 [g,.list asks,h]=some d4/\f5 [g,h]=some d5/\f6 [g]=some d6/\
  lm asks d2/\lm asks d3/\lm asks d4/\((f7 [g,.list asks]=some .none/\rows=[d0,d1,d2,d3,d4,d5,d6])\/∃es,f7 [g,.list asks]=some (.list es)/\lm asks (.list es)/\rows=[d0,d1,d2,d3,d4,d5,d6,.list es])
def M5(K:Fg)(f0 f1 f2 f3 f4 f5 f6 f7:List PyData->Option PyData):Sp:=λvs H Q _=>∃F gv hv hd g asks h rows,jG K F H/\vs=[gv,.ref hd,hv]/\Lent K F H hd asks/\flats asks=true/\Is K F gv g/\Is K F hv h/\Told8 f0 f1 f2 f3 f4 f5 f6 f7 g asks h rows/\
 ∀v H' F',Grow F H F' H'->Is K F' v (.list rows)->Q v H'
theorem He {f0 f1 f2 f3 f4 f5 f6 f7:List PyData->Option PyData}{D:Ends}{N:List Str}{vs:List V}{H:Hp}{E:XK}(hN:N.length=5)(sp:M5 K f0 f1 f2 f3 f4 f5 f6 f7 vs H D.rt E):
 kf (oM (BA (bH (eF (cF K 1 f0) [] E0 (bH (bX 0) dM)) (bH (eF (cF K 1 f1) [] E0 (bH (bX 0) dM)) (bH (eF (cF K 2 f2) [] E0 (bH (bX 0) (bH (bX 1) dM))) (bH (eF (cF K 2 f3) [] E0 (bH (bX 0) (bH (bX 1) dM))) (bH (eF (cF K 3 f4) [] E0 (bH (bX 0) (bH (bX 1) (bH (bX 2) dM)))) dM)))))) (eE 3))
  (kf (oM (Ke (Fu K) (bX 3) (BA (bH (eF (cF K 2 f5) [] E0 (bH (bX 0) (bH (bX 2) dM))) (bH (eF (cF K 1 f6) [] E0 (bH (bX 0) dM)) dM)))) (eE 3))
  (kf (oM (eF (cF K 2 f7) [] E0 (bH (bX 0) (bH (bX 1) dM))) (eE 4))
  (kf (sS (yP (Ke (λx y H Q=>y=.non/\Q (.bl (!decide (x=.non))) H) (bX 4) (tC .non))) (ly (L4 K "list" oy (bX 3) (bH (bX 4) dM))) vY)
  (yM (bX 3))))) D (L2.eZ N vs) H:=by
 obtain⟨F,gv,hv,hd,g,asks,h,rows,s,rfl,l,fa,ig,ih,⟨d0,d1,d2,d3,d4,d5,d6,e0,e1,e2,e3,e4,e5,e6,o2,o3,o4,e7⟩,q⟩:=sp;have hσ:L2.eZ N [gv,.ref hd,hv]=[some gv,some (.ref hd),some hv,none,none]:=by
  show [some gv,some (.ref hd),some hv]++List.replicate (N.length - 3) none=_;rw [hN];rfl
 rw [hσ];obtain⟨d7,e7,o7,h7⟩:∃d7,f7 [g,.list asks]=some d7/\lm asks d7/\((d7=.none/\rows=[d0,d1,d2,d3,d4,d5,d6])\/∃es,d7=.list es/\rows=[d0,d1,d2,d3,d4,d5,d6,.list es]):=by
  rcases e7 with⟨a,b⟩|⟨es,a,b,c⟩
  · exact⟨_,a,.inl rfl,.inl ⟨rfl,b⟩⟩
  · exact⟨_,a,b,.inr ⟨es,rfl,c⟩⟩
 have st:∀{F' H':Hp},Grow F H F' H'->jG K F' H':=λg'=>⟨g'.s,s.2.same g'.f⟩;refine c1 s rfl ig e0 λx0 H1 F1 g1 i0=>?_;refine c1 (st g1) rfl (ig.same g1.f) e1 λx1 H2 F2 g2 i1=>?_;have G2:=g1.trans g2;refine l2 (st G2) (l.grow G2) fa rfl rfl (ig.same G2.f) e2 o2 λx2 H3 F3 g3 i2=>?_;have G3:=G2.trans g3;refine l2 (st G3) (l.grow G3) fa rfl rfl (ig.same G3.f) e3 o3 λx3 H4 F4 g4 i3=>?_;have G4:=G3.trans g4;refine l3 (st G4) (l.grow G4) fa rfl rfl rfl (ig.same G4.f) (ih.same G4.f) e4 o4 λx4 H5 F5 g5 i4=>?_;have G5:=G4.trans g5;refine⟨jy (by show 5<=1000;decide),λp hp=>?_⟩
 have G5':=G5.trans (Grow.fresh (o:=.lst [x0,x1,x2,x3,x4]) G5.s hp);refine⟨.ref p,rfl,?_⟩;refine p2 (st G5') rfl rfl (ig.same G5'.f) (ih.same G5'.f) e5 λx5 H6 F6 g6 i5=>?_;have G6:=G5'.trans g6;refine c1 (st G6) rfl (ig.same G6.f) e6 λx6 H7 F7 g7 i6=>?_;have G7:=G6.trans g7;refine⟨jy (by show 2<=1000;decide),λp' hp'=>?_⟩
 have G7':=G7.trans (Grow.fresh (o:=.lst [x5,x6]) G7.s hp');have hpp:bv H7 p' (.lst [x5,x6]) p=some (.lst [x0,x1,x2,x3,x4]):=by
  have:H7 p=some (.lst [x0,x1,x2,x3,x4]):=g7.h _ _ (g6.h _ _ aS);rw [aN (aQ this hp')];exact this
 refine .inr (.inr (.inl ⟨p,p',_,_,rfl,rfl,hpp,aS,jy (by show 7<=1000;decide),λr hr=>?_⟩))
 have G8:=G7'.trans (Grow.fresh (o:=.lst [x0,x1,x2,x3,x4,x5,x6]) G7'.s hr);have hr0:H r=none:=G7'.h.free hr;refine l2 (st G8) (l.grow G8) fa rfl rfl (ig.same G8.f) e7 o7 λx7 H9 F9 g9 i7=>?_;have G9:=G8.trans g9;have fr8:F7 r=none:=G7'.s.free hr;have fr9:F9 r=none:=g9.o r _ aS (λ_ z=>nomatch z) fr8;have hr9:H9 r=some (.lst [x0,x1,x2,x3,x4,x5,x6]):=g9.h _ _ aS;have a0:=i0.same (g2.f.trans (g3.f.trans (g4.f.trans (g5.f.trans (g6.f.trans (g7.f.trans g9.f))))));have a1:=i1.same (g3.f.trans (g4.f.trans (g5.f.trans (g6.f.trans (g7.f.trans g9.f)))));have a2:=i2.same (g4.f.trans (g5.f.trans (g6.f.trans (g7.f.trans g9.f))));have a3:=i3.same (g5.f.trans (g6.f.trans (g7.f.trans g9.f)));have a4:=i4.same (g6.f.trans (g7.f.trans g9.f));have a5:=i5.same (g7.f.trans g9.f);have a6:=i6.same g9.f;refine⟨x7,rfl,rfl,_,rfl,?_⟩
 rcases h7 with⟨rfl,rfl⟩|⟨es,rfl,rfl⟩
 · skip
   cases(show x7=.non from i7)
   refine vA ?_;have gk:=G9.keep hr0 fr9 hr9;have sm:Same F9 (bv F9 r (.lst [x0,x1,x2,x3,x4,x5,x6])):=λb u e=>by rw [aN (aQ e fr9)];exact e
   exact⟨.ref r,rfl,q _ _ _ gk ⟨r,_,rfl,aS,x0,_,rfl,a0.same sm,x1,_,rfl,a1.same sm,x2,_,rfl,a2.same sm,x3,_,rfl,a3.same sm,x4,_,rfl,a4.same sm,x5,_,rfl,a5.same sm,x6,_,rfl,a6.same sm,rfl⟩⟩
 · obtain⟨b',ys,rfl,j1,j2⟩:=id (show Is K F9 x7 (.list es)from i7)
   refine wy ?_;refine⟨.ref r,rfl,.inl ⟨rfl,_,SqL.of hr9⟩,.ref b',rfl,r,_,.ref b',rfl,rfl,hr9,jy (by show 8<=1000;decide),?_⟩
   have gp:=G9.poke (o:=.lst ([x0,x1,x2,x3,x4,x5,x6]++[V.ref b'])) hr0 fr9;have gk:=gp.keep hr0 fr9 aS;have sm:Same F9 (bv F9 r (.lst ([x0,x1,x2,x3,x4,x5,x6]++[V.ref b']))):=λb u e=>by rw [aN (aQ e fr9)];exact e
   exact⟨.ref r,rfl,q _ _ _ gk ⟨r,_,rfl,aS,x0,_,rfl,a0.same sm,x1,_,rfl,a1.same sm,x2,_,rfl,a2.same sm,x3,_,rfl,a3.same sm,x4,_,rfl,a4.same sm,x5,_,rfl,a5.same sm,x6,_,rfl,a6.same sm,.ref b',_,rfl,⟨b',ys,rfl,sm _ _ j1,j2.same sm⟩,rfl⟩⟩
end
section
variable {K:Fg}
noncomputable def MM:aT->Option DFlow:=aP (eY (hX (cP (lA "list" (aB 0)))) (ae (aB 0)) bF) fX
noncomputable def qe:List PyData->Option PyData:=bV 1 MM
theorem Hg {d:PyData}(h:je d=true):qe [d]=some d:=by
 cases d<;>first|(cases h;done)|rfl
noncomputable def MN:aT->Option DFlow:=eY (cP (lA "list" (aB 0))) fX bF
noncomputable def x8:List PyData->Option PyData:=bV 2 MN
theorem Hh {d:PyData}(h:je d=true):x8 [d]=some .none:=by
 cases d<;>first|(cases h;done)|rfl
theorem qf:∀{ds:List PyData} {d:PyData},flats ds=true->d∈ds->je d=true
 |e::ds,d,h,m=>by
  obtain⟨h1,h2⟩:=M1.mp (show(je e&&flats ds)=true from h)
  rcases Q4.mp m with rfl|m
  · exact h1
  · exact qf h2 m
noncomputable def t6:List PyData->Option (List PyData)
 |[.list es]=>if(flats es&&decide (es.length<=eD))=true then some es else none
 |_=>none
abbrev KF(K:Fg):TT:=Lb K (FG (CY K) (bH (bX 0) (bH (tC (.ty "list")) dM)))
theorem x9:ST K (KF K) (cP (lA "list" (aB 0))):=gP (oU (n:="list") (aF 0))
theorem Hi {D:Ends}{N:List Str}{vs:List V}{H:Hp}{E:XK}(hN:N.length=1)(sp:Kk K 1 t6 vs H D.rt E):
 kf (sS (Iu (KF K)) (yM (bX 0)) vY) (yM (yU 1 [] (xJ K (bX 0)) (eE 0) FP (eF (cF K 1 qe) [] E0 (bH (bX 0) dM)))) D (L2.eZ N vs) H:=by
 obtain⟨F,ds,es,s,hl,ar,e,q⟩:=sp;have R:=ja (K:=K) (N:=N) s ar;unfold t6 at e;split at e
 · rename_i es';split at e
   · rename_i c;cases e;obtain⟨c1,c2⟩:=M1.mp c;rw [hN]at R;unfold kf sS;refine j7 x9 H F F _ H _ false _ R rfl λH1 F1 g1=>?_;refine vA ?_;refine fK (fr:=[]) (dR (aF 0)) (bK 0) dS j9 (aU (aG (aF 0) aO)) H F F1 _ H1 _ es _ (R.grow g1) ?_ λa xs H' F' g h1 h2 h3 h4=>q a xs H' F' (g1.trans g) (g1.h.free h1) h2 h3 h4;have:=dL (n:=1) (fr:=[]) (fi:=ax (aB 0)) (fg:=gN 0) (fc:=cM) (fe:=aE 1 qe (aA (aB 0) aI)) (δ:=gu 1 [.list es]) (ds:=es) (λd=>d) rfl (of_decide_eq_true c2) λd hd=>by
      show((qe [d]).map some)=_;rw [Hg (qf c1 hd)];rfl
     rw [this,List.map_id']
   · cases e
 · cases e
noncomputable def OwnAre(K:Fg)(H0 F H':Hp)(vs:List V):List (List PyData)->Prop
 |[]=>vs=[]
 |es::r=>∃b ys ws,vs=.ref b::ws/\H0 b=none/\F b=none/\H' b=some (.lst ys)/\Are K F ys es/\OwnAre K H0 F H' ws r
theorem OwnAre.mono {H0 F H1 F2 H2:Hp}(f:Same F F2)(k:∀b ys,H0 b=none->F b=none->H1 b=some (.lst ys)->F2 b=none/\H2 b=some (.lst ys)):∀{ess:List (List PyData)} {vs:List V},OwnAre K H0 F H1 vs ess->OwnAre K H0 F2 H2 vs ess
 |[],_,h=>h
 |es::r,_,h=>by
  obtain⟨b,ys,ws,rfl,h1,h2,h3,h4,h5⟩:=h;obtain⟨k1,k2⟩:=k b ys h1 h2 h3;exact⟨b,ys,ws,rfl,h1,k1,k2,h4.same f,h5.mono f k⟩
theorem OwnAre.snoc {H0 F H1:Hp}{b:Addr}{ys:List V}{es:List PyData}(h1:H0 b=none)(h2:F b=none)(h3:H1 b=some (.lst ys))(h4:Are K F ys es):∀{ess:List (List PyData)} {vs:List V},OwnAre K H0 F H1 vs ess->OwnAre K H0 F H1 (vs++[.ref b]) (ess++[es])
 |[],_,h=>by rw [show _=[]from h];exact⟨b,ys,[],rfl,h1,h2,h3,h4,rfl⟩
 |es'::r,_,h=>by
  obtain⟨b',ys',ws,rfl,q1,q2,q3,q4,q5⟩:=h;exact⟨b',ys',_,rfl,q1,q2,q3,q4,q5.snoc h1 h2 h3 h4⟩
theorem OwnAre.len {H0 F H1:Hp}:∀{ess:List (List PyData)} {vs:List V},OwnAre K H0 F H1 vs ess->vs.length=ess.length
 |[],_,h=>by rw [show _=[]from h];rfl
 |es::r,_,h=>by
  obtain⟨b,ys,ws,rfl,_,_,_,_,h⟩:=h;rw [zC,zC,h.len]
def NM(K:Fg):Sp:=λvs H Q _=>∃F r xs ess,jG K F H/\vs=[.ref r]/\F r=some (.lst xs)/\Are K F xs (ess.map .list)/\(∀es∈ess,flats es=true/\es.length<=eD)/\ess.length<=1000/\
 ∀p ws H' F',Grow F H F' H'->H p=none->F' p=none->H' p=some (.lst ws)->OwnAre K H F' H' ws ess->Q (.ref p) H'
theorem Hj {D:Ends}{N:List Str}{vs:List V}{H:Hp}{E:XK}(hN:N.length=1)(sp:NM K vs H D.rt E):
 kf (sS (Iu (KF K)) (yM (bX 0)) vY) (yM (yU 1 [] (xJ K (bX 0)) (eE 0) FP (eF (Kk K 1 t6) [] E0 (bH (bX 0) dM)))) D (L2.eZ N vs) H:=by
 obtain⟨F,r,xs,ess,s,rfl,hr,ar,fl,le,q⟩:=sp;have ia:Are K F [V.ref r] [.list (ess.map .list)]:=⟨.ref r,[],rfl,⟨r,xs,rfl,hr,ar⟩,rfl⟩;have R:=ja (K:=K) (N:=N) s ia;have hσ:L2.eZ N [V.ref r]=[some (.ref r)]:=by
  show [some (V.ref r)]++List.replicate (N.length - 1) none=_;rw [hN];rfl
 rw [hN,hσ]at R;rw [hσ];unfold kf sS;refine j7 x9 H F F _ H _ false _ R rfl λH1 F1 g1=>?_;refine vA ?_;have hr1:F1 r=some (.lst xs):=g1.f _ _ hr;have ar1:Are K F1 xs (ess.map .list):=ar.same g1.f;have xl:xs.length=ess.length:=by rw [ar.length,zJ]
 refine⟨.ref r,rfl,r,rfl,.inl ⟨⟨xs,SqL.of (g1.s _ _ hr1)⟩,λacc hacc=>?_⟩⟩;have h0:H acc=none:=g1.h.free hacc;have hF1:F1 acc=none:=g1.s.free hacc;refine⟨λi m σ' H'=>m=ess.length - i/\i<=ess.length/\σ'.length=1/\∃F' ws,Grow F H F' H'/\Same F1 F'/\F' acc=none/\H' acc=some (.lst ws)/\OwnAre K H F' H' ws (ess.take i)/\∀b,V.ref b∈ws->b≠acc,⟨ess.length,by simp,zU _,rfl,F1,[],g1.trans (Grow.fresh g1.s hacc),Same.refl _,hF1,aS,rfl,λ_ h=>nomatch h⟩,?_⟩
 rintro i m σ' H' ⟨rfl,hle,hl,F',ws,g',s',hF',ha,ow,na⟩;have hr':H' r=some (.lst xs):=g'.s _ _ (s' _ _ hr1)
 by_cases hlt:i < ess.length
 · have hx:xs[i]? =some xs[i]:=cY (by omega)
   refine .inr ⟨⟨xs,xs[i],SqL.of hr',hx⟩,λσ' H'=>i+1<=ess.length/\σ'.length=1/\∃F' ws,Grow F H F' H'/\Same F1 F'/\F' acc=none/\H' acc=some (.lst ws)/\OwnAre K H F' H' ws (ess.take (i+1))/\∀b,V.ref b∈ws->b≠acc,λσ2 H2 q=>⟨ess.length - (i+1),by omega,rfl,q⟩,?_⟩
   rintro x H2 ⟨rfl,y⟩;have ex:=y xs (SqL.of hr');rw [hx]at ex;cases ex;obtain⟨x',ex',ix⟩:=ar1.get (i:=i) (d:=.list ess[i]) (by rw [zK,cY hlt];rfl)
   rw [hx]at ex';cases ex';have fi:=fl ess[i] (Qc hlt);unfold eE FP
   dsimp only
   rw [if_pos rfl];refine⟨xs[i],by rw [Ap (by rw [hl];decide)],F',[.list ess[i]],ess[i],⟨g'.s,s.2.same g'.f⟩,rfl,⟨xs[i],[],rfl,ix.same s',rfl⟩,?_,λb ys H5 F5 g5 hb fb h5 a5=>?_⟩
   · show(if(flats ess[i]&&decide (ess[i].length<=eD))=true then some ess[i]else none)=_;rw [if_pos (by rw [fi.1,decide_eq_true fi.2];rfl)]
   have bacc:b≠acc:=λz=>by rw [z,ha]at hb;cases hb
   have G5:=g'.trans g5;have fa5:F5 acc=none:=g5.o _ _ ha (λ_ z=>nomatch z) hF';refine⟨ws,g5.h _ _ ha,?_,hlt,by rw [Q6];exact hl,F5,ws++[.ref b],G5.poke h0 fa5,s'.trans g5.f,fa5,aS,?_,λc hc=>?_⟩
   · rw [ow.len,At];exact jy (by omega)
   · rw [Ic hlt];refine OwnAre.snoc (g'.h.free hb) fb (by rw [aN bacc];exact h5) a5 ?_
     have na':∀{vs:List V} {es:List (List PyData)},(∀b,V.ref b∈vs->b≠acc)->OwnAre K H F' H2 vs es->OwnAre K H F5 (bv H5 acc (.lst (ws++[.ref b]))) vs es:=λ{vs es}=>by
      induction es generalizing vs with
      |nil=>exact λ_ h=>h
      |cons e es ih=>
       intro n h;obtain⟨b',ys',ws',rfl,q1,q2,q3,q4,q5⟩:=h;exact⟨b',ys',ws',rfl,q1,g5.o _ _ q3 (λ_ z=>nomatch z) q2,by rw [aN (n b' lN)];exact g5.h _ _ q3,q4.same g5.f,ih (λc hc=>n c (ke _ hc)) q5⟩
     exact na' na ow
   · rcases CD.mp hc with hc|hc
     · exact na c hc
     · have:=Qf.mp hc;cases this;exact bacc
 · have ei:i=ess.length:=by omega
   subst ei;rw [Aq]at ow;exact .inl ⟨⟨xs,SqL.of hr',by omega⟩,q acc ws H' F' g' h0 hF' ha ow⟩
end
section
variable {K:Fg}
def M6(K:Fg):Sp:=λvs H Q _=>∃F a xs es,jG K F H/\vs=[.ref a]/\F a=some (.lst xs)/\Are K F xs es/\flats es=true/\∀H',Same H H'->Q .non (bv H' a (.lst []))
theorem Hk {Q:VK}{N:List Str}{vs:List V}{H:Hp}{E:XK}(hN:N.length=2)(sp:M6 K vs H Q E):
 sS (KF K) (kf (Aw (xJ K (FG (xA K) (bH (bX 0) dM))) (eE 1) (ly (eF (cF K 1 x8) [] E0 (bH (bX 1) dM)))) (ly (JH K "list" FM (bX 0)))) vY
  {nx:=λ_ H'=>Q .non H',rt:=Q} (L2.eZ N vs) H:=by
 obtain⟨F,a,xs,es,s,rfl,ha,ar,fl,q⟩:=sp;have ia:Are K F [V.ref a] [.list es]:=⟨.ref a,[],rfl,⟨a,xs,rfl,ha,ar⟩,rfl⟩;have R:=ja (K:=K) (N:=N) s ia;have hσ:L2.eZ N [V.ref a]=[some (.ref a),none]:=by
  show [some (V.ref a)]++List.replicate (N.length - 1) none=_;rw [hN];rfl
 rw [hN,hσ]at R;rw [hσ];unfold sS;refine x9 H F F _ H _ true _ R rfl λH1 F1 g1=>?_;refine wy ?_;unfold kf Aw xJ;refine qV (aG (aF 0) aO) H F F1 _ H1 _ es _ (R.grow g1) rfl λc ys H2 F2 g2 hc fc h2 a2=>?_;refine⟨c,rfl,.inl ⟨⟨ys,SqL.of h2⟩,?_⟩⟩;have G2:=g1.trans g2;have yl:ys.length=es.length:=a2.length;refine⟨λi m σ' H'=>m=es.length - i/\i<=es.length/\σ'.length=2/\σ'[0]? =some (some (.ref a))/\Same H2 H',⟨es.length,by simp,zU _,rfl,rfl,Same.refl _⟩,?_⟩
 rintro i m σ' H' ⟨rfl,hle,hl,h0,s'⟩
 by_cases hlt:i < es.length
 · have hx:ys[i]? =some ys[i]:=cY (by omega)
   refine .inr ⟨⟨ys,ys[i],SqL.of (s' _ _ h2),hx⟩,λσ' H'=>i+1<=es.length/\σ'.length=2/\σ'[0]? =some (some (.ref a))/\Same H2 H',λσ2 H3 q=>⟨es.length - (i+1),by omega,rfl,q⟩,?_⟩
   rintro x H3 ⟨rfl,y⟩;have ex:=y ys (SqL.of (s' _ _ h2));rw [hx]at ex;cases ex;obtain⟨x',ex',ix⟩:=a2.get (i:=i) (d:=es[i]) (cY hlt);rw [hx]at ex';cases ex';have fi:=qf fl (Qc hlt);refine⟨ys[i],by rw [Ap (by rw [hl];decide)],F2,[es[i]],.none,⟨G2.s.trans s',s.2.same G2.f⟩,rfl,⟨ys[i],[],rfl,ix,rfl⟩,Hh fi,λv H4 F4 g4 _=>?_⟩
   exact⟨hlt,by rw [Q6];exact hl,by rw [Al (by decide)];exact h0,s'.trans g4.h⟩
 · refine .inl ⟨⟨ys,SqL.of (s' _ _ h2),by omega⟩,?_⟩
   have sH:Same H H':=G2.h.trans s';have hH:H' a=some (.lst xs):=sH _ _ (s.1 _ _ ha);exact⟨.ref a,h0,.inl ⟨rfl,_,SqL.of hH⟩,a,xs,rfl,rfl,hH,q H' sH⟩
structure Wiped (As:List Addr) (H H':Hp):Prop where
 k:∀b o,b ∉ As->H b=some o->H' b=some o
 e:∀a∈As,H' a=some (.lst [])
theorem Hl {D:Ends}{i j:Nat}{σ:St}{H G:Hp}{r:Addr}{As:List Addr}(hij:j≠i)(h5:σ[i]? =some (some (.ref r)))(hj:j < σ.length)(hr:H r=some (.lst (As.map V.ref)))(nr:r ∉ As)(sG:jG K G H)(nG:∀a xs,G a≠some (.lst xs))
 (row:∀a∈As,∃xs es,H a=some (.lst xs)/\Are K G xs es/\flats es=true)
 (q:∀σ' H',σ'.length=σ.length->(∀k,k≠j->σ'[k]? =σ[k]?)->Wiped As H H'->D.nx σ' H'):
 Aw (xJ K (bX i)) (eE j) (ly (eF (M6 K) [] E0 (bH (bX j) dM))) D σ H:=by
 refine⟨.ref r,h5,r,rfl,.inl ⟨⟨_,SqL.of hr⟩,?_⟩⟩;refine⟨λi m σ' H'=>m=As.length - i/\i<=As.length/\σ'.length=σ.length/\(∀k,k≠j->σ'[k]? =σ[k]?)/\(∀b o,b ∉ As->H b=some o->H' b=some o)/\(∀a∈As.take i,H' a=some (.lst []))/\∀a∈As,H' a=H a\/H' a=some (.lst []),
  ⟨As.length,by simp,zU _,rfl,λ_ _=>rfl,λ_ _ _ h=>h,λa h=>absurd h (by rw [List.take_zero];exact List.not_mem_nil),λ_ _=>Or.inl rfl⟩,?_⟩
 rintro n m σ' H' ⟨rfl,hle,hl,hs,hk,he,ho⟩;have hr':H' r=some (.lst (As.map V.ref)):=hk _ _ nr hr
 by_cases hlt:n < As.length
 · have hx:(As.map V.ref)[n]? =some (.ref As[n]):=by rw [zK,cY hlt];rfl
   refine .inr ⟨⟨_,_,SqL.of hr',hx⟩,λσ' H'=>n+1<=As.length/\σ'.length=σ.length/\(∀k,k≠j->σ'[k]? =σ[k]?)/\(∀b o,b ∉ As->H b=some o->H' b=some o)/\(∀a∈As.take (n+1),H' a=some (.lst []))/\∀a∈As,H' a=H a\/H' a=some (.lst []),λσ2 H3 q=>⟨As.length - (n+1),by omega,rfl,q⟩,?_⟩
   rintro x H3 ⟨rfl,y⟩;have ex:=y _ (SqL.of hr');rw [hx]at ex;cases ex;have mem:As[n]∈As:=Qc hlt;obtain⟨xs,es,r1,r2,r3⟩:=row _ mem;have Gn:∀b,b∈As->G b=none:=λb hb=>by
    cases e:G b with
    |none=>rfl
    |some o=>
     obtain⟨xs,es,e1,_⟩:=row b hb;have:=sG.1 _ _ e;rw [e1]at this;cases this;exact absurd e (nG b xs)
   have sG':Same G H3:=λb o e=>hk b o (λhb=>by rw [Gn b hb]at e;cases e) (sG.1 b o e)
   obtain⟨xs',es',h1,h2,h3⟩:∃xs' es',H3 As[n]=some (.lst xs')/\Are K G xs' es'/\flats es'=true:=by
    rcases ho _ mem with z|z
    · exact⟨xs,es,z.trans r1,r2,r3⟩
    · exact⟨[],[],z,rfl,rfl⟩
   have su:Same G (bv G As[n] (.lst xs')):=λb o e=>by rw [aN (aQ e (Gn _ mem))];exact e
   refine⟨.ref As[n],by rw [Ap (by rw [hl];exact hj)],bv G As[n] (.lst xs'),As[n],xs',es',⟨nU sG' h1,Bf sG.2 (Gn _ mem)⟩,rfl,aS,h2.same su,h3,λH4 s4=>?_⟩
   refine⟨hlt,by rw [Q6];exact hl,λk hk'=>by rw [Al (Ne.symm hk')];exact hs k hk',λb o hb e=>?_,λa ha=>?_,λa ha=>?_⟩
   · rw [aN (λz:b=As[n]=>hb (z▸mem))];exact s4 _ _ (hk b o hb e)
   · by_cases z:a=As[n]
     · rw [z];exact aS
     · rw [aN z];rw [Ic hlt]at ha
       rcases CD.mp ha with ha|ha
       · exact s4 _ _ (he a ha)
       · exact absurd (Qf.mp ha) z
   · by_cases z:a=As[n]
     · rw [z];exact .inr aS
     · rw [aN z];obtain⟨ys,_,e1,_⟩:=row a ha
       rcases ho a ha with w|w
       · exact .inl (by rw [e1]at w ⊢;exact s4 _ _ w)
       · exact .inr (s4 _ _ w)
 · have en:n=As.length:=by omega
   subst en;rw [Aq]at he;exact .inl ⟨⟨_,SqL.of hr',by rw [zJ];exact Q1 _⟩,q σ' H' hl hs ⟨hk,he⟩⟩
end
section
variable {K:Fg}
def zp(F:Hp):Hp:=λa=>match F a with
 |some (.lst _)=>none
 |o=>o
theorem lE(F:Hp):Same (zp F) F:=λa o e=>by
 unfold zp at e;split at e
 · cases e
 · exact e
theorem xa(F:Hp)(a:Addr)(xs:List V):zp F a≠some (.lst xs):=λe=>by
 have:=lE F a _ e;unfold zp at e;rw [this]at e;cases e
theorem Hm {F:Hp}{a:Addr}{o:HO}(e:F a=some o)(h:∀xs,o≠ .lst xs):zp F a=some o:=by
 unfold zp;rw [e];split
 · rename_i z;cases z;exact absurd rfl (h _)
 · rfl
theorem zq(F:Hp):tZ F (zp F):=λa xs e=>Hm e λ_ z=>nomatch z
theorem Bg {F:Hp}(t:Tb K F):Tb K (zp F):=λa ps h=>Hm (t a ps h) λ_ z=>nomatch z
def EE(F:Hp)(hd:Addr)(asks:List PyData):Hp:=if asks.isEmpty=true then bv (zp F) hd (.lst [])else zp F
theorem Hn {F:Hp}{hd:Addr}{hs:List V}(e:F hd=some (.lst hs)):zp F hd=none:=by
 unfold zp;rw [e]
theorem Ho {F H:Hp}{hd:Addr}{hs:List V}{asks:List PyData}(s:jG K F H)(e:F hd=some (.lst hs))(ar:Are K F hs asks)(fa:flats asks=true):
 jG K (EE F hd asks) H/\Lent K (EE F hd asks) H hd asks/\Same (EE F hd asks) F/\tZ F (EE F hd asks)/\∀a xs,EE F hd asks a=some (.lst xs)->xs=[]/\H a=some (.lst []):=by
 unfold EE;cases asks with
 |nil=>
  cases(show hs=[]from ar)
  rw [if_pos (show([]:List PyData).isEmpty=true from rfl)]
  have n:=Hn e;have sf:Same (bv (zp F) hd (.lst [])) F:=nU (lE F) e;refine⟨⟨sf.trans s.1,Bf (Bg s.2) n⟩,⟨[],s.1 _ _ e,rfl,.inr ⟨rfl,aS⟩⟩,sf,λa xs h=>?_,λa xs h=>?_⟩
  · rw [aN (λz=>by rw [z,e]at h;cases h)]
    exact zq F a xs h
  · by_cases z:a=hd
    · rw [z,aS]at h;cases h;rw [z];exact⟨rfl,s.1 _ _ e⟩
    · rw [aN z]at h;exact absurd h (xa F a xs)
 |cons d ds=>
  rw [if_neg (by simp)]
  exact⟨⟨(lE F).trans s.1,Bg s.2⟩,⟨hs,s.1 _ _ e,flats_same (zq F) _ fa ar,.inl ⟨Hn e,by simp⟩⟩,lE F,zq F,λa xs h=>absurd h (xa F a xs)⟩
def join(F G:Hp):Hp:=λa=>match F a with
 |some o=>some o
 |none=>G a
theorem MO(F G:Hp):Same F (join F G):=λa o e=>by unfold join;rw [e]
theorem MP {F G H:Hp}(s:Same F H)(t:Same G H):Same G (join F G):=λa o e=>by
 unfold join;cases h:F a with
 |none=>exact e
 |some o'=>
  have h1:=s _ _ h;have h2:=t _ _ e;rw [h1]at h2;exact h2
theorem Grow.widen {F1 F H F2 H':Hp}(g:Grow F1 H F2 H')(s1:Same F1 F)(s:Same F H):Grow F H (join F F2) H' where
 f:=MO F F2
 s:=λa o e=>by
  unfold join at e;split at e
  · rename_i o' h;cases e;exact g.h _ _ (s _ _ h)
  · exact g.s _ _ e
 h:=g.h
 o:=λa o e t n=>by
  have:F1 a=none:=by
   cases h:F1 a with
   |none=>rfl
   |some u=>have:=s1 _ _ h;rw [n]at this;cases this
  unfold join;rw [n];exact g.o a o e t this
structure GoodL (f0 f1 f2 f3 f4 f5 f6 f7:List PyData->Option PyData) (g a h:PyData) (ess:List (List PyData)):Prop where
 ex:∃asks,a=.list asks/\flats asks=true/\je g=true/\je h=true/\Told8 f0 f1 f2 f3 f4 f5 f6 f7 g asks h (ess.map .list)
 fl:∀es∈ess,flats es=true/\es.length<=eD
 le:ess.length<=1000
 ne:ess≠[]
noncomputable def t7(f0 f1 f2 f3 f4 f5 f6 f7:List PyData->Option PyData)(g a h:PyData):Option (List (List PyData)):=
 @dite _ (∃ess,GoodL f0 f1 f2 f3 f4 f5 f6 f7 g a h ess) (Classical.propDecidable _) (λz=>some (Classical.choose z)) λ_=>none
theorem rL {f0 f1 f2 f3 f4 f5 f6 f7:List PyData->Option PyData}{g a h:PyData}{ess:List (List PyData)}(e:t7 f0 f1 f2 f3 f4 f5 f6 f7 g a h=some ess):GoodL f0 f1 f2 f3 f4 f5 f6 f7 g a h ess:=by
 unfold t7 at e
 by_cases z:∃ess,GoodL f0 f1 f2 f3 f4 f5 f6 f7 g a h ess
 · rw [dif_pos z]at e;cases e;exact Classical.choose_spec z
 · rw [dif_neg z]at e;cases e
theorem EF {f0 f1 f2 f3 f4 f5 f6 f7:List PyData->Option PyData}{g a h:PyData}{ess:List (List PyData)}(e:GoodL f0 f1 f2 f3 f4 f5 f6 f7 g a h ess):∃ess',t7 f0 f1 f2 f3 f4 f5 f6 f7 g a h=some ess':=by
 unfold t7;rw [dif_pos ⟨ess,e⟩];exact⟨_,rfl⟩
noncomputable def md(f0 f1 f2 f3 f4 f5 f6 f7:List PyData->Option PyData)(i j k:Nat)(δ:aT):Option (List (List PyData)):=
 (aB i δ).bind λg=>(aB j δ).bind λa=>(aB k δ).bind λh=>t7 f0 f1 f2 f3 f4 f5 f6 f7 g a h
variable {f0 f1 f2 f3 f4 f5 f6 f7:List PyData->Option PyData}
theorem qg {i:Nat}{δ:aT}{d:PyData}(e:aB i δ=some d):δ[i]? =some (some (.fz d)):=by
 unfold aB at e;split at e
 · rename_i q;cases e;exact q
 · cases e
theorem zr {H0 F0 F:Hp}{σ:St}{H:Hp}{δ:aT}{i j k:Nat}{ess:List (List PyData)}{Q:VK}(R:Rep K H0 F0 F σ H δ)(e:md f0 f1 f2 f3 f4 f5 f6 f7 i j k δ=some ess)
 (q:∀F1,jG K F1 H->Same F1 F->(∀a xs,F1 a=some (.lst xs)->xs=[]/\H a=some (.lst []))->(∀es∈ess,flats es=true/\es.length<=eD)->ess.length<=1000->ess≠[]->∀v H' F',Grow F1 H F' H'->Is K F' v (.list (ess.map .list))->Q v H'):
 eF (M5 K f0 f1 f2 f3 f4 f5 f6 f7) [] E0 (bH (bX i) (bH (bX j) (bH (bX k) dM))) σ H Q:=by
 unfold md at e;obtain⟨g,e1,e⟩:=bind_some e;obtain⟨a,e2,e⟩:=bind_some e;obtain⟨h,e3,e⟩:=bind_some e;obtain⟨⟨asks,rfl,fa,fg,fh,t8⟩,fl,le,ne⟩:=rL e;obtain⟨gv,s1,i1⟩:=R.fz i g (qg e1);obtain⟨av,s2,i2⟩:=R.fz j _ (qg e2);obtain⟨hv,s3,i3⟩:=R.fz k h (qg e3);obtain⟨hd,hs,rfl,r1,r2⟩:=i2;obtain⟨c1,c2,c3,c4,c5⟩:=Ho (H:=H) ⟨R.g.s,R.tb⟩ r1 r2 fa;exact⟨gv,s1,.ref hd,s2,hv,s3,_,gv,hv,hd,g,asks,h,_,c1,rfl,c2,fa,nR c4 g fg i1,nR c4 h fh i3,t8,q _ c1 c3 c5 fl le ne⟩
theorem Hq {i j k:Nat}:SE K (eF (M5 K f0 f1 f2 f3 f4 f5 f6 f7) [] E0 (bH (bX i) (bH (bX j) (bH (bX k) dM)))) (λδ=>(md f0 f1 f2 f3 f4 f5 f6 f7 i j k δ).map λess=>.list (ess.map .list)):=λH0 F0 F σ H δ d Q R e h=>by
 obtain⟨ess,e1,rfl⟩:=Q0.mp e;refine zr R e1 λF1 c1 c3 _ _ _ _ v H' F' g is=>?_;have gw:=g.widen c3 R.g.s;exact h v H' _ gw (is.same (MP (R.g.s.trans g.h) g.s))
theorem wF {F:Hp}:∀{ess:List (List PyData)} {xs:List V},Are K F xs (ess.map .list)->∃As:List Addr,xs=As.map V.ref/\∀a∈As,∃ys es,F a=some (.lst ys)/\Are K F ys es/\es∈ess
 |[],xs,h=>⟨[],h,λ_ z=>nomatch z⟩
 |es::ess,xs,h=>by
  obtain⟨x,r,rfl,⟨a,ys,rfl,h1,h2⟩,h3⟩:=h;obtain⟨As,rfl,h4⟩:=wF h3;refine⟨a::As,rfl,λb hb=>?_⟩
  rcases Q4.mp hb with rfl|hb
  · exact⟨ys,es,h1,h2,lN⟩
  · obtain⟨ys',es',q1,q2,q3⟩:=h4 b hb;exact⟨ys',es',q1,q2,ke _ q3⟩
theorem Hr {F:Hp}{ess:List (List PyData)}{xs:List V}{es:List PyData}(ne:ess≠[])(h:Are K F xs (ess.map .list))(h2:Are K F xs es)(fl:flats es=true):False:=by
 cases ess with
 |nil=>exact ne rfl
 |cons e ess=>
  obtain⟨x,r,rfl,⟨a,ys,rfl,q1,_⟩,_⟩:=h;cases es with
  |nil=>cases(show V.ref a::r=[]from h2)
  |cons d es=>
   obtain⟨y,r',z,hy,_⟩:=h2;cases z;obtain⟨f1,_⟩:=M1.mp (show(je d&&flats es)=true from fl)
   cases d with
   |none=>cases(show V.ref a=.non from hy)
   |bool _=>cases(show V.ref a=.bl _ from hy)
   |int _=>cases(show V.ref a=.int _ from hy)
   |str _=>cases(show V.ref a=.str _ from hy)
   |tuple _=>
    obtain⟨b,zs,z1,z2,_⟩:=hy;cases z1;rw [q1]at z2;cases z2
   |list _=>cases f1
   |dict _=>cases f1
theorem OwnAre.mem {H0 F H':Hp}:∀{ess:List (List PyData)} {vs:List V} {b:Addr},OwnAre K H0 F H' vs ess->V.ref b∈vs->H0 b=none/\∃ys,H' b=some (.lst ys)
 |[],_,b,h,m=>by rw [show _=[]from h]at m;cases m
 |es::r,_,b,h,m=>by
  obtain⟨b',ys,ws,rfl,h1,h2,h3,_,h5⟩:=h
  rcases Q4.mp m with z|m
  · cases z;exact⟨h1,ys,h3⟩
  · exact h5.mem m
theorem OwnAre.are {H0 F H' G:Hp}(u:tZ F G):∀{ess:List (List PyData)} {vs:List V},OwnAre K H0 F H' vs ess->(∀b,V.ref b∈vs->G b=H' b)->(∀es∈ess,flats es=true)->Are K G vs (ess.map .list)
 |[],_,h,_,_=>h
 |es::r,_,h,k,f=>by
  obtain⟨b,ys,ws,rfl,h1,h2,h3,h4,h5⟩:=h;exact⟨.ref b,ws,rfl,⟨b,ys,rfl,(k b lN).trans h3,flats_same u es (f es lN) h4⟩,h5.are u (λb hb=>k b (ke _ hb)) λe he=>f e (ke _ he)⟩
noncomputable def LE(δ:aT):Bool:=δ.all λs=>match s with
 |some (.fz _)=>true
 |none=>true
 |_=>false
noncomputable def zt(f0 f1 f2 f3 f4 f5 f6 f7:List PyData->Option PyData)(i j k a b c:Nat)(f:aT->Option DFlow)(δ:aT):Option DFlow:=
 if LE δ=true/\a < δ.length/\b < δ.length/\c < δ.length/\a≠b/\a≠c/\b≠c then(md f0 f1 f2 f3 f4 f5 f6 f7 i j k δ).bind λess=>f (((δ.set a none).set c none).set b (some (.fz (.list (ess.map .list)))))else none
end
section
variable {K:Fg} {f0 f1 f2 f3 f4 f5 f6 f7:List PyData->Option PyData}
theorem Hs {δ:aT}(h:LE δ=true){k:Nat}{s:Sl}(e:δ[k]? =some (some s)):∃d,s=.fz d:=by
 have:=Q9.mp h (some s) (Ik e);cases s with
 |fz d=>exact⟨d,rfl⟩
 |ow _=>cases this
 |od _=>cases this
noncomputable def t9(F G H:Hp)(p:Addr)(ws:List V):Hp:=λa=>match F a with
 |some o=>some o
 |none=>@ite _ (a=p\/V.ref a∈ws) (Classical.propDecidable _) (H a) (zp G a)
theorem me(F G H:Hp)(p:Addr)(ws:List V):Same F (t9 F G H p ws):=λa o e=>by unfold t9;rw [e]
theorem xc {F G H:Hp}{p:Addr}{ws:List V}{a:Addr}(n:F a=none)(h:a=p\/V.ref a∈ws):t9 F G H p ws a=H a:=by
 unfold t9;rw [n];exact if_pos h
theorem Bh {F G H:Hp}{p:Addr}{ws:List V}{a:Addr}(n:F a=none)(h:¬(a=p\/V.ref a∈ws)):t9 F G H p ws a=zp G a:=by
 unfold t9;rw [n];exact if_neg h
theorem KG {i j k a b c:Nat}{u:TS}{f:aT->Option DFlow}(hu:SS K u f):
 SS K (kf (oM (eF (M5 K f0 f1 f2 f3 f4 f5 f6 f7) [] E0 (bH (bX i) (bH (bX j) (bH (bX k) dM)))) (eE a)) (kf (oM (eF (NM K) [] E0 (bH (bX a) dM)) (eE b)) (kf (Aw (xJ K (bX a)) (eE c) (ly (eF (M6 K) [] E0 (bH (bX c) dM)))) u)))
  (zt f0 f1 f2 f3 f4 f5 f6 f7 i j k a b c f):=by
 intro H0 F0 F σ H δ r D R e h;unfold zt at e;split at e
 · rename_i cnd;obtain⟨az,la,lb,lc,nab,nac,nbc⟩:=cnd;obtain⟨ess,e1,e2⟩:=bind_some e;have ll:=R.len;refine zr R e1 λF1 c1 c3 c5 fl le ne v H2 F2 g2 is=>?_;obtain⟨p0,xs,rfl,r1,r2⟩:=is;obtain⟨As,rfl,rows⟩:=wF r2;have old:∀x ys,F2 x=some (.lst ys)->H x=none\/H x=some (.lst []):=λx ys e=>by
    cases h1:F1 x with
    |some o=>
     have:=g2.f _ _ h1;rw [e]at this;cases this;exact .inr (c5 _ _ h1).2
    |none=>
     cases h2:H x with
     |none=>exact .inl rfl
     |some o=>
      have h3:=g2.h _ _ h2;rw [g2.s _ _ e]at h3;cases h3;have:=g2.o x _ h2 (λ_ z=>nomatch z) h1;rw [e]at this;cases this
   refine⟨.ref p0,by rw [Ap (by omega)],F2,p0,As.map V.ref,ess,⟨g2.s,c1.2.same g2.f⟩,rfl,r1,r2,fl,le,λp ws H3 F3 g3 hp fp h3p ow=>?_⟩
   have F3H:∀x o,F2 x=some o->H3 x=some o:=λx o e=>g3.h _ _ (g2.s _ _ e);refine Hl (i:=a) (j:=c) (G:=zp F3) (As:=As) (r:=p0) (λz=>nac z.symm) (by rw [Al (λz=>nab z.symm),Ap (by omega)]) (by rw [Q6,Q6];omega) (F3H _ _ r1) (λm=>?_) ⟨(lE F3).trans g3.s,Bg (c1.2.same (g2.f.trans g3.f))⟩ (xa F3) (λx hx=>?_) λσ' H4 sl sk wp=>?_
   · obtain⟨ys,es,q1,q2,q3⟩:=rows p0 m;rw [r1]at q1;cases q1;exact Hr ne r2 q2 (fl es q3).1
   · obtain⟨ys,es,q1,q2,q3⟩:=rows x hx;exact⟨ys,es,F3H _ _ q1,flats_same (zq F3) es (fl es q3).1 (q2.same g3.f),(fl es q3).1⟩
   · have inA:∀x∈As,(∃ys,H2 x=some (.lst ys))/\(∃ys,H3 x=some (.lst ys))/\(H x=none\/H x=some (.lst [])):=λx hx=>by
      obtain⟨ys,es,q1,_⟩:=rows x hx;exact⟨⟨ys,g2.s _ _ q1⟩,⟨ys,F3H _ _ q1⟩,old x ys q1⟩
     have H4of:∀x o,H x=some o->H4 x=some o:=λx o e=>by
      by_cases m:x∈As
      · rcases(inA x m).2.2 with z|z
        · rw [e]at z;cases z
        · rw [e]at z;cases z;exact wp.e x m
      · exact wp.k x o m (g3.h _ _ (g2.h _ _ e))
     have H4n:∀x,H2 x=none->∀o,H3 x=some o->H4 x=some o:=λx n o e=>wp.k x o (λm=>by obtain⟨ys,z⟩:=(inA x m).1;rw [n]at z;cases z) e
     have Fn:∀x,H2 x=none->F x=none:=λx n=>R.g.s.free (g2.h.free n);have own:∀x,x=p\/V.ref x∈ws->H2 x=none/\∃ys,H3 x=some (.lst ys):=λx hx=>by
      rcases hx with rfl|hx
      · exact⟨hp,_,h3p⟩
      · exact ow.mem hx
     have s5:Same (t9 F F3 H3 p ws) H4:=λx o e=>by
      cases hF:F x with
      |some o'=>
       have:=me F F3 H3 p ws x o' hF;rw [e]at this;cases this;exact H4of x _ (R.g.s _ _ hF)
      |none=>
       by_cases hx:x=p\/V.ref x∈ws
       · rw [xc hF hx]at e;exact H4n x (own x hx).1 o e
       · rw [Bh hF hx]at e;have h3:=g3.s _ _ (lE F3 _ _ e);exact wp.k x o (λm=>by
          obtain⟨ys,z⟩:=(inA x m).2.1;rw [h3]at z;cases z;exact absurd e (xa F3 x ys)) h3
     have gw:Grow F0 H0 (t9 F F3 H3 p ws) H4:=⟨R.g.f.trans (me F F3 H3 p ws),s5,λx o e=>H4of x o (R.g.h _ _ e),λx o e t n=>by
      have hF:=R.g.o x o e t n;have hH:=R.g.h _ _ e;have hx:¬(x=p\/V.ref x∈ws):=λhx=>by
       have:=(own x hx).1;rw [g2.h _ _ hH]at this;cases this
      rw [Bh hF hx];have f1n:F1 x=none:=by
       cases z:F1 x with
       |none=>rfl
       |some o'=>have:=c3 _ _ z;rw [hF]at this;cases this
      have f3n:F3 x=none:=g3.o x o (g2.h _ _ hH) t (g2.o x o hH t f1n);unfold zp;rw [f3n]⟩
     have su:tZ F3 (t9 F F3 H3 p ws):=λx zs e=>by
      have h3:=g3.s _ _ e;cases hF:F x with
      |some o'=>
       have h3':=g3.h _ _ (g2.h _ _ (R.g.s _ _ hF));rw [h3]at h3';cases h3';exact me F F3 H3 p ws x _ hF
      |none=>
       by_cases hx:x=p\/V.ref x∈ws
       · rw [xc hF hx];exact h3
       · rw [Bh hF hx];exact zq F3 _ _ e
     have isd:Is K (t9 F F3 H3 p ws) (.ref p) (.list (ess.map .list)):=⟨p,ws,rfl,by rw [xc (Fn p hp) (.inl rfl)];exact h3p,ow.are su (λx hx=>xc (Fn x (own x (.inr hx)).1) (.inr hx)) λes he=>(fl es he).1⟩
     have slot:∀(m:Nat) (s:Sl),((((δ.set a none).set c none).set b (some (.fz (.list (ess.map .list)))))[m]? =some (some s))->(m=b/\s=.fz (.list (ess.map .list)))\/(m≠a/\m≠b/\m≠c/\δ[m]? =some (some s)):=λm s e=>by
      by_cases mb:b=m
      · subst mb;rw [Ap (by rw [Q6,Q6];exact lb)]at e
        cases e;exact .inl ⟨rfl,rfl⟩
      · rw [Al mb]at e
        by_cases mc:c=m
        · subst mc;rw [Ap (by rw [Q6];exact lc)]at e
          cases e
        · rw [Al mc]at e
          by_cases ma:a=m
          · subst ma;rw [Ap la]at e;cases e
          · rw [Al ma]at e;exact .inr ⟨λz=>ma z.symm,λz=>mb z.symm,λz=>mc z.symm,e⟩
     have noOw:∀(m:Nat) (s:Sl),((((δ.set a none).set c none).set b (some (.fz (.list (ess.map .list)))))[m]? =some (some s))->∃d,s=.fz d:=λm s e=>by
      rcases slot m s e with⟨_,z⟩|⟨_,_,_,z⟩
      · exact⟨_,z⟩
      · exact Hs az z
     refine hu H0 F0 (t9 F F3 H3 p ws) σ' H4 _ r D ⟨gw,?_,λm d e=>?_,λm ds e=>?_,λm n ds es x e _ _ _=>?_,λm kvs e=>?_,λm n ds es x e _ _ _=>?_,R.tb.same (me F F3 H3 p ws)⟩ e2 ?_
     · rw [sl,Q6,Q6,Q6,Q6,Q6];exact ll
     · rcases slot m _ e with⟨rfl,z⟩|⟨ma,mb,mc,z⟩
       · cases z;exact⟨.ref p,by rw [sk m nbc,Ap (by rw [Q6];omega)],isd⟩
       · obtain⟨v,v1,v2⟩:=R.fz m d z;exact⟨v,by rw [sk m mc,Al (λz=>mb z.symm),Al (λz=>ma z.symm)];exact v1,v2.same (me F F3 H3 p ws)⟩
     · obtain⟨d,z⟩:=noOw m _ e;cases z
     · obtain⟨d,z⟩:=noOw m _ e;cases z
     · obtain⟨d,z⟩:=noOw m _ e;cases z
     · obtain⟨d,z⟩:=noOw m _ e;cases z
     · cases r with
       |nx δ'=>exact λF' σ2 H5 R5 s6=>h F' σ2 H5 R5 ((me F F3 H3 p ws).trans s6)
       |rt d=>exact h
       |ro ds=>exact h
       |bk δ'=>exact λF' σ2 H5 R5 s6=>h F' σ2 H5 R5 ((me F F3 H3 p ws).trans s6)
       |ct δ'=>exact λF' σ2 H5 R5 s6=>h F' σ2 H5 R5 ((me F F3 H3 p ws).trans s6)
 · cases e
end
end DL
namespace GX
open PySem L2 DL
noncomputable def rM:aT->Option DFlow:=(ae (d2 Dc (d2 Dc (d2 ku (aB 0) (dC (.int 48271))) (aB 1)) (aB 2)))
noncomputable def wG:aT->Option DFlow:=(ae (d2 Dc (d2 Dc (d2 ku (aB 0) (dC (.int 48271))) (aB 1)) (aB 2)))
theorem xf:wG=rM:=rfl
noncomputable def bZ:List PyData->Option PyData:=bV 3 wG
noncomputable def lq:aT->Option DFlow:=(ae (dC (.int 0)))
noncomputable def lr:aT->Option DFlow:=aP (eY (dB (d2 nn (aB 1) (bJ cX (aA (aB 0) aI)))) (ae (d2 cV (aB 0) (aB 1))) bF) lq
noncomputable def tj:aT->Option DFlow:=(aP (eY (dB (d2 nn (aB 1) (bJ cX (aA (aB 0) aI)))) (ae (d2 cV (aB 0) (aB 1))) bF) (ae (dC (.int 0))))
theorem nv:tj=lr:=rfl
noncomputable def bR:List PyData->Option PyData:=bV 2 tj
noncomputable def nw:aT->Option DFlow:=(ae (d2 cV (aB 2) (aE 3 bZ (aA (aE 2 bR (aA (aB 0) (aA (aB 1) aI))) (aA (dC (.int 9973)) (aA (dC (.int 8)) aI))))))
noncomputable def ny:aT->Option DFlow:=aP (aY 2 (bP (bb (yz [.tuple [.int 2,.int 3],.tuple [.int 3,.int 2],.tuple [.int 2,.int 4],.tuple [.int 4,.int 2],.tuple [.int 1,.int 5],.tuple [.int 2,.int 2],.tuple [.int 1,.int 3],.tuple [.int 2,.int 3]])))) nw
noncomputable def rN:aT->Option DFlow:=(aP (aY 2 (bP (bb (yz [.tuple [.int 2,.int 3],.tuple [.int 3,.int 2],.tuple [.int 2,.int 4],.tuple [.int 4,.int 2],.tuple [.int 1,.int 5],.tuple [.int 2,.int 2],.tuple [.int 1,.int 3],.tuple [.int 2,.int 3]])))) (ae (d2 cV (aB 2) (aE 3 bZ (aA (aE 2 bR (aA (aB 0) (aA (aB 1) aI))) (aA (dC (.int 9973)) (aA (dC (.int 8)) aI)))))))
theorem tm:rN=ny:=rfl
noncomputable def fA:List PyData->Option PyData:=bV 3 rN
noncomputable def pP:aT->Option DFlow:=(iP 2 (ae (bJ yq (aA (aB 2) aI))))
noncomputable def pQ:aT->Option DFlow:=aP (bd (cD (aA (d2 cV (aB 0) (dC (.int 0))) aI)) (gN 3) (bu 2 (aE 3 bZ (aA (d2 bc (d2 bc (aB 1) (d2 ku (d2 ku (dC (.int 31)) (aB 3)) (aB 3))) (d2 ku (dC (.int 7)) (aB 3))) (aA (dC (.int 9967)) (aA (d2 cV (aB 0) (dC (.int 1))) aI)))))) pP
noncomputable def pR:aT->Option DFlow:=aP (dZ 2 (bb aI)) pQ
noncomputable def tq:aT->Option DFlow:=(aP (dZ 2 (bb aI)) (aP (bd (cD (aA (d2 cV (aB 0) (dC (.int 0))) aI)) (gN 3) (bu 2 (aE 3 bZ (aA (d2 bc (d2 bc (aB 1) (d2 ku (d2 ku (dC (.int 31)) (aB 3)) (aB 3))) (d2 ku (dC (.int 7)) (aB 3))) (aA (dC (.int 9967)) (aA (d2 cV (aB 0) (dC (.int 1))) aI)))))) (iP 2 (ae (bJ yq (aA (aB 2) aI))))))
theorem vD:tq=pR:=rfl
noncomputable def cK:List PyData->Option PyData:=bV 4 tq
noncomputable def mf:aT->Option DFlow:=(ae (dE (aA (aB 2) (aA (aB 7) aI))))
noncomputable def mh:aT->Option DFlow:=aP (iP 3 (bd (ax (aB 3)) (gN 8) (eY (dB (pB false 4 (aB 8))) (aP (eV 4 (aB 8)) (aY 7 (d2 bc (aB 7) (dC (.int 1))))) bF))) mf
noncomputable def mi:aT->Option DFlow:=aP (aY 7 (dC (.int 0))) mh
noncomputable def mj:aT->Option DFlow:=aP (bd (JT (aA (aB 0) (aA (aB 1) aI))) (gT 2 (gC (gN 5) (gC (gN 6) gZ))) (eY (dB (d2 ou (aB 5) (aB 6))) (aY 2 (d2 bc (aB 2) (dC (.int 1)))) (aP (bu 3 (aB 5)) (bu 4 (aB 6))))) mi
noncomputable def mn:aT->Option DFlow:=aP (dZ 4 (bb aI)) mj
noncomputable def mo:aT->Option DFlow:=aP (dZ 3 (bb aI)) mn
noncomputable def mq:aT->Option DFlow:=aP (aY 2 (dC (.int 0))) mo
noncomputable def pS:aT->Option DFlow:=(aP (aY 2 (dC (.int 0))) (aP (dZ 3 (bb aI)) (aP (dZ 4 (bb aI)) (aP (bd (JT (aA (aB 0) (aA (aB 1) aI))) (gT 2 (gC (gN 5) (gC (gN 6) gZ))) (eY (dB (d2 ou (aB 5) (aB 6))) (aY 2 (d2 bc (aB 2) (dC (.int 1)))) (aP (bu 3 (aB 5)) (bu 4 (aB 6))))) (aP (aY 7 (dC (.int 0))) (aP (iP 3 (bd (ax (aB 3)) (gN 8) (eY (dB (pB false 4 (aB 8))) (aP (eV 4 (aB 8)) (aY 7 (d2 bc (aB 7) (dC (.int 1))))) bF))) (ae (dE (aA (aB 2) (aA (aB 7) aI))))))))))
theorem rp:pS=mq:=rfl
noncomputable def dI:List PyData->Option PyData:=bV 9 pS
noncomputable def pT:aT->Option DFlow:=(yf 4)
noncomputable def pU:aT->Option DFlow:=aP (bd (cD (aA (aE 3 bZ (aA (aE 2 bR (aA (aB 0) (aA (d2 bc (aB 1) (dC (.int 1))) aI))) (aA (dC (.int 9949)) (aA (dC (.int 5)) aI)))) aI)) (gN 5) (aP (aY 6 (d2 bc (aE 2 bR (aA (aB 0) (aA (d2 bc (d2 bc (aB 1) (dC (.int 2))) (aB 5)) aI))) (d2 ku (d2 ku (dC (.int 13)) (aB 5)) (aB 5)))) (aP (aY 7 (aE 2 cK (aA (aB 2) (aA (aB 6) aI)))) (aP (aY 8 (aE 2 dI (aA (aB 3) (aA (aB 7) aI)))) (aP (eY (dB (d2 ou (aE 3 bZ (aA (aB 6) (aA (dC (.int 9941)) (aA (dC (.int 7)) aI)))) (dC (.int 1)))) (aY 8 (dE (aA (aE 3 bZ (aA (aB 6) (aA (dC (.int 9931)) (aA (d2 bc (d2 cV (aB 2) (dC (.int 0))) (dC (.int 1))) aI)))) (aA (aE 3 bZ (aA (aB 6) (aA (dC (.int 9929)) (aA (d2 bc (d2 cV (aB 2) (dC (.int 0))) (dC (.int 1))) aI)))) aI)))) bF) (bu 4 (dE (aA (aB 7) (aA (aB 8) aI))))))))) pT
noncomputable def pV:aT->Option DFlow:=aP (dZ 4 (bb aI)) pU
noncomputable def pW:aT->Option DFlow:=aP (aY 3 (aE 2 cK (aA (aB 2) (aA (aE 2 bR (aA (aB 0) (aA (aB 1) aI))) aI)))) pV
noncomputable def tu:aT->Option DFlow:=(aP (aY 3 (aE 2 cK (aA (aB 2) (aA (aE 2 bR (aA (aB 0) (aA (aB 1) aI))) aI)))) (aP (dZ 4 (bb aI)) (aP (bd (cD (aA (aE 3 bZ (aA (aE 2 bR (aA (aB 0) (aA (d2 bc (aB 1) (dC (.int 1))) aI))) (aA (dC (.int 9949)) (aA (dC (.int 5)) aI)))) aI)) (gN 5) (aP (aY 6 (d2 bc (aE 2 bR (aA (aB 0) (aA (d2 bc (d2 bc (aB 1) (dC (.int 2))) (aB 5)) aI))) (d2 ku (d2 ku (dC (.int 13)) (aB 5)) (aB 5)))) (aP (aY 7 (aE 2 cK (aA (aB 2) (aA (aB 6) aI)))) (aP (aY 8 (aE 2 dI (aA (aB 3) (aA (aB 7) aI)))) (aP (eY (dB (d2 ou (aE 3 bZ (aA (aB 6) (aA (dC (.int 9941)) (aA (dC (.int 7)) aI)))) (dC (.int 1)))) (aY 8 (dE (aA (aE 3 bZ (aA (aB 6) (aA (dC (.int 9931)) (aA (d2 bc (d2 cV (aB 2) (dC (.int 0))) (dC (.int 1))) aI)))) (aA (aE 3 bZ (aA (aB 6) (aA (dC (.int 9929)) (aA (d2 bc (d2 cV (aB 2) (dC (.int 0))) (dC (.int 1))) aI)))) aI)))) bF) (bu 4 (dE (aA (aB 7) (aA (aB 8) aI))))))))) (yf 4))))
theorem vF:tu=pW:=rfl
noncomputable def gR:List PyData->Option (List PyData):=Lh 9 tu
noncomputable def oX:aT->Option DFlow:=(ae (fT (lA "tuple" (aB 0)) (d2 ou (bJ cX (aA (aB 0) aI)) (dC (.int 2)))))
noncomputable def zu:aT->Option DFlow:=(ae (fT (lA "tuple" (aB 0)) (d2 ou (bJ cX (aA (aB 0) aI)) (dC (.int 2)))))
theorem rO:zu=oX:=rfl
noncomputable def fB:List PyData->Option PyData:=bV 1 zu
noncomputable def rq:aT->Option DFlow:=(aP (aY 2 (dC (.int 1))) (aP (bd (cD (aA (aB 0) aI)) (gN 3) (mQ 2 ku (aB 1))) (ae (aB 2))))
noncomputable def gL:List PyData->Option PyData:=bV 4 rq
noncomputable def fY:aT->Option DFlow:=(ae (fT (lA "int" (aB 0)) (fT (yc (lA "bool" (aB 0))) (tF Li Li (aB 1) (aB 0) (aB 2)))))
noncomputable def kG:aT->Option DFlow:=(ae (fT (lA "int" (aB 0)) (fT (yc (lA "bool" (aB 0))) (tF Li Li (aB 1) (aB 0) (aB 2)))))
theorem jB:kG=fY:=rfl
noncomputable def bD:List PyData->Option PyData:=bV 3 kG
noncomputable def Ht:aT->Option DFlow:=(aP (eY (hX (cP (aE 1 fB (aA (aB 0) aI)))) (ae (dC (.bool false))) bF) (aP (eY (sy (hX (cP (aE 3 bD (aA (d2 cV (aB 0) (dC (.int 0))) (aA (dC (.int 1)) (aA (dC (.int 5)) aI)))))) (hX (cP (aE 3 bD (aA (d2 cV (aB 0) (dC (.int 1))) (aA (dC (.int 1)) (aA (dC (.int 8)) aI))))))) (ae (dC (.bool false))) bF) (ae (d2 Li (aE 2 gL (aA (d2 cV (aB 0) (dC (.int 0))) (aA (d2 cV (aB 0) (dC (.int 1))) aI))) (dC (.int 300))))))
noncomputable def tw:List PyData->Option PyData:=bV 1 Ht
noncomputable def vG:aT->Option DFlow:=(aP (eY (hX (cP (aE 1 tw (aA (aB 0) aI)))) fX bF) (ae (aB 0)))
noncomputable def bg:List PyData->Option PyData:=bV 1 vG
noncomputable def uA:aT->Option DFlow:=(ae (bJ qU (aA (bP (bE 1 [("game",0)] (ax (aB 1)) (gN 0) cM (aE 3 bD (aA (aB 0) (aA (dC (.int 0)) (aA (d2 BL (d2 cV (aB 1) (dC (.int 1))) (dC (.int 1))) aI)))))) aI)))
noncomputable def uB:aT->Option DFlow:=aP (eY (sy (hX (cP (lA "tuple" (aB 1)))) (dB (d2 CW (bJ cX (aA (aB 1) aI)) (d2 cV (aB 0) (dC (.int 0)))))) (ae (dC (.bool false))) bF) uA
noncomputable def zw:aT->Option DFlow:=(aP (eY (sy (hX (cP (lA "tuple" (aB 1)))) (dB (d2 CW (bJ cX (aA (aB 1) aI)) (d2 cV (aB 0) (dC (.int 0)))))) (ae (dC (.bool false))) bF) (ae (bJ qU (aA (bP (bE 1 [("game",0)] (ax (aB 1)) (gN 0) cM (aE 3 bD (aA (aB 0) (aA (dC (.int 0)) (aA (d2 BL (d2 cV (aB 1) (dC (.int 1))) (dC (.int 1))) aI)))))) aI))))
theorem zx:zw=uB:=rfl
noncomputable def jC:List PyData->Option PyData:=bV 2 zw
noncomputable def pX:aT->Option DFlow:=(ae (fT (aE 1 fB (aA (aB 1) aI)) (bJ qU (aA (bP (bE 1 [("game",0)] (ax (aB 1)) (gN 0) cM (aE 3 bD (aA (aB 0) (aA (dC (.int 0)) (aA (d2 cV (aB 1) (dC (.int 0))) aI)))))) aI))))
noncomputable def uC:aT->Option DFlow:=(ae (fT (aE 1 fB (aA (aB 1) aI)) (bJ qU (aA (bP (bE 1 [("game",0)] (ax (aB 1)) (gN 0) cM (aE 3 bD (aA (aB 0) (aA (dC (.int 0)) (aA (d2 cV (aB 1) (dC (.int 0))) aI)))))) aI))))
theorem vH:uC=pX:=rfl
noncomputable def iQ:List PyData->Option PyData:=bV 2 uC
noncomputable def wH:aT->Option DFlow:=(ae (fT (aE 1 fB (aA (aB 1) aI)) (fT (aE 2 jC (aA (aB 0) (aA (d2 cV (aB 1) (dC (.int 0))) aI))) (aE 2 iQ (aA (aB 0) (aA (d2 cV (aB 1) (dC (.int 1))) aI))))))
noncomputable def Cs:aT->Option DFlow:=(ae (fT (aE 1 fB (aA (aB 1) aI)) (fT (aE 2 jC (aA (aB 0) (aA (d2 cV (aB 1) (dC (.int 0))) aI))) (aE 2 iQ (aA (aB 0) (aA (d2 cV (aB 1) (dC (.int 1))) aI))))))
theorem Bi:Cs=wH:=rfl
noncomputable def jM:List PyData->Option PyData:=bV 2 Cs
noncomputable def mC:aT->Option DFlow:=(ae (aB 1))
noncomputable def mD:aT->Option DFlow:=aP (bd (Ih (aA (aB 1) aI)) (gT 2 (gC (gN 3) (gC (gN 4) gZ))) (eY (hX (cP (tJ 2 "is_ask" 2 jM (aA (aB 0) (aA (aB 4) aI))))) fX bF)) mC
noncomputable def mE:aT->Option DFlow:=aP (eY (sy (hX (cP (lA "list" (aB 1)))) (dB (d2 Kl (bJ cX (aA (aB 1) aI)) (dC (.int 8))))) fX bF) mD
noncomputable def nz:aT->Option DFlow:=(aP (eY (sy (hX (cP (lA "list" (aB 1)))) (dB (d2 Kl (bJ cX (aA (aB 1) aI)) (dC (.int 8))))) fX bF) (aP (bd (Ih (aA (aB 1) aI)) (gT 2 (gC (gN 3) (gC (gN 4) gZ))) (eY (hX (cP (tJ 2 "is_ask" 2 jM (aA (aB 0) (aA (aB 4) aI))))) fX bF)) (ae (aB 1))))
theorem qh:nz=mE:=rfl
noncomputable def eI:List PyData->Option PyData:=bV 5 nz
noncomputable def mF:aT->Option DFlow:=(ae (aE 3 eI (aA (aB 0) (aA (aB 1) (aA (dC (Kr "is_ask")) aI)))))
noncomputable def oA:aT->Option DFlow:=(ae (aE 3 eI (aA (aB 0) (aA (aB 1) (aA (dC (Kr "is_ask")) aI)))))
theorem qi:oA=mF:=rfl
noncomputable def eJ:List PyData->Option PyData:=bV 2 oA
noncomputable def pY:aT->Option DFlow:=(ae (dE (aA (aB 2) (aA (d2 BL (aB 3) (aB 2)) aI))))
noncomputable def pZ:aT->Option DFlow:=aP (bd (Ih (aA (aB 1) aI)) (gT 2 (gC (gN 5) (gC (gN 6) gZ))) (aP (eY (dB (d2 ou (d2 cV (aB 0) (aB 5)) (aB 6))) (mQ 2 kt (dC (.int 1))) bF) (eY (dB (pB false 4 (aB 6))) (aP (eV 4 (aB 6)) (mQ 3 kt (dC (.int 1)))) bF))) pY
noncomputable def p6:aT->Option DFlow:=aP (dZ 4 (oV (aA (aB 0) aI))) pZ
noncomputable def p7:aT->Option DFlow:=aP (aY 3 (dC (.int 0))) p6
noncomputable def p8:aT->Option DFlow:=aP (aY 2 (dC (.int 0))) p7
noncomputable def uD:aT->Option DFlow:=(aP (aY 2 (dC (.int 0))) (aP (aY 3 (dC (.int 0))) (aP (dZ 4 (oV (aA (aB 0) aI))) (aP (bd (Ih (aA (aB 1) aI)) (gT 2 (gC (gN 5) (gC (gN 6) gZ))) (aP (eY (dB (d2 ou (d2 cV (aB 0) (aB 5)) (aB 6))) (mQ 2 kt (dC (.int 1))) bF) (eY (dB (pB false 4 (aB 6))) (aP (eV 4 (aB 6)) (mQ 3 kt (dC (.int 1)))) bF))) (ae (dE (aA (aB 2) (aA (d2 BL (aB 3) (aB 2)) aI))))))))
theorem vI:uD=p8:=rfl
noncomputable def bS:List PyData->Option PyData:=bV 7 uD
noncomputable def rP:aT->Option DFlow:=(ae (d2 ou (aE 2 bS (aA (aB 0) (aA (d2 cV (aB 1) (dC (.int 0))) aI))) (d2 cV (aB 1) (dC (.int 1)))))
noncomputable def wI:aT->Option DFlow:=(ae (d2 ou (aE 2 bS (aA (aB 0) (aA (d2 cV (aB 1) (dC (.int 0))) aI))) (d2 cV (aB 1) (dC (.int 1)))))
theorem xg:wI=rP:=rfl
noncomputable def dU:List PyData->Option PyData:=bV 2 wI
noncomputable def kI:aT->Option DFlow:=(ae (aB 2))
noncomputable def kJ:aT->Option DFlow:=aP (bd (ax (aB 1)) (gN 3) (aY 2 (bP (bE 1 [("ask",3)] (ax (aB 2)) (gN 0) (cP (aE 2 dU (aA (aB 0) (aA (aB 1) aI)))) (aB 0))))) kI
noncomputable def kK:aT->Option DFlow:=aP (aY 2 (aB 0)) kJ
noncomputable def mG:aT->Option DFlow:=(aP (aY 2 (aB 0)) (aP (bd (ax (aB 1)) (gN 3) (aY 2 (bP (bE 1 [("ask",3)] (ax (aB 2)) (gN 0) (cP (aE 2 dU (aA (aB 0) (aA (aB 1) aI)))) (aB 0))))) (ae (aB 2))))
theorem oY:mG=kK:=rfl
noncomputable def bL:List PyData->Option PyData:=bV 4 mG
noncomputable def p9:aT->Option DFlow:=(ae (aB 1))
noncomputable def pb:aT->Option DFlow:=aP (bd (cD (aA (d2 cV (aB 0) (dC (.int 0))) aI)) (gN 2) (aP (dZ 3 (bb aI)) (aP (bd (ax (aB 1)) (gN 4) (fJ 3 (bP (bE 1 [("code",4)] (cD (aA (d2 cV (aB 0) (dC (.int 1))) aI)) (gN 0) cM (d2 bc (aB 1) (dE (aA (aB 0) aI))))))) (iP 3 (aY 1 (aB 3)))))) p9
noncomputable def pc:aT->Option DFlow:=aP (aY 1 (bP (bb (aA (dE aI) aI)))) pb
noncomputable def pf:aT->Option DFlow:=aP (fU (aE 1 bg (aA (aB 0) aI))) pc
noncomputable def uE:aT->Option DFlow:=(aP (fU (aE 1 bg (aA (aB 0) aI))) (aP (aY 1 (bP (bb (aA (dE aI) aI)))) (aP (bd (cD (aA (d2 cV (aB 0) (dC (.int 0))) aI)) (gN 2) (aP (dZ 3 (bb aI)) (aP (bd (ax (aB 1)) (gN 4) (fJ 3 (bP (bE 1 [("code",4)] (cD (aA (d2 cV (aB 0) (dC (.int 1))) aI)) (gN 0) cM (d2 bc (aB 1) (dE (aA (aB 0) aI))))))) (iP 3 (aY 1 (aB 3)))))) (ae (aB 1)))))
theorem vJ:uE=pf:=rfl
noncomputable def ah:List PyData->Option PyData:=bV 5 uE
noncomputable def ph:aT->Option DFlow:=(ae (aE 2 bL (aA (aE 1 ah (aA (aB 0) aI)) (aA (aB 1) aI))))
noncomputable def pi:aT->Option DFlow:=aP (fU (aE 2 eJ (aA (aB 0) (aA (aB 1) aI)))) ph
noncomputable def pj:aT->Option DFlow:=aP (fU (aE 1 bg (aA (aB 0) aI))) pi
noncomputable def uF:aT->Option DFlow:=(aP (fU (aE 1 bg (aA (aB 0) aI))) (aP (fU (aE 2 eJ (aA (aB 0) (aA (aB 1) aI)))) (ae (aE 2 bL (aA (aE 1 ah (aA (aB 0) aI)) (aA (aB 1) aI))))))
theorem vK:uF=pj:=rfl
noncomputable def aq:List PyData->Option PyData:=bV 2 uF
noncomputable def kL:aT->Option DFlow:=(ae (bP (bE 1 [("code",0)] (ax (aB 1)) (gN 0) cM (aE 2 dU (aA (aB 1) (aA (aB 0) aI))))))
noncomputable def mH:aT->Option DFlow:=(ae (bP (bE 1 [("code",0)] (ax (aB 1)) (gN 0) cM (aE 2 dU (aA (aB 1) (aA (aB 0) aI))))))
theorem oZ:mH=kL:=rfl
noncomputable def cL:List PyData->Option PyData:=bV 2 mH
noncomputable def uG:aT->Option DFlow:=(ae (aB 2))
noncomputable def uH:aT->Option DFlow:=aP (bd (cD (aA (aB 1) aI)) (gN 3) (aP (dZ 4 (bb aI)) (aP (bd (ax (aB 2)) (gN 5) (aP (aY 6 (ye (cP (aB 5)) (d2 bc (d2 cV (aB 5) (yp (dC (.int 1)))) (dC (.int 1))) (dC (.int 0)))) (fJ 4 (bP (bE 1 [("choice",5)] (lz (aA (aB 6) (aA (aB 0) aI))) (gN 0) cM (d2 bc (aB 1) (bP (bb (aA (aB 0) aI))))))))) (iP 4 (aY 2 (aB 4)))))) uG
noncomputable def uI:aT->Option DFlow:=aP (aY 2 (bP (bb (aA (bP (bb aI)) aI)))) uH
noncomputable def zy:aT->Option DFlow:=(aP (aY 2 (bP (bb (aA (bP (bb aI)) aI)))) (aP (bd (cD (aA (aB 1) aI)) (gN 3) (aP (dZ 4 (bb aI)) (aP (bd (ax (aB 2)) (gN 5) (aP (aY 6 (ye (cP (aB 5)) (d2 bc (d2 cV (aB 5) (yp (dC (.int 1)))) (dC (.int 1))) (dC (.int 0)))) (fJ 4 (bP (bE 1 [("choice",5)] (lz (aA (aB 6) (aA (aB 0) aI))) (gN 0) cM (d2 bc (aB 1) (bP (bb (aA (aB 0) aI))))))))) (iP 4 (aY 2 (aB 4)))))) (ae (aB 2))))
theorem AA:zy=uI:=rfl
noncomputable def gB:List PyData->Option PyData:=bV 7 zy
noncomputable def mr:aT->Option DFlow:=(ae (dC (.bool true)))
noncomputable def mt:aT->Option DFlow:=aP (bd (ax (aB 1)) (gN 2) (eY (cP (bJ qU (aA (bP (bE 1 [("row",2)] (ax (aB 0)) (gN 0) cM (d2 cV (aB 1) (aB 0)))) aI))) (ae (dC (.bool false))) bF)) mr
noncomputable def wJ:aT->Option DFlow:=(aP (bd (ax (aB 1)) (gN 2) (eY (cP (bJ qU (aA (bP (bE 1 [("row",2)] (ax (aB 0)) (gN 0) cM (d2 cV (aB 1) (aB 0)))) aI))) (ae (dC (.bool false))) bF)) (ae (dC (.bool true))))
theorem pp:wJ=mt:=rfl
noncomputable def fM:List PyData->Option PyData:=bV 3 wJ
noncomputable def jN:aT->Option DFlow:=(ae (bP (lB (bJ cX (aA (aB 1) aI)))))
noncomputable def jO:aT->Option DFlow:=aP (bd (lz (aA (dC (.int 1)) (aA (bJ cX (aA (aB 1) aI)) aI))) (gN 3) (bd (ax (aE 2 gB (aA (bJ cX (aA (aB 1) aI)) (aA (aB 3) aI)))) (gN 4) (eY (cP (aE 2 fM (aA (aB 4) (aA (aB 2) aI)))) (ae (aB 4)) bF))) jN
noncomputable def jP:aT->Option DFlow:=aP (aY 2 (bP (bE 1 [("asks",1)] (ax (aE 1 ah (aA (aB 0) aI))) (gN 0) cM (aE 2 cL (aA (aB 0) (aA (aB 1) aI)))))) jO
noncomputable def jQ:aT->Option DFlow:=aP (eY (cP (aE 2 aq (aA (aB 0) (aA (aB 1) aI)))) (ae (dC .none)) bF) jP
noncomputable def uJ:aT->Option DFlow:=(aP (eY (cP (aE 2 aq (aA (aB 0) (aA (aB 1) aI)))) (ae (dC .none)) bF) (aP (aY 2 (bP (bE 1 [("asks",1)] (ax (aE 1 ah (aA (aB 0) aI))) (gN 0) cM (aE 2 cL (aA (aB 0) (aA (aB 1) aI)))))) (aP (bd (lz (aA (dC (.int 1)) (aA (bJ cX (aA (aB 1) aI)) aI))) (gN 3) (bd (ax (aE 2 gB (aA (bJ cX (aA (aB 1) aI)) (aA (aB 3) aI)))) (gN 4) (eY (cP (aE 2 fM (aA (aB 4) (aA (aB 2) aI)))) (ae (aB 4)) bF))) (ae (bP (lB (bJ cX (aA (aB 1) aI))))))))
theorem kW:uJ=jQ:=rfl
noncomputable def bW:List PyData->Option PyData:=bV 5 uJ
noncomputable def mv:aT->Option DFlow:=(iP 2 (ae (bJ zZ (aA (aB 2) aI))))
noncomputable def mw:aT->Option DFlow:=aP (bd (Ih (aA (aB 1) aI)) (gT 2 (gC (gN 3) (gC (gN 4) gZ))) (bd (ax (Dd (aB 1) (kz (aB 3)) fL)) (gN 5) (rn 2 (aE 2 bS (aA (aB 4) (aA (aB 5) aI))) (dC (.bool true))))) mv
noncomputable def mz:aT->Option DFlow:=aP (tQ 2) mw
noncomputable def nA:aT->Option DFlow:=aP (aY 1 (aE 1 ah (aA (aB 0) aI))) mz
noncomputable def pq:aT->Option DFlow:=(aP (aY 1 (aE 1 ah (aA (aB 0) aI))) (aP (tQ 2) (aP (bd (Ih (aA (aB 1) aI)) (gT 2 (gC (gN 3) (gC (gN 4) gZ))) (bd (ax (Dd (aB 1) (kz (aB 3)) fL)) (gN 5) (rn 2 (aE 2 bS (aA (aB 4) (aA (aB 5) aI))) (dC (.bool true))))) (iP 2 (ae (bJ zZ (aA (aB 2) aI)))))))
theorem sA:pq=nA:=rfl
noncomputable def bO:List PyData->Option PyData:=bV 6 pq
noncomputable def rQ:aT->Option DFlow:=(ae (bP (bE 1 [("fitting",2),("codes",3),("asks",1)] (cD (aA (bJ cX (aA (aB 1) aI)) aI)) (gN 0) (dB (d2 ou (aE 2 bL (aA (aB 2) (aA (d2 bc (Dd (aB 3) fL (kz (aB 0))) (Dd (aB 3) (kz (d2 bc (aB 0) (dC (.int 1)))) fL)) aI))) (aB 1))) (aB 0))))
noncomputable def rR:aT->Option DFlow:=aP (aY 3 (aE 1 ah (aA (aB 0) aI))) rQ
noncomputable def rT:aT->Option DFlow:=aP (aY 2 (aE 2 aq (aA (aB 0) (aA (aB 1) aI)))) rR
noncomputable def wK:aT->Option DFlow:=(aP (aY 2 (aE 2 aq (aA (aB 0) (aA (aB 1) aI)))) (aP (aY 3 (aE 1 ah (aA (aB 0) aI))) (ae (bP (bE 1 [("fitting",2),("codes",3),("asks",1)] (cD (aA (bJ cX (aA (aB 1) aI)) aI)) (gN 0) (dB (d2 ou (aE 2 bL (aA (aB 2) (aA (d2 bc (Dd (aB 3) fL (kz (aB 0))) (Dd (aB 3) (kz (d2 bc (aB 0) (dC (.int 1)))) fL)) aI))) (aB 1))) (aB 0))))))
theorem xh:wK=rT:=rfl
noncomputable def bo:List PyData->Option PyData:=bV 4 wK
noncomputable def mI:aT->Option DFlow:=(ae (aB 1))
noncomputable def mJ:aT->Option DFlow:=aP (eY (hX (cP (aE 2 jC (aA (aB 0) (aA (aB 1) aI))))) fX bF) mI
noncomputable def oB:aT->Option DFlow:=(aP (eY (hX (cP (aE 2 jC (aA (aB 0) (aA (aB 1) aI))))) fX bF) (ae (aB 1)))
theorem qj:oB=mJ:=rfl
noncomputable def cR:List PyData->Option PyData:=bV 2 oB
noncomputable def jH:aT->Option DFlow:=(iP 2 (ae (aB 2)))
noncomputable def jI:aT->Option DFlow:=aP (bd (ax (aB 0)) (gN 3) (aP (aY 4 (aE 2 bS (aA (aB 3) (aA (aB 1) aI)))) (rn 2 (aB 4) (d2 bc (tR 2 (aB 4) (dC (.int 0))) (dC (.int 1)))))) jH
noncomputable def jJ:aT->Option DFlow:=aP (tQ 2) jI
noncomputable def kM:aT->Option DFlow:=(aP (tQ 2) (aP (bd (ax (aB 0)) (gN 3) (aP (aY 4 (aE 2 bS (aA (aB 3) (aA (aB 1) aI)))) (rn 2 (aB 4) (d2 bc (tR 2 (aB 4) (dC (.int 0))) (dC (.int 1)))))) (iP 2 (ae (aB 2)))))
theorem nB:kM=jJ:=rfl
noncomputable def bi:List PyData->Option PyData:=bV 5 kM
noncomputable def AB:aT->Option DFlow:=(ae (xZ (aE 2 bi (aA (aB 3) (aA (aB 2) aI)))))
noncomputable def AC:aT->Option DFlow:=aP (fU (aE 2 cR (aA (aB 0) (aA (aB 2) aI)))) AB
noncomputable def AD:aT->Option DFlow:=aP (aY 3 (aE 2 aq (aA (aB 0) (aA (aB 1) aI)))) AC
noncomputable def Hu:aT->Option DFlow:=(aP (aY 3 (aE 2 aq (aA (aB 0) (aA (aB 1) aI)))) (aP (fU (aE 2 cR (aA (aB 0) (aA (aB 2) aI)))) (ae (xZ (aE 2 bi (aA (aB 3) (aA (aB 2) aI)))))))
theorem EG:Hu=AD:=rfl
noncomputable def fZ:List PyData->Option PyData:=bV 4 Hu
noncomputable def pz:aT->Option DFlow:=(ae (Ch (aE 2 bi (aA (aB 0) (aA (aB 1) aI)))))
noncomputable def uK:aT->Option DFlow:=(ae (Ch (aE 2 bi (aA (aB 0) (aA (aB 1) aI)))))
theorem vL:uK=pz:=rfl
noncomputable def dn:List PyData->Option PyData:=bV 2 uK
noncomputable def uL:aT->Option DFlow:=(ae (Ce (aB 0) [("fitting",1)] (dE (aA (aE 2 dn (aA (aB 1) (aA (aB 0) aI))) (aA (d2 (Ii true) (aB 0) (aB 1)) (aA (aB 0) aI))))))
noncomputable def AE:aT->Option DFlow:=(ae (Ce (aB 0) [("fitting",1)] (dE (aA (aE 2 dn (aA (aB 1) (aA (aB 0) aI))) (aA (d2 (Ii true) (aB 0) (aB 1)) (aA (aB 0) aI))))))
theorem AF:AE=uL:=rfl
noncomputable def jf:List PyData->Option PyData:=bV 2 AE
noncomputable def wL:aT->Option DFlow:=(iP 4 (ae (aB 4)))
noncomputable def wM:aT->Option DFlow:=aP (dj (dB (d2 Kl (bJ cX (aA (aB 3) aI)) (dC (.int 1)))) (aP (aY 5 (aE 2 jf (aA (aB 2) (aA (aB 3) aI)))) (aP (aY 6 (dE (aA (aB 5) (aA (aE 2 bS (aA (aB 1) (aA (aB 5) aI))) aI)))) (aP (bu 4 (aB 6)) (aY 3 (aE 2 bL (aA (aB 3) (aA (bP (bb (aA (aB 6) aI))) aI))))))) 100) wL
noncomputable def wN:aT->Option DFlow:=aP (dZ 4 (bb aI)) wM
noncomputable def wO:aT->Option DFlow:=aP (aY 3 (aB 2)) wN
noncomputable def wQ:aT->Option DFlow:=aP (aY 2 (aE 1 ah (aA (aB 0) aI))) wO
noncomputable def wR:aT->Option DFlow:=aP (fU (aE 2 cR (aA (aB 0) (aA (aB 1) aI)))) wQ
noncomputable def wS:aT->Option DFlow:=aP (fU (aE 1 bg (aA (aB 0) aI))) wR
noncomputable def Ct:aT->Option DFlow:=(aP (fU (aE 1 bg (aA (aB 0) aI))) (aP (fU (aE 2 cR (aA (aB 0) (aA (aB 1) aI)))) (aP (aY 2 (aE 1 ah (aA (aB 0) aI))) (aP (aY 3 (aB 2)) (aP (dZ 4 (bb aI)) (aP (dj (dB (d2 Kl (bJ cX (aA (aB 3) aI)) (dC (.int 1)))) (aP (aY 5 (aE 2 jf (aA (aB 2) (aA (aB 3) aI)))) (aP (aY 6 (dE (aA (aB 5) (aA (aE 2 bS (aA (aB 1) (aA (aB 5) aI))) aI)))) (aP (bu 4 (aB 6)) (aY 3 (aE 2 bL (aA (aB 3) (aA (bP (bb (aA (aB 6) aI))) aI))))))) 100) (iP 4 (ae (aB 4)))))))))
theorem Bj:Ct=wS:=rfl
noncomputable def dP:List PyData->Option PyData:=bV 7 Ct
noncomputable def AG:aT->Option DFlow:=(aP (eY (dB (d2 Kl (aE 2 gL (aA (d2 cV (aB 0) (dC (.int 0))) (aA (d2 cV (aB 0) (dC (.int 1))) aI))) (dC (.int 16)))) fX bF) (ae (aB 0)))
noncomputable def gb:List PyData->Option PyData:=bV 1 AG
noncomputable def oC:aT->Option DFlow:=(ae (bJ yq (aA (bP (bE 1 [("code",0)] (ax (aB 1)) (gN 0) cM (aE 2 bS (aA (aB 1) (aA (aB 0) aI))))) aI)))
noncomputable def rV:aT->Option DFlow:=(ae (bJ yq (aA (bP (bE 1 [("code",0)] (ax (aB 1)) (gN 0) cM (aE 2 bS (aA (aB 1) (aA (aB 0) aI))))) aI)))
theorem uM:rV=oC:=rfl
noncomputable def d8:List PyData->Option PyData:=bV 2 rV
noncomputable def nC:aT->Option DFlow:=(iP 3 (ae (Cr (aA (aB 3) aI))))
noncomputable def nE:aT->Option DFlow:=(pO (ax (aB 0)) 4 5 2 3 (aE 2 d8 (aA (aB 4) (aA (aB 1) aI))) nC)
noncomputable def qA:aT->Option DFlow:=(pO (ax (aB 0)) 4 5 2 3 (aE 2 d8 (aA (aB 4) (aA (aB 1) aI))) (iP 3 (ae (Cr (aA (aB 3) aI)))))
theorem sB:qA=nE:=rfl
noncomputable def cQ:List PyData->Option PyData:=bV 6 qA
noncomputable def iB:aT->Option DFlow:=(ae (dC .none))
noncomputable def iC:aT->Option DFlow:=aP (bd (ax (aE 2 gB (aA (bJ cX (aA (aB 0) aI)) (aA (aB 1) aI)))) (gN 2) (aP (aY 3 (bP (bE 1 [("codes",0)] (ax (aB 2)) (gN 0) cM (d2 cV (aB 1) (aB 0))))) (eY (dB (d2 qT (aE 2 cQ (aA (aB 0) (aA (aB 3) aI))) (dC .none))) (ae (aB 3)) bF))) iB
noncomputable def mK:aT->Option DFlow:=(aP (bd (ax (aE 2 gB (aA (bJ cX (aA (aB 0) aI)) (aA (aB 1) aI)))) (gN 2) (aP (aY 3 (bP (bE 1 [("codes",0)] (ax (aB 2)) (gN 0) cM (d2 cV (aB 1) (aB 0))))) (eY (dB (d2 qT (aE 2 cQ (aA (aB 0) (aA (aB 3) aI))) (dC .none))) (ae (aB 3)) bF))) (ae (dC .none)))
theorem jg:mK=iC:=rfl
noncomputable def bM:List PyData->Option PyData:=bV 4 mK
noncomputable def jh:aT->Option DFlow:=(ae (aB 3))
noncomputable def ji:aT->Option DFlow:=aP (dj (dB (d2 qT (aB 3) (dC .none))) (aP (mQ 2 kt (dC (.int 1))) (aY 3 (aE 2 bM (aA (aB 1) (aA (aB 2) aI))))) 100) jh
noncomputable def jj:aT->Option DFlow:=aP (aY 3 (aE 2 bM (aA (aB 1) (aA (aB 2) aI)))) ji
noncomputable def jk:aT->Option DFlow:=aP (aY 2 (dC (.int 0))) jj
noncomputable def jl:aT->Option DFlow:=aP (aY 1 (aE 1 ah (aA (aB 0) aI))) jk
noncomputable def jm:aT->Option DFlow:=aP (fU (aE 1 gb (aA (aB 0) aI))) jl
noncomputable def jn:aT->Option DFlow:=aP (fU (aE 1 bg (aA (aB 0) aI))) jm
noncomputable def lF:aT->Option DFlow:=(aP (fU (aE 1 bg (aA (aB 0) aI))) (aP (fU (aE 1 gb (aA (aB 0) aI))) (aP (aY 1 (aE 1 ah (aA (aB 0) aI))) (aP (aY 2 (dC (.int 0))) (aP (aY 3 (aE 2 bM (aA (aB 1) (aA (aB 2) aI)))) (aP (dj (dB (d2 qT (aB 3) (dC .none))) (aP (mQ 2 kt (dC (.int 1))) (aY 3 (aE 2 bM (aA (aB 1) (aA (aB 2) aI))))) 100) (ae (aB 3))))))))
theorem ng:lF=jn:=rfl
noncomputable def ak:List PyData->Option PyData:=bV 4 lF
noncomputable def oD:aT->Option DFlow:=(ae (aB 1))
noncomputable def oE:aT->Option DFlow:=aP (bd (cD (aA (d2 cV (aB 0) (dC (.int 0))) aI)) (gN 2) (aP (aY 3 (bP (bb aI))) (aP (bd (ax (aB 1)) (gN 4) (aY 3 (d2 bc (aB 3) (bP (bE 1 [("_law_code_here",4)] (cD (aA (d2 cV (aB 0) (dC (.int 1))) aI)) (gN 0) cM (d2 bc (aB 1) (dE (aA (aB 0) aI)))))))) (aY 1 (aB 3))))) oD
noncomputable def oF:aT->Option DFlow:=aP (aY 1 (bP (bb (aA (dE aI) aI)))) oE
noncomputable def rW:aT->Option DFlow:=(aP (aY 1 (bP (bb (aA (dE aI) aI)))) (aP (bd (cD (aA (d2 cV (aB 0) (dC (.int 0))) aI)) (gN 2) (aP (aY 3 (bP (bb aI))) (aP (bd (ax (aB 1)) (gN 4) (aY 3 (d2 bc (aB 3) (bP (bE 1 [("_law_code_here",4)] (cD (aA (d2 cV (aB 0) (dC (.int 1))) aI)) (gN 0) cM (d2 bc (aB 1) (dE (aA (aB 0) aI)))))))) (aY 1 (aB 3))))) (ae (aB 1))))
theorem uN:rW=oF:=rfl
noncomputable def fC:List PyData->Option PyData:=bV 5 rW
noncomputable def Hv:aT->Option DFlow:=(ae (fT (d2 ou (bJ cX (aA (d2 cV (aB 6) (dC (.int 0))) aI)) (bJ cX (aA (aE 1 fC (aA (aB 1) aI)) aI))) (d2 (Ii false) (aB 3) (aE 2 aq (aA (aB 1) (aA (d2 cV (aB 6) (dC (.int 5))) aI))))))
noncomputable def uO:aT->Option DFlow:=aP (eY (sy (dB (d2 CW (aB 4) (aB 2))) (dB (d2 CW (λδ=>(md ah bO aq bo fZ dP ak bW 1 4 3 δ).map λess=>.list (ess.map .list)) (aB 6)))) (ae (dC (.bool false))) bF) Hv
noncomputable def uP:aT->Option DFlow:=(zt ah bO aq bo fZ dP ak bW 1 4 3 5 6 7 uO)
noncomputable def Hw:aT->Option DFlow:=aP (aY 4 (bP (oV (aA (aB 2) aI)))) uP
noncomputable def Hy:aT->Option DFlow:=aP (aY 3 (aE 2 cK (aA (aB 1) (aA (aE 2 bR (aA (aB 0) (aA (dC (.int 1)) aI))) aI)))) Hw
noncomputable def Hz:aT->Option DFlow:=aP (aY 2 (bP (nO 3 gR (aA (aB 0) (aA (dC (.int 1)) (aA (aB 1) aI)))))) Hy
noncomputable def Bk:aT->Option DFlow:=aP (aY 1 (aE 2 fA (aA (aB 0) (aA (dC (.int 0)) aI)))) Hz
noncomputable def MQ:aT->Option DFlow:=(aP (aY 1 (aE 2 fA (aA (aB 0) (aA (dC (.int 0)) aI)))) (aP (aY 2 (bP (nO 3 gR (aA (aB 0) (aA (dC (.int 1)) (aA (aB 1) aI)))))) (aP (aY 3 (aE 2 cK (aA (aB 1) (aA (aE 2 bR (aA (aB 0) (aA (dC (.int 1)) aI))) aI)))) (aP (aY 4 (bP (oV (aA (aB 2) aI)))) (zt ah bO aq bo fZ dP ak bW 1 4 3 5 6 7 (aP (eY (sy (dB (d2 CW (aB 4) (aB 2))) (dB (d2 CW (λδ=>(md ah bO aq bo fZ dP ak bW 1 4 3 δ).map λess=>.list (ess.map .list)) (aB 6)))) (ae (dC (.bool false))) bF) (ae (fT (d2 ou (bJ cX (aA (d2 cV (aB 6) (dC (.int 0))) aI)) (bJ cX (aA (aE 1 fC (aA (aB 1) aI)) aI))) (d2 (Ii false) (aB 3) (aE 2 aq (aA (aB 1) (aA (d2 cV (aB 6) (dC (.int 5))) aI))))))))))))
theorem KH:MQ=Bk:=rfl
noncomputable def IA:List PyData->Option PyData:=bV 8 MQ
noncomputable def bp:List (Int×Int):=[(2,3),(3,2),(2,4),(4,2),(1,5),(2,2),(1,3),(3,3),(2,5)]
theorem nF {p c:Int}(h:(p,c)∈bp):(p=2/\c=3)\/(p=3/\c=2)\/(p=2/\c=4)\/(p=4/\c=2)\/(p=1/\c=5)\/(p=2/\c=2)\/(p=1/\c=3)\/(p=3/\c=3)\/(p=2/\c=5):=by
 simpa [bp]using h
theorem dQ {p c:Int}(h:(p,c)∈bp):1<=p/\p<=4/\2<=c/\c<=5:=by
 rcases nF h with⟨rfl,rfl⟩|⟨rfl,rfl⟩|⟨rfl,rfl⟩|⟨rfl,rfl⟩|⟨rfl,rfl⟩|⟨rfl,rfl⟩|⟨rfl,rfl⟩|⟨rfl,rfl⟩|⟨rfl,rfl⟩<;>decide
noncomputable def jx(x p m:Int):Int:=x*48271 % p % m
theorem o0(x:Int){y:Int}(h: -1000000000000<=y/\y<=1000000000000):pA x y=true:=by
 unfold pA;rw [decide_eq_true h.1,decide_eq_true h.2]
 simp
theorem qk {x:Int}(y:Int)(h: -1000000000000<=x/\x<=1000000000000):pA x y=true:=by
 unfold pA;rw [decide_eq_true h.1,decide_eq_true h.2]
 simp
theorem Bl(x:Int){p m:Int}(hp:0 < p)(hm:0 < m):bZ [.int x,.int p,.int m]=some (.int (jx x p m)):=by
 have c1:pA x 48271=true:=o0 x (by omega)
 have c2:Fm (x*48271) p=true:=decide_eq_true hp;have c3:Fm (x*48271 % p) m=true:=decide_eq_true hm;simp only [bZ,xf,rM,bV,gu,ae,aB,dC,d2,bj,xS,Lq,zI,zL,zC,zH,Qa,zA,zB,List.replicate,zD,zG,Nat.reduceAdd,Nat.reduceSub, ↓reduceIte,c1,c2,c3,jx]
theorem uQ(x:Int){p m:Int}(hm:0 < m):0<=jx x p m/\jx x p m < m:=⟨Int.emod_nonneg _ (by omega),Int.emod_lt_of_pos _ hm⟩
noncomputable def fV(ns:List Int)(k:Nat):Int:=ns.getD k 0
theorem xi(ns:List Int)(k:Nat):bR [qK ns,.int (k:Nat)]=some (.int (fV ns k)):=by
 by_cases h:k < ns.length
 · have d:decide ((k:Int) < (ns.length:Nat))=true:=decide_eq_true (by omega)
   simp only [bR,nv,lr,lq,bV,gu,aP,eY,ae,aB,dC,d2,bJ,aI,aA,dB,bF,bj,cX,Kp,zI,zL,zC,zH,Qa,zA,zB,List.replicate,zD,zG,Nat.reduceAdd,Nat.reduceSub, ↓reduceIte,yw,d,J7,pE h,fV];rw [iI,cY h];rfl
 · have d:decide ((k:Int) < (ns.length:Nat))=false:=decide_eq_false (by omega)
   simp only [bR,nv,lr,lq,bV,gu,aP,eY,ae,aB,dC,d2,bJ,aI,aA,dB,bF,bj,cX,Kp,zI,zL,zC,zH,Qa,zA,zB,List.replicate,zD,zG,Nat.reduceAdd,Nat.reduceSub, ↓reduceIte,zN,yw,d,fV];rw [iI,List.getElem?_eq_none (by omega)]
   rfl
theorem ls(n:Nat)(h:n<=1000:=by decide):n<=eD:=Q7 h (by decide)
structure Code (p c:Int) (a:List Int):Prop where
 len:(a.length:Int)=p
 all:∀n∈a,0<=n/\n<=c - 1
noncomputable def uR(p c x:Int):List Int:=(List.range p.toNat).map λi:Nat=>jx (x+31*(i:Int)*(i:Int)+7*(i:Int)) 9967 c
theorem o5 {p c:Int}(h:(p,c)∈bp)(x:Int):Code p c (uR p c x):=by
 have b:=dQ h;refine⟨by simp [uR];omega,λn hn=>?_⟩
 obtain⟨i,_,rfl⟩:=Qd.mp hn;have:=uQ (x+31*(i:Int)*(i:Int)+7*(i:Int)) (p:=9967) (m:=c) (by omega)
 omega
theorem Cu {p c:Int}(h:(p,c)∈bp)(x:Int):cK [aJ [p,c],.int x]=some (aJ (uR p c x)):=by
 have b:=dQ h;have m9:∀y,bZ [.int y,.int 9967,.int c]=some (.int (jx y 9967 c)):=λy=>Bl y (by decide) (by omega)
 have sm:lV p=true:=by
  unfold lV;rw [decide_eq_true (show -1000000000<=p by omega),decide_eq_true (show p<=1000000000 by omega)];rfl
 have len:((List.range p.toNat).map λk:Nat=>PyData.int (0+(k:Int))).length=p.toNat:=by simp
 have i0:cV (.tuple [.int p,.int c]) (.int 0)=some (.int p):=rfl;have i1:cV (.tuple [.int p,.int c]) (.int 1)=some (.int c):=rfl;obtain⟨δ',e1,v,e2⟩:=cE (fg:=(gN 3)) (fb:=(bu 2 (aE 3 bZ (aA (d2 bc (d2 bc (aB 1) (d2 ku (d2 ku (dC (.int 31)) (aB 3)) (aB 3))) (d2 ku (dC (.int 7)) (aB 3))) (aA (dC (.int 9967)) (aA (d2 cV (aB 0) (dC (.int 1))) aI))))))
  (ds:=am 0 p.toNat) (δ:=[some (.fz (.tuple [.int p,.int c])),some (.fz (.int x)),some (.ow []),none])
  (λ i δ => ∃ v, δ = [some (.fz (.tuple [.int p, .int c])), some (.fz (.int x)), some (.ow (((List.range i).map λ i : Nat => jx (x + 31 * (i : Int) * (i : Int) + 7 * (i : Int)) 9967 c).map PyData.int)), v]) ⟨none, rfl⟩ (by
   rintro i hi δ ⟨v,rfl⟩;have hi':i < p.toNat:=by simpa [am]using hi
   have ei:(am 0 p.toNat)[i]=.int (i:Nat):=by simp [am]
   have q1:pA 31 (i:Int)=true:=qk _ (by omega)
   have q2:pA (31*(i:Int)) (i:Int)=true:=o0 _ (by omega)
   have q3:pA 7 (i:Int)=true:=qk _ (by omega)
   have q4:(((List.range i).map λi:Nat=>jx (x+31*(i:Int)*(i:Int)+7*(i:Int)) 9967 c).map PyData.int).length < eD:=by
    rw [zJ,zJ,DM];exact lx (show i < 1000 by omega) (by decide)
   refine⟨_,[some (.fz (.tuple [.int p,.int c])),some (.fz (.int x)),some (.ow (((List.range (i+1)).map λi:Nat=>jx (x+31*(i:Int)*(i:Int)+7*(i:Int)) 9967 c).map PyData.int)),some (.fz (.int (i:Nat)))],rfl,?_,_,rfl⟩;rw [ei];simp only [bu,aB,dC,d2,aE,aI,aA,xS,kR,zC,zH,zA,zB,zE,zF,zD,Nat.reduceAdd, ↓reduceIte,q1,q2,q3,q4,i1,m9];rw [List.range_succ,ux,ux];rfl)
 have len2:(am 0 p.toNat).length=p.toNat:=by simp [am]
 rw [len2]at e2;subst e2;have z:(0:Nat)<=eD:=zU _;simp only [cK,vD,pR,pQ,pP,aJ,bV,gu,aP,dZ,ae,iP,bd,aB,dC,d2,bJ,aI,aA,bb,cD,DL.frz,bj,yq,zI,zL,zC,zH,Q3,Q2,zA,zB,zE,zF,List.replicate,zD,zG,Nat.reduceAdd,Nat.reduceSub, ↓reduceIte,z,i0,sm,e1];rfl
theorem MR(b:List Int){i:Nat}(h:i < b.length):(b.map PyData.int)[i]? =some (.int b[i]):=by rw [zK,cY h];rfl
theorem N9(a:List Int){i:Nat}(h:i < a.length):cV (.tuple (a.map PyData.int)) (.int (i:Nat))=some (.int a[i]):=by
 show rD (a.map PyData.int) (i:Int)=_;rw [xL,pE h];rfl
theorem iD {a b:List Int}(l:a.length=b.length)(lim:a.length<=100):bS [aJ a,aJ b]=some (aJ (GC.jw a b)):=by
 obtain⟨δ',e1,v1,v2,e2⟩:=cE (fg:=(gT 2 (gC (gN 5) (gC (gN 6) gZ)))) (fb:=(aP (eY (dB (d2 ou (d2 cV (aB 0) (aB 5)) (aB 6))) (mQ 2 kt (dC (.int 1))) bF) (eY (dB (pB false 4 (aB 6))) (aP (eV 4 (aB 6)) (mQ 3 kt (dC (.int 1)))) bF))) (ds:=ga (b.map PyData.int))
  (δ:=[some (.fz (.tuple (a.map PyData.int))),some (.fz (.tuple (b.map PyData.int))),some (.fz (.int 0)),some (.fz (.int 0)),some (.ow (a.map PyData.int)),none,none])
  (λ i δ => ∃ v1 v2, δ = [some (.fz (.tuple (a.map PyData.int))), some (.fz (.tuple (b.map PyData.int))), some (.fz (.int (GC.oq (a.take i) (b.take i) : Nat))), some (.fz (.int (GC.bU a (b.take i) : Nat))), some (.ow ((GC.left a (b.take i)).map PyData.int)), v1, v2]) ⟨none, none, rfl⟩ (by
   rintro i hi δ ⟨v1,v2,rfl⟩;have hi':i < b.length:=by simpa [ga]using hi
   have hia:i < a.length:=by omega
   have ed:(ga (b.map PyData.int))[i]=.tuple [.int (i:Nat),.int b[i]]:=by
    have:=cY hi;obtain⟨e,h1,h2⟩:=nN this;rw [MR b hi']at h1;cases h1;exact h2
   have et:(a.take i).length=(b.take i).length:=by rw [At,At];omega
   have er:GC.oq (a.take (i+1)) (b.take (i+1))=GC.oq (a.take i) (b.take i)+if a[i]=b[i]then 1 else 0:=by rw [GC.cf hia,GC.cf hi',GC.si _ _ _ _ et]
   have ei:GC.bU a (b.take (i+1))=GC.bU a (b.take i)+if b[i]∈GC.left a (b.take i)then 1 else 0:=by rw [GC.cf hi',GC.lT]
   have eL:GC.left a (b.take (i+1))=if b[i]∈GC.left a (b.take i)then(GC.left a (b.take i)).erase b[i]else GC.left a (b.take i):=by rw [GC.cf hi',GC.nM]
   rw [ed];refine⟨_,_,rfl,?_,some (.fz (.int (i:Nat))),some (.fz (.int b[i])),rfl⟩;rw [er,ei,eL]
   by_cases c1:a[i]=b[i]<;>by_cases c2:b[i]∈GC.left a (b.take i)
   · simp only [aP,eY,mQ,eV,aB,dC,d2,dB,bF,pB,pD,zA,zB,zE,zF,zD,zG, ↓reduceIte,zN,N9 a hia,iA,bn,if_pos c1,if_pos c2,decide_eq_true c1,decide_eq_true c2];rfl
   · simp only [aP,eY,mQ,eV,aB,dC,d2,dB,bF,pB,pD,zA,zB,zE,zF,zD,Option.bind_none,zG, ↓reduceIte,zN,N9 a hia,iA,bn,if_pos c1,if_neg c2,decide_eq_true c1,decide_eq_false c2];rfl
   · simp only [aP,eY,mQ,eV,aB,dC,d2,dB,bF,pB,pD,zA,zB,zE,zF,zD,zG, ↓reduceIte,zN,N9 a hia,iA,bn,if_neg c1,if_pos c2,decide_eq_false c1,decide_eq_true c2];rfl
   · simp only [aP,eY,mQ,eV,aB,dC,d2,dB,bF,pB,pD,zA,zB,zE,zF,zD,Option.bind_none,zG, ↓reduceIte,zN,N9 a hia,iA,bn,if_neg c1,if_neg c2,decide_eq_false c1,decide_eq_false c2];rfl)
 have len2:(ga (b.map PyData.int)).length=b.length:=by simp [ga]
 have e0:a.take b.length=a:=by rw [<-l,Aq]
 rw [len2,Aq,e0]at e2;subst e2;have z:(2:Nat)<=eD:=ls 2;simp only [bS,vI,p8,p7,p6,pZ,pY,aJ,bV,gu,aP,aY,dZ,ae,bd,aB,dC,d2,aI,aA,dE,jL,Ih,bj,oV,GN,zI,zL,zC,zH,Q3,Q2,zA,zB,zE,zF,List.replicate,zD,zG,Nat.reduceAdd,Nat.reduceSub, ↓reduceIte,z,e1];rfl
theorem vM {a b:List Int}(l:a.length=b.length)(lim:a.length<=100):dI [aJ a,aJ b]=some (aJ (GC.hW a b)):=by
 obtain⟨δ1,e1,v1,v2,e2⟩:=cE (fg:=(gT 2 (gC (gN 5) (gC (gN 6) gZ)))) (fb:=(eY (dB (d2 ou (aB 5) (aB 6))) (aY 2 (d2 bc (aB 2) (dC (.int 1)))) (aP (bu 3 (aB 5)) (bu 4 (aB 6))))) (ds:=tD (a.map PyData.int) (b.map PyData.int))
  (δ:=[some (.fz (.tuple (a.map PyData.int))),some (.fz (.tuple (b.map PyData.int))),some (.fz (.int 0)),some (.ow []),some (.ow []),none,none,none,none])
  (λ i δ => ∃ v1 v2, δ = [some (.fz (.tuple (a.map PyData.int))), some (.fz (.tuple (b.map PyData.int))), some (.fz (.int (GC.oq (a.take i) (b.take i) : Nat))), some (.ow ((GC.cA (a.take i) (b.take i)).map PyData.int)), some (.ow ((GC.dX (a.take i) (b.take i)).map PyData.int)), v1, v2, none, none]) ⟨none, none, rfl⟩ (by
   rintro i hi δ ⟨v1,v2,rfl⟩;have hi':i < b.length:=by simpa [tD,l]using hi
   have hia:i < a.length:=by omega
   have ed:(tD (a.map PyData.int) (b.map PyData.int))[i]=.tuple [.int a[i],.int b[i]]:=by
    have:=cY hi;obtain⟨x,y,h1,h2,h3⟩:=yh this;rw [MR a hia]at h1;rw [MR b hi']at h2;cases h1;cases h2;exact h3
   have et:(a.take i).length=(b.take i).length:=by rw [At,At];omega
   have er:GC.oq (a.take (i+1)) (b.take (i+1))=GC.oq (a.take i) (b.take i)+if a[i]=b[i]then 1 else 0:=by rw [GC.cf hia,GC.cf hi',GC.si _ _ _ _ et]
   have em:GC.cA (a.take (i+1)) (b.take (i+1))=GC.cA (a.take i) (b.take i)++if a[i]=b[i]then []else [a[i]]:=by rw [GC.cf hia,GC.cf hi',GC.vk _ _ _ _ et]
   have eT:GC.dX (a.take (i+1)) (b.take (i+1))=GC.dX (a.take i) (b.take i)++if a[i]=b[i]then []else [b[i]]:=by rw [GC.cf hia,GC.cf hi',GC.vm _ _ _ _ et]
   have ml:=GC.sq (a.take i) (b.take i) et;have tl:=GC.sv (a.take i) (b.take i) et;have al:(a.take i).length<=100:=by rw [At];omega
   have q1:((GC.cA (a.take i) (b.take i)).map PyData.int).length < eD:=by rw [zJ];exact lx (show _ < 1000 by omega) (by decide)
   have q2:((GC.dX (a.take i) (b.take i)).map PyData.int).length < eD:=by rw [zJ];exact lx (show _ < 1000 by omega) (by decide)
   rw [ed];refine⟨_,_,rfl,?_,some (.fz (.int a[i])),some (.fz (.int b[i])),rfl⟩;rw [er,em,eT]
   by_cases c1:a[i]=b[i]
   · simp only [aP,eY,aY,bu,aB,dC,d2,dB,kR,Qa,zA,zB,zE,zF,zD,zG, ↓reduceIte,iA,if_pos c1,decide_eq_true c1];rfl
   · simp only [aP,eY,aY,bu,aB,dC,d2,dB,kR,zA,zB,zE,zF,zD,zG, ↓reduceIte,zN,iA,if_neg c1,decide_eq_false c1,q1,q2];rw [ux,ux];rfl)
 have len2:(tD (a.map PyData.int) (b.map PyData.int)).length=b.length:=by simp [tD,l]
 have e0:a.take b.length=a:=by rw [<-l,Aq]
 rw [len2,Aq,e0]at e2;subst e2;obtain⟨δ2,f1,w1,f2⟩:=cE (fg:=(gN 8)) (fb:=(eY (dB (pB false 4 (aB 8))) (aP (eV 4 (aB 8)) (aY 7 (d2 bc (aB 7) (dC (.int 1))))) bF)) (ds:=(GC.cA a b).map PyData.int)
  (δ:=[some (.fz (.tuple (a.map PyData.int))),some (.fz (.tuple (b.map PyData.int))),some (.fz (.int (GC.oq a b:Nat))),some (.fz (.list ((GC.cA a b).map PyData.int))),some (.ow ((GC.dX a b).map PyData.int)),v1,v2,some (.fz (.int 0)),none])
  (λ i δ => ∃ w1, δ = [some (.fz (.tuple (a.map PyData.int))), some (.fz (.tuple (b.map PyData.int))), some (.fz (.int (GC.oq a b : Nat))), some (.fz (.list ((GC.cA a b).map PyData.int))), some (.ow ((GC.left (GC.dX a b) ((GC.cA a b).take i)).map PyData.int)), v1, v2, some (.fz (.int (GC.bU (GC.dX a b) ((GC.cA a b).take i) : Nat))), w1]) ⟨none, rfl⟩ (by
   rintro i hi δ ⟨w1,rfl⟩;have hi':i < (GC.cA a b).length:=by simpa using hi
   have ei:GC.bU (GC.dX a b) ((GC.cA a b).take (i+1))=GC.bU (GC.dX a b) ((GC.cA a b).take i)+if(GC.cA a b)[i]∈GC.left (GC.dX a b) ((GC.cA a b).take i)then 1 else 0:=by rw [GC.cf hi',GC.lT]
   have eL:GC.left (GC.dX a b) ((GC.cA a b).take (i+1))=if(GC.cA a b)[i]∈GC.left (GC.dX a b) ((GC.cA a b).take i)then(GC.left (GC.dX a b) ((GC.cA a b).take i)).erase (GC.cA a b)[i]else GC.left (GC.dX a b) ((GC.cA a b).take i):=by rw [GC.cf hi',GC.nM]
   have ed:((GC.cA a b).map PyData.int)[i]=.int (GC.cA a b)[i]:=by simp
   rw [ed];refine⟨_,_,rfl,?_,some (.fz (.int (GC.cA a b)[i])),rfl⟩;rw [ei,eL]
   by_cases c2:(GC.cA a b)[i]∈GC.left (GC.dX a b) ((GC.cA a b).take i)
   · simp only [aP,eY,aY,eV,aB,dC,d2,dB,bF,pB,kR,zA,zB,zE,zF,zD,zG, ↓reduceIte,zN,bn,if_pos c2,decide_eq_true c2];rfl
   · simp only [aP,eY,aY,eV,aB,dC,d2,dB,bF,pB,zA,zB,zE,zF,zD,Option.bind_none, ↓reduceIte,zN,bn,if_neg c2,decide_eq_false c2];rfl)
 rw [zJ,Aq]at f2;subst f2;have z:(2:Nat)<=eD:=ls 2;have z0:(0:Nat)<=eD:=zU _;have hl:(a.map PyData.int).length=(b.map PyData.int).length:=by simp [l]
 simp only [dI,rp,mq,mo,mn,mj,mi,mh,mf,aJ,bV,gu,aP,aY,dZ,ae,iP,bd,aB,dC,aI,aA,dE,bb,ax,jL,JT,DL.frz,bj,zI,zL,zC,zH,Q3,Q2,zA,zB,zE,zF,List.replicate,zD,zG,Nat.reduceAdd,Nat.reduceSub, ↓reduceIte,z,z0,hl,e1,f1];rfl
theorem wT(n lo hi:Int):bD [.int n,.int lo,.int hi]=some (.bool (decide (lo<=n)&&decide (n<=hi))):=by
 by_cases h:lo<=n
 · simp only [bD,jB,fY,bV,gu,ae,aB,dB,fT,yc,bj,lA,GL,GM,Kq,tF,zI,zL,zC,zH,Qa,zA,zB,List.replicate,zD,zG,Nat.reduceAdd,Nat.reduceSub, ↓reduceIte,Bool.not_false,Bool.true_and,decide_eq_true h]
 · simp only [bD,jB,fY,bV,gu,ae,aB,dB,fT,yc,bj,lA,GL,GM,Kq,tF,zI,zL,zC,zH,Qa,zA,zB,List.replicate,zD,zG,Nat.reduceAdd,Nat.reduceSub, ↓reduceIte,Bool.not_false,Bool.false_and,decide_eq_false h]
theorem gM {p c:Int}(h:(p,c)∈bp):bg [aJ [p,c]]=some (aJ [p,c]):=by
 rcases nF h with⟨rfl,rfl⟩|⟨rfl,rfl⟩|⟨rfl,rfl⟩|⟨rfl,rfl⟩|⟨rfl,rfl⟩|⟨rfl,rfl⟩|⟨rfl,rfl⟩|⟨rfl,rfl⟩|⟨rfl,rfl⟩<;>rfl
theorem uS {p c:Int}(h:(p,c)∈bp){a:List Int}(ca:Code p c a):jC [aJ [p,c],aJ a]=some (.bool true):=by
 have b:=dQ h;have i0:cV (.tuple [.int p,.int c]) (.int 0)=some (.int p):=rfl;have i1:cV (.tuple [.int p,.int c]) (.int 1)=some (.int c):=rfl;have e0:decide (((a.map PyData.int).length:Int)=p)=true:=decide_eq_true (by rw [zJ];exact ca.len)
 have al:=ca.len;have l1:(a.map PyData.int).length<=eD:=by rw [zJ];exact Q7 (show _<=1000 by omega) (by decide)
 have mm:(bE 1 [("game",0)] (ax (aB 1)) (gN 0) cM (aE 3 bD (aA (aB 0) (aA (dC (.int 0)) (aA (d2 BL (d2 cV (aB 1) (dC (.int 1))) (dC (.int 1))) aI))))) [some (.fz (.tuple [.int p,.int c])),some (.fz (.tuple (a.map PyData.int)))]=some ((a.map PyData.int).map λ_=>.bool true):=by
  refine dL _ rfl l1 λd hd=>?_;obtain⟨n,hn,rfl⟩:=Qd.mp hd;have q:=ca.all n hn;simp only [aB,dC,d2,aE,aI,aA,iJ,cM,gN,GN,zI,zL,zC,zH,Q3,Q2,zA,zB,zE,List.replicate,zD,zG,Nat.reduceAdd, ↓reduceIte,Bool.and_true,i1,wT,decide_eq_true q.1,decide_eq_true q.2]
 have bs:mY ((a.map PyData.int).map λ_=>PyData.bool true)=some ((a.map PyData.int).map λ_=>true):=by
  rw [show((a.map PyData.int).map λ_=>PyData.bool true)=((a.map PyData.int).map λ_=>true).map PyData.bool by simp]
  exact lW _
 have al2:((a.map PyData.int).map λ_=>true).all id=true:=by simp
 simp only [jC,zx,uB,uA,aJ,bV,gu,aP,eY,ae,aB,dC,d2,bJ,aI,aA,bP,dB,cP,n9,hX,sy,bF,bj,lA,BQ,cX,GP,qU,zI,zL,zC,zH,Qa,zA,zB,List.replicate,zD,zG,Nat.reduceAdd,Nat.reduceSub, ↓reduceIte,DN,zN,i0,J6,e0,mm,bs,al2]
theorem mL {p c:Int}(h:(p,c)∈bp){a:List Int}(ca:Code p c a):cR [aJ [p,c],aJ a]=some (aJ a):=by
 have q:=uS h ca;simp only [cR,qj,mJ,mI,bV,gu,aP,eY,ae,aB,aE,aI,aA,cP,n9,hX,bF,fX,bj,zI,zL,zC,zH,Qa,zA,zB,List.replicate,zD,zG,Nat.reduceAdd,Nat.reduceSub, ↓reduceIte,DN,zN,q]
noncomputable def ext(c:Nat)(a:List Int):List (List Int):=(List.range c).map λk:Nat=>a++[(k:Int)]
noncomputable def au(c:Nat):Nat->List (List Int)
 |0=>[[]]
 |n+1=>(au c n).flatMap (ext c)
noncomputable def aH(p c:Int):List (List Int):=au c.toNat p.toNat
noncomputable def bY(cs:List (List Int)):PyData:=.list (cs.map aJ)
theorem xj(c:Nat)(a:List Int):(ext c a).length=c:=by simp [ext]
theorem qB(c:Nat):∀l:List (List Int),(l.flatMap (ext c)).length=l.length*c
 |[]=>by simp
 |a::r=>by rw [List.flatMap_cons,zQ,xj,qB c r,zC,Nat.succ_mul];omega
theorem fD(c:Nat):∀n,(au c n).length=c ^ n
 |0=>rfl
 |n+1=>by rw [au,qB,fD c n,Nat.pow_succ]
theorem qm {c n:Nat}(hc:c<=5)(hn:n<=4):c ^ n<=625:=by
 refine Q7 (Nat.pow_le_pow_left hc n) (Q7 (Nat.pow_le_pow_right (by decide) hn) (by decide))
theorem lu(c:Nat):∀n a,a∈au c n->a.length=n/\∀x∈a,0<=x/\x < (c:Int)
 |0,a,h=>by
  have:a=[]:=by simpa [au]using h
  subst this;exact⟨rfl,λx hx=>by cases hx⟩
 |n+1,a,h=>by
  obtain⟨b,hb,ha⟩:=List.mem_flatMap.mp h;obtain⟨k,hk,rfl⟩:=Qd.mp ha;have hk':k < c:=by simpa using hk
  obtain⟨l,q⟩:=lu c n b hb;refine⟨by simp [l],λx hx=>?_⟩
  rcases CD.mp hx with z|z
  · exact q x z
  · have:x=(k:Int):=by simpa using z
    omega
theorem gU {p c:Int}(h:(p,c)∈bp){a:List Int}(ha:a∈aH p c):Code p c a:=by
 have b:=dQ h;obtain⟨l,q⟩:=lu _ _ _ ha;refine⟨by omega,λn hn=>?_⟩
 have:=q n hn;omega
theorem nV {p c:Int}(h:(p,c)∈bp):(aH p c).length<=625:=by
 have b:=dQ h;unfold aH;rw [fD];exact qm (by omega) (by omega)
theorem dW {n:Nat}(h:n<=1000):n<=eD:=Q7 h (by decide)
theorem KI(a:List Int)(k:Int)(ha:a.length<=100):bc (aJ a) (.tuple [.int k])=some (aJ (a++[k])):=by
 have q:(a.map PyData.int).length+[PyData.int k].length<=eD:=by rw [zJ];exact dW (by simp;omega)
 unfold aJ;rw [ux];simp only [bc,q, ↓reduceIte];rfl
theorem nW(c:Nat):am 0 c=(List.range c).map λk:Nat=>PyData.int (k:Int):=by
 unfold am;apply Eh
 intro k _;rw [Int.zero_add]
theorem AH {nm:Str}{k:Nat}{c:Nat}{a:List Int}{fi:aT->Option (List PyData)}{δ:aT}(hi:fi δ=some (am 0 c))(hc:c<=100)(ha:a.length<=100)(hk:δ[k]? =some (some (.fz (aJ a)))):
 bE 1 [(nm,k)] fi (gN 0) cM (d2 bc (aB 1) (dE (aA (aB 0) aI))) δ=some ((ext c a).map aJ):=by
 rw [dL (λd=>match d with| .int k=>aJ (a++[k])|d=>d) hi (by simp [am];exact dW (by omega)) (λd hd=>?_)]
 · rw [nW,zO,ext,zO];rfl
 · rw [nW]at hd;obtain⟨m,_,rfl⟩:=Qd.mp hd;have z:(1:Nat)<=eD:=ls 1;simp only [aB,d2,aI,aA,dE,iJ,cM,gN,zI,zL,zC,zH,Q3,Q2,zA,zB,zE,List.replicate,zD,zG,Nat.reduceAdd, ↓reduceIte,hk,z,KI a (m:Int) ha]
theorem jp {c:Int}(h0:0<=c)(h1:c<=1000):lV c=true:=by
 unfold lV;rw [decide_eq_true (show -1000000000<=c by omega),decide_eq_true (show c<=1000000000 by omega)];rfl
theorem wU {c:Nat}{l:List (List Int)}{j:Nat}(h:j < l.length):(l.take (j+1)).flatMap (ext c)=(l.take j).flatMap (ext c)++ext c l[j]:=by
 rw [Ic h,List.flatMap_append]
 simp
theorem dq {p c:Int}(h:(p,c)∈bp):ah [aJ [p,c]]=some (bY (aH p c)):=by
 have b:=dQ h;have i0:cV (.tuple [.int p,.int c]) (.int 0)=some (.int p):=rfl;have i1:cV (.tuple [.int p,.int c]) (.int 1)=some (.int c):=rfl;have hg:bg [.tuple [.int p,.int c]]=some (.tuple [.int p,.int c]):=gM h;have sp:=jp (c:=p) (by omega) (by omega)
 have sc:=jp (c:=c) (by omega) (by omega)
 have z:(0:Nat)<=eD:=zU _;have z1:(1:Nat)<=eD:=ls 1;have inner:∀(i:Nat),i < p.toNat->∀v4:Option Sl,∃w4,fw ((gN 4)) ((fJ 3 (bP (bE 1 [("code",4)] (cD (aA (d2 cV (aB 0) (dC (.int 1))) aI)) (gN 0) cM (d2 bc (aB 1) (dE (aA (aB 0) aI))))))) ((au c.toNat i).map aJ) [some (.fz (.tuple [.int p,.int c])),some (.fz (bY (au c.toNat i))),some (.fz (.int (i:Nat))),some (.ow []),v4]=
  some (.nx [some (.fz (.tuple [.int p,.int c])),some (.fz (bY (au c.toNat i))),some (.fz (.int (i:Nat))),some (.ow ((au c.toNat (i+1)).map aJ)),w4]):=by
  intro i hi v4;obtain⟨δ',e1,w4,e2⟩:=cE (fg:=(gN 4)) (fb:=(fJ 3 (bP (bE 1 [("code",4)] (cD (aA (d2 cV (aB 0) (dC (.int 1))) aI)) (gN 0) cM (d2 bc (aB 1) (dE (aA (aB 0) aI))))))) (ds:=(au c.toNat i).map aJ) (δ:=[some (.fz (.tuple [.int p,.int c])),some (.fz (bY (au c.toNat i))),some (.fz (.int (i:Nat))),some (.ow []),v4])
   (λ j δ => ∃ w4, δ = [some (.fz (.tuple [.int p, .int c])), some (.fz (bY (au c.toNat i))), some (.fz (.int (i : Nat))), some (.ow ((((au c.toNat i).take j).flatMap (ext c.toNat)).map aJ)), w4]) ⟨v4, rfl⟩ (by
    rintro j hj δ ⟨w4,rfl⟩;have hj':j < (au c.toNat i).length:=by simpa using hj
    have ed:((au c.toNat i).map aJ)[j]=aJ (au c.toNat i)[j]:=by simp
    have hm:(au c.toNat i)[j]∈au c.toNat i:=Qc hj';have hl:=(lu _ _ _ hm).1;have hz:((((au c.toNat i).take j).flatMap (ext c.toNat)).map aJ).length+((ext c.toNat (au c.toNat i)[j]).map aJ).length<=eD:=by
     rw [zJ,zJ,qB,xj,At,fD];have q1:c.toNat ^ i.succ<=625:=qm (by omega) (by omega)
     rw [fD]at hj';have q2:(j+1)*c.toNat<=c.toNat ^ i*c.toNat:=Nat.mul_le_mul_right _ hj';rw [<-Nat.pow_succ]at q2;have q3:min j (c.toNat ^ i)=j:=Nat.min_eq_left (An hj');rw [q3];have q4:(j+1)*c.toNat=j*c.toNat+c.toNat:=Nat.succ_mul _ _;exact dW (by omega)
    rw [ed];refine⟨_,_,rfl,?_,some (.fz (aJ (au c.toNat i)[j])),rfl⟩;have cx:=AH (nm:="code") (k:=4) (c:=c.toNat) (a:=(au c.toNat i)[j]) (fi:=cD (aA (d2 cV (aB 0) (dC (.int 1))) aI)) (δ:=[some (.fz (.tuple [.int p,.int c])),some (.fz (bY (au c.toNat i))),some (.fz (.int (i:Nat))),some (.ow ((((au c.toNat i).take j).flatMap (ext c.toNat)).map aJ)),some (.fz (aJ (au c.toNat i)[j]))])
     (by simp only [aB,dC,d2,aI,aA,cD,zA,zD, ↓reduceIte,i1,sc]) (by omega) (by omega) rfl
    simp only [fJ,bP,zA,zB,zE,zF,zD,zG, ↓reduceIte,cx,hz];rw [wU hj',ux])
  rw [zJ,Aq]at e2;subst e2;exact⟨w4,e1⟩
 obtain⟨δ',e1,v2,v3,v4,e2⟩:=cE (fg:=(gN 2)) (fb:=(aP (dZ 3 (bb aI)) (aP (bd (ax (aB 1)) (gN 4) (fJ 3 (bP (bE 1 [("code",4)] (cD (aA (d2 cV (aB 0) (dC (.int 1))) aI)) (gN 0) cM (d2 bc (aB 1) (dE (aA (aB 0) aI))))))) (iP 3 (aY 1 (aB 3)))))) (ds:=am 0 p.toNat) (δ:=[some (.fz (.tuple [.int p,.int c])),some (.fz (.list [.tuple []])),none,none,none])
  (λ i δ => ∃ v2 v3 v4, δ = [some (.fz (.tuple [.int p, .int c])), some (.fz (bY (au c.toNat i))), v2, v3, v4]) ⟨none, none, none, rfl⟩ (by
   rintro i hi δ ⟨v2,v3,v4,rfl⟩;have hi':i < p.toNat:=by simpa [am]using hi
   have ed:(am 0 p.toNat)[i]=.int (i:Nat):=by simp [am]
   obtain⟨w4,f1⟩:=inner i hi' v4;rw [ed];refine⟨_,[some (.fz (.tuple [.int p,.int c])),some (.fz (bY (au c.toNat (i+1)))),some (.fz (.int (i:Nat))),some (.fz (bY (au c.toNat (i+1)))),w4],rfl,?_,_,_,_,rfl⟩;unfold bY at f1 ⊢;simp only [aP,aY,dZ,iP,bd,aB,aI,bb,ax,jL,DL.frz,zH,zA,zB,zE,zF,zD,zG, ↓reduceIte,z,f1])
 have len2:(am 0 p.toNat).length=p.toNat:=by simp [am]
 rw [len2]at e2;subst e2;simp only [ah,vJ,pf,pc,pb,p9,aJ,bV,gu,aP,aY,ae,fU,bd,aB,dC,d2,aE,aI,aA,dE,bb,bP,cD,bj,zI,zL,zC,zH,Q3,Q2,zA,zB,zE,zF,List.replicate,zD,zG,Nat.reduceAdd,Nat.reduceSub, ↓reduceIte,hg,z,z1,i0,sp,e1];rfl
theorem xm {p c:Int}(h:(p,c)∈bp):fC [aJ [p,c]]=some (bY (aH p c)):=by
 have b:=dQ h;have i0:cV (.tuple [.int p,.int c]) (.int 0)=some (.int p):=rfl;have i1:cV (.tuple [.int p,.int c]) (.int 1)=some (.int c):=rfl;have sp:=jp (c:=p) (by omega) (by omega)
 have sc:=jp (c:=c) (by omega) (by omega)
 have z:(0:Nat)<=eD:=zU _;have z1:(1:Nat)<=eD:=ls 1;have inner:∀(i:Nat),i < p.toNat->∀v4:Option Sl,∃w4,fw ((gN 4)) ((aY 3 (d2 bc (aB 3) (bP (bE 1 [("_law_code_here",4)] (cD (aA (d2 cV (aB 0) (dC (.int 1))) aI)) (gN 0) cM (d2 bc (aB 1) (dE (aA (aB 0) aI)))))))) ((au c.toNat i).map aJ) [some (.fz (.tuple [.int p,.int c])),some (.fz (bY (au c.toNat i))),some (.fz (.int (i:Nat))),some (.fz (.list [])),v4]=
  some (.nx [some (.fz (.tuple [.int p,.int c])),some (.fz (bY (au c.toNat i))),some (.fz (.int (i:Nat))),some (.fz (bY (au c.toNat (i+1)))),w4]):=by
  intro i hi v4;obtain⟨δ',e1,w4,e2⟩:=cE (fg:=(gN 4)) (fb:=(aY 3 (d2 bc (aB 3) (bP (bE 1 [("_law_code_here",4)] (cD (aA (d2 cV (aB 0) (dC (.int 1))) aI)) (gN 0) cM (d2 bc (aB 1) (dE (aA (aB 0) aI)))))))) (ds:=(au c.toNat i).map aJ) (δ:=[some (.fz (.tuple [.int p,.int c])),some (.fz (bY (au c.toNat i))),some (.fz (.int (i:Nat))),some (.fz (.list [])),v4])
   (λ j δ => ∃ w4, δ = [some (.fz (.tuple [.int p, .int c])), some (.fz (bY (au c.toNat i))), some (.fz (.int (i : Nat))), some (.fz (.list ((((au c.toNat i).take j).flatMap (ext c.toNat)).map aJ))), w4]) ⟨v4, rfl⟩ (by
    rintro j hj δ ⟨w4,rfl⟩;have hj':j < (au c.toNat i).length:=by simpa using hj
    have ed:((au c.toNat i).map aJ)[j]=aJ (au c.toNat i)[j]:=by simp
    have hm:(au c.toNat i)[j]∈au c.toNat i:=Qc hj';have hl:=(lu _ _ _ hm).1;have hz:((((au c.toNat i).take j).flatMap (ext c.toNat)).map aJ).length+((ext c.toNat (au c.toNat i)[j]).map aJ).length<=eD:=by
     rw [zJ,zJ,qB,xj,At,fD];have q1:c.toNat ^ i.succ<=625:=qm (by omega) (by omega)
     rw [fD]at hj';have q2:(j+1)*c.toNat<=c.toNat ^ i*c.toNat:=Nat.mul_le_mul_right _ hj';rw [<-Nat.pow_succ]at q2;have q3:min j (c.toNat ^ i)=j:=Nat.min_eq_left (An hj');rw [q3];have q4:(j+1)*c.toNat=j*c.toNat+c.toNat:=Nat.succ_mul _ _;exact dW (by omega)
    have ad:bc (.list ((((au c.toNat i).take j).flatMap (ext c.toNat)).map aJ)) (.list ((ext c.toNat (au c.toNat i)[j]).map aJ))=some (.list ((((au c.toNat i).take (j+1)).flatMap (ext c.toNat)).map aJ)):=by
     rw [wU hj',ux];simp only [bc,hz, ↓reduceIte]
    rw [ed];refine⟨_,_,rfl,?_,some (.fz (aJ (au c.toNat i)[j])),rfl⟩;have cx:=AH (nm:="_law_code_here") (k:=4) (c:=c.toNat) (a:=(au c.toNat i)[j]) (fi:=cD (aA (d2 cV (aB 0) (dC (.int 1))) aI)) (δ:=[some (.fz (.tuple [.int p,.int c])),some (.fz (bY (au c.toNat i))),some (.fz (.int (i:Nat))),some (.fz (.list ((((au c.toNat i).take j).flatMap (ext c.toNat)).map aJ))),some (.fz (aJ (au c.toNat i)[j]))])
     (by simp only [aB,dC,d2,aI,aA,cD,zA,zD, ↓reduceIte,i1,sc]) (by omega) (by omega) rfl
    simp only [aY,aB,d2,bP,zA,zB,zE,zF,zD,zG,cx,ad])
  rw [zJ,Aq]at e2;subst e2;exact⟨w4,e1⟩
 obtain⟨δ',e1,v2,v3,v4,e2⟩:=cE (fg:=(gN 2)) (fb:=(aP (aY 3 (bP (bb aI))) (aP (bd (ax (aB 1)) (gN 4) (aY 3 (d2 bc (aB 3) (bP (bE 1 [("_law_code_here",4)] (cD (aA (d2 cV (aB 0) (dC (.int 1))) aI)) (gN 0) cM (d2 bc (aB 1) (dE (aA (aB 0) aI)))))))) (aY 1 (aB 3))))) (ds:=am 0 p.toNat) (δ:=[some (.fz (.tuple [.int p,.int c])),some (.fz (.list [.tuple []])),none,none,none])
  (λ i δ => ∃ v2 v3 v4, δ = [some (.fz (.tuple [.int p, .int c])), some (.fz (bY (au c.toNat i))), v2, v3, v4]) ⟨none, none, none, rfl⟩ (by
   rintro i hi δ ⟨v2,v3,v4,rfl⟩;have hi':i < p.toNat:=by simpa [am]using hi
   have ed:(am 0 p.toNat)[i]=.int (i:Nat):=by simp [am]
   obtain⟨w4,f1⟩:=inner i hi' v4;rw [ed];refine⟨_,[some (.fz (.tuple [.int p,.int c])),some (.fz (bY (au c.toNat (i+1)))),some (.fz (.int (i:Nat))),some (.fz (bY (au c.toNat (i+1)))),w4],rfl,?_,_,_,_,rfl⟩;unfold bY at f1 ⊢;simp only [aP,aY,bd,aB,aI,bb,bP,ax,jL,zH,zA,zB,zE,zF,zD,zG, ↓reduceIte,z,f1])
 have len2:(am 0 p.toNat).length=p.toNat:=by simp [am]
 rw [len2]at e2;subst e2;simp only [fC,uN,oF,oE,oD,aJ,bV,gu,aP,aY,ae,bd,aB,dC,d2,aI,aA,dE,bb,bP,cD,bj,zI,zL,zC,zH,Q3,Q2,zA,zB,zE,zF,List.replicate,zD,zG,Nat.reduceAdd,Nat.reduceSub, ↓reduceIte,z,z1,i0,sp,e1];rfl
noncomputable abbrev hU:=List Int×List Int
noncomputable def aj(a:hU):PyData:=.tuple [aJ a.1,aJ a.2]
noncomputable def vN(as:List hU):PyData:=.list (as.map aj)
structure AskOk (p c:Int) (a:hU):Prop where
 code:Code p c a.1
 two:a.2.length=2
 b:∀n∈a.2,0<=n/\n<=p
theorem wV {p c:Int}{x y:List Int}(hx:Code p c x)(hy:Code p c y):(GC.hW x y).length=2/\∀n∈GC.hW x y,0<=n/\n<=p:=by
 have l1:=hx.len;have l2:=hy.len;obtain⟨e,_⟩:=GC.y9 (h:=x) (g:=y) (by omega)
 refine⟨rfl,λn hn=>?_⟩;have:n=(GC.oq x y:Int)\/n=(GC.bU (GC.dX x y) (GC.cA x y):Int):=by simpa [GC.hW]using hn
 omega
theorem KJ {p c:Int}(h:(p,c)∈bp)(ns:List Int)(k:Nat):∃as:List hU,gR [qK ns,.int (k:Nat),aJ [p,c]]=some (as.map aj)/\as.length<=4/\∀a∈as,AskOk p c a:=by
 have b:=dQ h;have i0:cV (.tuple [.int p,.int c]) (.int 0)=some (.int p):=rfl;have z:(0:Nat)<=eD:=zU _;have z2:(2:Nat)<=eD:=ls 2;have cell:∀j:Nat,bR [qK ns,.int (j:Nat)]=some (.int (fV ns j)):=xi ns;have c1:bR [qK ns,.int ((k:Int)+1)]=some (.int (fV ns (k+1))):=cell (k+1);have cd:∀x,cK [.tuple [.int p,.int c],.int x]=some (.tuple ((uR p c x).map .int)):=λx=>Cu h x;have mx:∀(x:Int) {q m:Int},0 < q->0 < m->bZ [.int x,.int q,.int m]=some (.int (jx x q m)):=λx q m=>Bl x;have m5:=uQ (fV ns (k+1)) (p:=9949) (show(0:Int) < 5 by decide)
 have s5:=jp (c:=jx (fV ns (k+1)) 9949 5) (by omega) (by omega)
 generalize hN:jx (fV ns (k+1)) 9949 5=N at m5 s5;have C0:=o5 h (fV ns k);generalize hx:uR p c (fV ns k)=x at C0;obtain⟨δ',e1,as,v5,v6,v7,v8,e2,al,ao⟩:=cE (fg:=(gN 5)) (fb:=(aP (aY 6 (d2 bc (aE 2 bR (aA (aB 0) (aA (d2 bc (d2 bc (aB 1) (dC (.int 2))) (aB 5)) aI))) (d2 ku (d2 ku (dC (.int 13)) (aB 5)) (aB 5)))) (aP (aY 7 (aE 2 cK (aA (aB 2) (aA (aB 6) aI)))) (aP (aY 8 (aE 2 dI (aA (aB 3) (aA (aB 7) aI)))) (aP (eY (dB (d2 ou (aE 3 bZ (aA (aB 6) (aA (dC (.int 9941)) (aA (dC (.int 7)) aI)))) (dC (.int 1)))) (aY 8 (dE (aA (aE 3 bZ (aA (aB 6) (aA (dC (.int 9931)) (aA (d2 bc (d2 cV (aB 2) (dC (.int 0))) (dC (.int 1))) aI)))) (aA (aE 3 bZ (aA (aB 6) (aA (dC (.int 9929)) (aA (d2 bc (d2 cV (aB 2) (dC (.int 0))) (dC (.int 1))) aI)))) aI)))) bF) (bu 4 (dE (aA (aB 7) (aA (aB 8) aI))))))))) (ds:=am 0 N.toNat) (δ:=[some (.fz (qK ns)),some (.fz (.int (k:Nat))),some (.fz (.tuple [.int p,.int c])),some (.fz (.tuple (x.map .int))),some (.ow []),none,none,none,none])
  (λ i δ => ∃ (as : List hU) (v5 v6 v7 v8 : Option Sl), δ = [some (.fz (qK ns)), some (.fz (.int (k : Nat))), some (.fz (.tuple [.int p, .int c])), some (.fz (.tuple (x.map .int))), some (.ow (as.map aj)), v5, v6, v7, v8] /\ as.length = i /\ ∀ a ∈ as, AskOk p c a) ⟨[], none, none, none, none, rfl, rfl, λ a ha => by cases ha⟩ (by
   rintro i hi δ ⟨as,v5,v6,v7,v8,rfl,al,ao⟩;have hi':i < N.toNat:=by simpa [am]using hi
   have ed:(am 0 N.toNat)[i]=.int (i:Nat):=by simp [am]
   have ce:bR [qK ns,.int ((k:Int)+2+(i:Int))]=some (.int (fV ns (k+2+i))):=cell (k+2+i);have q1:pA 13 (i:Int)=true:=qk _ (by omega)
   have q2:pA (13*(i:Int)) (i:Int)=true:=o0 _ (by omega)
   have q4:(as.map aj).length < eD:=by rw [zJ];exact lx (show _ < 1000 by omega) (by decide)
   generalize hs:fV ns (k+2+i)+13*(i:Int)*(i:Int)=sd;have C1:=o5 h sd;have cd1:=cd sd;generalize uR p c sd=y at C1 cd1;have l1:=C0.len;have l2:=C1.len;have an:dI [.tuple (x.map .int),.tuple (y.map .int)]=some (aJ (GC.hW x y)):=vM (by omega) (by omega)
   have m1:=mx sd (show(0:Int) < 9941 by decide) (show(0:Int) < 7 by decide)
   have m2:=mx sd (show(0:Int) < 9931 by decide) (show(0:Int) < p+1 by omega)
   have m3:=mx sd (show(0:Int) < 9929 by decide) (show(0:Int) < p+1 by omega)
   have step:∀t:List Int,t.length=2->(∀n∈t,0<=n/\n<=p)->∃as':List hU,(as++[(y,t)])=as'/\as'.length=i+1/\∀a∈as',AskOk p c a:=λt t1 t2=>⟨_,rfl,by simp [al],λa ha=>by
    rcases CD.mp ha with q|q
    · exact ao a q
    · have:a=(y,t):=by simpa using q
      subst this;exact⟨C1,t1,t2⟩⟩
   rw [ed]
   by_cases hm:jx sd 9941 7=1
   · have e7:ou (.int (jx sd 9941 7)) (.int 1)=some (.bool true):=by rw [iA,decide_eq_true hm]
     have b1:=uQ sd (p:=9931) (show(0:Int) < p+1 by omega)
     have b2:=uQ sd (p:=9929) (show(0:Int) < p+1 by omega)
     obtain⟨as',ea,l',o'⟩:=step [jx sd 9931 (p+1),jx sd 9929 (p+1)] rfl (by
      intro n hn;have:n=jx sd 9931 (p+1)\/n=jx sd 9929 (p+1):=by simpa using hn
      omega)
     refine⟨_,_,rfl,?_,as',some (.fz (.int (i:Nat))),some (.fz (.int sd)),some (.fz (.tuple (y.map .int))),some (.fz (.tuple [.int (jx sd 9931 (p+1)),.int (jx sd 9929 (p+1))])),rfl,l',o'⟩;simp only [aP,eY,aY,bu,aB,dC,d2,aE,aI,aA,dE,dB,bF,xS,kR,zC,zH,zA,zB,zE,zF,zD,zG,Nat.reduceAdd, ↓reduceIte,q1,q2,q4,ce,hs,cd1,an,m1,m2,m3,e7,i0,z2];rw [<-ea,ux];rfl
   · have e7:ou (.int (jx sd 9941 7)) (.int 1)=some (.bool false):=by rw [iA,decide_eq_false hm]
     obtain⟨b1,b2⟩:=wV C0 C1;obtain⟨as',ea,l',o'⟩:=step (GC.hW x y) b1 b2;refine⟨_,_,rfl,?_,as',some (.fz (.int (i:Nat))),some (.fz (.int sd)),some (.fz (.tuple (y.map .int))),some (.fz (aJ (GC.hW x y))),rfl,l',o'⟩;simp only [aP,eY,aY,bu,aB,dC,d2,aE,aI,aA,dE,dB,bF,xS,kR,zC,zH,zA,zB,zE,zF,zD,zG,Nat.reduceAdd, ↓reduceIte,zN,q1,q2,q4,ce,hs,cd1,an,m1,e7,i0,z2];rw [<-ea,ux];rfl)
 have len2:(am 0 N.toNat).length=N.toNat:=by simp [am]
 rw [len2]at al;subst e2;refine⟨as,?_,by omega,ao⟩
 have cx:=cd (fV ns k);rw [hx]at cx;have c0:=cell k;have mN:=mx (fV ns (k+1)) (show(0:Int) < 9949 by decide) (show(0:Int) < 5 by decide)
 rw [hN]at mN;simp only [gR,vF,pW,pV,pU,pT,aJ,Lh,gu,aP,aY,dZ,yf,bd,aB,dC,d2,aE,aI,aA,bb,cD,kR,zI,zL,zC,zH,Q3,Q2,zA,zB,zE,zF,List.replicate,zD,zG,Nat.reduceAdd,Nat.reduceSub, ↓reduceIte,c0,c1,cx,z,mN,s5,e1]
noncomputable def bq(as:List hU)(x:List Int):Bool:=as.all λa=>decide (GC.jw x a.1=a.2)
theorem OK(a:hU):cV (aj a) (.int 0)=some (aJ a.1):=rfl
theorem OL(a:hU):cV (aj a) (.int 1)=some (aJ a.2):=rfl
theorem rX {p c:Int}(h:(p,c)∈bp){x:List Int}(cx:Code p c x){a:hU}(ha:AskOk p c a):dU [aJ x,aj a]=some (.bool (decide (GC.jw x a.1=a.2))):=by
 have b:=dQ h;have l1:=cx.len;have l2:=ha.code.len;have q:=iD (a:=x) (b:=a.1) (by omega) (by omega)
 simp only [dU,xg,rP,bV,gu,ae,aB,dC,d2,aE,aI,aA,bj,zI,zL,zC,zH,Qa,zA,zB,List.replicate,zD,zG,Nat.reduceAdd,Nat.reduceSub, ↓reduceIte,OK,OL,q,GK]
theorem xn {p c:Int}(h:(p,c)∈bp){t:List Int}(t2:t.length=2)(tb:∀n∈t,0<=n/\n<=p):iQ [aJ [p,c],aJ t]=some (.bool true):=by
 have i0:cV (.tuple [.int p,.int c]) (.int 0)=some (.int p):=rfl;have ip:fB [.tuple (t.map .int)]=some (.bool true):=by
  have e:ou (.int ((t.map PyData.int).length:Nat)) (.int 2)=some (.bool true):=by rw [iA,decide_eq_true];rw [zJ,t2];rfl
  simp only [fB,rO,oX,bV,gu,ae,aB,dC,d2,bJ,aI,aA,dB,fT,bj,lA,BQ,cX,GP,zI,zL,zC,zH,Qa,zA,List.replicate,zD,zG,Nat.reduceAdd,Nat.reduceSub, ↓reduceIte,e]
 have l1:(t.map PyData.int).length<=eD:=by rw [zJ,t2];exact ls 2
 have mm:(bE 1 [("game",0)] (ax (aB 1)) (gN 0) cM (aE 3 bD (aA (aB 0) (aA (dC (.int 0)) (aA (d2 cV (aB 1) (dC (.int 0))) aI))))) [some (.fz (.tuple [.int p,.int c])),some (.fz (.tuple (t.map PyData.int)))]=some ((t.map PyData.int).map λ_=>.bool true):=by
  refine dL _ rfl l1 λd hd=>?_;obtain⟨n,hn,rfl⟩:=Qd.mp hd;have q:=tb n hn;simp only [aB,dC,d2,aE,aI,aA,iJ,cM,gN,zI,zL,zC,zH,Q3,Q2,zA,zB,zE,List.replicate,zD,zG,Nat.reduceAdd, ↓reduceIte,Bool.and_true,i0,wT,decide_eq_true q.1,decide_eq_true q.2]
 have bs:mY ((t.map PyData.int).map λ_=>PyData.bool true)=some ((t.map PyData.int).map λ_=>true):=by
  rw [show((t.map PyData.int).map λ_=>PyData.bool true)=((t.map PyData.int).map λ_=>true).map PyData.bool by simp]
  exact lW _
 have al2:((t.map PyData.int).map λ_=>true).all id=true:=by simp
 simp only [iQ,vH,pX,aJ,bV,gu,ae,aB,bJ,aE,aI,aA,bP,dB,fT,bj,qU,zI,zL,zC,zH,Qa,zA,zB,List.replicate,zD,zG,Nat.reduceAdd,Nat.reduceSub, ↓reduceIte,ip,mm,bs,al2]
theorem EH {p c:Int}(h:(p,c)∈bp){a:hU}(ha:AskOk p c a):jM [aJ [p,c],aj a]=some (.bool true):=by
 have ip:fB [aj a]=some (.bool true):=by
  have e:ou (.int ((2:Nat):Int)) (.int 2)=some (.bool true):=by rw [iA];rfl
  simp only [fB,rO,oX,aj,bV,gu,ae,aB,dC,d2,bJ,aI,aA,dB,fT,bj,lA,BQ,cX,GP,zI,zL,zC,zH,Qa,zA,List.replicate,zD,zG,Nat.reduceAdd,Nat.reduceSub, ↓reduceIte,e]
 have q1:=uS h ha.code;have q2:=xn h ha.two ha.b;simp only [jM,Bi,wH,bV,gu,ae,aB,dC,d2,aE,aI,aA,dB,fT,bj,zI,zL,zC,zH,Qa,zA,zB,List.replicate,zD,zG,Nat.reduceAdd,Nat.reduceSub, ↓reduceIte,ip,OK,OL,q1,q2]
theorem sC {p c:Int}(h:(p,c)∈bp){as:List hU}(ao:∀a∈as,AskOk p c a)(al:as.length<=8):eI [aJ [p,c],vN as,Kr "is_ask"]=some (vN as):=by
 obtain⟨δ',e1,v2,v3,e2⟩:=cE (fg:=(gT 2 (gC (gN 3) (gC (gN 4) gZ)))) (fb:=(eY (hX (cP (tJ 2 "is_ask" 2 jM (aA (aB 0) (aA (aB 4) aI))))) fX bF)) (ds:=ga (as.map aj)) (δ:=[some (.fz (aJ [p,c])),some (.fz (.list (as.map aj))),some (.fz (Kr "is_ask")),none,none])
  (λ i δ => ∃ v2 v3, δ = [some (.fz (aJ [p, c])), some (.fz (.list (as.map aj))), some (.fz (Kr "is_ask")), v2, v3]) ⟨none, none, rfl⟩ (by
   rintro i hi δ ⟨v2,v3,rfl⟩;have hi':i < as.length:=by simpa [ga]using hi
   have ed:(ga (as.map aj))[i]=.tuple [.int (i:Nat),aj as[i]]:=by
    have:=cY hi;obtain⟨e,h1,h2⟩:=nN this;rw [zK,cY hi']at h1;cases h1;exact h2
   have q:=EH h (ao _ (Qc hi'));rw [ed];refine⟨_,_,rfl,?_,some (.fz (.int (i:Nat))),some (.fz (aj as[i])),rfl⟩;simp only [eY,aB,aE,aI,aA,cP,n9,hX,bF,fX,zC,zH,zA,zB,zE,zF,zD,zG,Nat.reduceAdd, ↓reduceIte,DN,zN,tJ,Dk,q])
 subst e2;have d:decide ((8:Int) < ((as.map aj).length:Nat))=false:=decide_eq_false (by rw [zJ];omega)
 simp only [eI,qh,mE,mD,mC,vN,bV,gu,aP,eY,ae,bd,aB,dC,d2,bJ,aI,aA,dB,cP,n9,hX,sy,jL,Ih,bF,fX,bj,lA,Lp,cX,nq,GO,zI,zL,zC,zH,Q3,Q2,zA,zB,List.replicate,zD,zG,Nat.reduceAdd,Nat.reduceSub, ↓reduceIte,DN,zN,d,e1]
theorem sD {p c:Int}(h:(p,c)∈bp){as:List hU}(ao:∀a∈as,AskOk p c a)(al:as.length<=8):eJ [aJ [p,c],vN as]=some (vN as):=by
 have q:=sC h ao al;simp only [eJ,qi,mF,bV,gu,ae,aB,dC,aE,aI,aA,bj,zI,zL,zC,zH,Qa,zA,zB,List.replicate,zD,zG,Nat.reduceAdd,Nat.reduceSub, ↓reduceIte,q]
theorem qC {cs:List (List Int)}{d:PyData}(h:d∈cs.map aJ):∃x∈cs,d=aJ x:=by
 obtain⟨x,hx,e⟩:=Qd.mp h;exact⟨x,hx,e.symm⟩
theorem o6 {α:Type}(enc:α->PyData)(f:PyData->Bool)(q:α->Bool):∀{l:List α},(∀a∈l,f (enc a)=q a)->(l.map enc).filter f=(l.filter q).map enc
 |[],_=>rfl
 |a::r,h=>by
  have ih:=o6 enc f q (l:=r) λx hx=>h x (ke _ hx);rw [zI,List.filter_cons,List.filter_cons,h a lN,ih];cases q a<;>rfl
noncomputable def iE(d:PyData):List Int:=@dite _ (∃x,aJ x=d) (Classical.propDecidable _) (λh=>Classical.choose h) (λ_=>[])
theorem dv(x:List Int):iE (aJ x)=x:=by
 unfold iE;have h:∃y,aJ y=aJ x:=⟨x,rfl⟩;rw [dif_pos h];exact yt (Classical.choose_spec h)
theorem map_id' {l:List PyData}:l.map (λd=>d)=l:=List.map_id l
theorem uT {p c:Int}(h:(p,c)∈bp){cs:List (List Int)}(hc:∀x∈cs,Code p c x)(hl:cs.length<=1000){as:List hU}(ao:∀a∈as,AskOk p c a):
 bL [bY cs,vN as]=some (bY (cs.filter (bq as))):=by
 obtain⟨δ',e1,v3,e2⟩:=cE (fg:=(gN 3)) (fb:=(aY 2 (bP (bE 1 [("ask",3)] (ax (aB 2)) (gN 0) (cP (aE 2 dU (aA (aB 0) (aA (aB 1) aI)))) (aB 0))))) (ds:=as.map aj) (δ:=[some (.fz (.list (cs.map aJ))),some (.fz (.list (as.map aj))),some (.fz (.list (cs.map aJ))),none])
  (λ i δ => ∃ v3, δ = [some (.fz (.list (cs.map aJ))), some (.fz (.list (as.map aj))), some (.fz (.list ((cs.filter (bq (as.take i))).map aJ))), v3]) ⟨none, by
   have:cs.filter (bq (as.take 0))=cs:=List.filter_eq_self.mpr λa _=>rfl;rw [this]⟩ (by
   rintro i hi δ ⟨v3,rfl⟩;have hi':i < as.length:=by simpa using hi
   have ed:(as.map aj)[i]=aj as[i]:=by simp
   have oa:=ao _ (Qc hi');rw [ed];refine⟨_,_,rfl,?_,some (.fz (aj as[i])),rfl⟩;have cx:(bE 1 [("ask",3)] (ax (aB 2)) (gN 0) (cP (aE 2 dU (aA (aB 0) (aA (aB 1) aI)))) (aB 0)) [some (.fz (.list (cs.map aJ))),some (.fz (.list (as.map aj))),some (.fz (.list ((cs.filter (bq (as.take i))).map aJ))),some (.fz (aj as[i]))]=some ((cs.filter (bq (as.take (i+1)))).map aJ):=by
    rw [np (ds:=(cs.filter (bq (as.take i))).map aJ) (λd=>decide (GC.jw (iE d) as[i].1=as[i].2)) (λd=>d) rfl (by
     rw [zJ];exact Q7 (List.length_filter_le _ _) (dW hl)) (λd hd=>?_)]
    · rw [map_id',o6 aJ _ (λx=>decide (GC.jw x as[i].1=as[i].2)) (λx _=>by rw [dv]),List.filter_filter]
      congr 2
      apply List.filter_congr
      intro x _;rw [Ic hi'];simp only [bq,List.all_append,List.all_cons,List.all_nil,Bool.and_true];rw [Bool.and_comm]
    · obtain⟨x,hx,rfl⟩:=qC hd;have q:=rX h (hc x (List.mem_filter.mp hx).1) oa;rw [dv];cases hd':decide (GC.jw x as[i].1=as[i].2)<;>simp only [aB,aE,aI,aA,cP,n9,iJ,gN,zI,zL,zC,zH,Q3,Q2,zA,zB,zE,List.replicate,zD,zG,Nat.reduceAdd, ↓reduceIte,zN,q,hd']
   simp only [aY,bP,zE,zF,zG,cx])
 rw [zJ,Aq]at e2;subst e2;simp only [bL,oY,kK,kJ,kI,bY,vN,bV,gu,aP,aY,ae,bd,aB,ax,jL,bj,zI,zL,zC,zH,Q3,Q2,zA,zB,zE,zF,List.replicate,zD,zG,Nat.reduceAdd,Nat.reduceSub,e1]
theorem jU {p c:Int}(h:(p,c)∈bp):∀x∈aH p c,Code p c x:=λx hx=>gU h hx
theorem iF {p c:Int}(h:(p,c)∈bp){as:List hU}(ao:∀a∈as,AskOk p c a)(al:as.length<=8):aq [aJ [p,c],vN as]=some (bY ((aH p c).filter (bq as))):=by
 have q1:=gM h;have q2:=sD h ao al;have q3:=dq h;have q4:=uT h (jU h) (Q7 (nV h) (by decide)) ao
 simp only [aq,vK,pj,pi,ph,bV,gu,aP,ae,fU,aB,aE,aI,aA,bj,zI,zL,zC,zH,Qa,zA,zB,List.replicate,zD,zG,Nat.reduceAdd,Nat.reduceSub, ↓reduceIte,q1,q2,q3,q4]
theorem IB {a b:List (List Int)}(h:bY a=bY b):a=b:=by
 unfold bY at h;injection h with h
 have:a.map (λx=>iE (aJ x))=b.map (λx=>iE (aJ x)):=by
  have:=congrArg (List.map iE) h
  rwa [zO,zO]at this
 simpa [dv]using this
theorem Cv(a:List (List Int)):nb (bY a)=true:=J5 λd hd=>by
 obtain⟨x,_,rfl⟩:=qC hd;exact xQ x
theorem Cw(a:List (List Int)):okN 2 (bY a):=tG λd hd=>by
 obtain⟨x,_,rfl⟩:=qC hd;exact hZ x
theorem IC(a b:List (List Int)):ou (bY a) (bY b)=some (.bool (decide (a=b))):=by
 rw [BP (Cw a).ok (Cw b).ok];congr 2
 rw [Bool.eq_iff_iff,xP _ _ (Cv a) (Cv b),decide_eq_true_eq];exact⟨IB,λh=>by rw [h]⟩
noncomputable def rY:PyData->Nat
 | .int i=>i.toNat
 |_=>0
noncomputable def cZ(l:List Nat):PyData:=.list (l.map λi:Nat=>PyData.int (i:Int))
theorem xo(a:hU):okN 2 (aj a):=sL λd hd=>by
 have:d=aJ a.1\/d=aJ a.2:=by simpa using hd
 rcases this with rfl|rfl<;>exact hZ _
theorem jq {fg:PyData->aT->Option aT}{fb:aT->Option DFlow}:∀{ds:List PyData} (P:Nat->aT->Prop) (t:Nat->Option PyData) {δ:aT},P 0 δ->
 (∀(i:Nat) (hi:i < ds.length) (δ:aT),P i δ->∃δ1,fg ds[i] δ=some δ1/\((t i=none/\∃δ2,fb δ1=some (.nx δ2)/\P (i+1) δ2)\/∃v,t i=some v/\fb δ1=some (.rt v)))->
 (∃δ',fw fg fb ds δ=some (.nx δ')/\P ds.length δ'/\∀i,i < ds.length->t i=none)\/(∃j v,j < ds.length/\(∀i,i < j->t i=none)/\t j=some v/\fw fg fb ds δ=some (.rt v))
 |[],P,t,δ,h0,_=>.inl ⟨δ,rfl,h0,λi hi=>absurd hi (Nat.not_lt_zero _)⟩
 |d::r,P,t,δ,h0,h=>by
  obtain⟨δ1,e1,q⟩:=h 0 (by simp) δ h0
  have e1':fg d δ=some δ1:=e1
  rcases q with⟨t0,δ2,e2,h1⟩|⟨v,t0,e2⟩
  · have ih:=jq (ds:=r) (fg:=fg) (fb:=fb) (λi=>P (i+1)) (λi=>t (i+1)) h1 λi hi δ hp=>by
     have:=h (i+1) (by simpa using hi) δ hp
     simpa using this
    rcases ih with⟨δ',e3,h3,h4⟩|⟨j,v,hj,h3,h4,e3⟩
    · refine .inl ⟨δ',by rw [oW,e1',zD,e2,zD];exact e3,h3,λi hi=>?_⟩
      cases i with
      |zero=>exact t0
      |succ i=>exact h4 i (by simpa using hi)
    · refine .inr ⟨j+1,v,by simpa using hj,λi hi=>?_,h4,by rw [oW,e1',zD,e2,zD];exact e3⟩
      cases i with
      |zero=>exact t0
      |succ i=>exact h3 i (by omega)
  · exact .inr ⟨0,v,by simp,λi hi=>absurd hi (Nat.not_lt_zero _),t0,by rw [oW,e1',zD,e2,zD]⟩
noncomputable abbrev Cn:=List (List Int×Int)
noncomputable def uU(m:Cn)(k:List Int)(v:Int):Cn:=if k∈m.map (·.1)then m.map (λp=>if p.1=k then(p.1,v)else p)else m++[(k,v)]
noncomputable def AI(m:Cn)(k:List Int):Int:=((m.find? λp=>decide (p.1=k)).map (·.2)).getD 0
noncomputable def hJ(g:List Int)(cs:List (List Int)):Cn:=cs.foldl (λm x=>uU m (GC.jw x g) (AI m (GC.jw x g)+1)) []
noncomputable def xp(m:Cn):Int:=Cf (m.map (·.2)) ((m.map (·.2)).length - 1)
noncomputable def xq(fit:List (List Int))(g:List Int):PyData:=.tuple [.int (xp (hJ g fit)),.bool (!decide (g∈fit)),aJ g]
noncomputable def fE(cs fit:List (List Int)):List Int:=cs.getD (lP (B5 (cs.map (xq fit))) (cs.length - 1)) []
noncomputable def iK(m:Cn):List (PyData×PyData):=m.map λp=>(aJ p.1,.int p.2)
theorem lG(k:List Int):gz (aJ k)=some k:=bn k
theorem ID(m:Cn)(k:List Int)(v:Int):B2 (iK m) k (.int v)=iK (uU m k v):=by
 have any:((iK m).any λp=>decide (gz p.1=some k))=decide (k∈m.map (·.1)):=by
  rw [Bool.eq_iff_iff,List.any_eq_true,decide_eq_true_eq]
  constructor
  · rintro⟨p,hp,e⟩;obtain⟨x,hx,rfl⟩:=Qd.mp hp;have e':=of_decide_eq_true e;rw [lG]at e';cases e';exact zP hx
  · intro h;obtain⟨x,hx,e⟩:=Qd.mp h;exact⟨_,zP hx,decide_eq_true (by rw [<-e];exact lG _)⟩
 have same:((iK m).map λp=>if gz p.1=some k then(p.1,PyData.int v)else p)=iK (m.map λp=>if p.1=k then(p.1,v)else p):=by
  unfold iK;rw [zO,zO];apply Eh
  intro p _;show(if gz (aJ p.1)=some k then(aJ p.1,PyData.int v)else(aJ p.1,.int p.2))=(aJ (if p.1=k then(p.1,v)else p).1,PyData.int (if p.1=k then(p.1,v)else p).2);rw [lG]
  by_cases h:p.1=k
  · rw [if_pos (congrArg some h),if_pos h]
  · rw [if_neg (λz=>h (zV z)),if_neg h]
 unfold B2 uU;rw [any,same]
 by_cases h:k∈m.map (·.1)
 · rw [if_pos (decide_eq_true h),if_pos h]
 · rw [if_neg (by rw [decide_eq_false h];decide),if_neg h]
   simp [iK,aJ]
theorem AJ(m:Cn):MB (iK m)=true:=by
 cases m<;>rfl
theorem IE(m:Cn)(k:List Int):(Cb (iK m) (aJ k)).map (λr=>r.getD (.int 0))=some (.int (AI m k)):=by
 have e:Cb (iK m) (aJ k)=some (((iK m).find? λp=>decide (gz p.1=some k)).map (·.2)):=by
  show((jz (k.map PyData.int)).bind λks=>if MB (iK m)=true then some (((iK m).find? λp=>decide (gz p.1=some ks)).map (·.2))else none)=_
  rw [bn,zD,if_pos (AJ m)]
 rw [e,zG];congr 1
 unfold AI iK;rw [List.find?_map];have f:((λp:PyData×PyData=>decide (gz p.1=some k))∘ λp:List Int×Int=>(aJ p.1,PyData.int p.2))=λp=>decide (p.1=k):=by
  funext p
  show decide (gz (aJ p.1)=some k)=_;rw [lG];exact decide_eq_decide.mpr ⟨zV,congrArg some⟩
 rw [f];cases m.find? λp=>decide (p.1=k)<;>rfl
theorem IF(m:Cn)(k:List Int)(v:Int):(uU m k v).length<=m.length+1:=by
 unfold uU;split<;>simp
theorem AK(m:Cn)(k:List Int)(v:Int){j:List Int}(h:j∈m.map (·.1)\/j=k):j∈(uU m k v).map (·.1):=by
 unfold uU;have same:(m.map λp=>if p.1=k then(p.1,v)else p).map (·.1)=m.map (·.1):=by
  rw [zO];apply Eh
  intro p _;show(if p.1=k then(p.1,v)else p).1=p.1;split<;>rfl
 split
 · rename_i hk;rw [same]
   rcases h with h|h
   · exact h
   · rw [h];exact hk
 · rw [ux]
   rcases h with h|h
   · exact List.mem_append_left _ h
   · exact yI _ (by simp [h])
theorem EI(g:List Int)(cs:List (List Int))(x:List Int):hJ g (cs++[x])=uU (hJ g cs) (GC.jw x g) (AI (hJ g cs) (GC.jw x g)+1):=by
 unfold hJ;rw [List.foldl_append];rfl
theorem qc {g:List Int}:∀(cs:List (List Int)) (m:Cn),(cs.foldl (λm x=>uU m (GC.jw x g) (AI m (GC.jw x g)+1)) m).length<=m.length+cs.length
 |[],m=>Q1 _
 |x::r,m=>by
  have h1:=qc r (uU m (GC.jw x g) (AI m (GC.jw x g)+1)) (g:=g);have h2:=IF m (GC.jw x g) (AI m (GC.jw x g)+1);rw [List.foldl_cons,zC];omega
theorem AL(g:List Int)(cs:List (List Int)):(hJ g cs).length<=cs.length:=by
 have:=qc (g:=g) cs [];simpa [hJ]using this
theorem wW {g:List Int}{j:List Int}:∀(cs:List (List Int)) (m:Cn),(j∈m.map (·.1)\/∃x∈cs,GC.jw x g=j)->j∈(cs.foldl (λm x=>uU m (GC.jw x g) (AI m (GC.jw x g)+1)) m).map (·.1)
 |[],m,h=>by
  rcases h with h|⟨x,hx,_⟩
  · exact h
  · cases hx
 |x::r,m,h=>by
  rw [List.foldl_cons];refine wW r _ ?_
  rcases h with h|⟨y,hy,e⟩
  · exact .inl (AK _ _ _ (.inl h))
  · rcases Q4.mp hy with rfl|hy
    · exact .inl (AK _ _ _ (.inr e.symm))
    · exact .inr ⟨y,hy,e⟩
theorem AM {g x:List Int}{cs:List (List Int)}(h:x∈cs):GC.jw x g∈(hJ g cs).map (·.1):=wW cs [] (.inr ⟨x,h,rfl⟩)
theorem KK {g:List Int}{cs:List (List Int)}(h:cs≠[]):hJ g cs≠[]:=by
 obtain⟨x,r,rfl⟩:=List.exists_cons_of_ne_nil h;intro z;have:=AM (g:=g) (x:=x) (cs:=x::r) lN;rw [z]at this;cases this
theorem wX {cs:List (List Int)}{g:List Int}(hx:∀x∈cs,x.length=g.length)(gl:g.length<=100)(cl:cs.length<=1000):bi [.list (cs.map aJ),aJ g]=some (.dict (iK (hJ g cs))):=by
 obtain⟨δ',e1,v3,v4,e2⟩:=cE (fg:=(gN 3)) (fb:=(aP (aY 4 (aE 2 bS (aA (aB 3) (aA (aB 1) aI)))) (rn 2 (aB 4) (d2 bc (tR 2 (aB 4) (dC (.int 0))) (dC (.int 1)))))) (ds:=cs.map aJ) (δ:=[some (.fz (.list (cs.map aJ))),some (.fz (aJ g)),some (.od []),none,none])
  (λ i δ => ∃ v3 v4, δ = [some (.fz (.list (cs.map aJ))), some (.fz (aJ g)), some (.od (iK (hJ g (cs.take i)))), v3, v4]) ⟨none, none, rfl⟩ (by
   rintro i hi δ ⟨v3,v4,rfl⟩;have hi':i < cs.length:=by simpa using hi
   have ed:(cs.map aJ)[i]=aJ cs[i]:=by simp
   have q1:=iD (hx _ (Qc hi')) (by rw [hx _ (Qc hi')];exact gl)
   have l1:(iK (hJ g (cs.take i))).length < eD:=by
    have:=AL g (cs.take i);rw [iK,zJ];exact lx (show _ < 1001 by rw [At]at this;omega) (by decide)
   refine⟨_,[some (.fz (.list (cs.map aJ))),some (.fz (aJ g)),some (.od (iK (hJ g (cs.take (i+1))))),some (.fz (aJ cs[i])),some (.fz (aJ (GC.jw cs[i] g)))],rfl,?_,_,_,rfl⟩;rw [ed,Ic hi',EI];simp only [aP,aY,aB,dC,d2,aE,aI,aA,kR,rn,tR,Cc,zC,zH,zA,zB,zE,zF,zD,zG,Nat.reduceAdd, ↓reduceIte,q1,IE,ID,lG,AJ,l1])
 rw [zJ,Aq]at e2;subst e2;simp only [bi,nB,jJ,jI,jH,bV,gu,aP,ae,iP,bd,aB,ax,jL,DL.frz,bj,tQ,zI,zL,zC,zH,Q3,Q2,zA,zB,zE,zF,List.replicate,zD,zG,Nat.reduceAdd,Nat.reduceSub,e1]
theorem o8:∀m:Cn,jd (iK m)=some (m.map (·.2))
 |[]=>rfl
 |p::r=>by
  show(jd (iK r)).map (p.2:: ·)=_
  rw [o8 r];rfl
theorem wY:∀m:Cn,mB (iK m)=some (m.map (·.1))
 |[]=>rfl
 |p::r=>by
  show(gz (aJ p.1)).bind (λk=>(mB (iK r)).map (k:: ·))=_
  rw [lG,wY r];rfl
theorem AN(g:List Int)(cs:List (List Int))(neg:Bool):Ii neg (aJ g) (.list (cs.map aJ))=some (.bool (if neg=true then !decide (g∈cs)else decide (g∈cs))):=by
 have o2:(qL (aJ g)&&(cs.map aJ).all qL)=true:=by
  rw [Q5,Q9];refine⟨(hZ _).ok,λd hd=>?_⟩;obtain⟨a,_,rfl⟩:=Qd.mp hd;exact(hZ _).ok
 have an:((cs.map aJ).any λe=>PyData.eqv e (aJ g))=decide (g∈cs):=by
  rw [Bool.eq_iff_iff,List.any_eq_true,decide_eq_true_eq]
  constructor
  · rintro⟨d,hd,e⟩;obtain⟨a,ha,rfl⟩:=Qd.mp hd;rw [iw]at e;rw [<-of_decide_eq_true e];exact ha
  · intro h;exact⟨_,zP h,by rw [iw];exact decide_eq_true rfl⟩
 simp only [Ii,jL,zD,o2,an, ↓reduceIte]
theorem IG(fit:List (List Int))(g:List Int):qL (xq fit g)=true:=(sL (n:=1) λd hd=>by
 rcases Q4.mp hd with rfl|hd
 · exact⟨(io _).1,by have:=(io (xp (hJ g fit))).2;omega⟩
 · rcases Q4.mp hd with rfl|hd
   · exact⟨(yr _).1,by have:=(yr (!decide (g∈fit))).2;omega⟩
   · rcases Q4.mp hd with rfl|hd
     · exact hZ g
     · cases hd).ok
theorem IH(fit:List (List Int))(a b:List Int):(L2.nn (xq fit a) (xq fit b)).isSome=true:=by
 unfold xq;rw [L2.nn,L2.ltL,L2.ltL,L2.ltL];split
 · split
   · split
     · rfl
     · rw [pL];rfl
   · rfl
 · rfl
theorem KL {fit:List (List Int)}{g:List Int}(hx:∀x∈fit,x.length=g.length)(gl:g.length<=100)(cl:fit.length<=1000)(hne:fit≠[]):dn [.list (fit.map aJ),aJ g]=some (.int (xp (hJ g fit))):=by
 have q1:=wX hx gl cl;have q2:Gy (.dict (iK (hJ g fit)))=some (.int (xp (hJ g fit))):=by
  show(jd (iK (hJ g fit))).bind _=_;rw [o8,zD,if_neg]
  · rfl
  · have:=KK (g:=g) hne;cases h:hJ g fit with
    |nil=>exact absurd h this
    |cons _ _=>exact Q8
 simp only [dn,vL,pz,bV,gu,ae,aB,aE,aI,aA,bj,zI,zL,zC,zH,Qa,zA,zB,List.replicate,zD,zG,Nat.reduceAdd,Nat.reduceSub, ↓reduceIte,Ch,q1,q2]
theorem Cy {fk:PyData->Option PyData}{q:List Int->PyData}:∀{cs:List (List Int)},(∀x∈cs,fk (aJ x)=some (q x))->Gu fk (cs.map aJ)=some (cs.map q)
 |[],_=>rfl
 |x::r,h=>by
  show(fk (aJ x)).bind (λk=>(Gu fk (r.map aJ)).bind λks=>some (k::ks))=_;rw [h x lN,Cy λy hy=>h y (ke _ hy)];rfl
theorem Cz(cs fit:List (List Int))(hne:cs≠[]):lP (B5 (cs.map (xq fit))) (cs.length - 1) < cs.length:=by
 have:=tS (B5 (cs.map (xq fit))) (cs.length - 1);have:0 < cs.length:=List.length_pos_iff.mpr hne;omega
theorem EJ {cs fit:List (List Int)}(hne:cs≠[]):fE cs fit∈cs:=by
 have h:=Cz cs fit hne;unfold fE;rw [iI,cY h];exact Qc h
theorem Bn {cs fit:List (List Int)}{n:Nat}(hc:∀x∈cs,x.length=n)(hf:∀x∈fit,x.length=n)(hn:n<=100)(fl:fit.length<=1000)(hne:cs≠[])(hfe:fit≠[]):jf [.list (cs.map aJ),.list (fit.map aJ)]=some (aJ (fE cs fit)):=by
 have ky:=Cy (fk:=λx=>(dE (aA (aE 2 dn (aA (aB 1) (aA (aB 0) aI))) (aA (d2 (Ii true) (aB 0) (aB 1)) (aA (aB 0) aI)))) (gu 2 [x,.list (fit.map aJ)])) (q:=xq fit) (cs:=cs) λg hg=>by
  have q1:=KL (g:=g) (λx hx=>by rw [hf x hx,hc g hg]) (by rw [hc g hg];exact hn) fl hfe
  have q2:=AN g fit true;have l3:(3:Nat)<=eD:=dW (by decide)
  simp only [gu,aB,d2,aE,aI,aA,dE,zI,zL,zC,zH,Qa,zA,zB,List.replicate,zD,Nat.reduceAdd,Nat.reduceSub, ↓reduceIte,gu,zI,zL,q1,q2,l3,xq]
 have mk:Gv (λx=>(dE (aA (aE 2 dn (aA (aB 1) (aA (aB 0) aI))) (aA (d2 (Ii true) (aB 0) (aB 1)) (aA (aB 0) aI)))) (gu 2 [x,.list (fit.map aJ)])) (cs.map aJ)=some (aJ (fE cs fit)):=by
  unfold Gv;rw [ky,zD,if_pos]
  · have h:=Cz cs fit hne;rw [zJ,zK,cY h];unfold fE;rw [iI,cY h];rfl
  · rw [Q5,Q5];refine⟨⟨?_,?_⟩,?_⟩
    · cases cs with
      |nil=>exact absurd rfl hne
      |cons _ _=>rfl
    · rw [Q9];intro d hd;obtain⟨x,_,rfl⟩:=Qd.mp hd;exact IG fit x
    · rw [Q9];intro d hd;rw [Q9];intro e he;obtain⟨x,_,rfl⟩:=Qd.mp hd;obtain⟨y,_,rfl⟩:=Qd.mp he;exact IH fit x y
 have go:(Ce (aB 0) [("fitting",1)] (dE (aA (aE 2 dn (aA (aB 1) (aA (aB 0) aI))) (aA (d2 (Ii true) (aB 0) (aB 1)) (aA (aB 0) aI))))) [some (.fz (.list (cs.map aJ))),some (.fz (.list (fit.map aJ)))]=some (aJ (fE cs fit)):=mk;simp only [jf,AF,uL,bV,gu,ae,bj,zI,zL,zC,zH,Qa,List.replicate,zD,zG,Nat.reduceAdd,Nat.reduceSub,gu,go]
theorem gD {p c:Int}{x:List Int}(h:Code p c x):x.length=p.toNat:=by have:=h.len;omega
theorem sM {m:Cn}(h2:m.length < 64):Bb (.dict (iK m))=some (.list ((pN m).map kF)):=by
 show(mB (iK m)).bind (λks=>(jd (iK m)).bind λns=>if decide (ks.length < 64)=true then some (PyData.list ((pN (ks.zip ns)).map kF))else none)=_;rw [wY,o8,zD,zD,if_pos]
 · rw [List.zip_map'];have:m.map (λx=>(x.1,x.2))=m:=List.map_id m;rw [this]
 · rw [zJ];exact decide_eq_true h2
theorem II {p c:Int}(h:(p,c)∈bp){as:List hU}(ao:∀a∈as,AskOk p c a)(al:as.length<=8){g:List Int}(cg:Code p c g)(h2:(hJ g ((aH p c).filter (bq as))).length < 64):
 fZ [aJ [p,c],.list (as.map aj),aJ g]=some (.list ((pN (hJ g ((aH p c).filter (bq as)))).map kF)):=by
 have b:=dQ h;have q1:aq [aJ [p,c],.list (as.map aj)]=some (.list (((aH p c).filter (bq as)).map aJ)):=iF h ao al;have q2:=mL h cg;have lg:=gD cg;have q3:=wX (cs:=(aH p c).filter (bq as)) (g:=g) (λx hx=>by rw [lg,gD (gU h (List.mem_filter.mp hx).1)]) (by omega) (Q7 (List.length_filter_le _ _) (Q7 (nV h) (by decide)))
 have q4:=sM h2;simp only [fZ,EG,AD,AC,AB,bV,gu,aP,aY,ae,fU,aB,aE,aI,aA,bj,zI,zL,zC,zH,Q3,Q2,zA,zB,zE,zF,List.replicate,zD,zG,Nat.reduceAdd,Nat.reduceSub, ↓reduceIte,xZ,q1,q2,q3,q4]
noncomputable def mR(gs:List (List Int))(x:List Int):List (List Int):=gs.map λg=>GC.jw x g
noncomputable def gW(f:List Int->List (List Int)):List (List Int)->Option hU
 |[]=>none
 |c::r=>match r.find? (λd=>decide (f d=f c))with
  |some d=>some (c,d)
  |none=>gW f r
noncomputable def EK:Option hU->PyData
 |none=>.none
 |some a=>aj a
theorem vO {p c:Int}(hp:p<=4){x:List Int}(cx:Code p c x){gs:List (List Int)}(cg:∀g∈gs,Code p c g)(hl:gs.length<=1000):d8 [aJ x,bY gs]=some (.tuple ((mR gs x).map aJ)):=by
 have l1:(gs.map aJ).length<=eD:=by rw [zJ];exact dW hl
 have l2:((mR gs x).map aJ).length<=eD:=by rw [zJ,mR,zJ];exact dW hl
 have mm:(bE 1 [("code",0)] (ax (aB 1)) (gN 0) cM (aE 2 bS (aA (aB 1) (aA (aB 0) aI)))) [some (.fz (aJ x)),some (.fz (.list (gs.map aJ)))]=some ((mR gs x).map aJ):=by
  rw [dL (ds:=gs.map aJ) (λd=>aJ (GC.jw x (iE d))) rfl l1 (λd hd=>?_)]
  · rw [mR,zO,zO];congr 1
    apply Eh
    intro g _;show aJ (GC.jw x (iE (aJ g)))=aJ (GC.jw x g);rw [dv]
  · obtain⟨g,hg,rfl⟩:=qC hd;have q1:=cx.len;have q2:=(cg g hg).len;have q:=iD (a:=x) (b:=g) (by omega) (by omega)
    rw [dv];simp only [aB,aE,aI,aA,iJ,cM,gN,zI,zL,zC,zH,Q3,Q2,zA,zB,zE,List.replicate,zD,zG,Nat.reduceAdd, ↓reduceIte,q]
 simp only [d8,uM,oC,bY,bV,gu,ae,bJ,aI,aA,bP,bj,yq,zI,zL,zC,zH,Qa,List.replicate,zD,zG,Nat.reduceAdd,Nat.reduceSub,mm]
noncomputable def prs(f:List Int->List (List Int)):List (List Int)->List (List Int)->List hU
 |_,[]=>[]
 |pre,c::r=>(match pre.find? (λd=>decide (f d=f c))with|some d=>[(d,c)]|none=>[])++prs f (pre++[c]) r
theorem uV:∀k:List (List Int),qd (k.map aJ)=some k
 |[]=>rfl
 |x::k=>by
  show(gz (aJ x)).bind (λz=>(qd (k.map aJ)).map (z:: ·))=_
  rw [uV k,show gz (aJ x)=some x from bn x]
  rfl
noncomputable abbrev En:=List (List (List Int)×List Int)
noncomputable def AO(e:List (List Int)×List Int):List (List Int)×PyData:=(e.1,aJ e.2)
theorem EL(es:En)(k:List (List Int)):(es.map AO).find? (λe=>decide (e.1=k))=(es.find? λe=>decide (e.1=k)).map AO:=by
 rw [List.find?_map];rfl
theorem uW {f:List Int->List (List Int)}{fy:aT->Option PyData}{A G:PyData}:
 ∀(cs:List (List Int)),(∀c∈cs,∀v5:Option Sl,fy [some (.fz A),some (.fz G),none,none,some (.fz (aJ c)),v5]=some (.tuple ((f c).map aJ)))->∀(pre:List (List Int)) (es:En) (ps:List hU) (v4 v5:Option Sl),es.length+cs.length<=1000->ps.length+cs.length<=1000->(∀k,(es.find? λe=>decide (e.1=k)).map (·.2)=pre.find? λd=>decide (f d=k))->
  ∃w4 w5,nu fy 4 5 3 (cs.map aJ) [some (.fz A),some (.fz G),none,none,v4,v5] (es.map AO) (ps.map aj)=some [some (.fz A),some (.fz G),none,some (.ow ((ps++prs f pre cs).map aj)),w4,w5]
 |[],_,pre,es,ps,v4,v5,_,_,_=>⟨v4,v5,by rw [prs,Qa];rfl⟩
 |c::cs,hy,pre,es,ps,v4,v5,l1,l2,hk=>by
  rw [zC]at l1 l2;have lt:∀{n:Nat},n<=1000->n < eD:=λh=>Il h (by decide)
  have c1:(decide ((es.map AO).length < eD)&&decide ((ps.map aj).length < eD)&&LB (aJ c))=true:=by
   rw [zJ,zJ,decide_eq_true (lt (show es.length<=1000 by omega)),decide_eq_true (lt (show ps.length<=1000 by omega))]
   rfl
  have ky:HW (.tuple ((f c).map aJ))=some (f c):=uV _;rw [zI,nu];simp only [zF,zE,hy c lN,zD,ky,c1,if_true,EL];cases hf:es.find? λe=>decide (e.1=f c)with
  |some e=>
   have hp:=hk (f c);rw [hf]at hp;have hp:some e.2=pre.find? λd=>decide (f d=f c):=hp;obtain⟨w4,w5,q⟩:=uW cs (λx hx=>hy x (ke _ hx)) (pre++[c]) es (ps++[(e.2,c)]) (some (.fz (aJ c))) (some (.fz (.tuple ((f c).map aJ)))) (by omega) (by rw [zQ,LF];omega) (λk=>by
    rw [hk k,List.find?_append]
    by_cases z:f c=k
    · rw [<-z, <-hp];rfl
    · rw [Ed (by simpa using z),List.find?_nil,Option.or_none])
   refine⟨w4,w5,?_⟩;rw [prs, <-hp, <-List.append_assoc];show nu fy 4 5 3 (cs.map aJ) _ (es.map AO) (ps.map aj++[.tuple [aJ e.2,aJ c]])=_;rw [show ps.map aj++[.tuple [aJ e.2,aJ c]]=(ps++[(e.2,c)]).map aj by rw [ux];rfl]
   exact q
  |none=>
   have hp:=hk (f c);rw [hf]at hp;have hp:none=pre.find? λd=>decide (f d=f c):=hp;obtain⟨w4,w5,q⟩:=uW cs (λx hx=>hy x (ke _ hx)) (pre++[c]) (es++[(f c,c)]) ps (some (.fz (aJ c))) (some (.fz (.tuple ((f c).map aJ)))) (by rw [zQ,LF];omega) (by omega) (λk=>by
    rw [List.find?_append,List.find?_append]
    by_cases z:f c=k
    · rw [<-z,hf, <-hp,Ie (by simp),Ie (by simp)];rfl
    · rw [Ed (by simpa using z),Ed (by simpa using z),List.find?_nil,List.find?_nil,Option.or_none,Option.or_none]
      exact hk k)
   refine⟨w4,w5,?_⟩;rw [prs, <-hp,Q2];show nu fy 4 5 3 (cs.map aJ) _ (es.map AO++[(f c,aJ c)]) (ps.map aj)=_;rw [show es.map AO++[(f c,aJ c)]=(es++[(f c,c)]).map AO by rw [ux];rfl]
   exact q
theorem DA {f:List Int->List (List Int)}{b:hU}:∀{cs pre:List (List Int)},b∈prs f pre cs->(b.1∈pre\/b.1∈cs)/\b.2∈cs/\f b.1=f b.2
 |[],pre,h=>by cases h
 |c::r,pre,h=>by
  rw [prs]at h
  rcases CD.mp h with h|h
  · cases hf:pre.find? λd=>decide (f d=f c)with
    |none=>rw [hf]at h;cases h
    |some d=>
     rw [hf]at h;have:b=(d,c):=by simpa using h
     subst this;have q:=List.find?_some hf;exact⟨.inl (zR hf),lN,by simpa using q⟩
  · obtain⟨h1,h2,h3⟩:=DA h;refine⟨?_,ke _ h2,h3⟩
    rcases h1 with h1|h1
    · rcases CD.mp h1 with h1|h1
      · exact .inl h1
      · rw [Qf.mp h1];exact .inr lN
    · exact .inr (ke _ h1)
theorem DB {f:List Int->List (List Int)}{c d:List Int}(hd:f d=f c):∀{r pre:List (List Int)},d∈r->(c,d)∈prs f (c::pre) r
 |x::r,pre,h=>by
  rw [prs]
  by_cases z:d=x
  · subst z;rw [Ie (by simpa using hd.symm)]
    exact List.mem_append_left _ (by simp)
  · have:d∈r:=by
     rcases Q4.mp h with h|h
     · exact absurd h z
     · exact h
    exact yI _ (DB hd (pre:=pre++[x]) this)
theorem uX {f:List Int->List (List Int)}{c:List Int}:∀{r pre:List (List Int)},(∀d∈r,f d≠f c)->prs f (c::pre) r=prs f pre r
 |[],pre,_=>rfl
 |x::r,pre,h=>by
  rw [prs,prs,Ed (by simpa using λz=>h x lN z.symm),Q3,uX λd hd=>h d (ke _ hd)]
noncomputable def vC(a b:hU):Bool:=if a.1=b.1 then cT a.2 b.2 else cT a.1 b.1
theorem AQ {f:List Int->List (List Int)}:∀{cs:List (List Int)},gW f cs=none->prs f [] cs=[]
 |[],_=>rfl
 |c::r,h=>by
  rw [gW]at h;cases hf:r.find? λd=>decide (f d=f c)with
  |some d=>rw [hf]at h;cases h
  |none=>
   rw [hf]at h;rw [prs,List.find?_nil,Q2,Q2,uX λd hd=>by simpa using List.find?_eq_none.mp hf d hd]
   exact AQ h
theorem AR {f:List Int->List (List Int)}{a:hU}:∀{cs:List (List Int)},cs.Pairwise (λx y=>cT x y=true)->gW f cs=some a->a∈prs f [] cs/\∀b∈prs f [] cs,b=a\/vC a b=true
 |c::r,so,h=>by
  rw [gW]at h;obtain⟨so1,so2⟩:=DK.mp so;cases hf:r.find? λd=>decide (f d=f c)with
  |some d=>
   rw [hf]at h;cases h;have hd:f d=f c:=by simpa using List.find?_some hf
   rw [prs,List.find?_nil,Q2,Q2];refine⟨DB hd (zR hf),λb hb=>?_⟩;obtain⟨h1,h2,h3⟩:=DA hb;have hc:b.1=c\/b.1∈r:=by
    rcases h1 with h1|h1
    · exact .inl (Qf.mp h1)
    · exact .inr h1
   obtain⟨b1,b2⟩:=b
   rcases hc with hc|hc
   · have hc:b1=c:=hc;subst hc;have h3:f b1=f b2:=h3;obtain⟨as,bs,e1,e2⟩:=List.find?_eq_some_iff_append.mp hf |>.2
     rw [e1]at h2 so2
     rcases CD.mp h2 with h2|h2
     · have:=e2 b2 h2;rw [<-h3]at this;simp at this
     · rcases Q4.mp h2 with h2|h2
       · have h2:b2=d:=h2;rw [h2];exact .inl rfl
       · refine .inr ?_;unfold vC;rw [if_pos rfl];exact(DK.mp (List.pairwise_append.mp so2).2.1).1 _ h2
   · refine .inr ?_;have q:=so1 b1 hc;unfold vC
     by_cases z:c=b1
     · rw [<-z,DL.gA]at q;cases q
     · rw [if_neg z];exact q
  |none=>
   rw [hf]at h;rw [prs,List.find?_nil,Q2,Q2,uX λd hd=>by simpa using List.find?_eq_none.mp hf d hd]
   exact AR so2 h
theorem AS(a b:hU):L2.nn (aj a) (aj b)=some (vC a b):=by
 show L2.ltL [aJ a.1,aJ a.2] [aJ b.1,aJ b.2]=_;unfold vC;rw [L2.ltL,iw]
 by_cases h:a.1=b.1
 · rw [if_pos h,if_pos (decide_eq_true h),L2.ltL,iw]
   by_cases h2:a.2=b.2
   · rw [if_pos (decide_eq_true h2),h2,DL.gA];rfl
   · rw [if_neg (by simpa using h2),pL]
 · rw [if_neg h,if_neg (by simpa using h),pL]
theorem DC {lt:Nat->Nat->Bool}{ds:List hU}{a:hU}(hl:∀i j x y,ds[i]? =some x->ds[j]? =some y->lt i j=vC x y)(h:∀b∈ds,b=a\/(vC a b=true/\vC b a=false))(irr:vC a a=false):
 ∀n,n < ds.length->a∈ds.take (n+1)->ds[lP lt n]? =some a
 |0,hn,ha=>by
  have e:ds.take 1=[ds[0]]:=by
   cases ds with
   |nil=>exact absurd hn (zT 0)
   |cons _ _=>rfl
  rw [e]at ha;show ds[0]? =some a;rw [cY hn,Qf.mp ha]
 |n+1,hn,ha=>by
  have hn':n < ds.length:=by omega
  have en:ds[n+1]? =some ds[n+1]:=cY hn;have hm:lP lt n < ds.length:=Il (tS lt n) hn';have em:ds[lP lt n]? =some ds[lP lt n]:=cY hm;have hlt:=hl (n+1) (lP lt n) _ _ en em
  by_cases hp:a∈ds.take (n+1)
  · have ih:=DC hl h irr n hn' hp;have e:ds[lP lt n]=a:=by rw [em]at ih;exact zV ih
    rw [e]at hlt;have no:lt (n+1) (lP lt n)=false:=by
     rw [hlt]
     rcases h ds[n+1] (Qc _)with z|z
     · rw [z];exact irr
     · exact z.2
    rw [lP,if_neg (by rw [no];exact Q8)]
    exact ih
  · have e:ds[n+1]=a:=by
     rw [Ic hn]at ha
     rcases CD.mp ha with z|z
     · exact absurd z hp
     · exact(Qf.mp z).symm
    have ne:ds[lP lt n]≠a:=λz=>hp (by
     rw [<-z];exact List.mem_take_iff_getElem.mpr ⟨lP lt n,by have:=tS lt n;omega,rfl⟩)
    have yes:lt (n+1) (lP lt n)=true:=by
     rw [hlt,e]
     rcases h ds[lP lt n] (Qc _)with z|z
     · exact absurd z ne
     · exact z.1
    rw [lP,if_pos yes,en,e]
theorem MS {a b:hU}(h:vC a b=true):vC b a=false:=by
 unfold vC at h ⊢;have as:∀{x y:List Int},cT x y=true->cT y x=false:=λ{x y} q=>by
  cases z:cT y x with
  |false=>rfl
  |true=>
   have:=kC x y x q z;rw [DL.gA]at this;cases this
 by_cases e:a.1=b.1
 · rw [if_pos e]at h;rw [if_pos e.symm];exact as h
 · rw [if_neg e]at h;rw [if_neg (λz=>e z.symm)];exact as h
theorem MT {ps:List hU}{a:hU}(ha:a∈ps)(h:∀b∈ps,b=a\/vC a b=true):zn [.list (ps.map aj)]=some (aj a):=by
 have irr:vC a a=false:=by unfold vC;rw [if_pos rfl];exact DL.gA _
 obtain⟨p0,pr,ep⟩:∃p0 pr,ps=p0::pr:=by
  cases ps with
  |nil=>cases ha
  |cons p r=>exact⟨p,r,rfl⟩
 have e1:zn [.list (ps.map aj)]=Jm [.list (ps.map aj)]:=by rw [ep];rfl
 have c:(!(ps.map aj).isEmpty&&(ps.map aj).all qL&&(ps.map aj).all (λa=>(ps.map aj).all λb=>(L2.nn a b).isSome))=true:=by
  rw [Q5,Q5];refine⟨⟨by rw [ep];rfl,Q9.mpr λd hd=>?_⟩,Q9.mpr λd hd=>Q9.mpr λd' hd'=>?_⟩
  · obtain⟨b,_,rfl⟩:=Qd.mp hd;exact(xo b).ok
  · obtain⟨b,_,rfl⟩:=Qd.mp hd;obtain⟨b',_,rfl⟩:=Qd.mp hd';rw [AS];rfl
 rw [e1,Jm,if_pos c,zJ];have pos:0 < ps.length:=by rw [ep];exact Nat.succ_pos _
 have q:=DC (lt:=λi j=>(L2.nn ((ps.map aj).getD i .none) ((ps.map aj).getD j .none)).getD false) (ds:=ps) (a:=a) (λi j x y hx hy=>by
  show(L2.nn ((ps.map aj).getD i .none) ((ps.map aj).getD j .none)).getD false=_;rw [iI,iI,zK,zK,hx,hy];show(L2.nn (aj x) (aj y)).getD false=_;rw [AS];rfl) (λb hb=>(h b hb).imp id λz=>⟨z,MS z⟩) irr (ps.length - 1) (by omega) (by rw [Nat.sub_add_cancel pos,Aq];exact ha)
 rw [zK,q];rfl
theorem uY {p c:Int}(hp:p<=4){cs gs:List (List Int)}(cc:∀x∈cs,Code p c x)(cl:cs.length<=500)(so:cs.Pairwise λx y=>cT x y=true)(cg:∀g∈gs,Code p c g)(hl:gs.length<=1000):
 cQ [bY cs,bY gs]=some (EK (gW (mR gs) cs)):=by
 obtain⟨w4,w5,q⟩:=uW (f:=mR gs) (fy:=(aE 2 d8 (aA (aB 4) (aA (aB 1) aI)))) (A:=bY cs) (G:=bY gs) cs (λx hx v5=>by
  have e:=vO hp (cc x hx) cg hl;simp only [aB,aE,aI,aA,zC,zH,zA,zB,zD,Nat.reduceAdd, ↓reduceIte,e]) [] [] [] none none (by simp;omega) (by simp;omega) (λk=>rfl)
 have q:nu (aE 2 d8 (aA (aB 4) (aA (aB 1) aI))) 4 5 3 (cs.map aJ) [some (.fz (.list (cs.map aJ))),some (.fz (.list (gs.map aJ))),none,none,none,none] [] []=some [some (.fz (.list (cs.map aJ))),some (.fz (.list (gs.map aJ))),none,some (.ow ((prs (mR gs) [] cs).map aj)),w4,w5]:=q;have fz:∀d1 d2:PyData,kS [some (.fz d1),some (.fz d2),none,none,none,none]=true:=λ_ _=>rfl;have d5:∀n:Nat,n < 6->decide (n < 6)=true:=λn h=>decide_eq_true h;have m:(zn [.list ((prs (mR gs) [] cs).map aj)])=some (EK (gW (mR gs) cs)):=by
  cases ha:gW (mR gs) cs with
  |none=>rw [AQ ha];rfl
  |some a=>
   obtain⟨h1,h2⟩:=AR so ha;exact MT h1 h2
 simp only [cQ,sB,nE,nC,bY,pO,bV,gu,aB,ax,jL,zI,zL,zC,zH,Q3,Q2,zA,zE,zF,List.replicate,zD,Nat.reduceAdd,Nat.reduceSub,Bool.true_and,fz];rw [if_pos (show(decide (4 < 6)&&decide (5 < 6)&&decide (2 < 6)&&decide (3 < 6))=true by decide),q]
 simp only [Cr,ae,iP,aB,aI,aA,DL.frz,bj,zA,zB,zE,zF,zD,zG,m]
noncomputable def xr(ks:List (List Int))(k:List Int):List (List Int):=if k∈ks then ks else ks++[k]
noncomputable def fF(ks l:List (List Int)):List (List Int):=l.foldl xr ks
noncomputable def kX(ks:List (List Int)):List (PyData×PyData):=ks.map λk=>(aJ k,.bool true)
theorem nX(k:List Int):gz (aJ k)=some k:=bn k
theorem IJ(ks:List (List Int))(k:List Int):B2 (kX ks) k (.bool true)=kX (xr ks k):=by
 have any:((kX ks).any λp=>decide (gz p.1=some k))=decide (k∈ks):=by
  rw [Bool.eq_iff_iff,List.any_eq_true,decide_eq_true_eq]
  constructor
  · rintro⟨p,hp,e⟩;obtain⟨x,hx,rfl⟩:=Qd.mp hp;have e':=of_decide_eq_true e;rw [nX]at e';cases e';exact hx
  · intro h;exact⟨_,Qd.mpr ⟨k,h,rfl⟩,decide_eq_true (nX k)⟩
 have same:((kX ks).map λp=>if gz p.1=some k then(p.1,PyData.bool true)else p)=kX ks:=by
  conv=>rhs;rw [<-List.map_id (kX ks)]
  apply Eh
  intro p hp;obtain⟨x,_,rfl⟩:=Qd.mp hp;show(if _ then _ else _)=_;split<;>rfl
 unfold B2 xr;rw [any,same]
 by_cases h:k∈ks
 · rw [if_pos (decide_eq_true h),if_pos h]
 · rw [if_neg (by rw [decide_eq_false h];decide),if_neg h]
   simp [kX,aJ]
theorem KM {ks:List (List Int)}(k:List Int)(h:ks.Nodup):(xr ks k).Nodup:=by
 unfold xr;split
 · exact h
 · rename_i n;rw [List.nodup_append];refine⟨h,by simp,λa ha b hb e=>?_⟩
   rw [Qf]at hb;exact n (by rw [<-hb, <-e];exact ha)
theorem AT:∀{l ks:List (List Int)},ks.Nodup->(fF ks l).Nodup
 |[],ks,h=>h
 |k::l,ks,h=>AT (l:=l) (KM k h)
theorem EM {l ks:List (List Int)}:(fF ks l).length<=ks.length+l.length:=by
 induction l generalizing ks with
 |nil=>exact Q1 _
 |cons k l ih=>
  refine Q7 (ih (ks:=xr ks k)) ?_;have:(xr ks k).length<=ks.length+1:=by
   unfold xr;split
   · omega
   · simp
  rw [zC];omega
theorem Bo(ks l:List (List Int))(k:List Int):fF ks (l++[k])=xr (fF ks l) k:=by simp [fF,List.foldl_append]
theorem wZ:∀ks:List (List Int),mB (kX ks)=some ks
 |[]=>rfl
 |k::r=>by
  show(gz (aJ k)).bind (λk=>(mB (kX r)).map (k:: ·))=_
  rw [nX,wZ r];rfl
theorem EN {ks:List (List Int)}(h1:∀k∈ks,k≠[])(h2:2<=ks.length)(h3:ks.length < 64)(nd:ks.Nodup):zZ [.dict (kX ks)]=some (bY (iL ks)):=by
 have a1:(ks.all λk=> !k.isEmpty)=true:=by
  rw [Q9];intro k hk;cases k with
  |nil=>exact absurd rfl (h1 _ hk)
  |cons _ _=>rfl
 show((mB (kX ks)).bind λks=>if(ks.all (λk=> !k.isEmpty)&&decide (ks.length < 64)&&decide ks.Nodup)=true then some (PyData.list ((iL ks).map λk=>PyData.tuple (k.map PyData.int)))else none)=_;rw [wZ,zD,a1,decide_eq_true h3,decide_eq_true nd];rfl
theorem EO(a:List (List Int)):(iL a).length=a.length:=(List.mergeSort_perm a Gd).length_eq
theorem IK(ks:List (List Int)):MB (kX ks)=true:=by
 cases ks<;>rfl
noncomputable def jr(cs:List (List Int))(i:Nat):List (List Int):=(List.range i).flatMap λk=>(cs.drop k).map λy=>GC.jw (cs.getD k []) y
theorem KO {cs:List (List Int)}{i:Nat}(h:i < cs.length):cs.getD i []=cs[i]:=by rw [iI,cY h];rfl
theorem EQ {cs:List (List Int)}{i:Nat}(h:i < cs.length):jr cs (i+1)=jr cs i++(cs.drop i).map λy=>GC.jw cs[i] y:=by
 unfold jr;rw [List.range_succ,List.flatMap_append,List.flatMap_singleton,KO h]
theorem AU {f:Nat->List (List Int)}{m:Nat}(h:∀k,(f k).length<=m):∀i,((List.range i).flatMap f).length<=i*m
 |0=>by simp
 |i+1=>by
  rw [List.range_succ,List.flatMap_append,List.flatMap_singleton,zQ,Nat.succ_mul];have:=AU h i;have:=h i;omega
theorem OD {p c:Int}(h:(p,c)∈bp):(aH p c).length<=81:=by
 unfold aH;rw [fD]
 rcases nF h with⟨rfl,rfl⟩|⟨rfl,rfl⟩|⟨rfl,rfl⟩|⟨rfl,rfl⟩|⟨rfl,rfl⟩|⟨rfl,rfl⟩|⟨rfl,rfl⟩|⟨rfl,rfl⟩|⟨rfl,rfl⟩<;>decide
theorem KP {ks:List (List Int)}(h:ks.length < eD):(kX ks).length < eD:=by unfold kX;rw [zJ];exact h
theorem MU {i n:Nat}(hi:i<=81)(hn:n<=81):i*n<=6561:=Q7 (Nat.mul_le_mul hi hn) (by decide)
theorem IL {cs:List (List Int)}{i:Nat}(h:i<=cs.length):rj (cs.map aJ) (some (i:Int)) none=(cs.drop i).map aJ:=by
 have s1:HT.ff cs.length 0 (some (i:Int))=i:=by
  show(if(i:Int) < 0 then((i:Int)+(cs.length:Int)).toNat else min (i:Int).toNat cs.length)=i;rw [if_neg (by omega)];omega
 unfold rj;rw [zJ,s1,HT.sW, <-List.map_drop, <-List.map_take,List.take_of_length_le (by rw [List.length_drop];omega)]
theorem IM {p c:Int}(h:(p,c)∈bp)(s0:Option Sl):∃v3 v4 v5,fw ((gT 2 (gC (gN 3) (gC (gN 4) gZ)))) ((bd (ax (Dd (aB 1) (kz (aB 3)) fL)) (gN 5) (rn 2 (aE 2 bS (aA (aB 4) (aA (aB 5) aI))) (dC (.bool true))))) (ga ((aH p c).map aJ)) [s0,some (.fz (bY (aH p c))),some (.od []),none,none,none]=
 some (.nx [s0,some (.fz (bY (aH p c))),some (.od (kX (fF [] (jr (aH p c) (aH p c).length)))),v3,v4,v5]):=by
 have g:=dQ h;have l81:=OD h;have wl:∀i,i<=(aH p c).length->(jr (aH p c) i).length<=6561:=λi hi=>Q7 (AU (m:=(aH p c).length) (λk=>by rw [zJ,List.length_drop];omega) i) (MU (by omega) l81)
 have inner:∀(i:Nat) (hi:i < (aH p c).length) (v5:Option Sl),∃w5,fw ((gN 5)) ((rn 2 (aE 2 bS (aA (aB 4) (aA (aB 5) aI))) (dC (.bool true)))) (((aH p c).drop i).map aJ) [s0,some (.fz (bY (aH p c))),some (.od (kX (fF [] (jr (aH p c) i)))),some (.fz (.int (i:Nat))),some (.fz (aJ (aH p c)[i])),v5]=
  some (.nx [s0,some (.fz (bY (aH p c))),some (.od (kX (fF [] (jr (aH p c) (i+1))))),some (.fz (.int (i:Nat))),some (.fz (aJ (aH p c)[i])),w5]):=by
  intro i hi v5;obtain⟨δ',e1,w5,e2⟩:=cE (fg:=(gN 5)) (fb:=(rn 2 (aE 2 bS (aA (aB 4) (aA (aB 5) aI))) (dC (.bool true)))) (ds:=((aH p c).drop i).map aJ) (δ:=[s0,some (.fz (bY (aH p c))),some (.od (kX (fF [] (jr (aH p c) i)))),some (.fz (.int (i:Nat))),some (.fz (aJ (aH p c)[i])),v5])
   (λ j δ => ∃ w5, δ = [s0, some (.fz (bY (aH p c))), some (.od (kX (fF [] (jr (aH p c) i ++ (((aH p c).drop i).take j).map λ y => GC.jw (aH p c)[i] y)))), some (.fz (.int (i : Nat))), some (.fz (aJ (aH p c)[i])), w5]) ⟨v5, by simp⟩ (by
    rintro j hj δ ⟨w5,rfl⟩;have hj':j < ((aH p c).drop i).length:=by simpa using hj
    have ed:(((aH p c).drop i).map aJ)[j]=aJ ((aH p c).drop i)[j]:=by simp
    have ci:=gU h (Qc hi);have cj:=gU h (List.mem_of_mem_drop (Qc hj'));have li:=ci.len;have lj:=cj.len;have f3:=iD (a:=(aH p c)[i]) (b:=((aH p c).drop i)[j]) (by omega) (by omega)
    have hl:(kX (fF [] (jr (aH p c) i++(((aH p c).drop i).take j).map λy=>GC.jw (aH p c)[i] y))).length < eD:=KP (by
     have q1:=EM (ks:=[]) (l:=jr (aH p c) i++(((aH p c).drop i).take j).map λy=>GC.jw (aH p c)[i] y);have q2:=wl i (by omega)
     rw [zQ,zJ,At,List.length_drop,zH]at q1;exact lx (show _ < 10000 by omega) (by decide))
    rw [ed];refine⟨_,_,rfl,?_,some (.fz (aJ ((aH p c).drop i)[j])),rfl⟩;simp only [aB,dC,aE,aI,aA,rn,zC,zH,zA,zB,zE,zF,zD,Nat.reduceAdd, ↓reduceIte,f3,nX,hl,IJ,IK];rw [Ic hj',ux, <-List.append_assoc,List.map_singleton,Bo])
  rw [zJ,Aq, <-EQ hi]at e2;subst e2;exact⟨w5,e1⟩
 obtain⟨δ',e1,v3,v4,v5,e2⟩:=cE (fg:=(gT 2 (gC (gN 3) (gC (gN 4) gZ)))) (fb:=(bd (ax (Dd (aB 1) (kz (aB 3)) fL)) (gN 5) (rn 2 (aE 2 bS (aA (aB 4) (aA (aB 5) aI))) (dC (.bool true))))) (ds:=ga ((aH p c).map aJ)) (δ:=[s0,some (.fz (bY (aH p c))),some (.od []),none,none,none])
  (λ i δ => ∃ v3 v4 v5, δ = [s0, some (.fz (bY (aH p c))), some (.od (kX (fF [] (jr (aH p c) i)))), v3, v4, v5]) ⟨none, none, none, rfl⟩ (by
   rintro i hi δ ⟨v3,v4,v5,rfl⟩;have hi':i < (aH p c).length:=by simpa [ga]using hi
   have ed:(ga ((aH p c).map aJ))[i]=.tuple [.int (i:Nat),aJ (aH p c)[i]]:=by
    have:=cY hi;obtain⟨e,h1,h2⟩:=nN this;rw [zK,cY hi']at h1;cases h1;exact h2
   obtain⟨w5,f1⟩:=inner i hi' v5;have q:=IL (cs:=aH p c) (i:=i) (by omega)
   rw [ed];refine⟨_,_,rfl,?_,some (.fz (.int (i:Nat))),some (.fz (aJ (aH p c)[i])),w5,rfl⟩;unfold bY at f1 ⊢;simp only [bd,aB,ax,jL,Dd,fL,kz,My,zA,zB,zE,zF,zD,q,f1])
 have len2:(ga ((aH p c).map aJ)).length=(aH p c).length:=by simp [ga]
 rw [len2]at e2;subst e2;exact⟨v3,v4,v5,e1⟩
noncomputable def KQ(cs:List (List Int)):Bool:=(fF [] (jr cs cs.length)).all (λk=> !k.isEmpty)&&decide (2<=(fF [] (jr cs cs.length)).length)&&decide ((fF [] (jr cs cs.length)).length < 64)
theorem uZ {p c:Int}(h:(p,c)∈bp)(k:KQ (aH p c)=true):bO [aJ [p,c]]=some (bY (iL (fF [] (jr (aH p c) (aH p c).length)))):=by
 unfold KQ at k;simp only [Q5,decide_eq_true_eq,Q9]at k;have q1:=EN (ks:=fF [] (jr (aH p c) (aH p c).length)) (λx hx y=>by have:=k.1.1 x hx;rw [y]at this;cases this) k.1.2 k.2 (AT List.nodup_nil)
 obtain⟨v3,v4,v5,e1⟩:=IM h (some (.fz (aJ [p,c])));have ac:=dq h;unfold bY at ac e1;simp only [bO,sA,nA,mz,mw,mv,bV,gu,aP,aY,ae,iP,bd,aB,bJ,aE,aI,aA,jL,Ih,DL.frz,bj,tQ,zI,zL,zC,zH,Q3,Q2,zA,zB,zE,zF,List.replicate,zD,zG,Nat.reduceAdd,Nat.reduceSub, ↓reduceIte,ac,e1,q1]
noncomputable def MV {α:Type}(l:List α)(i:Nat):List α:=l.take i++l.drop (i+1)
theorem KR {α:Type}{l:List α}{i:Nat}{x:α}(h:x∈MV l i):x∈l:=by
 rcases CD.mp h with q|q
 · exact List.mem_of_mem_take q
 · exact List.mem_of_mem_drop q
theorem KS {as:List hU}{i:Nat}(h:i<=as.length):rj (as.map aj) none (some (i:Int))=(as.take i).map aj:=by
 have s1:HT.ff as.length as.length (some (i:Int))=i:=by rw [HT.CI];omega
 unfold rj;rw [zJ,s1,HT.sW,List.drop_zero,Nat.sub_zero, <-List.map_take]
theorem ER {as:List hU}{i:Nat}(h:i<=as.length):rj (as.map aj) (some (i:Int)) none=(as.drop i).map aj:=by
 have s1:HT.ff as.length 0 (some (i:Int))=i:=by rw [HT.CI];omega
 unfold rj;rw [zJ,s1,HT.sW, <-List.map_drop, <-List.map_take,List.take_of_length_le (by rw [List.length_drop];omega)]
theorem KU {as:List hU}{i:Nat}(hl:as.length<=100):bc (.list ((as.take i).map aj)) (.list ((as.drop (i+1)).map aj))=some (.list ((MV as i).map aj)):=by
 have z:((as.take i).map aj).length+((as.drop (i+1)).map aj).length<=eD:=by
  rw [zJ,zJ,At,List.length_drop];exact dW (by omega)
 unfold MV;rw [ux];simp only [bc,z, ↓reduceIte]
noncomputable def nh(p c:Int)(as:List hU)(i:Nat):Bool:=decide ((aH p c).filter (bq (MV as i))=(aH p c).filter (bq as))
theorem AV {p c:Int}(h:(p,c)∈bp){as:List hU}(ao:∀a∈as,AskOk p c a)(al:as.length<=8):bo [aJ [p,c],vN as]=some (cZ ((List.range as.length).filter (nh p c as))):=by
 have q1:=iF h ao al;have q2:=dq h;have sm:=jp (c:=(as.length:Int)) (by omega) (by omega)
 have cx:(bE 1 [("fitting",2),("codes",3),("asks",1)] (cD (aA (bJ cX (aA (aB 1) aI)) aI)) (gN 0) (dB (d2 ou (aE 2 bL (aA (aB 2) (aA (d2 bc (Dd (aB 3) fL (kz (aB 0))) (Dd (aB 3) (kz (d2 bc (aB 0) (dC (.int 1)))) fL)) aI))) (aB 1))) (aB 0)) [some (.fz (aJ [p,c])),some (.fz (.list (as.map aj))),some (.fz (bY ((aH p c).filter (bq as)))),some (.fz (bY (aH p c)))]=some (((List.range as.length).filter (nh p c as)).map λi:Nat=>PyData.int (i:Int)):=by
  have hi:((cD (aA (bJ cX (aA (aB 1) aI)) aI))) [some (.fz (aJ [p,c])),some (.fz (.list (as.map aj))),some (.fz (bY ((aH p c).filter (bq as)))),some (.fz (bY (aH p c)))]=some ((List.range as.length).map λi:Nat=>PyData.int (i:Int)):=by
   simp only [aB,bJ,aI,aA,cD,cX,nq,zA,zB,zD,zG, ↓reduceIte,zJ,sm];rw [yG,nW]
  rw [np (λd=>nh p c as (rY d)) (λd=>d) hi (by rw [zJ,DM];exact dW (by omega)) (λd hd=>?_)]
  · rw [map_id',o6 (λi:Nat=>PyData.int (i:Int)) _ (nh p c as) (λi _=>by show nh p c as ((i:Int).toNat)=_;rw [yG])]
  · obtain⟨i,hi',rfl⟩:=Qd.mp hd;have hi2:i < as.length:=by simpa using hi'
    have f1:=KS (as:=as) (i:=i) (by omega)
    have f2:rj (as.map aj) (some ((i:Int)+1)) none=(as.drop (i+1)).map aj:=ER (as:=as) (i:=i+1) (by omega)
    have f3:=KU (as:=as) (i:=i) (by omega)
    have f4:bL [bY (aH p c),.list ((MV as i).map aj)]=some (bY ((aH p c).filter (bq (MV as i)))):=uT h (jU h) (Q7 (nV h) (by decide)) λa ha=>ao a (KR ha)
    have e:nh p c as (rY (.int (i:Int)))=nh p c as i:=by show nh p c as ((i:Int).toNat)=_;rw [yG]
    rw [e];unfold nh;cases hd':decide ((aH p c).filter (bq (MV as i))=(aH p c).filter (bq as))<;>simp only [aB,dC,d2,aE,aI,aA,dB,iJ,gN,kR,Dd,fL,kz,My,zI,zL,zC,zH,Q3,Q2,zA,zB,zE,List.replicate,zD,zG,Nat.reduceAdd, ↓reduceIte,zN,f1,f2,f3,f4,IC,hd']
 unfold vN at q1 ⊢;simp only [bo,xh,rT,rR,rQ,bV,gu,aP,aY,ae,aB,aE,aI,aA,bP,bj,zI,zL,zC,zH,Q3,Q2,zA,zB,zE,zF,List.replicate,zD,zG,Nat.reduceAdd,Nat.reduceSub, ↓reduceIte,q1,q2,cx];rfl
theorem ES {p c:Int}(h:(p,c)∈bp):(aH p c).Pairwise λx y=>cT x y=true:=by
 rcases nF h with⟨rfl,rfl⟩|⟨rfl,rfl⟩|⟨rfl,rfl⟩|⟨rfl,rfl⟩|⟨rfl,rfl⟩|⟨rfl,rfl⟩|⟨rfl,rfl⟩|⟨rfl,rfl⟩|⟨rfl,rfl⟩<;>decide+kernel
theorem ET {p c:Int}(h:(p,c)∈bp):(aH p c).length<=27:=by
 rcases nF h with⟨rfl,rfl⟩|⟨rfl,rfl⟩|⟨rfl,rfl⟩|⟨rfl,rfl⟩|⟨rfl,rfl⟩|⟨rfl,rfl⟩|⟨rfl,rfl⟩|⟨rfl,rfl⟩|⟨rfl,rfl⟩<;>decide+kernel
theorem NN {p c:Int}(h:(p,c)∈bp){gs:List (List Int)}(cg:∀g∈gs,Code p c g)(hl:gs.length<=1000):cQ [bY (aH p c),bY gs]=some (EK (gW (mR gs) (aH p c))):=
 uY (dQ h).2.1 (jU h) (Q7 (ET h) (by decide)) (ES h) cg hl
noncomputable def w8(r:List Nat):Nat:=match r.getLast? with
 |none=>0
 |some l=>l+1
noncomputable def Bp(n:Nat)(r:List Nat):List (List Nat):=(List.range (n - w8 r)).map λk:Nat=>r++[w8 r+k]
noncomputable def iG(n:Nat):Nat->List (List Nat)
 |0=>[[]]
 |k+1=>(iG n k).flatMap (Bp n)
theorem DD(n:Nat)(r:List Nat):(Bp n r).length<=n:=by simp [Bp]
theorem xt {n:Nat}:∀l:List (List Nat),(l.flatMap (Bp n)).length<=l.length*n
 |[]=>by simp
 |a::r=>by
  have h1:=xt (n:=n) r;have h2:=DD n a;rw [List.flatMap_cons,zQ,zC,Nat.succ_mul];omega
theorem KW {n:Nat}(hn:n<=16):∀k,k<=3->(iG n k).length<=4096:=by
 have pw:∀k,(iG n k).length<=16 ^ k:=λk=>by
  induction k with
  |zero=>exact Q1 _
  |succ k ih=>
   have:=xt (n:=n) (iG n k);show((iG n k).flatMap (Bp n)).length<=_;rw [Nat.pow_succ];exact Q7 this (Nat.mul_le_mul ih hn)
 intro k hk;exact Q7 (pw k) (Q7 (Nat.pow_le_pow_right (by decide) hk) (by decide))
theorem o9(n:Nat):∀k r,r∈iG n k->(∀i∈r,i < n)/\r.length=k
 |0,r,h=>by
  have:r=[]:=by simpa [iG]using h
  subst this;exact⟨λi hi=>by(cases hi),rfl⟩
 |k+1,r,h=>by
  obtain⟨b,hb,hr⟩:=List.mem_flatMap.mp h;obtain⟨j,hj,rfl⟩:=Qd.mp hr;have hj':j < n - w8 b:=by simpa using hj
  obtain⟨q1,q2⟩:=o9 n k b hb;refine⟨λi hi=>?_,by simp [q2]⟩
  rcases CD.mp hi with z|z
  · exact q1 i z
  · have:i=w8 b+j:=by simpa using z
    omega
theorem KY(r:List Nat)(l:Nat)(h:r.getLast?=some l):cV (cZ r) (.int (-1))=some (.int (l:Int)):=by
 have hne:r≠[]:=λz=>by rw [z]at h;cases h
 have e:r=r.dropLast++[l]:=by
  have h2:=List.getLast?_eq_some_getLast hne;rw [h]at h2;have:=List.dropLast_concat_getLast hne;rw [<-zV h2]at this;exact this.symm
 show rD (r.map λi:Nat=>PyData.int (i:Int)) (-1)=_;rw [e,ux];exact FI _ _
theorem IN(r:List Nat):(r.map λi:Nat=>PyData.int (i:Int)).isEmpty=r.isEmpty:=by cases r<;>rfl
theorem MW(r:List Nat)(v:aT)(hv:v[5]? =some (some (.fz (cZ r)))):(ye (cP (aB 5)) (d2 bc (d2 cV (aB 5) (yp (dC (.int 1)))) (dC (.int 1))) (dC (.int 0))) v=some (.int (w8 r:Nat)):=by
 unfold cZ at hv;cases h:r.getLast? with
 |none=>
  have:r=[]:=by simpa using h
  subst this;simp only [aB,dC,d2,cP,n9,ye,yp,zL,zD, ↓reduceIte,DN,zN,hv,List.isEmpty_nil,w8];rfl
 |some l=>
  have e:=KY r l h;have em:r.isEmpty=false:=by
   cases r with
   |nil=>cases h
   |cons _ _=>rfl
  unfold cZ at e;simp only [aB,dC,d2,cP,n9,ye,kR,yp,zD, ↓reduceIte,Bool.not_false,hv,IN,em,e,w8,h];rfl
theorem IP(r:List Nat)(k:Nat)(hr:r.length<=100):bc (cZ r) (.list [.int (k:Int)])=some (cZ (r++[k])):=by
 have q:(r.map λi:Nat=>PyData.int (i:Int)).length+[PyData.int (k:Int)].length<=eD:=by rw [zJ];exact dW (by simp;omega)
 unfold cZ;rw [ux];simp only [bc,q, ↓reduceIte];rfl
theorem IQ(lo n:Nat):am (lo:Int) n=(List.range n).map λk:Nat=>PyData.int ((lo+k:Nat):Int):=by
 unfold am;apply Eh
 intro k _;congr 1
theorem IR {r:List Nat}{n:Nat}{δ:aT}{fi:aT->Option (List PyData)}(hn:n<=16)(hr:r.length<=100)(hi:fi δ=some (am (w8 r:Nat) (n - w8 r)))(h5:δ[5]? =some (some (.fz (cZ r)))):
 bE 1 [("choice",5)] fi (gN 0) cM (d2 bc (aB 1) (bP (bb (aA (aB 0) aI)))) δ=some ((Bp n r).map cZ):=by
 have rl:(am (w8 r:Nat) (n - w8 r)).length=n - w8 r:=by simp [am]
 rw [dL (λd=>cZ (r++[rY d])) hi (by rw [rl];exact dW (by omega)) (λd hd=>?_)]
 · rw [IQ,zO,Bp,zO];rfl
 · rw [IQ]at hd;obtain⟨m,_,rfl⟩:=Qd.mp hd;have z:(1:Nat)<=eD:=ls 1;have e:rY (.int ((w8 r+m:Nat):Int))=w8 r+m:=by show((w8 r+m:Nat):Int).toNat=_;rw [yG]
   rw [e];simp only [aB,d2,aI,aA,bb,bP,iJ,cM,gN,zI,zL,zC,zH,Q3,Q2,zA,zB,zE,List.replicate,zD,zG,Nat.reduceAdd, ↓reduceIte,h5,z,IP r (w8 r+m) hr]
theorem IS {n:Nat}{l:List (List Nat)}{j:Nat}(h:j < l.length):(l.take (j+1)).flatMap (Bp n)=(l.take j).flatMap (Bp n)++Bp n l[j]:=by
 rw [Ic h,List.flatMap_append]
 simp
noncomputable def u0(l:List (List Nat)):PyData:=.list (l.map cZ)
theorem u6 {n k:Nat}(hn:n<=16)(hk:k<=4):gB [.int (n:Int),.int (k:Int)]=some (u0 (iG n k)):=by
 have z:(0:Nat)<=eD:=zU _;have z1:(1:Nat)<=eD:=ls 1;have sk:=jp (c:=(k:Int)) (by omega) (by omega)
 have sn:=jp (c:=(n:Int)) (by omega) (by omega)
 have len:∀i,i<=3->(iG n i).length<=4096:=λi hi=>KW hn i hi;obtain⟨δ',e1,v3,v4,v5,v6,e2⟩:=cE (fg:=(gN 3)) (fb:=(aP (dZ 4 (bb aI)) (aP (bd (ax (aB 2)) (gN 5) (aP (aY 6 (ye (cP (aB 5)) (d2 bc (d2 cV (aB 5) (yp (dC (.int 1)))) (dC (.int 1))) (dC (.int 0)))) (fJ 4 (bP (bE 1 [("choice",5)] (lz (aA (aB 6) (aA (aB 0) aI))) (gN 0) cM (d2 bc (aB 1) (bP (bb (aA (aB 0) aI))))))))) (iP 4 (aY 2 (aB 4)))))) (ds:=am 0 k) (δ:=[some (.fz (.int (n:Int))),some (.fz (.int (k:Int))),some (.fz (.list [.list []])),none,none,none,none])
  (λ i δ => ∃ v3 v4 v5 v6, δ = [some (.fz (.int (n : Int))), some (.fz (.int (k : Int))), some (.fz (u0 (iG n i))), v3, v4, v5, v6]) ⟨none, none, none, none, rfl⟩ (by
   rintro i hi δ ⟨v3,v4,v5,v6,rfl⟩;have hi':i < k:=by simpa [am]using hi
   have ed:(am 0 k)[i]=.int (i:Nat):=by simp [am]
   rw [ed];obtain⟨δ2,f1,w5,w6,f2⟩:=cE (fg:=(gN 5)) (fb:=(aP (aY 6 (ye (cP (aB 5)) (d2 bc (d2 cV (aB 5) (yp (dC (.int 1)))) (dC (.int 1))) (dC (.int 0)))) (fJ 4 (bP (bE 1 [("choice",5)] (lz (aA (aB 6) (aA (aB 0) aI))) (gN 0) cM (d2 bc (aB 1) (bP (bb (aA (aB 0) aI))))))))) (ds:=(iG n i).map cZ) (δ:=[some (.fz (.int (n:Int))),some (.fz (.int (k:Int))),some (.fz (u0 (iG n i))),some (.fz (.int (i:Nat))),some (.ow []),v5,v6])
    (λ j δ => ∃ w5 w6, δ = [some (.fz (.int (n : Int))), some (.fz (.int (k : Int))), some (.fz (u0 (iG n i))), some (.fz (.int (i : Nat))), some (.ow ((((iG n i).take j).flatMap (Bp n)).map cZ)), w5, w6]) ⟨v5, v6, rfl⟩ (by
     rintro j hj δ ⟨w5,w6,rfl⟩;have hj':j < (iG n i).length:=by simpa using hj
     have edj:((iG n i).map cZ)[j]=cZ (iG n i)[j]:=by simp
     have hl:=(o9 n i _ (Qc hj')).2;have lc:=len i (by omega)
     have hz:((((iG n i).take j).flatMap (Bp n)).map cZ).length+((Bp n (iG n i)[j]).map cZ).length<=eD:=by
      rw [zJ,zJ];have q1:=xt (n:=n) ((iG n i).take j);have q2:=DD n (iG n i)[j];rw [At,Nat.min_eq_left (An hj')]at q1;have q3:j*n<=4096*16:=Nat.mul_le_mul (by omega) hn
      exact Q7 (show _<=70000 by omega) (by decide)
     rw [edj];refine⟨_,_,rfl,?_,some (.fz (cZ (iG n i)[j])),some (.fz (.int (w8 (iG n i)[j]:Nat))),rfl⟩;have st:=MW (iG n i)[j] [some (.fz (.int (n:Int))),some (.fz (.int (k:Int))),some (.fz (u0 (iG n i))),some (.fz (.int (i:Nat))),some (.ow ((((iG n i).take j).flatMap (Bp n)).map cZ)),some (.fz (cZ (iG n i)[j])),w6] rfl;have ss:=jp (c:=(w8 (iG n i)[j]:Int)) (by omega) (by
      unfold w8;cases q:(iG n i)[j].getLast? with
      |none=>simp
      |some l=>
       have hm:l∈(iG n i)[j]:=List.mem_of_getLast? q;have:=(o9 n i _ (Qc hj')).1 l hm
       simp;omega)
     have cx:=IR (n:=n) (r:=(iG n i)[j]) (fi:=lz (aA (aB 6) (aA (aB 0) aI))) (δ:=[some (.fz (.int (n:Int))),some (.fz (.int (k:Int))),some (.fz (u0 (iG n i))),some (.fz (.int (i:Nat))),some (.ow ((((iG n i).take j).flatMap (Bp n)).map cZ)),some (.fz (cZ (iG n i)[j])),some (.fz (.int (w8 (iG n i)[j]:Nat)))]) hn (by omega) (by
      simp only [aB,aI,aA,lz,zA,zB,zD, ↓reduceIte,Bool.and_true,ss,sn];congr 2
      omega) rfl
     unfold aP;unfold aY;simp only [zF,zE];rw [st];simp only [fJ,bP,zA,zB,zE,zF,zD,zG, ↓reduceIte,cx,hz];rw [IS hj',ux])
   rw [zJ,Aq]at f2;subst f2;refine⟨_,[some (.fz (.int (n:Int))),some (.fz (.int (k:Int))),some (.fz (u0 (iG n (i+1)))),some (.fz (.int (i:Nat))),some (.fz (u0 (iG n (i+1)))),w5,w6],rfl,?_,_,_,_,_,rfl⟩;unfold u0 at f1 ⊢;simp only [aP,aY,dZ,iP,bd,aB,aI,bb,ax,jL,DL.frz,zH,zA,zB,zE,zF,zD,zG, ↓reduceIte,z,f1];rfl)
 have len2:(am 0 k).length=k:=by simp [am]
 rw [len2]at e2;subst e2;simp only [gB,AA,uI,uH,uG,bV,gu,aP,aY,ae,bd,aB,aI,aA,bb,bP,cD,bj,zI,zL,zC,zH,Q3,Q2,zA,zB,zE,zF,List.replicate,zD,zG,Nat.reduceAdd,Nat.reduceSub, ↓reduceIte,z,z1,sk,yG,e1]
noncomputable def yH(cs:List (List Int))(ch:List Nat):List (List Int):=ch.map λi:Nat=>cs.getD i []
noncomputable def Bq(cs:List (List Int))(k:Nat):Option (List (List Int)):=((iG cs.length k).map (yH cs)).find? λT=>(gW (mR T) cs).isNone
noncomputable def EU:Option (List (List Int))->PyData
 |none=>.none
 |some T=>bY T
theorem MX(d:List PyData):GA (.tuple d)=false:=rfl
theorem MY(d:List PyData):GA (.list d)=false:=rfl
theorem IU:GA .none=true:=rfl
theorem AW {p c:Int}(h:(p,c)∈bp){k:Nat}{ch:List Nat}(hc:ch∈iG (aH p c).length k):(∀g∈yH (aH p c) ch,Code p c g)/\(yH (aH p c) ch).length=k:=by
 obtain⟨h1,h2⟩:=o9 _ _ _ hc;refine⟨λg hg=>?_,by rw [yH,zJ,h2]⟩
 obtain⟨i,hi,rfl⟩:=Qd.mp hg;rw [iI,cY (h1 i hi)];exact gU h (Qc _)
theorem kO {p c:Int}(h:(p,c)∈bp)(n16:(aH p c).length<=16){k:Nat}(hk:k<=4):bM [bY (aH p c),.int (k:Int)]=some (EU (Bq (aH p c) k)):=by
 have q0:=u6 n16 hk;have q0':gB [.int ((aH p c).length:Int),.int (k:Int)]=some (.list ((iG (aH p c).length k).map cZ)):=q0;have ix:∀i,i < (aH p c).length->cV (.list ((aH p c).map aJ)) (.int (i:Int))=some (aJ ((aH p c).getD i [])):=λi hi=>by
  show rD ((aH p c).map aJ) (i:Int)=_;rw [pE (by rw [zJ];exact hi),K7,iI,cY hi]
  rfl
 have go:=jq (fg:=(gN 2)) (fb:=(aP (aY 3 (bP (bE 1 [("codes",0)] (ax (aB 2)) (gN 0) cM (d2 cV (aB 1) (aB 0))))) (eY (dB (d2 qT (aE 2 cQ (aA (aB 0) (aA (aB 3) aI))) (dC .none))) (ae (aB 3)) bF))) (ds:=(iG (aH p c).length k).map cZ) (δ:=[some (.fz (.list ((aH p c).map aJ))),some (.fz (.int (k:Int))),none,none])
  (λi δ=>∃v2 v3,δ=[some (.fz (.list ((aH p c).map aJ))),some (.fz (.int (k:Int))),v2,v3])
  (λ i => if (gW (mR (yH (aH p c) ((iG (aH p c).length k).getD i []))) (aH p c)).isNone = true then some (bY (yH (aH p c) ((iG (aH p c).length k).getD i []))) else none) ⟨none, none, rfl⟩ (by
   rintro i hi δ ⟨v2,v3,rfl⟩;have hi':i < (iG (aH p c).length k).length:=by simpa using hi
   have ed:((iG (aH p c).length k).map cZ)[i]=cZ (iG (aH p c).length k)[i]:=by simp
   have gi:(iG (aH p c).length k).getD i []=(iG (aH p c).length k)[i]:=by rw [iI,cY hi'];rfl
   rw [ed,gi];generalize hch:(iG (aH p c).length k)[i]=ch;have hm:ch∈iG (aH p c).length k:=by rw [<-hch];exact Qc _
   obtain⟨s1,s2⟩:=AW h hm;obtain⟨c1,c2⟩:=o9 _ _ _ hm;refine⟨[some (.fz (.list ((aH p c).map aJ))),some (.fz (.int (k:Int))),some (.fz (cZ ch)),v3],rfl,?_⟩;have cx:(bE 1 [("codes",0)] (ax (aB 2)) (gN 0) cM (d2 cV (aB 1) (aB 0))) [some (.fz (.list ((aH p c).map aJ))),some (.fz (.int (k:Int))),some (.fz (.list (ch.map λi:Nat=>PyData.int (i:Int)))),v3]=some ((yH (aH p c) ch).map aJ):=by
    rw [dL (ds:=ch.map λi:Nat=>PyData.int (i:Int)) (λd=>aJ ((aH p c).getD (rY d) [])) rfl (by rw [zJ];exact dW (by omega)) (λd hd=>?_)]
    · rw [zO,yH,zO];congr 1
    · obtain⟨m,hm,rfl⟩:=Qd.mp hd;have e:=ix m (c1 m hm);have z:rY (.int (m:Int))=m:=yG m;rw [z];simp only [aB,d2,iJ,cM,gN,zI,zL,Q3,Q2,zA,zB,zE,List.replicate,zD,zG, ↓reduceIte,e]
   have q:=NN h s1 (by omega)
   have q':cQ [.list ((aH p c).map aJ),.list ((yH (aH p c) ch).map aJ)]=some (EK (gW (mR (yH (aH p c) ch)) (aH p c))):=q;cases ha:gW (mR (yH (aH p c) ch)) (aH p c)with
   |none=>
    rw [ha]at q';refine .inr ⟨_,rfl,?_⟩;simp only [cZ,aP,eY,aY,ae,aB,dC,d2,aE,aI,aA,bP,dB,bF,qT,zC,zH,zA,zB,zE,zF,zD,zG,Nat.reduceAdd, ↓reduceIte,cx,q',EK,IU,bY]
   |some a=>
    rw [ha]at q';refine .inl ⟨rfl,_,?_,some (.fz (cZ ch)),some (.fz (.list ((yH (aH p c) ch).map aJ))),rfl⟩;simp only [cZ,aP,eY,aY,ae,aB,dC,d2,aE,aI,aA,bP,dB,bF,qT,zC,zH,zA,zB,zE,zF,zD,zG,Nat.reduceAdd, ↓reduceIte,zN,cx,q',EK,aj,MX])
 rw [zJ]at go;have ln:yo (.list ((aH p c).map aJ))=some (aH p c).length:=by rw [nq,zJ]
 have gE:∀j (hj:j < (iG (aH p c).length k).length),yH (aH p c) ((iG (aH p c).length k).getD j [])=((iG (aH p c).length k).map (yH (aH p c)))[j]'(by rw [zJ];exact hj):=λj hj=>by
  rw [K7,iI,cY hj];rfl
 rcases go with⟨δ',e1,⟨v2,v3,e2⟩,e3⟩|⟨j,v,hj,e3,e4,e5⟩
 · have fn:Bq (aH p c) k=none:=by
    unfold Bq;rw [List.find?_eq_none];intro T hT z;obtain⟨j,hj,rfl⟩:=List.getElem_of_mem hT;rw [zJ]at hj;have:=e3 j hj;rw [gE j hj,if_pos z]at this;cases this
   rw [fn];subst e2;simp only [bM,jg,iC,iB,bY,bV,gu,aP,ae,bd,aB,dC,bJ,aE,aI,aA,ax,jL,bj,cX,zI,zL,zC,zH,Q3,Q2,zA,zB,List.replicate,zD,zG,Nat.reduceAdd,Nat.reduceSub, ↓reduceIte,ln,q0',e1];rfl
 · have e4:(if(gW (mR (yH (aH p c) ((iG (aH p c).length k).getD j []))) (aH p c)).isNone=true then some (bY (yH (aH p c) ((iG (aH p c).length k).getD j [])))else none)=some v:=e4;split at e4
   · rename_i z;have fn:Bq (aH p c) k=some (yH (aH p c) ((iG (aH p c).length k).getD j [])):=by
      unfold Bq;rw [List.find?_eq_some_iff_getElem];refine⟨z,j,by rw [zJ];exact hj,(gE j hj).symm,λi hi=>?_⟩
      have:=e3 i hi;rw [gE i (by omega)]at this
      cases hz:(gW (mR (((iG (aH p c).length k).map (yH (aH p c)))[i]'(by rw [zJ];omega))) (aH p c)).isNone with
      |false=>rfl
      |true=>rw [if_pos hz]at this;cases this
     rw [fn];cases e4;simp only [bM,jg,iC,iB,bY,bV,gu,aP,ae,bd,aB,dC,bJ,aE,aI,aA,ax,jL,bj,cX,zI,zL,zC,zH,Q3,Q2,zA,zB,List.replicate,zD,zG,Nat.reduceAdd,Nat.reduceSub, ↓reduceIte,ln,q0',e5];rfl
   · cases e4
theorem KZ {c:aT->Option Bool}{f:aT->Option DFlow}{n:Nat}{δ δ2:aT}(h1:c δ=some true)(h2:f δ=some (.nx δ2)):dj c f (n+1) δ=dj c f n δ2:=by
 rw [dj,h1,zD,if_pos rfl,h2,zD]
theorem MZ {c:aT->Option Bool}{f:aT->Option DFlow}{n:Nat}{δ:aT}(h1:c δ=some false):dj c f (n+1) δ=some (.nx δ):=by
 rw [dj,h1,zD,if_neg Q8]
theorem K0 {G C d:PyData}{k:Int}{v:Option Sl}(q:bM [C,.int (k+1)]=some d):(aP (mQ 2 kt (dC (.int 1))) (aY 3 (aE 2 bM (aA (aB 1) (aA (aB 2) aI))))) [some (.fz G),some (.fz C),some (.fz (.int k)),v]=some (.nx [some (.fz G),some (.fz C),some (.fz (.int (k+1))),some (.fz d)]):=by
 simp only [aP,aY,mQ,aB,dC,aE,aI,aA,pD,zC,zH,zA,zB,zE,zF,zD,zG,Nat.reduceAdd, ↓reduceIte,q]
theorem NO {p c:Int}(h:(p,c)∈bp)(n16:(aH p c).length<=16){m:Nat}{T:List (List Int)}(hm:m<=4)(hT:Bq (aH p c) m=some T)(hn:∀j,j < m->Bq (aH p c) j=none)(d:Nat):∀(k N:Nat),k+d=m->d < N->
 (dj (dB (d2 qT (aB 3) (dC .none))) (aP (mQ 2 kt (dC (.int 1))) (aY 3 (aE 2 bM (aA (aB 1) (aA (aB 2) aI)))))) N [some (.fz (aJ [p,c])),some (.fz (bY (aH p c))),some (.fz (.int (k:Int))),some (.fz (EU (Bq (aH p c) k)))]=some (.nx [some (.fz (aJ [p,c])),some (.fz (bY (aH p c))),some (.fz (.int (m:Int))),some (.fz (bY T))]):=by
 induction d with
 |zero=>
  intro k N hk hN;obtain⟨N',rfl⟩:∃N',N=N'+1:=⟨N - 1,by omega⟩
  have:k=m:=by omega
  subst this;rw [hT];exact MZ (by simp only [aB,dC,d2,dB,qT,zA,zB,zD,EU,bY,MY])
 |succ d ih=>
  intro k N hk hN;obtain⟨N',rfl⟩:∃N',N=N'+1:=⟨N - 1,by omega⟩
  have q:=kO h n16 (k:=k+1) (by omega)
  have e:((k+1:Nat):Int)=(k:Int)+1:=by omega
  have i:=ih (k+1) N' (by omega) (by omega)
  rw [e]at q i;rw [hn k (by omega), <-i]
  exact KZ (by simp only [aB,dC,d2,dB,qT,zA,zB,zD,EU,IU]) (K0 q)
theorem EV {p c:Int}(h:(p,c)∈bp)(n16:(aH p c).length<=16)(sg:gb [aJ [p,c]]=some (aJ [p,c])){m:Nat}{T:List (List Int)}(hm:m<=4)(hT:Bq (aH p c) m=some T)(hn:∀j,j < m->Bq (aH p c) j=none):ak [aJ [p,c]]=some (bY T):=by
 have q1:=gM h;have q2:=dq h;have q3:=kO h n16 (k:=0) (by omega)
 have q3':bM [bY (aH p c),.int 0]=some (EU (Bq (aH p c) 0)):=q3;have w:=NO h n16 hm hT hn m 0 100 (by omega) (by omega)
 have w':(dj (dB (d2 qT (aB 3) (dC .none))) (aP (mQ 2 kt (dC (.int 1))) (aY 3 (aE 2 bM (aA (aB 1) (aA (aB 2) aI)))))) 100 [some (.fz (aJ [p,c])),some (.fz (bY (aH p c))),some (.fz (.int 0)),some (.fz (EU (Bq (aH p c) 0)))]=some (.nx [some (.fz (aJ [p,c])),some (.fz (bY (aH p c))),some (.fz (.int (m:Int))),some (.fz (bY T))]):=w;simp only [ak,ng,jn,jm,jl,jk,jj,ji,jh,bV,gu,aP,aY,ae,fU,aB,dC,aE,aI,aA,bj,zI,zL,zC,zH,Q3,Q2,zA,zB,zE,zF,List.replicate,zD,zG,Nat.reduceAdd,Nat.reduceSub, ↓reduceIte,q1,q2,sg,q3',w']
noncomputable def Br(cs:List (List Int)):Nat->List (List Int)->Bool
 |0,fit=>fit.length==1
 |n+1,fit=>fit.length==1||(decide (1 < fit.length)&&((hJ (fE cs fit) fit).map (·.1)).all λk=>Br cs n (fit.filter (bq [(fE cs fit,k)])))
noncomputable def xu(cs fit:List (List Int))(h:List Int):hU:=(fE cs fit,GC.jw h (fE cs fit))
noncomputable def eW(cs:List (List Int))(h:List Int):Nat->List (List Int)->List hU
 |0,_=>[]
 |n+1,fit=>if fit.length=1 then []else xu cs fit h::eW cs h n (fit.filter (bq [xu cs fit h]))
theorem EW(cs fit:List (List Int))(h:List Int):bq [xu cs fit h] h=true:=by
 simp [bq,xu]
theorem IV {cs fit:List (List Int)}{h:List Int}{n:Nat}(ck:Br cs (n+1) fit=true)(hf:h∈fit)(h1:fit.length≠1):
 1 < fit.length/\Br cs n (fit.filter (bq [xu cs fit h]))=true/\h∈fit.filter (bq [xu cs fit h]):=by
 unfold Br at ck;rw [Bool.or_eq_true]at ck
 rcases ck with ck|ck
 · exact absurd (beq_iff_eq.mp ck) h1
 · rw [Q5]at ck;exact⟨of_decide_eq_true ck.1,Q9.mp ck.2 _ (AM (g:=fE cs fit) hf),List.mem_filter.mpr ⟨hf,EW cs fit h⟩⟩
theorem AX {cs:List (List Int)}{h:List Int}{a:hU}:∀{n:Nat} {fit:List (List Int)},a∈eW cs h n fit->∃fit',a=xu cs fit' h
 |0,_,m=>nomatch m
 |n+1,fit,m=>by
  unfold eW at m;split at m
  · cases m
  · rcases Q4.mp m with rfl|m
    · exact⟨fit,rfl⟩
    · exact AX m
theorem u7(cs:List (List Int))(h:List Int):∀(n:Nat) (fit:List (List Int)),(eW cs h n fit).length<=n
 |0,_=>Q1 _
 |n+1,fit=>by
  unfold eW;split
  · exact zU _
  · rw [zC];exact Nat.succ_le_succ (u7 cs h n _)
theorem DE {p c:Int}{cs fit:List (List Int)}{h:List Int}(hc:∀x∈cs,Code p c x)(hne:cs≠[])(ch:Code p c h):AskOk p c (xu cs fit h):=by
 have cg:=hc _ (EJ (fit:=fit) hne);obtain⟨e1,e2⟩:=wV ch cg;have e:=GC.JO (h:=h) (g:=fE cs fit) (by rw [gD ch,gD cg])
 exact⟨cg,by show(GC.jw h (fE cs fit)).length=2;rw [e];exact e1,by show ∀n∈GC.jw h (fE cs fit),_;rw [e];exact e2⟩
theorem u8 {p c:Int}(h:(p,c)∈bp):aH p c≠[]:=by
 intro z;have e:(aH p c).length=c.toNat ^ p.toNat:=fD _ _;have b:=dQ h;rw [z]at e;have:0 < c.toNat ^ p.toNat:=Nat.pow_pos (by omega)
 rw [<-e]at this;exact absurd this (zT _)
theorem w9 {p c:Int}(hm:(p,c)∈bp){h:List Int}(ch:Code p c h):∀(n m:Nat) (fit:List (List Int)) (as:List hU) (v5 v6:Option Sl),n < m->Br (aH p c) n fit=true->h∈fit->(∀x∈fit,Code p c x)->fit.length<=1000->as.length+n<=8->
 ∃e v5' v6',(dj (dB (d2 Kl (bJ cX (aA (aB 3) aI)) (dC (.int 1)))) (aP (aY 5 (aE 2 jf (aA (aB 2) (aA (aB 3) aI)))) (aP (aY 6 (dE (aA (aB 5) (aA (aE 2 bS (aA (aB 1) (aA (aB 5) aI))) aI)))) (aP (bu 4 (aB 6)) (aY 3 (aE 2 bL (aA (aB 3) (aA (bP (bb (aA (aB 6) aI))) aI)))))))) m [some (.fz (aJ [p,c])),some (.fz (aJ h)),some (.fz (.list ((aH p c).map aJ))),some (.fz (.list (fit.map aJ))),some (.ow (as.map aj)),v5,v6]=
  some (.nx [some (.fz (aJ [p,c])),some (.fz (aJ h)),some (.fz (.list ((aH p c).map aJ))),some (.fz e),some (.ow ((as++eW (aH p c) h n fit).map aj)),v5',v6'])
 |n,0,_,_,_,_,hnm,_,_,_,_,_=>absurd hnm (Nat.not_lt_zero _)
 |n,m+1,fit,as,v5,v6,hnm,ck,hf,hc,hl,ha=>by
  have b:=dQ hm
  by_cases h1:fit.length=1
  · have e:eW (aH p c) h n fit=[]:=by
     cases n with
     |zero=>rfl
     |succ n=>exact if_pos h1
    rw [e,Qa];have d:decide ((1:Int) < ((fit.map aJ).length:Nat))=false:=decide_eq_false (by rw [zJ];omega)
    refine⟨.list (fit.map aJ),v5,v6,?_⟩;rw [dj];simp only [aP,aY,bu,aB,dC,d2,bJ,aE,aI,aA,dE,bb,bP,dB,cX,nq,GO,zC,zH,zA,zB,zE,zF,zD,zG,Nat.reduceAdd, ↓reduceIte,zN,d]
  · cases n with
    |zero=>exact absurd (beq_iff_eq.mp ck) h1
    |succ n=>
     obtain⟨k1,k5,k6⟩:=IV ck hf h1;have e:eW (aH p c) h (n+1) fit=xu (aH p c) fit h::eW (aH p c) h n (fit.filter (bq [xu (aH p c) fit h])):=if_neg h1;have d:decide ((1:Int) < ((fit.map aJ).length:Nat))=true:=decide_eq_true (by rw [zJ];omega)
     have ok:=DE (fit:=fit) (jU hm) (u8 hm) ch;have cg:Code p c (fE (aH p c) fit):=ok.code;have q1:=Bn (cs:=aH p c) (fit:=fit) (n:=p.toNat) (λx hx=>gD (gU hm hx)) (λx hx=>gD (hc x hx)) (by omega) hl (u8 hm) (λz=>by rw [z]at hf;cases hf)
     have q2:=iD (a:=h) (b:=fE (aH p c) fit) (by rw [gD ch,gD cg]) (by rw [gD ch];omega)
     have q3:bL [.list (fit.map aJ),.list [.tuple [aJ (fE (aH p c) fit),aJ (GC.jw h (fE (aH p c) fit))]]]=some (.list ((fit.filter (bq [xu (aH p c) fit h])).map aJ)):=
      uT hm hc hl (as:=[xu (aH p c) fit h]) λa ha=>by rw [Qf.mp ha];exact ok
     have l1:(as.map aj).length < eD:=by
      rw [zJ];exact lx (show as.length < 1000 by omega) (by decide)
     have l2:(2:Nat)<=eD:=dW (by decide)
     have l3:(1:Nat)<=eD:=dW (by decide)
     obtain⟨e',v5',v6',go⟩:=w9 hm ch n m (fit.filter (bq [xu (aH p c) fit h])) (as++[xu (aH p c) fit h]) (some (.fz (aJ (fE (aH p c) fit)))) (some (.fz (.tuple [aJ (fE (aH p c) fit),aJ (GC.jw h (fE (aH p c) fit))])))
      (by omega) k5 k6 (λx hx=>hc x (List.mem_filter.mp hx).1) (Q7 (List.length_filter_le _ _) hl) (by rw [zQ,LF];omega)
     have ea:(as++[xu (aH p c) fit h]).map aj=as.map aj++[.tuple [aJ (fE (aH p c) fit),aJ (GC.jw h (fE (aH p c) fit))]]:=by rw [ux];rfl
     rw [ea]at go;rw [e,show as++xu (aH p c) fit h::eW (aH p c) h n (fit.filter (bq [xu (aH p c) fit h]))=(as++[xu (aH p c) fit h])++eW (aH p c) h n (fit.filter (bq [xu (aH p c) fit h]))by simp]
     refine⟨e',v5',v6',?_⟩;rw [dj];simp only [aP,aY,bu,aB,dC,d2,bJ,aE,aI,aA,dE,bb,bP,dB,cX,nq,GO,zC,zH,zA,zB,zE,zF,zD,zG,Nat.reduceAdd, ↓reduceIte,d,q1,q2,q3,l1,l2,l3];exact go
noncomputable def qo:List (Int×Int):=[(2,3),(3,2),(2,4),(4,2),(1,5),(2,2),(1,3)]
theorem wa {p c:Int}(h:(p,c)∈qo):(p=2/\c=3)\/(p=3/\c=2)\/(p=2/\c=4)\/(p=4/\c=2)\/(p=1/\c=5)\/(p=2/\c=2)\/(p=1/\c=3):=
 by simpa [qo]using h
theorem wb {p c:Int}(h:(p,c)∈qo):(p,c)∈bp:=by
 rcases wa h with⟨rfl,rfl⟩|⟨rfl,rfl⟩|⟨rfl,rfl⟩|⟨rfl,rfl⟩|⟨rfl,rfl⟩|⟨rfl,rfl⟩|⟨rfl,rfl⟩<;>decide
noncomputable def qD(cs:List (List Int))(m:Nat)(T:List (List Int)):Bool:=decide (cs.length<=16)&&Br cs 8 cs&&KQ cs&&decide (m<=4)&&decide (Bq cs m=some T)&&(List.range m).all (λj=>(Bq cs j).isNone)
theorem u9(c:Nat):∀(n:Nat) (a:List Int),a.length=n->(∀x∈a,0<=x/\x < (c:Int))->a∈au c n
 |0,a,h,_=>by rw [List.length_eq_zero_iff.mp h];simp [au]
 |n+1,a,h,q=>by
  have ne:a≠[]:=λz=>by rw [z]at h;cases h
  rw [<-List.dropLast_concat_getLast ne];refine List.mem_flatMap.mpr ⟨a.dropLast,u9 c n _ (by rw [List.length_dropLast,h];rfl) (λx hx=>q x (List.dropLast_subset _ hx)),Qd.mpr ⟨(a.getLast ne).toNat,?_,?_⟩⟩
  · have:=q _ (List.getLast_mem ne);exact List.mem_range.mpr (by omega)
  · have:=q _ (List.getLast_mem ne);rw [Int.toNat_of_nonneg this.1]
theorem DF {p c:Int}(h:(p,c)∈bp){a:List Int}(ca:Code p c a):a∈aH p c:=by
 have b:=dQ h;refine u9 _ _ _ (gD ca) λx hx=>?_;have:=ca.all x hx;omega
theorem EX {p c:Int}(hm:(p,c)∈bp)(ck:Br (aH p c) 8 (aH p c)=true)(cl:(aH p c).length<=16){h:List Int}(ch:Code p c h):dP [aJ [p,c],aJ h]=some (.list ((eW (aH p c) h 8 (aH p c)).map aj)):=by
 have q1:=gM hm;have q2:=mL hm ch;have q3:ah [aJ [p,c]]=some (.list ((aH p c).map aJ)):=dq hm;obtain⟨e,v5,v6,go⟩:=w9 hm ch 8 100 (aH p c) [] none none (by decide) ck (DF hm ch) (jU hm) (Q7 cl (by decide)) (Q1 _)
 rw [Q2,zL]at go;have z:(0:Nat)<=eD:=zU _;simp only [dP,Bj,wS,wR,wQ,wO,wN,wM,wL,bV,gu,aP,aY,dZ,ae,fU,iP,aB,aE,aI,aA,bb,DL.frz,bj,zI,zL,zC,zH,Q3,Q2,zA,zB,zE,zF,List.replicate,zD,zG,Nat.reduceAdd,Nat.reduceSub, ↓reduceIte,q1,q2,q3,z,go]
noncomputable def Bs(as:List hU)(r:List Nat):List hU:=r.map λi:Nat=>as.getD i ([],[])
noncomputable def AY(p c:Int)(as:List hU)(r:List Nat):Bool:=((aH p c).filter (bq (Bs as r))).isEmpty
noncomputable def ua(x:List Int)(a:hU):Bool:=decide (GC.jw x a.1=a.2)
noncomputable def kY(as:List hU)(x:List Int):PyData:=.list ((as.map (ua x)).map PyData.bool)
theorem IW {p c:Int}(h:(p,c)∈bp){x:List Int}(cx:Code p c x){as:List hU}(ao:∀a∈as,AskOk p c a)(al:as.length<=100):cL [aJ x,.list (as.map aj)]=some (kY as x):=by
 have cc:(bE 1 [("code",0)] (ax (aB 1)) (gN 0) cM (aE 2 dU (aA (aB 1) (aA (aB 0) aI)))) [some (.fz (aJ x)),some (.fz (.list (as.map aj)))]=some ((as.map aj).map λd=>match d with| .tuple [d1,d2]=>.bool (PyData.eqv (aJ (GC.jw x (iE d1))) d2)|d=>d):=by
  refine dL _ rfl (by rw [zJ];exact dW (by omega)) (λd hd=>?_)
  obtain⟨a,ha,rfl⟩:=Qd.mp hd;have q:=rX h cx (ao a ha);have e:(match aj a with| .tuple [d1,d2]=>PyData.bool (PyData.eqv (aJ (GC.jw x (iE d1))) d2)|d=>d)=.bool (decide (GC.jw x a.1=a.2)):=by
   show PyData.bool (PyData.eqv (aJ (GC.jw x (iE (aJ a.1)))) (aJ a.2))=_;rw [dv,iw]
  rw [e];simp only [aB,aE,aI,aA,iJ,cM,gN,zI,zL,zC,zH,Q3,Q2,zA,zB,zE,List.replicate,zD,zG,Nat.reduceAdd, ↓reduceIte,q]
 simp only [cL,oZ,kL,bV,gu,ae,bP,bj,zI,zL,zC,zH,Qa,List.replicate,zD,zG,Nat.reduceAdd,Nat.reduceSub,cc];unfold kY;rw [zO,zO];congr 2
 apply Eh
 intro a _;show PyData.bool (PyData.eqv (aJ (GC.jw x (iE (aJ a.1)))) (aJ a.2))=_;rw [dv,iw];rfl
theorem IX {as:List hU}{r:List Nat}(x:List Int):(r.map λi=>(as.map (ua x)).getD i true).all id=r.all λi=>(as.map (ua x)).getD i true:=by
 rw [List.all_map];rfl
theorem EY {as:List hU}{r:List Nat}(hr:∀i∈r,i < as.length)(x:List Int):bq (Bs as r) x=r.all λi=>(as.map (ua x)).getD i true:=by
 unfold bq Bs;rw [List.all_map];rw [Bool.eq_iff_iff,Q9,Q9]
 constructor
 · intro q i hi;have:=q i hi;have hl:=hr i hi;simp only [Function.comp,iI,cY hl,Option.getD_some]at this;rw [iI,zK,cY hl];exact this
 · intro q i hi;have:=q i hi;have hl:=hr i hi;rw [iI,zK,cY hl]at this;simp only [Function.comp,iI,cY hl,Option.getD_some];exact this
theorem AZ {p c:Int}(h:(p,c)∈bp){as:List hU}(al:as.length<=100){r:List Nat}(hr:∀i∈r,i < as.length)(hl:r.length<=100):fM [cZ r,.list ((aH p c).map (kY as))]=some (.bool (AY p c as r)):=by
 have q:=jq (fg:=(gN 2)) (fb:=(eY (cP (bJ qU (aA (bP (bE 1 [("row",2)] (ax (aB 0)) (gN 0) cM (d2 cV (aB 1) (aB 0)))) aI))) (ae (dC (.bool false))) bF)) (ds:=(aH p c).map (kY as)) (δ:=[some (.fz (cZ r)),some (.fz (.list ((aH p c).map (kY as)))),none])
  (λ _ δ => ∃ v, δ = [some (.fz (cZ r)), some (.fz (.list ((aH p c).map (kY as)))), v]) (λ i => (aH p c)[i]?.bind λ x => if bq (Bs as r) x = true then some (.bool false) else none) ⟨none, rfl⟩ (by
   rintro i hi δ ⟨v,rfl⟩;have hi':i < (aH p c).length:=by simpa using hi
   have ed:((aH p c).map (kY as))[i]=kY as (aH p c)[i]:=by simp
   rw [ed,cY hi'];refine⟨_,rfl,?_⟩;generalize (aH p c)[i]=x;have cx:(bE 1 [("row",2)] (ax (aB 0)) (gN 0) cM (d2 cV (aB 1) (aB 0))) [some (.fz (cZ r)),some (.fz (.list ((aH p c).map (kY as)))),some (.fz (kY as x))]=some ((r.map λi=>(as.map (ua x)).getD i true).map PyData.bool):=by
    have hi:((ax (aB 0))) [some (.fz (cZ r)),some (.fz (.list ((aH p c).map (kY as)))),some (.fz (kY as x))]=some (r.map λi:Nat=>PyData.int (i:Int)):=rfl;rw [dL (λd=>.bool ((as.map (ua x)).getD (rY d) true)) hi (by rw [zJ];exact dW (by omega)) (λd hd=>?_)]
    · rw [zO,zO];rfl
    · obtain⟨j,hj,rfl⟩:=Qd.mp hd;have hj2:=hr j hj;have e:rY (.int (j:Int))=j:=by show(j:Int).toNat=_;rw [yG]
      have x1:cV (kY as x) (.int (j:Int))=some (.bool ((as.map (ua x)).getD j true)):=by
       show rD ((as.map (ua x)).map PyData.bool) (j:Int)=_;have hj3:j < (as.map (ua x)).length:=by rw [zJ];exact hj2
       rw [xL,pE hj3,iI,cY hj3];rfl
      rw [e];simp only [aB,d2,iJ,cM,gN,zI,zL,Q3,Q2,zA,zB,zE,List.replicate,zD,zG, ↓reduceIte,x1]
   have bs:mY ((r.map λi=>(as.map (ua x)).getD i true).map PyData.bool)=some (r.map λi=>(as.map (ua x)).getD i true):=lW _;have fp:=EY hr x;rw [<-IX]at fp;cases hf:bq (Bs as r) x with
   |true=>
    rw [hf]at fp;refine .inr ⟨.bool false,by rw [zD,if_pos hf],?_⟩
    simp only [eY,ae,dC,bJ,aI,aA,bP,cP,n9,bF,qU,zE,zF,zD,zG, ↓reduceIte,cx,bs, <-fp]
   |false=>
    rw [hf]at fp;refine .inl ⟨by rw [zD,if_neg (by rw [hf];simp)],_,?_,some (.fz (kY as x)),rfl⟩
    simp only [eY,ae,dC,bJ,aI,aA,bP,cP,n9,bF,qU,zE,zF,zD,zG, ↓reduceIte,zN,cx,bs, <-fp])
 rcases q with⟨δ',e1,⟨v,rfl⟩,e3⟩|⟨j,v,hj,e1,e2,e3⟩
 · have hc:AY p c as r=true:=by
    unfold AY;rw [List.isEmpty_iff,List.filter_eq_nil_iff];intro x hx;obtain⟨i,hi,rfl⟩:=List.mem_iff_getElem.mp hx;have:=e3 i (by simpa using hi)
    rw [cY hi]at this;intro hf;rw [zD,if_pos hf]at this;cases this
   rw [hc];simp only [fM,pp,mt,mr,bV,gu,aP,ae,bd,aB,dC,ax,jL,bj,zI,zL,zC,zH,Q3,Q2,zA,zB,List.replicate,zD,zG,Nat.reduceAdd,Nat.reduceSub,e1]
 · have hj':j < (aH p c).length:=by simpa using hj
   rw [cY hj',zD]at e2;have hf:bq (Bs as r) (aH p c)[j]=true:=by
    by_cases q:bq (Bs as r) (aH p c)[j]=true
    · exact q
    · rw [if_neg q]at e2;cases e2
   rw [if_pos hf]at e2;cases e2;have hc:AY p c as r=false:=by
    unfold AY;rw [Bool.eq_false_iff];intro z;rw [List.isEmpty_iff,List.filter_eq_nil_iff]at z;exact z _ (Qc hj') hf
   rw [hc];simp only [fM,pp,mt,mr,bV,gu,aP,ae,bd,aB,dC,ax,jL,bj,zI,zL,zC,zH,Q3,Q2,zA,zB,List.replicate,zD,zG,Nat.reduceAdd,Nat.reduceSub,e3]
noncomputable def fs(p c:Int)(as:List hU)(k:Nat):Option (List Nat):=(iG as.length k).find? (AY p c as)
noncomputable def xw(p c:Int)(as:List hU):Nat->Nat->Option (List Nat)
 |_,0=>none
 |lo,m+1=>(fs p c as lo).or (xw p c as (lo+1) m)
theorem Bu {α:Type}{q:α->Bool}:∀{l:List α},(∀i,i < l.length->∀x,l[i]? =some x->q x=false)->l.find? q=none:=λ{l} h=>by
 rw [List.find?_eq_none];intro x hx;obtain⟨i,hi,rfl⟩:=List.mem_iff_getElem.mp hx;rw [h i hi _ (cY hi)]
 simp
theorem DG {α:Type}{q:α->Bool}:∀{l:List α} {j:Nat} (hj:j < l.length),(∀i,i < j->∀x,l[i]? =some x->q x=false)->q l[j]=true->l.find? q=some l[j]
 |a::r,0,_,_,h=>by simp at h;simp [h]
 |a::r,j+1,hj,h1,h=>by
  have h0:=h1 0 (by omega) a rfl
  rw [List.find?_cons,h0];have:=DG (l:=r) (j:=j) (by simpa using hj) (λi hi x hx=>h1 (i+1) (by omega) x (by simpa using hx)) (by simpa using h)
  simpa using this
theorem Bv {fg:PyData->aT->Option aT}{fb:aT->Option DFlow}{p c:Int}{as:List hU}{l:List (List Nat)}{δ:aT}(P:aT->Prop)(ret:List Nat->PyData)(h0:P δ)
 (h:∀r∈l,∀δ,P δ->∃δ1,fg (cZ r) δ=some δ1/\((AY p c as r=false/\∃δ2,fb δ1=some (.nx δ2)/\P δ2)\/(AY p c as r=true/\fb δ1=some (.rt (ret r))))):
 (∃δ',fw fg fb (l.map cZ) δ=some (.nx δ')/\P δ'/\l.find? (AY p c as)=none)\/(∃r,l.find? (AY p c as)=some r/\fw fg fb (l.map cZ) δ=some (.rt (ret r))):=by
 have q:=jq (fg:=fg) (fb:=fb) (ds:=l.map cZ) (λ_=>P) (λi=>l[i]?.bind λr=>if AY p c as r=true then some (ret r)else none) h0 (by
  intro i hi δ hp;have hi':i < l.length:=by simpa using hi
  obtain⟨δ1,e1,e2⟩:=h l[i] (Qc hi') δ hp;refine⟨δ1,by rw [K7];exact e1,?_⟩
  rw [cY hi',zD]
  rcases e2 with⟨c1,q⟩|⟨c1,q⟩
  · exact .inl ⟨if_neg (by rw [c1];simp),q⟩
  · exact .inr ⟨ret l[i],if_pos c1,q⟩)
 have un:∀i:Nat,(l[i]?.bind λr=>if AY p c as r=true then some (ret r)else none)=none->∀x,l[i]? =some x->AY p c as x=false:=λi hn x hx=>by
  rw [hx,zD]at hn
  by_cases z:AY p c as x=true
  · rw [if_pos z]at hn;cases hn
  · exact Bool.eq_false_iff.mpr z
 rcases q with⟨δ',e1,hp,e3⟩|⟨j,v,hj,e1,e2,e3⟩
 · exact .inl ⟨δ',e1,hp,Bu λi hi x hx=>un i (e3 i (by simpa using hi)) x hx⟩
 · have hj':j < l.length:=by simpa using hj
   rw [cY hj',zD]at e2;have hc:AY p c as l[j]=true:=by
    by_cases z:AY p c as l[j]=true
    · exact z
    · rw [if_neg z]at e2;cases e2
   rw [if_pos hc]at e2;cases e2;exact .inr ⟨l[j],DG hj' (λi hi x hx=>un i (e1 i hi) x hx) hc,e3⟩
theorem xx {p c:Int}(h:(p,c)∈bp){as:List hU}(ao:∀a∈as,AskOk p c a)(al:as.length<=5):
 bW [aJ [p,c],.list (as.map aj)]=some (if((aH p c).filter (bq as)).isEmpty=true then cZ ((xw p c as 1 (as.length - 1)).getD (List.range as.length))else .none):=by
 have q1:aq [aJ [p,c],.list (as.map aj)]=some (bY ((aH p c).filter (bq as))):=iF h ao (by omega)
 have q2:=dq h;have emp:(((aH p c).filter (bq as)).map aJ).isEmpty=((aH p c).filter (bq as)).isEmpty:=by cases(aH p c).filter (bq as)<;>rfl
 cases hE:((aH p c).filter (bq as)).isEmpty with
 |false=>simp only [bW,kW,jQ,jP,jO,jN,bV,gu,aP,eY,aY,ae,bd,aB,dC,bJ,aE,aI,aA,bP,cP,n9,lz,bF,bj,lB,zI,zL,zC,zH,Q3,Q2,zA,zB,List.replicate,zD,zG,Nat.reduceAdd,Nat.reduceSub, ↓reduceIte,Bool.not_false,zN,q1,bY,emp,hE]
 |true=>
  rw [if_pos rfl];have l1:=nV h;have rw1:(bE 1 [("asks",1)] (ax (aE 1 ah (aA (aB 0) aI))) (gN 0) cM (aE 2 cL (aA (aB 0) (aA (aB 1) aI)))) [some (.fz (aJ [p,c])),some (.fz (.list (as.map aj))),none,none,none]=some ((aH p c).map (kY as)):=by
   have hi:((ax (aE 1 ah (aA (aB 0) aI)))) [some (.fz (aJ [p,c])),some (.fz (.list (as.map aj))),none,none,none]=some ((aH p c).map aJ):=by simp only [aB,aE,aI,aA,ax,jL,zC,zH,zA,zD,Nat.reduceAdd, ↓reduceIte,q2,bY]
   rw [dL (λd=>kY as (iE d)) hi (by rw [zJ];exact dW (Q7 l1 (by decide))) (λd hd=>?_)]
   · rw [zO];congr 1
     apply Eh
     intro x _;show kY as (iE (aJ x))=_;rw [dv]
   · obtain⟨x,hx,rfl⟩:=qC hd;have:=IW h (gU h hx) ao (by omega)
     rw [dv];simp only [aB,aE,aI,aA,iJ,cM,gN,zI,zL,zC,zH,Q3,Q2,zA,zB,zE,List.replicate,zD,zG,Nat.reduceAdd, ↓reduceIte,this]
  have sn:=jp (c:=(as.length:Int)) (by omega) (by omega)
  have s1:=jp (c:=1) (by omega) (by omega)
  have q:=jq (fg:=(gN 3)) (fb:=(bd (ax (aE 2 gB (aA (bJ cX (aA (aB 1) aI)) (aA (aB 3) aI)))) (gN 4) (eY (cP (aE 2 fM (aA (aB 4) (aA (aB 2) aI)))) (ae (aB 4)) bF))) (ds:=am 1 (as.length - 1)) (δ:=[some (.fz (aJ [p,c])),some (.fz (.list (as.map aj))),some (.fz (.list ((aH p c).map (kY as)))),none,none])
   (λ _ δ => ∃ v3 v4, δ = [some (.fz (aJ [p, c])), some (.fz (.list (as.map aj))), some (.fz (.list ((aH p c).map (kY as)))), v3, v4]) (λ i => (fs p c as (1 + i)).map cZ) ⟨none, none, rfl⟩ (by
    rintro i hi δ ⟨v3,v4,rfl⟩;have hi':i < as.length - 1:=by simpa [am]using hi
    have ed:(am 1 (as.length - 1))[i]=.int ((1+i:Nat):Int):=by simp [am]
    rw [ed];have ch:=u6 (n:=as.length) (k:=1+i) (by omega) (by omega)
    refine⟨_,rfl,?_⟩;have il:=Bv (p:=p) (c:=c) (as:=as) (l:=iG as.length (1+i)) (fg:=(gN 4)) (fb:=(eY (cP (aE 2 fM (aA (aB 4) (aA (aB 2) aI)))) (ae (aB 4)) bF)) (δ:=[some (.fz (aJ [p,c])),some (.fz (.list (as.map aj))),some (.fz (.list ((aH p c).map (kY as)))),some (.fz (.int ((1+i:Nat):Int))),v4])
     (λ δ => ∃ v4, δ = [some (.fz (aJ [p, c])), some (.fz (.list (as.map aj))), some (.fz (.list ((aH p c).map (kY as)))), some (.fz (.int ((1 + i : Nat) : Int))), v4]) cZ ⟨v4, rfl⟩ (by
      rintro r hr δ ⟨w4,rfl⟩;obtain⟨r1,r2⟩:=o9 _ _ r hr;have cb:=AZ h (as:=as) (by omega) r1 (by omega)
      refine⟨_,rfl,?_⟩;cases hc:AY p c as r with
      |false=>
       rw [hc]at cb;refine .inl ⟨rfl,_,?_,some (.fz (cZ r)),rfl⟩;simp only [eY,ae,aB,aE,aI,aA,cP,n9,bF,zC,zH,zA,zB,zE,zF,zD,zG,Nat.reduceAdd, ↓reduceIte,zN,cb]
      |true=>
       rw [hc]at cb;refine .inr ⟨rfl,?_⟩;simp only [eY,ae,aB,aE,aI,aA,cP,n9,bF,zC,zH,zA,zB,zE,zF,zD,zG,Nat.reduceAdd, ↓reduceIte,cb])
    unfold fs
    rcases il with⟨δ2,f1,⟨w4,rfl⟩,f3⟩|⟨r,f1,f2⟩
    · rw [f3];refine .inl ⟨rfl,_,?_,some (.fz (.int ((1+i:Nat):Int))),w4,rfl⟩;simp only [bd,aB,bJ,aE,aI,aA,ax,jL,cX,nq,zC,zH,zA,zB,zE,zF,zD,zG,Nat.reduceAdd, ↓reduceIte,zJ,ch,u0,f1]
    · rw [f1];refine .inr ⟨cZ r,rfl,?_⟩;simp only [bd,aB,bJ,aE,aI,aA,ax,jL,cX,nq,zC,zH,zA,zB,zE,zF,zD,zG,Nat.reduceAdd, ↓reduceIte,zJ,ch,u0,f2])
  have sr:∀m lo,(∀i,i < m->fs p c as (lo+i)=none)->xw p c as lo m=none:=by
   intro m
   induction m with
   |zero=>intro lo _;rfl
   |succ m ih=>
    intro lo hh;show(fs p c as lo).or (xw p c as (lo+1) m)=none;rw [show fs p c as lo=none from hh 0 (by omega),ih (lo+1) λi hi=>by have:=hh (i+1) (by omega);rwa [show lo+(i+1)=lo+1+i by omega]at this]
    rfl
  have sj:∀m lo j r,j < m->(∀i,i < j->fs p c as (lo+i)=none)->fs p c as (lo+j)=some r->xw p c as lo m=some r:=by
   intro m
   induction m with
   |zero=>intro lo j r hj;omega
   |succ m ih=>
    intro lo j r hj hh e;show(fs p c as lo).or (xw p c as (lo+1) m)=some r;cases j with
    |zero=>rw [show fs p c as lo=some r from e];rfl
    |succ j=>
     rw [show fs p c as lo=none from hh 0 (by omega),ih (lo+1) j r (by omega) (λi hi=>by have:=hh (i+1) (by omega);rwa [show lo+(i+1)=lo+1+i by omega]at this) (by rwa [show lo+(j+1)=lo+1+j by omega]at e)]
     rfl
  have len2:(am 1 (as.length - 1)).length=as.length - 1:=by simp [am]
  have tn:((as.length:Int) - 1).toNat=as.length - 1:=by omega
  have z2:(decide (0<=(as.length:Int))&&decide ((as.length:Int)<=100000))=true:=by rw [decide_eq_true (by omega),decide_eq_true (by omega)];rfl
  have rl:am 0 as.length=(List.range as.length).map λi:Nat=>PyData.int (i:Int):=nW _
  rcases q with⟨δ',e1,⟨v3,v4,rfl⟩,e3⟩|⟨j,v,hj,e1,e2,e3⟩
  · rw [sr _ _ λi hi=>by
     have:=e3 i (by rw [len2];exact hi)
     simpa using this]
    simp only [bW,kW,jQ,jP,jO,jN,bV,gu,aP,eY,aY,ae,bd,aB,dC,bJ,aE,aI,aA,bP,cP,n9,lz,bF,bj,cX,nq,lB,zI,zL,zC,zH,Q3,Q2,zA,zB,zE,zF,List.replicate,zD,zG,Nat.reduceAdd,Nat.reduceSub, ↓reduceIte,DN,Bool.and_true,zN,q1,bY,emp,hE,rw1,zJ,sn,s1,tn,e1,z2,yG,rl];rfl
  · rw [len2]at hj;obtain⟨r,g1,g2⟩:=Q0.mp e2;subst g2;rw [sj _ _ j r hj (λi hi=>by
     have:=e1 i hi;simpa using this) g1]
    simp only [bW,kW,jQ,jP,jO,jN,bV,gu,aP,eY,aY,ae,bd,aB,dC,bJ,aE,aI,aA,bP,cP,n9,lz,bF,bj,cX,nq,lB,zI,zL,zC,zH,Q3,Q2,zA,zB,zE,zF,List.replicate,zD,zG,Nat.reduceAdd,Nat.reduceSub, ↓reduceIte,DN,Bool.and_true,zN,q1,bY,emp,hE,rw1,zJ,sn,s1,tn,e3];rfl
theorem NP {m:Int}(h:0<=m/\m < 8):m=0\/m=1\/m=2\/m=3\/m=4\/m=5\/m=6\/m=7:=by omega
theorem IY(ns:List Int):∃p c,fA [qK ns,.int 0]=some (aJ [p,c])/\(p,c)∈qo:=by
 have k0:bR [qK ns,.int 0]=some (.int (fV ns 0)):=xi ns 0;have k3:=Bl (fV ns 0) (p:=9973) (m:=8) (by decide) (by decide)
 have l8:(8:Nat)<=eD:=dW (by decide)
 have e:fA [qK ns,.int 0]=cV (.list [.tuple [.int 2,.int 3],.tuple [.int 3,.int 2],.tuple [.int 2,.int 4],.tuple [.int 4,.int 2],.tuple [.int 1,.int 5],.tuple [.int 2,.int 2],.tuple [.int 1,.int 3],.tuple [.int 2,.int 3]]) (.int (jx (fV ns 0) 9973 8)):=by
  simp only [fA,tm,ny,nw,yz,bV,gu,aP,aY,ae,aB,dC,d2,aE,aI,aA,bb,bP,zI,zL,zC,zH,Q3,Q2,zA,zB,zE,zF,List.replicate,zD,zG,Nat.reduceAdd,Nat.reduceSub, ↓reduceIte,k0,k3,l8];generalize cV _ _=z;cases z<;>rfl
 rw [e]
 rcases NP (uQ (fV ns 0) (p:=9973) (show(0:Int) < 8 by decide))with h|h|h|h|h|h|h|h<;>rw [h]
 · exact⟨2,3,rfl,by decide⟩
 · exact⟨3,2,rfl,by decide⟩
 · exact⟨2,4,rfl,by decide⟩
 · exact⟨4,2,rfl,by decide⟩
 · exact⟨1,5,rfl,by decide⟩
 · exact⟨2,2,rfl,by decide⟩
 · exact⟨1,3,rfl,by decide⟩
 · exact⟨2,3,rfl,by decide⟩
theorem K1 {d:PyData}(h:qL d=true):d.canLay0=true:=by
 unfold qL at h;rw [Q5]at h;exact h.1
theorem A0 {d:PyData}(h:qL d=true):CW d d=some (.bool false):=by
 rw [GJ h h,SeqAt.eqv_refl _ (K1 h)];rfl
theorem IZ(q:KN):okN 2 (kF q):=sL λd hd=>by
 rcases Q4.mp hd with rfl|hd
 · exact hZ _
 · rcases Q4.mp hd with rfl|hd
   · exact⟨(io _).1,by have:=(io q.2).2;omega⟩
   · cases hd
theorem NQ:qD (aH 2 3) 2 [[0,1],[0,2]]=true:=by decide+kernel
theorem NR:qD (aH 3 2) 2 [[0,0,1],[0,1,1]]=true:=by decide+kernel
theorem NT:qD (aH 2 4) 3 [[0,0],[1,2],[1,3]]=true:=by decide+kernel
theorem NU:qD (aH 4 2) 3 [[0,0,0,1],[0,0,1,0],[0,1,0,0]]=true:=by decide+kernel
theorem NV:qD (aH 1 5) 4 [[0],[1],[2],[3]]=true:=by decide+kernel
theorem NW:qD (aH 2 2) 2 [[0,0],[0,1]]=true:=by decide+kernel
theorem NX:qD (aH 1 3) 2 [[0],[1]]=true:=by decide+kernel
theorem OS {p c:Int}(h:(p,c)∈qo):gb [aJ [p,c]]=some (aJ [p,c])/\∃m T,qD (aH p c) m T=true:=by
 rcases wa h with⟨rfl,rfl⟩|⟨rfl,rfl⟩|⟨rfl,rfl⟩|⟨rfl,rfl⟩|⟨rfl,rfl⟩|⟨rfl,rfl⟩|⟨rfl,rfl⟩
 · exact⟨rfl,_,_,NQ⟩
 · exact⟨rfl,_,_,NR⟩
 · exact⟨rfl,_,_,NT⟩
 · exact⟨rfl,_,_,NU⟩
 · exact⟨rfl,_,_,NV⟩
 · exact⟨rfl,_,_,NW⟩
 · exact⟨rfl,_,_,NX⟩
theorem jV {α:Type}{f:α->PyData}(h:∀a,je (f a)=true):∀l:List α,flats (l.map f)=true
 |[]=>rfl
 |a::l=>by
  show(je (f a)&&flats (l.map f))=true;rw [h a,jV h l];rfl
theorem jW(x:List Int):je (aJ x)=true:=jV (f:=PyData.int) (λ_=>rfl) x
theorem EZ(a:hU):je (aj a)=true:=by
 show(je (aJ a.1)&&(je (aJ a.2)&&true))=true;rw [jW,jW];rfl
theorem E1(q:KN):je (kF q)=true:=by
 show(je (aJ q.1)&&(true&&true))=true;rw [jW];rfl
theorem sO {es:List PyData}{as:List hU}(f:flats es=true)(h:∀e∈es,∀a:hU,e≠aj a):lm (as.map aj) (.list es):=by
 refine .inr ⟨es,rfl,f,?_⟩;cases as with
 |nil=>exact .inr rfl
 |cons a r=>exact .inl λe=>h (aj a) (by rw [e];exact lN) a rfl
theorem M0(x:List Int)(a:hU):aJ x≠aj a:=λe=>by
 cases x with
 |nil=>cases e
 |cons y r=>
  injection e with e
  injection e with e _
  cases e
theorem K2(q:KN)(a:hU):kF q≠aj a:=λe=>by
 injection e with e
 injection e with _ e
 injection e with e _
 cases e
noncomputable def lH(l:List Nat):List PyData:=l.map λi:Nat=>PyData.int (i:Int)
theorem lv(l:List Nat):flats (lH l)=true:=jV (f:=λi:Nat=>PyData.int (i:Int)) (λ_=>rfl) l
theorem DH {l:List Nat}{e:PyData}(h:e∈lH l)(a:hU):e≠aj a:=λz=>by
 obtain⟨i,_,rfl⟩:=Qd.mp h;cases z
theorem NY {α:Type}{f:α->PyData}{n:Nat}(h:∀a,okN n (f a))(l:List α):okN (n+1) (.list (l.map f)):=tG λd hd=>by
 obtain⟨a,_,rfl⟩:=Qd.mp hd;exact h a
theorem A1:∀{a b:List (List PyData)},a.map PyData.list=b.map PyData.list->a=b
 |[],[],_=>rfl
 |[],_::_,h=>nomatch h
 |_::_,[],h=>nomatch h
 |x::a,y::b,h=>by
  injection h with h1 h2
  injection h1 with h1
  rw [h1,A1 h2]
theorem A3 {p c:Int}{as:List hU}:∀{m lo:Nat} {r:List Nat},xw p c as lo m=some r->r.length<=lo+m
 |0,_,_,h=>nomatch h
 |m+1,lo,r,h=>by
  unfold xw at h;cases z:fs p c as lo with
  |some r'=>
   rw [z]at h;cases h;have:=(o9 as.length lo r (zR z)).2;omega
  |none=>
   rw [z]at h;have:=A3 (m:=m) (lo:=lo+1) (r:=r) h;omega
theorem NZ {p c:Int}(h7:(p,c)∈qo){as:List hU}(ao:∀a∈as,AskOk p c a)(al:as.length<=4){h:List Int}(ch:Code p c h):
 ∃(e1 e2 e3 e4 e6:List PyData) (t:List (List PyData)),GoodL ah bO aq bo fZ dP ak bW (aJ [p,c]) (.list (as.map aj)) (aJ h) ((aH p c).map aJ::e1::e2::e3::e4::(eW (aH p c) h 8 (aH p c)).map aj::e6::t)/\
  ∀ess,GoodL ah bO aq bo fZ dP ak bW (aJ [p,c]) (.list (as.map aj)) (aJ h) ess->ess=(aH p c).map aJ::e1::e2::e3::e4::(eW (aH p c) h 8 (aH p c)).map aj::e6::t/\qL (.list (ess.map .list))=true:=by
 have hm:=wb h7;obtain⟨sg,m,T,ck⟩:=OS h7;unfold qD at ck;simp only [Q5,decide_eq_true_eq,Q9]at ck;obtain⟨⟨⟨⟨⟨n16,k2⟩,k3⟩,k4⟩,k5⟩,k6⟩:=ck;have q0:ah [aJ [p,c]]=some (.list ((aH p c).map aJ)):=dq hm;have q1:bO [aJ [p,c]]=some (.list ((iL (fF [] (jr (aH p c) (aH p c).length))).map aJ)):=uZ hm k3;have q2:aq [aJ [p,c],.list (as.map aj)]=some (.list (((aH p c).filter (bq as)).map aJ)):=iF hm ao (by omega)
 have q3:bo [aJ [p,c],.list (as.map aj)]=some (.list (lH ((List.range as.length).filter (nh p c as)))):=AV hm ao (by omega)
 have fl:((aH p c).filter (bq as)).length<=16:=Q7 (List.length_filter_le _ _) n16;have cl:(hJ h ((aH p c).filter (bq as))).length<=16:=Q7 (AL _ _) fl;have q4:=II hm ao (by omega) ch (g:=h) (by omega)
 have q5:=EX hm k2 n16 ch;have q6:ak [aJ [p,c]]=some (.list (T.map aJ)):=EV hm n16 sg k4 k5 λj hj=>by
  have:=k6 j (List.mem_range.mpr hj);cases z:Bq (aH p c) j with
  |none=>rfl
  |some _=>rw [z]at this;cases this
 have q7:=xx hm ao (by omega)
 have Tl:T.length<=1000:=by
  have:=zR k5;obtain⟨chz,hz,rfl⟩:=Qd.mp this;have:=(AW hm hz).2;omega
 have al1:(iL (fF [] (jr (aH p c) (aH p c).length))).length<=1000:=by
  unfold KQ at k3;simp only [Q5,decide_eq_true_eq]at k3;rw [EO];omega
 have sl:(pN (hJ h ((aH p c).filter (bq as)))).length<=1000:=by
  have:=(nQ (hJ h ((aH p c).filter (bq as)))).length_eq;omega
 have pl:=u7 (aH p c) h 8 (aH p c);have f1:=jV (f:=aJ) jW;have f2:=jV (f:=aj) EZ;have f3:=jV (f:=kF) E1;have o1:=NY (f:=aJ) (n:=1) hZ;have o2:=NY (f:=aj) (n:=2) xo;have o3:=NY (f:=kF) (n:=2) IZ;have o4:∀l,okN 1 (.list (lH l)):=NY (f:=λi:Nat=>PyData.int (i:Int)) (n:=0) λ_=>io _;have L2':=sO (as:=as) (f1 ((aH p c).filter (bq as))) λe he a=>by obtain⟨x,_,rfl⟩:=Qd.mp he;exact M0 x a
 have L3':=sO (as:=as) (lv ((List.range as.length).filter (nh p c as))) λe he a=>DH he a;have L4':=sO (as:=as) (f3 (pN (hJ h ((aH p c).filter (bq as))))) λe he a=>by obtain⟨x,_,rfl⟩:=Qd.mp he;exact K2 x a
 have lim:∀{n:Nat},n<=1000->n<=eD:=λh=>dW h;have key:∀(t:List (List PyData)),(bW [aJ [p,c],.list (as.map aj)]=some .none/\t=[]\/∃l,bW [aJ [p,c],.list (as.map aj)]=some (.list (lH l))/\t=[lH l]/\l.length<=1000)->
  GoodL ah bO aq bo fZ dP ak bW (aJ [p,c]) (.list (as.map aj)) (aJ h) ((aH p c).map aJ::(iL (fF [] (jr (aH p c) (aH p c).length))).map aJ::((aH p c).filter (bq as)).map aJ::lH ((List.range as.length).filter (nh p c as))::(pN (hJ h ((aH p c).filter (bq as)))).map kF::(eW (aH p c) h 8 (aH p c)).map aj::T.map aJ::t)/\
  ∀ess,GoodL ah bO aq bo fZ dP ak bW (aJ [p,c]) (.list (as.map aj)) (aJ h) ess->ess=(aH p c).map aJ::(iL (fF [] (jr (aH p c) (aH p c).length))).map aJ::((aH p c).filter (bq as)).map aJ::lH ((List.range as.length).filter (nh p c as))::(pN (hJ h ((aH p c).filter (bq as)))).map kF::(eW (aH p c) h 8 (aH p c)).map aj::T.map aJ::t/\qL (.list (ess.map .list))=true:=by
  intro t ht;have tf:∀es∈t,flats es=true/\es.length<=eD/\okN 3 (.list es):=λes he=>by
   rcases ht with⟨_,rfl⟩|⟨l,_,rfl,hl⟩
   · cases he
   · rw [Qf.mp he];exact⟨lv l,lim (by unfold lH;rw [zJ];exact hl),(o4 l).mono (by decide)⟩
  have tl:t.length<=1:=by
   rcases ht with⟨_,rfl⟩|⟨l,_,rfl,hl⟩
   · exact zU _
   · exact Q1 _
  have each:∀es∈(aH p c).map aJ::(iL (fF [] (jr (aH p c) (aH p c).length))).map aJ::((aH p c).filter (bq as)).map aJ::lH ((List.range as.length).filter (nh p c as))::(pN (hJ h ((aH p c).filter (bq as)))).map kF::(eW (aH p c) h 8 (aH p c)).map aj::T.map aJ::t,flats es=true/\es.length<=eD/\okN 3 (.list es):=λes he=>by
   rcases Q4.mp he with rfl|he
   · exact⟨f1 _,lim (by rw [zJ];omega),(o1 _).mono (by decide)⟩
   rcases Q4.mp he with rfl|he
   · exact⟨f1 _,lim (by rw [zJ];omega),(o1 _).mono (by decide)⟩
   rcases Q4.mp he with rfl|he
   · exact⟨f1 _,lim (by rw [zJ];omega),(o1 _).mono (by decide)⟩
   rcases Q4.mp he with rfl|he
   · exact⟨lv _,lim (by unfold lH;rw [zJ];have:=List.length_filter_le (nh p c as) (List.range as.length);rw [DM]at this;omega),(o4 _).mono (by decide)⟩
   rcases Q4.mp he with rfl|he
   · exact⟨f3 _,lim (by rw [zJ];omega),o3 _⟩
   rcases Q4.mp he with rfl|he
   · exact⟨f2 _,lim (by rw [zJ];omega),o2 _⟩
   rcases Q4.mp he with rfl|he
   · exact⟨f1 _,lim (by rw [zJ];omega),(o1 _).mono (by decide)⟩
   exact tf es he
  constructor
  · refine⟨⟨as.map aj,rfl,f2 as,jW _,jW _,⟨_,_,_,_,_,_,_,q0,q1,q2,q3,q4,q5,q6,L2',L3',L4',?_⟩⟩,λes he=>⟨(each es he).1,(each es he).2.1⟩,by simp only [zC];omega,by simp⟩
    rcases ht with⟨a,rfl⟩|⟨l,a,rfl,hl⟩
    · exact .inl ⟨a,rfl⟩
    · exact .inr ⟨lH l,a,sO (lv l) λe he a=>DH he a,rfl⟩
  · intro ess g;obtain⟨⟨asks,ea,_,_,_,⟨d0,d1,d2,d3,d4,d5,d6,r0,r1,r2,r3,r4,r5,r6,_,_,_,r7⟩⟩,_,_,_⟩:=g;cases ea;rw [q0]at r0;rw [q1]at r1;rw [q2]at r2;rw [q3]at r3;rw [q4]at r4;rw [q5]at r5;rw [q6]at r6;cases r0;cases r1;cases r2;cases r3;cases r4;cases r5;cases r6;have ee:ess=(aH p c).map aJ::(iL (fF [] (jr (aH p c) (aH p c).length))).map aJ::((aH p c).filter (bq as)).map aJ::lH ((List.range as.length).filter (nh p c as))::(pN (hJ h ((aH p c).filter (bq as)))).map kF::(eW (aH p c) h 8 (aH p c)).map aj::T.map aJ::t:=by
     refine A1 ?_
     rcases ht with⟨a,rfl⟩|⟨l,a,rfl,hl⟩<;>rcases r7 with⟨b,e⟩|⟨es,b,_,e⟩<;>rw [a]at b<;>cases b<;>exact e
    refine⟨ee,?_⟩;rw [ee];refine(tG (n:=3) λd hd=>?_).ok;obtain⟨es,he,rfl⟩:=Qd.mp hd;exact(each es he).2.2
 cases hE:((aH p c).filter (bq as)).isEmpty with
 |false=>
  rw [hE]at q7;exact⟨_,_,_,_,_,[],key [] (.inl ⟨q7,rfl⟩)⟩
 |true=>
  rw [hE,if_pos rfl]at q7;refine⟨_,_,_,_,_,_,key _ (.inr ⟨_,q7,rfl,?_⟩)⟩;cases z:xw p c as 1 (as.length - 1)with
  |none=>
   show(List.range as.length).length<=1000;rw [DM];omega
  |some r=>
   have:=A3 z;show r.length<=1000;omega
theorem law_true(ns:List Int)(hl:ns.length<=63):IA [qK ns]=some (.bool true):=by
 obtain⟨p,c,hg,h7⟩:=IY ns;have hm:=wb h7;have b:=dQ hm;obtain⟨as,ha,al,ao⟩:=KJ hm ns 1;have ha':gR [qK ns,.int 1,aJ [p,c]]=some (as.map aj):=ha;have c1:bR [qK ns,.int 1]=some (.int (fV ns 1)):=xi ns 1;have ch:=o5 hm (fV ns 1);have cd:=Cu hm (fV ns 1);generalize uR p c (fV ns 1)=h at ch cd;obtain⟨e1,e2,e3,e4,e6,t,g1,g2⟩:=NZ h7 ao al ch;obtain⟨ess,w⟩:=EF g1;obtain⟨ee,ok⟩:=g2 ess (rL w);have ne:CW (.list (as.map aj)) (.list (as.map aj))=some (.bool false):=A0 (NY (f:=aj) (n:=2) xo as).ok;have nl:CW (.list (ess.map .list)) (.list (ess.map .list))=some (.bool false):=A0 ok;have i0:cV (.list (ess.map .list)) (.int 0)=some (.list ((aH p c).map aJ)):=by
  rw [ee];exact wv (j:=0) rfl
 have i5:cV (.list (ess.map .list)) (.int 5)=some (.list ((eW (aH p c) h 8 (aH p c)).map aj)):=by
  rw [ee];exact wv (j:=5) rfl
 have lc:fC [aJ [p,c]]=some (.list ((aH p c).map aJ)):=xm hm;have pa:∀a∈eW (aH p c) h 8 (aH p c),AskOk p c a/\GC.jw h a.1=a.2:=λa hx=>by
  obtain⟨fit,rfl⟩:=AX hx;exact⟨DE (jU hm) (u8 hm) ch,rfl⟩
 have wf:aq [aJ [p,c],.list ((eW (aH p c) h 8 (aH p c)).map aj)]=some (.list (((aH p c).filter (bq (eW (aH p c) h 8 (aH p c)))).map aJ)):=iF hm (λa hx=>(pa a hx).1) (u7 _ _ _ _);have mem:h∈(aH p c).filter (bq (eW (aH p c) h 8 (aH p c))):=List.mem_filter.mpr ⟨DF hm ch,Q9.mpr λa hx=>decide_eq_true (pa a hx).2⟩;have inn:=AN h ((aH p c).filter (bq (eW (aH p c) h 8 (aH p c)))) false;rw [if_neg (by decide),decide_eq_true mem]at inn
 have el:ou (.int (((aH p c).map aJ).length:Nat)) (.int (((aH p c).map aJ).length:Nat))=some (.bool true):=by rw [iA,decide_eq_true rfl]
 have r4:uP [some (.fz (qK ns)),some (.fz (aJ [p,c])),some (.fz (.list (as.map aj))),some (.fz (aJ h)),some (.fz (.list (as.map aj))),none,none,none]=uO [some (.fz (qK ns)),some (.fz (aJ [p,c])),some (.fz (.list (as.map aj))),some (.fz (aJ h)),some (.fz (.list (as.map aj))),none,some (.fz (.list (ess.map .list))),none]:=by
  have dl:md ah bO aq bo fZ dP ak bW 1 4 3 [some (.fz (qK ns)),some (.fz (aJ [p,c])),some (.fz (.list (as.map aj))),some (.fz (aJ h)),some (.fz (.list (as.map aj))),none,none,none]=some ess:=w;unfold uP zt;generalize uO=B7;rw [if_pos ⟨rfl,by simp,by simp,by simp,by decide,by decide,by decide⟩,dl]
  rfl
 have r7:uO [some (.fz (qK ns)),some (.fz (aJ [p,c])),some (.fz (.list (as.map aj))),some (.fz (aJ h)),some (.fz (.list (as.map aj))),none,some (.fz (.list (ess.map .list))),none]=some (.rt (.bool true)):=by
  have dl:md ah bO aq bo fZ dP ak bW 1 4 3 [some (.fz (qK ns)),some (.fz (aJ [p,c])),some (.fz (.list (as.map aj))),some (.fz (aJ h)),some (.fz (.list (as.map aj))),none,some (.fz (.list (ess.map .list))),none]=some ess:=w;unfold uO Hv;simp only [aP,eY,ae,aB,dC,d2,bJ,aE,aI,aA,dB,sy,fT,bF,cX,nq,zC,zH,zA,zB,zD,zG,Nat.reduceAdd, ↓reduceIte,zN,ne,dl,nl,i0,i5,lc,wf,inn,el]
 have e:Bk [some (.fz (qK ns)),none,none,none,none,none,none,none]=uP [some (.fz (qK ns)),some (.fz (aJ [p,c])),some (.fz (.list (as.map aj))),some (.fz (aJ h)),some (.fz (.list (as.map aj))),none,none,none]:=by
  unfold Bk Hz Hy Hw;generalize uP=B4;simp only [aP,aY,aB,dC,aE,nO,aI,aA,bP,jL,oV,zC,zH,zA,zB,zE,zF,zD,zG,Nat.reduceAdd, ↓reduceIte,hg,ha',c1,cd]
 show(MQ [some (.fz (qK ns)),none,none,none,none,none,none,none]).bind bj=_;rw [KH,e,r4,r7];rfl
noncomputable def kZ(i:Nat):Stmt:=PySem.Challenge.pw_guesscode_k18_nothing_is_kept.main.body.getD i (.Pass ⟨0,0,0,0⟩)
section
variable {P:Program} {w:World} {K:Fg} {mg:Str->Option Value} {base:Heap} {f:Addr} {fd:FuncData}
noncomputable abbrev jX:Stmt:=kZ 49
theorem Bw:FnScope ["_law_cell_here","_law_prime","_law_many"] ["_law_cell_here","_law_prime","_law_many"] (aL jX):=kU
theorem Bx(F:Fun K "_law_mix" "_law_mix" jX f fd)(B:Bt mg):FnOk P w K mg base gY 1 f fd ["_law_cell_here","_law_prime","_law_many"] (cF K 3 bZ):=
 bG F Bw rfl rfl λcdv A outer s H E hr=>have hu:=hr.units
  ⟨_,(aR (bA (cz Et (cz Et (cz qN (pv 0) af) (pv 1)) (pv 2)))),(bI (aw Fs (aw Fs (aw oS (aF 0) aX) (aF 1)) (aF 2)))⟩
abbrev nY(P:Program)(w:World)(K:Fg)(mg:Str->Option Value)(base:Heap):Prop:=Own P w K mg base 1 "_law_mix" ["_law_cell_here","_law_prime","_law_many"] (cF K 3 bZ)
noncomputable abbrev iR:Stmt:=kZ 48
theorem A4:FnScope ["_law_script","_law_k"] ["_law_script","_law_k"] (aL iR):=kU
theorem A5(F:Fun K "_law_cell" "_law_cell" iR f fd)(B:Bt mg):FnOk P w K mg base gY 1 f fd ["_law_script","_law_k"] (cF K 2 bR):=
 bG F A4 rfl rfl λcdv A outer s H E hr=>have hu:=hr.units
  ⟨_,(aM (dY (dO Mg (pv 1) (bT (gK K) (by rfl) B.len PySem.boot_len (aD (pv 0) aK)) (eQ _)) (aR (bA (dA (dF K) (pv 0) (pv 1) (λ_ _=>rfl)))) br) (aR (bA af))),(aV (fu (df (aw Mw (aF 1) (cB jE (aG (aF 0) aO)))) (bI (aw dG (aF 0) (aF 1))) cG) (bI aX))⟩
abbrev lw(P:Program)(w:World)(K:Fg)(mg:Str->Option Value)(base:Heap):Prop:=Own P w K mg base 1 "_law_cell" ["_law_script","_law_k"] (cF K 2 bR)
noncomputable abbrev gd:Stmt:=kZ 52
theorem qE:FnScope ["_law_script","_law_at","_law_some"] ["_law_script","_law_at"] (aL gd):=kU
theorem xy(F:Fun K "_law_small" "_law_small" gd f fd)(B:Bt mg)(O_law_mix:nY P w K mg base)(O_law_cell:lw P w K mg base):FnOk P w K mg base gY 2 f fd ["_law_script","_law_at"] (cF K 2 fA):=
 bG F qE rfl rfl λcdv A outer s H E hr=>have hu:=hr.units
  ⟨_,(@GQ _ _ _ _ _ (@J9 _ 2 _ _ _ _ _ [.tuple [.int 2,.int 3],.tuple [.int 3,.int 2],.tuple [.int 2,.int 4],.tuple [.int 4,.int 2],.tuple [.int 1,.int 5],.tuple [.int 2,.int 2],.tuple [.int 1,.int 3],.tuple [.int 2,.int 3]] qE.nd rfl (by first|exact Or.inl rfl|exact Or.inr rfl) (by rfl) (by rfl) (Or.inl rfl)) (aR (bA (dA (dF K) (pv 2) (aW O_law_mix hr (aD (aW O_law_cell hr (aD (pv 0) (aD (pv 1) aK))) (aD af (aD af aK)))) (λ_ _=>rfl))))),(aV (bN 2 (cO (fW (@Ja _ [.tuple [.int 2,.int 3],.tuple [.int 3,.int 2],.tuple [.int 2,.int 4],.tuple [.int 4,.int 2],.tuple [.int 1,.int 5],.tuple [.int 2,.int 2],.tuple [.int 1,.int 3],.tuple [.int 2,.int 3]] (by rfl))))) (bI (aw dG (aF 2) (aU (aG (aU (aG (aF 0) (aG (aF 1) aO))) (aG aX (aG aX aO)))))))⟩
abbrev rZ(P:Program)(w:World)(K:Fg)(mg:Str->Option Value)(base:Heap):Prop:=Own P w K mg base 2 "_law_small" ["_law_script","_law_at"] (cF K 2 fA)
noncomputable abbrev iS:Stmt:=kZ 53
theorem nH:FnScope ["_law_game","_law_cell_here","_law_found","_law_place"] ["_law_game","_law_cell_here"] (aL iS):=kU
theorem A6(F:Fun K "_law_code" "_law_code" iS f fd)(B:Bt mg)(O_law_mix:nY P w K mg base):FnOk P w K mg base gY 2 f fd ["_law_game","_law_cell_here"] (cF K 2 cK):=
 bG F nH rfl rfl λcdv A outer s H E hr=>have hu:=hr.units
  ⟨_,(aM (aa (i:=2) nH.nd (de aK)) (aM (cN PassesOwn.never rfl (fH rfl B.range (aD (dA (dF K) (pv 0) af (λ_ _=>rfl)) aK)) (bC (i:=3) nH.nd rfl (by first|exact Or.inl rfl|exact Or.inr rfl)) (aR (bz (mT PySem.F.plainAttrs_list PySem.F.slot_list_append PySem.F.type_list_append gX (pv 2) (aD (aW O_law_mix hr (aD (cz (dm K) (cz (dm K) (pv 1) (cz qN (cz qN af (pv 3)) (pv 3))) (cz qN af (pv 3))) (aD af (aD (dA (dF K) (pv 0) af (λ_ _=>rfl)) aK)))) aK))))) (aR (bA (iO (yY K) (by rfl) B.tuple PyProof.Rows.boot_tuple (aD (pv 2) aK)))))),(aV (kA 2 (fW aO)) (aV (dJ (jK (aG (aw dG (aF 0) aX) aO)) (bK 3) (ko 2 (aU (aG (aw eU (aw eU (aF 1) (aw oS (aw oS aX (aF 3)) (aF 3))) (aw oS aX (aF 3))) (aG aX (aG (aw dG (aF 0) aX) aO)))))) (mX 2 (bI (cB GE (aG (aF 2) aO))))))⟩
abbrev oh(P:Program)(w:World)(K:Fg)(mg:Str->Option Value)(base:Heap):Prop:=Own P w K mg base 2 "_law_code" ["_law_game","_law_cell_here"] (cF K 2 cK)
noncomputable abbrev fN:Stmt:=kZ 55
theorem bw:FnScope ["_law_one","_law_other","_law_right","_law_mine","_law_theirs","_law_a","_law_b","_law_elsewhere","_law_colour"] ["_law_one","_law_other"] (aL fN):=kU
theorem vP(F:Fun K "_law_answer" "_law_answer" fN f fd)(B:Bt mg):FnOk P w K mg base gY 1 f fd ["_law_one","_law_other"] (cF K 2 dI):=
 bG F bw rfl rfl λcdv A outer s H E hr=>have hu:=hr.units
  ⟨_,(aM (aa (i:=2) bw.nd af) (aM (aa (i:=3) bw.nd (de aK)) (aM (aa (i:=4) bw.nd (de aK)) (aM (cN PassesOwn.never rfl (La K B.zip (aD (pv 0) (aD (pv 1) aK))) (sI K (iq (bC (i:=5) bw.nd rfl (by first|exact Or.inl rfl|exact Or.inr rfl)) (iq (bC (i:=6) bw.nd rfl (by first|exact Or.inl rfl|exact Or.inr rfl)) sE))) (aR (dY (dO (oO K hu) (pv 5) (pv 6) (eQ _)) (aR (aa (i:=2) bw.nd (cz (dm K) (pv 2) af))) (aM (bz (mT PySem.F.plainAttrs_list PySem.F.slot_list_append PySem.F.type_list_append gX (pv 3) (aD (pv 5) aK))) (aR (bz (mT PySem.F.plainAttrs_list PySem.F.slot_list_append PySem.F.type_list_append gX (pv 4) (aD (pv 6) aK)))))))) (aM (aa (i:=7) bw.nd af) (aM (cN PassesOwn.never rfl (cW K (pv 3)) (bC (i:=8) bw.nd rfl (by first|exact Or.inl rfl|exact Or.inr rfl)) (aR (dY (dO (Ki K) (pv 8) (pv 4) (by rfl)) (aM (bz (mT PySem.F.plainAttrs_list PySem.F.slot_list_remove PySem.F.type_list_remove vg (pv 4) (aD (pv 8) aK))) (aR (aa (i:=7) bw.nd (cz (dm K) (pv 7) af)))) br))) (aR (bA (jD (aD (pv 2) (aD (pv 7) aK))))))))))),(aV (bN 2 aX) (aV (kA 3 (fW aO)) (aV (kA 4 (fW aO)) (aV (dJ (Lg (aG (aF 0) (aG (aF 1) aO))) (xI (iu (bK 5) (iu (bK 6) sJ))) (fu (df (aw tE (aF 5) (aF 6))) (bN 2 (aw eU (aF 2) aX)) (aV (ko 3 (aF 5)) (ko 4 (aF 6))))) (aV (bN 7 aX) (aV (mX 3 (dJ (dR (aF 3)) (bK 8) (fu (df (GF false 4 (aF 8))) (aV (vt 4 (aF 8)) (bN 7 (aw eU (aF 7) aX))) cG))) (bI (j6 (aG (aF 2) (aG (aF 7) aO))))))))))⟩
abbrev qF(P:Program)(w:World)(K:Fg)(mg:Str->Option Value)(base:Heap):Prop:=Own P w K mg base 1 "_law_answer" ["_law_one","_law_other"] (cF K 2 dI)
noncomputable abbrev iT:Stmt:=kZ 56
theorem d9:FnScope ["_law_script","_law_at","_law_game","_law_hidden","_law_found","_law_k","_law_seed","_law_guess","_law_told"] ["_law_script","_law_at","_law_game"] (aL iT):=kU
theorem A7(F:Fun K "_law_asks" "_law_asks" iT f fd)(B:Bt mg)(O_law_code:oh P w K mg base)(O_law_cell:lw P w K mg base)(O_law_mix:nY P w K mg base)(O_law_answer:qF P w K mg base):FnOk P w K mg base gY 3 f fd ["_law_script","_law_at","_law_game"] (Kk K 3 gR):=
 JU F d9 rfl rfl λcdv A outer s H E hr=>have hu:=hr.units
  ⟨_,(aM (aa (i:=3) d9.nd (aW O_law_code hr (aD (pv 2) (aD (aW O_law_cell hr (aD (pv 0) (aD (pv 1) aK))) aK)))) (aM (aa (i:=4) d9.nd (de aK)) (aM (cN PassesOwn.never rfl (fH rfl B.range (aD (aW O_law_mix hr (aD (aW O_law_cell hr (aD (pv 0) (aD (cz (dm K) (pv 1) af) aK))) (aD af (aD af aK)))) aK)) (bC (i:=5) d9.nd rfl (by first|exact Or.inl rfl|exact Or.inr rfl)) (aM (aa (i:=6) d9.nd (cz (dm K) (aW O_law_cell hr (aD (pv 0) (aD (cz (dm K) (cz (dm K) (pv 1) af) (pv 5)) aK))) (cz qN (cz qN af (pv 5)) (pv 5)))) (aM (aa (i:=7) d9.nd (aW O_law_code hr (aD (pv 2) (aD (pv 6) aK)))) (aM (aa (i:=8) d9.nd (aW O_law_answer hr (aD (pv 3) (aD (pv 7) aK)))) (aM (dY (dO (oO K hu) (aW O_law_mix hr (aD (pv 6) (aD af (aD af aK)))) af (eQ _)) (aR (aa (i:=8) d9.nd (jD (aD (aW O_law_mix hr (aD (pv 6) (aD af (aD (cz (dm K) (dA (dF K) (pv 2) af (λ_ _=>rfl)) af) aK)))) (aD (aW O_law_mix hr (aD (pv 6) (aD af (aD (cz (dm K) (dA (dF K) (pv 2) af (λ_ _=>rfl)) af) aK)))) aK))))) br) (aR (bz (mT PySem.F.plainAttrs_list PySem.F.slot_list_append PySem.F.type_list_append gX (pv 4) (aD (jD (aD (pv 7) (aD (pv 8) aK))) aK))))))))) (aR (bA (pv 4)))))),(aV (bN 3 (aU (aG (aF 2) (aG (aU (aG (aF 0) (aG (aF 1) aO))) aO)))) (aV (kA 4 (fW aO)) (aV (dJ (jK (aG (aU (aG (aU (aG (aF 0) (aG (aw eU (aF 1) aX) aO))) (aG aX (aG aX aO)))) aO)) (bK 5) (aV (bN 6 (aw eU (aU (aG (aF 0) (aG (aw eU (aw eU (aF 1) aX) (aF 5)) aO))) (aw oS (aw oS aX (aF 5)) (aF 5)))) (aV (bN 7 (aU (aG (aF 2) (aG (aF 6) aO)))) (aV (bN 8 (aU (aG (aF 3) (aG (aF 7) aO)))) (aV (fu (df (aw tE (aU (aG (aF 6) (aG aX (aG aX aO)))) aX)) (bN 8 (j6 (aG (aU (aG (aF 6) (aG aX (aG (aw eU (aw dG (aF 2) aX) aX) aO)))) (aG (aU (aG (aF 6) (aG aX (aG (aw eU (aw dG (aF 2) aX) aX) aO)))) aO)))) cG) (ko 4 (j6 (aG (aF 7) (aG (aF 8) aO))))))))) (JS 4))))⟩
abbrev ub(P:Program)(w:World)(K:Fg)(mg:Str->Option Value)(base:Heap):Prop:=Own P w K mg base 3 "_law_asks" ["_law_script","_law_at","_law_game"] (Kk K 3 gR)
noncomputable abbrev lI:Stmt:=kZ 12
theorem E2:FnScope ["thing"] ["thing"] (aL lI):=kU
theorem E3(F:Fun K "is_pair" "is_pair" lI f fd)(B:Bt mg):FnOk P w K mg base gY 1 f fd ["thing"] (cF K 1 fB):=
 bG F E2 rfl rfl λcdv A outer s H E hr=>have hu:=hr.units
  ⟨_,(aR (bA (oK (bT (im K) (by rfl) B.isinstance fm (aD (pv 0) (aD (ie (v:=.ty "tuple") rfl B.tuple PyProof.Rows.boot_tuple rfl) aK))) (sR (nK (oO K hu) (bT (gK K) (by rfl) B.len PySem.boot_len (aD (pv 0) aK)) af (eQ _)))))),(bI (oR (oU (aF 0)) (aw tE (cB jE (aG (aF 0) aO)) aX)))⟩
abbrev qG(P:Program)(w:World)(K:Fg)(mg:Str->Option Value)(base:Heap):Prop:=Own P w K mg base 1 "is_pair" ["thing"] (cF K 1 fB)
noncomputable abbrev cn:Stmt:=kZ 13
theorem fO:FnScope ["places","colours","codes","place"] ["places","colours"] (aL cn):=kU
theorem qp(F:Fun K "how_many_codes" "how_many_codes" cn f fd)(B:Bt mg):FnOk P w K mg base gY 1 f fd ["places","colours"] (cF K 2 gL):=
 bG F fO rfl rfl λcdv A outer s H E hr=>have hu:=hr.units
  ⟨_,(aM (aa (i:=2) fO.nd af) (aM (cN PassesOwn.never rfl (fH rfl B.range (aD (pv 0) aK)) (bC (i:=3) fO.nd rfl (by first|exact Or.inl rfl|exact Or.inr rfl)) (aR (wn (i:=2) fO.nd rfl (by first|exact Or.inl rfl|exact Or.inr rfl) (pv 1) Iv))) (aR (bA (pv 2))))),(aV (bN 2 aX) (aV (dJ (jK (aG (aF 0) aO)) (bK 3) (xH 2 oS (aF 1))) (bI (aF 2))))⟩
abbrev jF(P:Program)(w:World)(K:Fg)(mg:Str->Option Value)(base:Heap):Prop:=Own P w K mg base 1 "how_many_codes" ["places","colours"] (cF K 2 gL)
noncomputable abbrev cH:Stmt:=kZ 11
theorem oj:FnScope ["thing","low","high"] ["thing","low","high"] (aL cH):=kU
theorem ol(F:Fun K "is_number_within" "is_number_within" cH f fd)(B:Bt mg):FnOk P w K mg base gY 1 f fd ["thing","low","high"] (cF K 3 bD):=
 bG F oj rfl rfl λcdv A outer s H E hr=>have hu:=hr.units
  ⟨_,(aR (bA (oK (bT (im K) (by rfl) B.isinstance fm (aD (pv 0) (aD (ie (v:=.ty "int") rfl B.int PyProof.Rows.boot_int rfl) aK))) (oK (LN (bT (im K) (by rfl) B.isinstance fm (aD (pv 0) (aD (ie (v:=.ty "bool") rfl B.bool PyProof.Rows.boot_bool rfl) aK)))) (sR (FA Ev Ev (pv 1) (pv 0) (pv 2))))))),(bI (oR (oU (aF 0)) (oR (Ld (oU (aF 0))) (GD Fp Fp (aF 1) (aF 0) (aF 2)))))⟩
abbrev eX(P:Program)(w:World)(K:Fg)(mg:Str->Option Value)(base:Heap):Prop:=Own P w K mg base 1 "is_number_within" ["thing","low","high"] (cF K 3 bD)
noncomputable abbrev lJ:Stmt:=kZ 14
theorem E4:FnScope ["thing"] ["thing"] (aL lJ):=kU
theorem E5(F:Fun K "is_game" "is_game" lJ f fd)(B:Bt mg)(Ois_pair:qG P w K mg base)(Ohow_many_codes:jF P w K mg base)(Ois_number_within:eX P w K mg base){tMOST_PLACES:Tok}(g_MOST_PLACES:mg "MOST_PLACES"=some (.int 5 tMOST_PLACES)){tMOST_COLOURS:Tok}(g_MOST_COLOURS:mg "MOST_COLOURS"=some (.int 8 tMOST_COLOURS)){tMOST_CODES:Tok}(g_MOST_CODES:mg "MOST_CODES"=some (.int 300 tMOST_CODES)):FnOk P w K mg base gY 2 f fd ["thing"] (cF K 1 tw):=
 bG F E4 rfl rfl λcdv A outer s H E hr=>have hu:=hr.units
  ⟨_,(aM (dY (j3 (eR K (aW Ois_pair hr (aD (pv 0) aK)))) (aR (bA rA)) br) (aM (dY (PW.pt (CH (j3 (eR K (aW Ois_number_within hr (aD (dA (dF K) (pv 0) af (λ_ _=>rfl)) (aD af (aD (nJ (v:=.int 5) rfl g_MOST_PLACES ⟨_,rfl⟩) aK)))))) (wm (j3 (eR K (aW Ois_number_within hr (aD (dA (dF K) (pv 0) af (λ_ _=>rfl)) (aD af (aD (nJ (v:=.int 8) rfl g_MOST_COLOURS ⟨_,rfl⟩) aK))))))))) (aR (bA rA)) br) (aR (bA (nK Ev (aW Ohow_many_codes hr (aD (dA (dF K) (pv 0) af (λ_ _=>rfl)) (aD (dA (dF K) (pv 0) af (λ_ _=>rfl)) aK))) (nJ (v:=.int 300) rfl g_MOST_CODES ⟨_,rfl⟩) (eQ _)))))),(aV (fu (j7 (gP (aU (aG (aF 0) aO)))) (bI rE) cG) (aV (fu (CQ (j7 (gP (aU (aG (aw dG (aF 0) aX) (aG aX (aG aX aO)))))) (j7 (gP (aU (aG (aw dG (aF 0) aX) (aG aX (aG aX aO))))))) (bI rE) cG) (bI (aw Fp (aU (aG (aw dG (aF 0) aX) (aG (aw dG (aF 0) aX) aO))) aX))))⟩
abbrev A8(P:Program)(w:World)(K:Fg)(mg:Str->Option Value)(base:Heap):Prop:=Own P w K mg base 2 "is_game" ["thing"] (cF K 1 tw)
noncomputable abbrev eK:Stmt:=kZ 15
theorem ud:FnScope ["game"] ["game"] (aL eK):=kU
theorem ue(F:Fun K "checked_game" "checked_game" eK f fd)(B:Bt mg)(Ois_game:A8 P w K mg base):FnOk P w K mg base gY 3 f fd ["game"] (cF K 1 bg):=
 bG F ud rfl rfl λcdv A outer s H E hr=>have hu:=hr.units
  ⟨_,(aM (dY (j3 (eR K (aW Ois_game hr (aD (pv 0) aK)))) (aR mS) br) (aR (bA (pv 0)))),(aV (fu (j7 (gP (aU (aG (aF 0) aO)))) mW cG) (bI (aF 0)))⟩
abbrev gF(P:Program)(w:World)(K:Fg)(mg:Str->Option Value)(base:Heap):Prop:=Own P w K mg base 3 "checked_game" ["game"] (cF K 1 bg)
noncomputable abbrev lK:Stmt:=kZ 17
theorem E6:FnScope ["game","thing"] ["game","thing"] (aL lK):=kU
theorem E7(F:Fun K "is_code" "is_code" lK f fd)(B:Bt mg)(Ois_number_within:eX P w K mg base):FnOk P w K mg base gY 2 f fd ["game","thing"] (cF K 2 jC):=
 bG F E6 rfl rfl λcdv A outer s H E hr=>have hu:=hr.units
  ⟨_,(aM (dY (PW.pt (CH (j3 (eR K (bT (im K) (by rfl) B.isinstance fm (aD (pv 1) (aD (ie (v:=.ty "tuple") rfl B.tuple PyProof.Rows.boot_tuple rfl) aK))))) (wm (dO (BI K hu) (bT (gK K) (by rfl) B.len PySem.boot_len (aD (pv 1) aK)) (dA (dF K) (pv 0) af (λ_ _=>rfl)) (eQ _))))) (aR (bA rA)) br) (aR (bA (bT (BJ K) (by rfl) B.all PyProof.Rows.boot_all (aD (eg ["colour"] [("game",0)] (cW K (pv 1)) (λ_ _ _ _=>(bC (i:=0) (show List.Nodup (["colour","game"]:List Str)by decide+kernel) rfl (by first|exact Or.inl rfl|exact Or.inr rfl))) (λ_ _ _ _=>gJ) (λ_ _ _ _=>(aW Ois_number_within hr (aD (pv 0) (aD af (aD (cz Er (dA (dF K) (pv 1) af (λ_ _=>rfl)) af) aK)))))) aK))))),(aV (fu (CQ (j7 (gP (oU (aF 1)))) (df (aw Fz (cB jE (aG (aF 1) aO)) (aw dG (aF 0) aX)))) (bI rE) cG) (bI (cB BO (aG (cO (fK (dR (aF 1)) (bK 0) dS j9 (aU (aG (aF 0) (aG aX (aG (aw Fo (aw dG (aF 1) aX) aX) aO)))))) aO))))⟩
abbrev uf(P:Program)(w:World)(K:Fg)(mg:Str->Option Value)(base:Heap):Prop:=Own P w K mg base 2 "is_code" ["game","thing"] (cF K 2 jC)
noncomputable abbrev iU:Stmt:=kZ 24
theorem A9:FnScope ["game","thing"] ["game","thing"] (aL iU):=kU
theorem Aa(F:Fun K "is_answer" "is_answer" iU f fd)(B:Bt mg)(Ois_pair:qG P w K mg base)(Ois_number_within:eX P w K mg base):FnOk P w K mg base gY 2 f fd ["game","thing"] (cF K 2 iQ):=
 bG F A9 rfl rfl λcdv A outer s H E hr=>have hu:=hr.units
  ⟨_,(aR (bA (oK (aW Ois_pair hr (aD (pv 1) aK)) (sR (bT (BJ K) (by rfl) B.all PyProof.Rows.boot_all (aD (eg ["number"] [("game",0)] (cW K (pv 1)) (λ_ _ _ _=>(bC (i:=0) (show List.Nodup (["number","game"]:List Str)by decide+kernel) rfl (by first|exact Or.inl rfl|exact Or.inr rfl))) (λ_ _ _ _=>gJ) (λ_ _ _ _=>(aW Ois_number_within hr (aD (pv 0) (aD af (aD (dA (dF K) (pv 1) af (λ_ _=>rfl)) aK)))))) aK)))))),(bI (oR (aU (aG (aF 1) aO)) (cB BO (aG (cO (fK (dR (aF 1)) (bK 0) dS j9 (aU (aG (aF 0) (aG aX (aG (aw dG (aF 1) aX) aO)))))) aO))))⟩
abbrev ug(P:Program)(w:World)(K:Fg)(mg:Str->Option Value)(base:Heap):Prop:=Own P w K mg base 2 "is_answer" ["game","thing"] (cF K 2 iQ)
noncomputable abbrev nZ:Stmt:=kZ 25
theorem I0:FnScope ["game","thing"] ["game","thing"] (aL nZ):=kU
theorem Ab(F:Fun K "is_ask" "is_ask" nZ f fd)(B:Bt mg)(Ois_pair:qG P w K mg base)(Ois_code:uf P w K mg base)(Ois_answer:ug P w K mg base):FnOk P w K mg base gY 3 f fd ["game","thing"] (cF K 2 jM):=
 bG F I0 rfl rfl λcdv A outer s H E hr=>have hu:=hr.units
  ⟨_,(aR (bA (oK (aW Ois_pair hr (aD (pv 1) aK)) (oK (aW Ois_code hr (aD (pv 0) (aD (dA (dF K) (pv 1) af (λ_ _=>rfl)) aK))) (sR (aW Ois_answer hr (aD (pv 0) (aD (dA (dF K) (pv 1) af (λ_ _=>rfl)) aK)))))))),(bI (oR (aU (aG (aF 1) aO)) (oR (aU (aG (aF 0) (aG (aw dG (aF 1) aX) aO))) (aU (aG (aF 0) (aG (aw dG (aF 1) aX) aO))))))⟩
abbrev K3(P:Program)(w:World)(K:Fg)(mg:Str->Option Value)(base:Heap):Prop:=Own P w K mg base 3 "is_ask" ["game","thing"] (cF K 2 jM)
noncomputable abbrev eM:Stmt:=kZ 26
theorem jt:FnScope ["game","things","is_one","at","thing"] ["game","things","is_one"] (aL eM):=kU
theorem uh(F:Fun K "checked_list" "checked_list" eM f fd)(B:Bt mg)(Nis_ask:OwnN P w K mg base 3 "is_ask" ["game","thing"] (cF K 2 jM)){tMOST_ASKS:Tok}(g_MOST_ASKS:mg "MOST_ASKS"=some (.int 8 tMOST_ASKS)):FnOk P w K mg base gY 4 f fd ["game","things","is_one"] (cF K 3 eI):=
 bG F jt rfl rfl λcdv A outer s H E hr=>have hu:=hr.units
  ⟨_,(aM (dY (PW.pt (CH (j3 (eR K (bT (im K) (by rfl) B.isinstance fm (aD (pv 1) (aD (ie (v:=.ty "list") rfl B.list PyProof.Rows.boot_list rfl) aK))))) (wm (dO Ew (bT (gK K) (by rfl) B.len PySem.boot_len (aD (pv 1) aK)) (nJ (v:=.int 8) rfl g_MOST_ASKS ⟨_,rfl⟩) (eQ _))))) (aR mS) br) (aM (cN PassesOwn.never rfl (Ff K B.enumerate (aD (pv 1) aK)) (sI K (iq (bC (i:=3) jt.nd rfl (by first|exact Or.inl rfl|exact Or.inr rfl)) (iq (bC (i:=4) jt.nd rfl (by first|exact Or.inl rfl|exact Or.inr rfl)) sE))) (aR (dY (j3 (eR K (Jc Nis_ask hr (pv 2) (aD (pv 0) (aD (pv 4) aK))))) (aR mS) br))) (aR (bA (pv 1))))),(aV (fu (CQ (j7 (gP (oU (aF 1)))) (df (aw Fq (cB jE (aG (aF 1) aO)) aX))) mW cG) (aV (dJ (Fj (aG (aF 1) aO)) (xI (iu (bK 3) (iu (bK 4) sJ))) (fu (j7 (gP (GT (aG (aF 0) (aG (aF 4) aO))))) mW cG)) (bI (aF 1))))⟩
abbrev oG(P:Program)(w:World)(K:Fg)(mg:Str->Option Value)(base:Heap):Prop:=Own P w K mg base 4 "checked_list" ["game","things","is_one"] (cF K 3 eI)
noncomputable abbrev eN:Stmt:=kZ 27
theorem ui:FnScope ["game","asks"] ["game","asks"] (aL eN):=kU
theorem uj(F:Fun K "checked_asks" "checked_asks" eN f fd)(B:Bt mg)(Ochecked_list:oG P w K mg base){Ais_ask:Addr}(mis_ask:mg "is_ask"=some (.ref Ais_ask))(nis_ask:PySem.W.nsIn K mainGlobals "is_ask"=some (some (.ref Ais_ask))):FnOk P w K mg base gY 5 f fd ["game","asks"] (cF K 2 eJ):=
 bG F ui rfl rfl λcdv A outer s H E hr=>have hu:=hr.units
  ⟨_,(aR (bA (aW Ochecked_list hr (aD (pv 0) (aD (pv 1) (aD (nJ (v:=.ref Ais_ask) rfl mis_ask rfl) aK)))))),(bI (aU (aG (aF 0) (aG (aF 1) (aG (NA nis_ask) aO)))))⟩
abbrev oH(P:Program)(w:World)(K:Fg)(mg:Str->Option Value)(base:Heap):Prop:=Own P w K mg base 5 "checked_asks" ["game","asks"] (cF K 2 eJ)
noncomputable abbrev iV:Stmt:=kZ 20
theorem dc:FnScope ["hidden","guess","right","shared","unmatched","place","colour"] ["hidden","guess"] (aL iV):=kU
theorem Ac(F:Fun K "answer_of" "answer_of" iV f fd)(B:Bt mg):FnOk P w K mg base gY 1 f fd ["hidden","guess"] (cF K 2 bS):=
 bG F dc rfl rfl λcdv A outer s H E hr=>have hu:=hr.units
  ⟨_,(aM (aa (i:=2) dc.nd af) (aM (aa (i:=3) dc.nd af) (aM (aa (i:=4) dc.nd (iO (xB K) (by rfl) B.list PyProof.Rows.boot_list (aD (pv 0) aK))) (aM (cN PassesOwn.never rfl (Ff K B.enumerate (aD (pv 1) aK)) (sI K (iq (bC (i:=5) dc.nd rfl (by first|exact Or.inl rfl|exact Or.inr rfl)) (iq (bC (i:=6) dc.nd rfl (by first|exact Or.inl rfl|exact Or.inr rfl)) sE))) (aM (dY (dO (oO K hu) (dA (dF K) (pv 0) (pv 5) (λ_ _=>rfl)) (pv 6) (eQ _)) (aR (wn (i:=2) dc.nd rfl (by first|exact Or.inl rfl|exact Or.inr rfl) af wo)) br) (aR (dY (dO (Ki K) (pv 6) (pv 4) (by rfl)) (aM (bz (mT PySem.F.plainAttrs_list PySem.F.slot_list_remove PySem.F.type_list_remove vg (pv 4) (aD (pv 6) aK))) (aR (wn (i:=3) dc.nd rfl (by first|exact Or.inl rfl|exact Or.inr rfl) af wo))) br)))) (aR (bA (jD (aD (pv 2) (aD (cz Er (pv 3) (pv 2)) aK))))))))),(aV (bN 2 aX) (aV (bN 3 aX) (aV (kA 4 (qV (aG (aF 0) aO))) (aV (dJ (Fj (aG (aF 1) aO)) (xI (iu (bK 5) (iu (bK 6) sJ))) (aV (fu (df (aw tE (aw dG (aF 0) (aF 5)) (aF 6))) (xH 2 xK aX) cG) (fu (df (GF false 4 (aF 6))) (aV (vt 4 (aF 6)) (xH 3 xK aX)) cG))) (bI (j6 (aG (aF 2) (aG (aw Fo (aF 3) (aF 2)) aO))))))))⟩
abbrev iW(P:Program)(w:World)(K:Fg)(mg:Str->Option Value)(base:Heap):Prop:=Own P w K mg base 1 "answer_of" ["hidden","guess"] (cF K 2 bS)
noncomputable abbrev jY:Stmt:=kZ 28
theorem By:FnScope ["code","ask"] ["code","ask"] (aL jY):=kU
theorem Bz(F:Fun K "fits_ask" "fits_ask" jY f fd)(B:Bt mg)(Oanswer_of:iW P w K mg base):FnOk P w K mg base gY 2 f fd ["code","ask"] (cF K 2 dU):=
 bG F By rfl rfl λcdv A outer s H E hr=>have hu:=hr.units
  ⟨_,(aR (bA (nK (oO K hu) (aW Oanswer_of hr (aD (pv 0) (aD (dA (dF K) (pv 1) af (λ_ _=>rfl)) aK))) (dA (dF K) (pv 1) af (λ_ _=>rfl)) (eQ _)))),(bI (aw tE (aU (aG (aF 0) (aG (aw dG (aF 1) aX) aO))) (aw dG (aF 1) aX)))⟩
abbrev qr(P:Program)(w:World)(K:Fg)(mg:Str->Option Value)(base:Heap):Prop:=Own P w K mg base 2 "fits_ask" ["code","ask"] (cF K 2 dU)
noncomputable abbrev cq:Stmt:=kZ 29
theorem fP:FnScope ["codes","asks","fitting","ask"] ["codes","asks"] (aL cq):=kU
theorem qt(F:Fun K "those_that_fit" "those_that_fit" cq f fd)(B:Bt mg)(Ofits_ask:qr P w K mg base):FnOk P w K mg base gY 3 f fd ["codes","asks"] (cF K 2 bL):=
 bG F fP rfl rfl λcdv A outer s H E hr=>have hu:=hr.units
  ⟨_,(aM (aa (i:=2) fP.nd (pv 0)) (aM (cN PassesOwn.never rfl (cW K (pv 1)) (bC (i:=3) fP.nd rfl (by first|exact Or.inl rfl|exact Or.inr rfl)) (aR (xC (i:=2) ["code"] [("ask",3)] fP.nd rfl (by first|exact Or.inl rfl|exact Or.inr rfl) (cW K (pv 2)) (λ_ _ _ _=>(bC (i:=0) (show List.Nodup (["code","ask"]:List Str)by decide+kernel) rfl (by first|exact Or.inl rfl|exact Or.inr rfl))) (λ_ _ _ _=>(CN (eR K (aW Ofits_ask hr (aD (pv 0) (aD (pv 1) aK)))))) (λ_ _ _ _=>(pv 0))))) (aR (bA (pv 2))))),(aV (bN 2 (aF 0)) (aV (dJ (dR (aF 1)) (bK 3) (bN 2 (cO (fK (dR (aF 2)) (bK 0) dS (gP (aU (aG (aF 0) (aG (aF 1) aO)))) (aF 0))))) (bI (aF 2))))⟩
abbrev gO(P:Program)(w:World)(K:Fg)(mg:Str->Option Value)(base:Heap):Prop:=Own P w K mg base 3 "those_that_fit" ["codes","asks"] (cF K 2 bL)
noncomputable abbrev iX:Stmt:=kZ 19
theorem gh:FnScope ["game","codes","place","longer","code"] ["game"] (aL iX):=kU
theorem Ad(F:Fun K "all_codes" "all_codes" iX f fd)(B:Bt mg)(Ochecked_game:gF P w K mg base):FnOk P w K mg base gY 4 f fd ["game"] (cF K 1 ah):=
 bG F gh rfl rfl λcdv A outer s H E hr=>have hu:=hr.units
  ⟨_,(aM (bz (aW Ochecked_game hr (aD (pv 0) aK))) (aM (aa (i:=1) gh.nd (de (aD (jD aK) aK))) (aM (cN PassesOwn.never rfl (fH rfl B.range (aD (dA (dF K) (pv 0) af (λ_ _=>rfl)) aK)) (bC (i:=2) gh.nd rfl (by first|exact Or.inl rfl|exact Or.inr rfl)) (aM (aa (i:=3) gh.nd (de aK)) (aM (cN PassesOwn.never rfl (cW K (pv 1)) (bC (i:=4) gh.nd rfl (by first|exact Or.inl rfl|exact Or.inr rfl)) (aR (bz (mT PySem.F.plainAttrs_list PySem.F.slot_list_extend PySem.F.type_list_extend vd (pv 3) (aD (eg ["colour"] [("code",4)] (fH rfl B.range (aD (dA (dF K) (pv 0) af (λ_ _=>rfl)) aK)) (λ_ _ _ _=>(bC (i:=0) (show List.Nodup (["colour","code"]:List Str)by decide+kernel) rfl (by first|exact Or.inl rfl|exact Or.inr rfl))) (λ_ _ _ _=>gJ) (λ_ _ _ _=>(cz (dm K) (pv 1) (jD (aD (pv 0) aK))))) aK))))) (aR (aa (i:=1) gh.nd (pv 3)))))) (aR (bA (pv 1)))))),(aV (kB (aU (aG (aF 0) aO))) (aV (bN 1 (cO (fW (aG (j6 aO) aO)))) (aV (dJ (jK (aG (aw dG (aF 0) aX) aO)) (bK 2) (aV (kA 3 (fW aO)) (aV (dJ (dR (aF 1)) (bK 4) (vq 3 (cO (fK (jK (aG (aw dG (aF 0) aX) aO)) (bK 0) dS j9 (aw eU (aF 1) (j6 (aG (aF 0) aO))))))) (mX 3 (bN 1 (aF 3)))))) (bI (aF 1)))))⟩
abbrev fG(P:Program)(w:World)(K:Fg)(mg:Str->Option Value)(base:Heap):Prop:=Own P w K mg base 4 "all_codes" ["game"] (cF K 1 ah)
noncomputable abbrev iY:Stmt:=kZ 30
theorem Ae:FnScope ["game","asks"] ["game","asks"] (aL iY):=kU
theorem Af(F:Fun K "what_fits" "what_fits" iY f fd)(B:Bt mg)(Ochecked_game:gF P w K mg base)(Ochecked_asks:oH P w K mg base)(Othose_that_fit:gO P w K mg base)(Oall_codes:fG P w K mg base):FnOk P w K mg base gY 6 f fd ["game","asks"] (cF K 2 aq):=
 bG F Ae rfl rfl λcdv A outer s H E hr=>have hu:=hr.units
  ⟨_,(aM (bz (aW Ochecked_game hr (aD (pv 0) aK))) (aM (bz (aW Ochecked_asks hr (aD (pv 0) (aD (pv 1) aK)))) (aR (bA (aW Othose_that_fit hr (aD (aW Oall_codes hr (aD (pv 0) aK)) (aD (pv 1) aK))))))),(aV (kB (aU (aG (aF 0) aO))) (aV (kB (aU (aG (aF 0) (aG (aF 1) aO)))) (bI (aU (aG (aU (aG (aF 0) aO)) (aG (aF 1) aO))))))⟩
abbrev iZ(P:Program)(w:World)(K:Fg)(mg:Str->Option Value)(base:Heap):Prop:=Own P w K mg base 6 "what_fits" ["game","asks"] (cF K 2 aq)
noncomputable abbrev cr:Stmt:=kZ 32
theorem qu:FnScope ["code","asks"] ["code","asks"] (aL cr):=kU
theorem qv(F:Fun K "which_asks_fit" "which_asks_fit" cr f fd)(B:Bt mg)(Ofits_ask:qr P w K mg base):FnOk P w K mg base gY 3 f fd ["code","asks"] (cF K 2 cL):=
 bG F qu rfl rfl λcdv A outer s H E hr=>have hu:=hr.units
  ⟨_,(aR (bA (eg ["ask"] [("code",0)] (cW K (pv 1)) (λ_ _ _ _=>(bC (i:=0) (show List.Nodup (["ask","code"]:List Str)by decide+kernel) rfl (by first|exact Or.inl rfl|exact Or.inr rfl))) (λ_ _ _ _=>gJ) (λ_ _ _ _=>(aW Ofits_ask hr (aD (pv 1) (aD (pv 0) aK))))))),(bI (cO (fK (dR (aF 1)) (bK 0) dS j9 (aU (aG (aF 1) (aG (aF 0) aO))))))⟩
abbrev mM(P:Program)(w:World)(K:Fg)(mg:Str->Option Value)(base:Heap):Prop:=Own P w K mg base 3 "which_asks_fit" ["code","asks"] (cF K 2 cL)
noncomputable abbrev lL:Stmt:=kZ 31
theorem i8:FnScope ["places","size","chosen","step","longer","choice","start"] ["places","size"] (aL lL):=kU
theorem E8(F:Fun K "choices" "choices" lL f fd)(B:Bt mg):FnOk P w K mg base gY 1 f fd ["places","size"] (cF K 2 gB):=
 bG F i8 rfl rfl λcdv A outer s H E hr=>have hu:=hr.units
  ⟨_,(aM (aa (i:=2) i8.nd (de (aD (de aK) aK))) (aM (cN PassesOwn.never rfl (fH rfl B.range (aD (pv 1) aK)) (bC (i:=3) i8.nd rfl (by first|exact Or.inl rfl|exact Or.inr rfl)) (aM (aa (i:=4) i8.nd (de aK)) (aM (cN PassesOwn.never rfl (cW K (pv 2)) (bC (i:=5) i8.nd rfl (by first|exact Or.inl rfl|exact Or.inr rfl)) (aM (aa (i:=6) i8.nd (Ei (eR K (pv 5)) (cz (dm K) (dA (dF K) (pv 5) (Mf LU af) (λ_ _=>rfl)) af) af)) (aR (bz (mT PySem.F.plainAttrs_list PySem.F.slot_list_extend PySem.F.type_list_extend vd (pv 4) (aD (eg ["at"] [("choice",5)] (vZ rfl B.range (aD (pv 6) (aD (pv 0) aK))) (λ_ _ _ _=>(bC (i:=0) (show List.Nodup (["at","choice"]:List Str)by decide+kernel) rfl (by first|exact Or.inl rfl|exact Or.inr rfl))) (λ_ _ _ _=>gJ) (λ_ _ _ _=>(cz (dm K) (pv 1) (de (aD (pv 0) aK))))) aK)))))) (aR (aa (i:=2) i8.nd (pv 4)))))) (aR (bA (pv 2))))),(aV (bN 2 (cO (fW (aG (cO (fW aO)) aO)))) (aV (dJ (jK (aG (aF 1) aO)) (bK 3) (aV (kA 4 (fW aO)) (aV (dJ (dR (aF 2)) (bK 5) (aV (bN 6 (Le (gP (aF 5)) (aw eU (aw dG (aF 5) (Ll aX)) aX) aX)) (vq 4 (cO (fK (CS (aG (aF 6) (aG (aF 0) aO))) (bK 0) dS j9 (aw eU (aF 1) (cO (fW (aG (aF 0) aO))))))))) (mX 4 (bN 2 (aF 4)))))) (bI (aF 2))))⟩
abbrev uk(P:Program)(w:World)(K:Fg)(mg:Str->Option Value)(base:Heap):Prop:=Own P w K mg base 1 "choices" ["places","size"] (cF K 2 gB)
noncomputable abbrev jZ:Stmt:=kZ 33
theorem ul:FnScope ["choice","rows","row"] ["choice","rows"] (aL jZ):=kU
theorem CA(F:Fun K "clash_by" "clash_by" jZ f fd)(B:Bt mg):FnOk P w K mg base gY 1 f fd ["choice","rows"] (cF K 2 fM):=
 bG F ul rfl rfl λcdv A outer s H E hr=>have hu:=hr.units
  ⟨_,(aM (cN PassesOwn.never rfl (cW K (pv 1)) (bC (i:=2) ul.nd rfl (by first|exact Or.inl rfl|exact Or.inr rfl)) (aR (dY (eR K (bT (BJ K) (by rfl) B.all PyProof.Rows.boot_all (aD (eg ["at"] [("row",2)] (cW K (pv 0)) (λ_ _ _ _=>(bC (i:=0) (show List.Nodup (["at","row"]:List Str)by decide+kernel) rfl (by first|exact Or.inl rfl|exact Or.inr rfl))) (λ_ _ _ _=>gJ) (λ_ _ _ _=>(dA (dF K) (pv 1) (pv 0) (λ_ _=>rfl)))) aK))) (aR (bA rA)) br))) (aR (bA rA))),(aV (dJ (dR (aF 1)) (bK 2) (fu (gP (cB BO (aG (cO (fK (dR (aF 0)) (bK 0) dS j9 (aw dG (aF 1) (aF 0)))) aO))) (bI rE) cG)) (bI rE))⟩
abbrev wc(P:Program)(w:World)(K:Fg)(mg:Str->Option Value)(base:Heap):Prop:=Own P w K mg base 1 "clash_by" ["choice","rows"] (cF K 2 fM)
noncomputable abbrev i9:Stmt:=kZ 34
theorem kP:FnScope ["game","asks","rows","size","choice"] ["game","asks"] (aL i9):=kU
theorem Ag(F:Fun K "why_clash" "why_clash" i9 f fd)(B:Bt mg)(Owhat_fits:iZ P w K mg base)(Owhich_asks_fit:mM P w K mg base)(Ochoices:uk P w K mg base)(Oall_codes:fG P w K mg base)(Oclash_by:wc P w K mg base):FnOk P w K mg base gY 7 f fd ["game","asks"] (cF K 2 bW):=
 bG F kP rfl rfl λcdv A outer s H E hr=>have hu:=hr.units
  ⟨_,(aM (dY (eR K (aW Owhat_fits hr (aD (pv 0) (aD (pv 1) aK)))) (aR (bA qM)) br) (aM (xC (i:=2) ["code"] [("asks",1)] kP.nd rfl (by first|exact Or.inl rfl|exact Or.inr rfl) (cW K (aW Oall_codes hr (aD (pv 0) aK))) (λ_ _ _ _=>(bC (i:=0) (show List.Nodup (["code","asks"]:List Str)by decide+kernel) rfl (by first|exact Or.inl rfl|exact Or.inr rfl))) (λ_ _ _ _=>gJ) (λ_ _ _ _=>(aW Owhich_asks_fit hr (aD (pv 0) (aD (pv 1) aK))))) (aM (cN PassesOwn.never rfl (vZ rfl B.range (aD af (aD (bT (gK K) (by rfl) B.len PySem.boot_len (aD (pv 1) aK)) aK))) (bC (i:=3) kP.nd rfl (by first|exact Or.inl rfl|exact Or.inr rfl)) (aR (cN PassesOwn.never rfl (cW K (aW Ochoices hr (aD (bT (gK K) (by rfl) B.len PySem.boot_len (aD (pv 1) aK)) (aD (pv 3) aK)))) (bC (i:=4) kP.nd rfl (by first|exact Or.inl rfl|exact Or.inr rfl)) (aR (dY (eR K (aW Oclash_by hr (aD (pv 4) (aD (pv 2) aK)))) (aR (bA (pv 4))) br))))) (aR (bA (iO (BT K) (by rfl) B.list PyProof.Rows.boot_list (aD (iO (Jb K) (by rfl) B.range PyProof.Rows.boot_range (aD (bT (gK K) (by rfl) B.len PySem.boot_len (aD (pv 1) aK)) aK)) aK))))))),(aV (fu (gP (aU (aG (aF 0) (aG (aF 1) aO)))) (bI sw) cG) (aV (bN 2 (cO (fK (dR (aU (aG (aF 0) aO))) (bK 0) dS j9 (aU (aG (aF 0) (aG (aF 1) aO)))))) (aV (dJ (CS (aG aX (aG (cB jE (aG (aF 1) aO)) aO))) (bK 3) (dJ (dR (aU (aG (cB jE (aG (aF 1) aO)) (aG (aF 3) aO)))) (bK 4) (fu (gP (aU (aG (aF 4) (aG (aF 2) aO)))) (bI (aF 4)) cG))) (bI (cO (BU (cB jE (aG (aF 1) aO))))))))⟩
abbrev um(P:Program)(w:World)(K:Fg)(mg:Str->Option Value)(base:Heap):Prop:=Own P w K mg base 7 "why_clash" ["game","asks"] (cF K 2 bW)
noncomputable abbrev fQ:Stmt:=kZ 21
theorem eO:FnScope ["game","codes","given","at","hidden","guess"] ["game"] (aL fQ):=kU
theorem vQ(F:Fun K "all_answers" "all_answers" fQ f fd)(B:Bt mg)(Oall_codes:fG P w K mg base)(Oanswer_of:iW P w K mg base):FnOk P w K mg base gY 5 f fd ["game"] (cF K 1 bO):=
 bG F eO rfl rfl λcdv A outer s H E hr=>have hu:=hr.units
  ⟨_,(aM (aa (i:=1) eO.nd (aW Oall_codes hr (aD (pv 0) aK))) (aM (aa (i:=2) eO.nd zb) (aM (cN PassesOwn.never rfl (Ff K B.enumerate (aD (pv 1) aK)) (sI K (iq (bC (i:=3) eO.nd rfl (by first|exact Or.inl rfl|exact Or.inr rfl)) (iq (bC (i:=4) eO.nd rfl (by first|exact Or.inl rfl|exact Or.inr rfl)) sE))) (aR (cN PassesOwn.never rfl (cW K (sY (BN K) (pv 1) (wt (pv 3)) wr)) (bC (i:=5) eO.nd rfl (by first|exact Or.inl rfl|exact Or.inr rfl)) (aR (C5 (FO hr) (pv 2) (aW Oanswer_of hr (aD (pv 4) (aD (pv 5) aK))) rA (by rfl)))))) (aR (bA (bT (B0 rfl) (by rfl) B.sorted PyProof.Rows.boot_sorted (aD (pv 2) aK))))))),(aV (bN 1 (aU (aG (aF 0) aO))) (aV (C6 2) (aV (dJ (Fj (aG (aF 1) aO)) (xI (iu (bK 3) (iu (bK 4) sJ))) (dJ (dR (Fw (aF 1) (xN (aF 3)) xM)) (bK 5) (C9 2 (aU (aG (aF 4) (aG (aF 5) aO))) rE))) (mX 2 (bI (cB Jh (aG (aF 2) aO)))))))⟩
abbrev qH(P:Program)(w:World)(K:Fg)(mg:Str->Option Value)(base:Heap):Prop:=Own P w K mg base 5 "all_answers" ["game"] (cF K 1 bO)
noncomputable abbrev j0:Stmt:=kZ 35
theorem om:FnScope ["game","asks","fitting","codes"] ["game","asks"] (aL j0):=kU
theorem CB(F:Fun K "needless" "needless" j0 f fd)(B:Bt mg)(Owhat_fits:iZ P w K mg base)(Oall_codes:fG P w K mg base)(Othose_that_fit:gO P w K mg base):FnOk P w K mg base gY 7 f fd ["game","asks"] (cF K 2 bo):=
 bG F om rfl rfl λcdv A outer s H E hr=>have hu:=hr.units
  ⟨_,(aM (aa (i:=2) om.nd (aW Owhat_fits hr (aD (pv 0) (aD (pv 1) aK)))) (aM (aa (i:=3) om.nd (aW Oall_codes hr (aD (pv 0) aK))) (aR (bA (eg ["at"] [("fitting",2),("codes",3),("asks",1)] (fH rfl B.range (aD (bT (gK K) (by rfl) B.len PySem.boot_len (aD (pv 1) aK)) aK)) (λ_ _ _ _=>(bC (i:=0) (show List.Nodup (["at","fitting","codes","asks"]:List Str)by decide+kernel) rfl (by first|exact Or.inl rfl|exact Or.inr rfl))) (λ_ _ _ _=>(CN (dO (oO K hu) (aW Othose_that_fit hr (aD (pv 2) (aD (cz (dm K) (sY (BN K) (pv 3) wr (wt (pv 0))) (sY (BN K) (pv 3) (wt (cz (dm K) (pv 0) af)) wr)) aK))) (pv 1) (eQ _)))) (λ_ _ _ _=>(pv 0))))))),(aV (bN 2 (aU (aG (aF 0) (aG (aF 1) aO)))) (aV (bN 3 (aU (aG (aF 0) aO))) (bI (cO (fK (jK (aG (cB jE (aG (aF 1) aO)) aO)) (bK 0) dS (df (aw tE (aU (aG (aF 2) (aG (aw eU (Fw (aF 3) xM (xN (aF 0))) (Fw (aF 3) (xN (aw eU (aF 0) aX)) xM)) aO))) (aF 1))) (aF 0))))))⟩
abbrev we(P:Program)(w:World)(K:Fg)(mg:Str->Option Value)(base:Heap):Prop:=Own P w K mg base 7 "needless" ["game","asks"] (cF K 2 bo)
noncomputable abbrev eP:Stmt:=kZ 18
theorem uo:FnScope ["game","code"] ["game","code"] (aL eP):=kU
theorem uq(F:Fun K "checked_code" "checked_code" eP f fd)(B:Bt mg)(Ois_code:uf P w K mg base):FnOk P w K mg base gY 3 f fd ["game","code"] (cF K 2 cR):=
 bG F uo rfl rfl λcdv A outer s H E hr=>have hu:=hr.units
  ⟨_,(aM (dY (j3 (eR K (aW Ois_code hr (aD (pv 0) (aD (pv 1) aK))))) (aR mS) br) (aR (bA (pv 1)))),(aV (fu (j7 (gP (aU (aG (aF 0) (aG (aF 1) aO))))) mW cG) (bI (aF 1)))⟩
abbrev ka(P:Program)(w:World)(K:Fg)(mg:Str->Option Value)(base:Heap):Prop:=Own P w K mg base 3 "checked_code" ["game","code"] (cF K 2 cR)
noncomputable abbrev cI:Stmt:=kZ 42
theorem dw:FnScope ["codes","guess","counts","code","given"] ["codes","guess"] (aL cI):=kU
theorem on(F:Fun K "counts_by_answer" "counts_by_answer" cI f fd)(B:Bt mg)(Oanswer_of:iW P w K mg base):FnOk P w K mg base gY 2 f fd ["codes","guess"] (cF K 2 bi):=
 bG F dw rfl rfl λcdv A outer s H E hr=>have hu:=hr.units
  ⟨_,(aM (aa (i:=2) dw.nd zb) (aM (cN PassesOwn.never rfl (cW K (pv 0)) (bC (i:=3) dw.nd rfl (by first|exact Or.inl rfl|exact Or.inr rfl)) (aM (aa (i:=4) dw.nd (aW Oanswer_of hr (aD (pv 3) (aD (pv 1) aK)))) (aR (C5 (FO hr) (pv 2) (pv 4) (cz (dm K) (Gk (FO hr) (pv 2) (pv 4) af ⟨by rfl,by rfl,by rfl,by rfl⟩) af) (by rfl))))) (aR (bA (pv 2))))),(aV (C6 2) (aV (dJ (dR (aF 0)) (bK 3) (aV (bN 4 (aU (aG (aF 3) (aG (aF 1) aO)))) (C9 2 (aF 4) (aw eU (Do 2 (aF 4) aX) aX)))) (mX 2 (bI (aF 2)))))⟩
abbrev iH(P:Program)(w:World)(K:Fg)(mg:Str->Option Value)(base:Heap):Prop:=Own P w K mg base 2 "counts_by_answer" ["codes","guess"] (cF K 2 bi)
noncomputable abbrev qw:Stmt:=kZ 43
theorem DI:FnScope ["game","asks","guess","fitting"] ["game","asks","guess"] (aL qw):=kU
theorem K4(F:Fun K "split" "split" qw f fd)(B:Bt mg)(Owhat_fits:iZ P w K mg base)(Ochecked_code:ka P w K mg base)(Ocounts_by_answer:iH P w K mg base):FnOk P w K mg base gY 7 f fd ["game","asks","guess"] (cF K 3 fZ):=
 bG F DI rfl rfl λcdv A outer s H E hr=>have hu:=hr.units
  ⟨_,(aM (aa (i:=3) DI.nd (aW Owhat_fits hr (aD (pv 0) (aD (pv 1) aK)))) (aM (bz (aW Ochecked_code hr (aD (pv 0) (aD (pv 2) aK)))) (aR (bA (HH K rfl hu (by rfl) B.sorted PyProof.Rows.boot_sorted (aW Ocounts_by_answer hr (aD (pv 3) (aD (pv 2) aK)))))))),(aV (bN 3 (aU (aG (aF 0) (aG (aF 1) aO)))) (aV (kB (aU (aG (aF 0) (aG (aF 2) aO)))) (bI (HG (aU (aG (aF 3) (aG (aF 2) aO)))))))⟩
abbrev Ia(P:Program)(w:World)(K:Fg)(mg:Str->Option Value)(base:Heap):Prop:=Own P w K mg base 7 "split" ["game","asks","guess"] (cF K 3 fZ)
noncomputable abbrev ib:Stmt:=kZ 44
theorem Ah:FnScope ["fitting","guess"] ["fitting","guess"] (aL ib):=kU
theorem Ai(F:Fun K "most_left" "most_left" ib f fd)(B:Bt mg)(Ocounts_by_answer:iH P w K mg base):FnOk P w K mg base gY 3 f fd ["fitting","guess"] (cF K 2 dn):=
 bG F Ah rfl rfl λcdv A outer s H E hr=>have hu:=hr.units
  ⟨_,(aR (bA (Jr K rfl (by rfl) B.max PyProof.Rows.boot_max (aW Ocounts_by_answer hr (aD (pv 0) (aD (pv 1) aK)))))),(bI (Jq (aU (aG (aF 0) (aG (aF 1) aO)))))⟩
abbrev ur(P:Program)(w:World)(K:Fg)(mg:Str->Option Value)(base:Heap):Prop:=Own P w K mg base 3 "most_left" ["fitting","guess"] (cF K 2 dn)
noncomputable abbrev eG:Stmt:=kZ 45
theorem E9:FnScope ["codes","fitting"] ["codes","fitting"] (aL eG):=kU
theorem Ea:∀y∈(NH eG).names,y.2=.free->(aL eG).names.lookup y.1=some .cell\/(aL eG).names.lookup y.1=some .free:=by decide+kernel
theorem Eb {cd_ tT_:Addr}(F:FunC K "best_of" "best_of" eG f fd cd_)(B:Bt mg)(Omost_left:ur P w K mg base)(hC_:PySem.W.codeHdIn K cd_ tT_=true)(BM_:BMdB base mg):FnOk P w K mg base gY 6 f fd ["codes","fitting"] (cF K 2 jf):=
 have TB_:Fe K tT_ #[PySem.rawInt (HR eG).line,PySem.rawInt (HR eG).col,.str (("best_of":Str)++ ".<locals>."++ "<lambda>") 0]:=Jx F hC_ λ_ _ _ _ _=>by rfl
 Jw F E9 rfl rfl λA outer s H E hr=>have hu:=hr.units
  ⟨_,(aR (bA (Jp (P:=tT_) (c:=cd_) "guess" [("fitting",1)] rfl hr (by rfl) B.min PyProof.Rows.boot_min (pv 0) (aF 0) TB_ hC_ rfl (by rfl) ⟨BM_.ex⟩ rfl rfl rfl (by decide+kernel) (Ea) (by first|rfl|decide+kernel) (List.forall_mem_cons.mpr ⟨⟨rfl,by first|rfl|decide+kernel⟩,(λ_ h_=>nomatch h_)⟩) rfl (λ_ _ _ _=>rfl) (λ_ _ _ _ hr=>have hu:=hr.units;(jD (aD (aW Omost_left hr (aD (pv 1) (aD (pv 0) aK))) (aD (nK (Dg K hu) (pv 0) (pv 1) (by rfl)) (aD (pv 0) aK))))) (j6 (aG (aU (aG (aF 1) (aG (aF 0) aO))) (aG (aw (Ko true) (aF 0) (aF 1)) (aG (aF 0) aO))))))),(bI MF)⟩
abbrev Aj(P:Program)(w:World)(K:Fg)(mg:Str->Option Value)(base:Heap):Prop:=Own P w K mg base 6 "best_of" ["codes","fitting"] (cF K 2 jf)
noncomputable abbrev n0:Stmt:=kZ 46
theorem ju:FnScope ["game","hidden","codes","fitting","asks","guess","ask"] ["game","hidden"] (aL n0):=kU
theorem Ib(F:Fun K "played" "played" n0 f fd)(B:Bt mg)(Ochecked_game:gF P w K mg base)(Ochecked_code:ka P w K mg base)(Oall_codes:fG P w K mg base)(Obest_of:Aj P w K mg base)(Othose_that_fit:gO P w K mg base)(Oanswer_of:iW P w K mg base):FnOk P w K mg base gY 7 f fd ["game","hidden"] (cF K 2 dP):=
 bG F ju rfl rfl λcdv A outer s H E hr=>have hu:=hr.units
  ⟨_,(aM (bz (aW Ochecked_game hr (aD (pv 0) aK))) (aM (bz (aW Ochecked_code hr (aD (pv 0) (aD (pv 1) aK)))) (aM (aa (i:=2) ju.nd (aW Oall_codes hr (aD (pv 0) aK))) (aM (aa (i:=3) ju.nd (pv 2)) (aM (aa (i:=4) ju.nd (de aK)) (aM (yN PassesOwn.never (dO Ew (bT (gK K) (by rfl) B.len PySem.boot_len (aD (pv 3) aK)) af (eQ _)) (aM (aa (i:=5) ju.nd (aW Obest_of hr (aD (pv 2) (aD (pv 3) aK)))) (aM (aa (i:=6) ju.nd (jD (aD (pv 5) (aD (aW Oanswer_of hr (aD (pv 1) (aD (pv 5) aK))) aK)))) (aM (bz (mT PySem.F.plainAttrs_list PySem.F.slot_list_append PySem.F.type_list_append gX (pv 4) (aD (pv 6) aK))) (aR (aa (i:=3) ju.nd (aW Othose_that_fit hr (aD (pv 3) (aD (de (aD (pv 6) aK)) aK))))))))) (aR (bA (pv 4))))))))),(aV (kB (aU (aG (aF 0) aO))) (aV (kB (aU (aG (aF 0) (aG (aF 1) aO)))) (aV (bN 2 (aU (aG (aF 0) aO))) (aV (bN 3 (aF 2)) (aV (kA 4 (fW aO)) (aV (yj 100 (df (aw Fq (cB jE (aG (aF 3) aO)) aX)) (aV (bN 5 (aU (aG (aF 2) (aG (aF 3) aO)))) (aV (bN 6 (j6 (aG (aF 5) (aG (aU (aG (aF 1) (aG (aF 5) aO))) aO)))) (aV (ko 4 (aF 6)) (bN 3 (aU (aG (aF 3) (aG (cO (fW (aG (aF 6) aO))) aO)))))))) (mX 4 (bI (aF 4)))))))))⟩
abbrev DJ(P:Program)(w:World)(K:Fg)(mg:Str->Option Value)(base:Heap):Prop:=Own P w K mg base 7 "played" ["game","hidden"] (cF K 2 dP)
noncomputable abbrev gj:Stmt:=kZ 16
theorem xz:FnScope ["game"] ["game"] (aL gj):=kU
theorem yA(F:Fun K "small_game" "small_game" gj f fd)(B:Bt mg)(Ohow_many_codes:jF P w K mg base){tMOST_CODES_SEARCHED:Tok}(g_MOST_CODES_SEARCHED:mg "MOST_CODES_SEARCHED"=some (.int 16 tMOST_CODES_SEARCHED)):FnOk P w K mg base gY 2 f fd ["game"] (cF K 1 gb):=
 bG F xz rfl rfl λcdv A outer s H E hr=>have hu:=hr.units
  ⟨_,(aM (dY (dO Ew (aW Ohow_many_codes hr (aD (dA (dF K) (pv 0) af (λ_ _=>rfl)) (aD (dA (dF K) (pv 0) af (λ_ _=>rfl)) aK))) (nJ (v:=.int 16) rfl g_MOST_CODES_SEARCHED ⟨_,rfl⟩) (eQ _)) (aR mS) br) (aR (bA (pv 0)))),(aV (fu (df (aw Fq (aU (aG (aw dG (aF 0) aX) (aG (aw dG (aF 0) aX) aO))) aX)) mW cG) (bI (aF 0)))⟩
abbrev r9(P:Program)(w:World)(K:Fg)(mg:Str->Option Value)(base:Heap):Prop:=Own P w K mg base 2 "small_game" ["game"] (cF K 1 gb)
noncomputable abbrev gm:Stmt:=kZ 37
theorem yB:FnScope ["code","guesses"] ["code","guesses"] (aL gm):=kU
theorem yC(F:Fun K "answers_to" "answers_to" gm f fd)(B:Bt mg)(Oanswer_of:iW P w K mg base):FnOk P w K mg base gY 2 f fd ["code","guesses"] (cF K 2 d8):=
 bG F yB rfl rfl λcdv A outer s H E hr=>have hu:=hr.units
  ⟨_,(aR (bA (iO (yY K) (by rfl) B.tuple PyProof.Rows.boot_tuple (aD (eg ["guess"] [("code",0)] (cW K (pv 1)) (λ_ _ _ _=>(bC (i:=0) (show List.Nodup (["guess","code"]:List Str)by decide+kernel) rfl (by first|exact Or.inl rfl|exact Or.inr rfl))) (λ_ _ _ _=>gJ) (λ_ _ _ _=>(aW Oanswer_of hr (aD (pv 1) (aD (pv 0) aK))))) aK)))),(bI (cB GE (aG (cO (fK (dR (aF 1)) (bK 0) dS j9 (aU (aG (aF 1) (aG (aF 0) aO))))) aO)))⟩
abbrev rc(P:Program)(w:World)(K:Fg)(mg:Str->Option Value)(base:Heap):Prop:=Own P w K mg base 2 "answers_to" ["code","guesses"] (cF K 2 d8)
noncomputable abbrev fR:Stmt:=kZ 38
theorem gG:FnScope ["codes","guesses","first","pairs","code","given"] ["codes","guesses"] (aL fR):=kU
theorem vR(F:Fun K "first_alike" "first_alike" fR f fd)(B:Bt mg)(Oanswers_to:rc P w K mg base):FnOk P w K mg base gY 3 f fd ["codes","guesses"] (cF K 2 cQ):=
 bG F gG rfl rfl λcdv A outer s H E hr=>have hu:=hr.units
  ⟨_,(aM (aa (i:=2) gG.nd Jz) (aM (aa (i:=3) gG.nd (de aK)) (aM (cN PassesOwn.never rfl (cW K (pv 0)) (bC (i:=4) gG.nd rfl (by first|exact Or.inl rfl|exact Or.inr rfl)) (aM (aa (i:=5) gG.nd (aW Oanswers_to hr (aD (pv 4) (aD (pv 1) aK)))) (aR (dY (LM (ML (OC hu) (pv 5) (pv 2))) (aR (bz (mT PySem.F.plainAttrs_list PySem.F.slot_list_append PySem.F.type_list_append gX (pv 3) (aD (jD (aD (KA (OC hu) (pv 2) (pv 5) (λ_ _=>rfl)) (aD (pv 4) aK))) aK)))) (aR (KB (OC hu) (pv 2) (pv 5) (pv 4))))))) (aR (bA (KC rfl hu (by rfl) B.min PyProof.Rows.boot_min (aD (pv 3) aK) (hk:=λs Q h=>KD h))))))),(EC 4 5 2 3 (dR (aF 0)) (aU (aG (aF 4) (aG (aF 1) aO))) (mX 3 (bI (KE (aG (aF 3) aO)))))⟩
abbrev qI(P:Program)(w:World)(K:Fg)(mg:Str->Option Value)(base:Heap):Prop:=Own P w K mg base 3 "first_alike" ["codes","guesses"] (cF K 2 cQ)
noncomputable abbrev cu:Stmt:=kZ 39
theorem ic:FnScope ["codes","size","choice","guesses"] ["codes","size"] (aL cu):=kU
theorem qx(F:Fun K "first_settling" "first_settling" cu f fd)(B:Bt mg)(Ochoices:uk P w K mg base)(Ofirst_alike:qI P w K mg base):FnOk P w K mg base gY 4 f fd ["codes","size"] (cF K 2 bM):=
 bG F ic rfl rfl λcdv A outer s H E hr=>have hu:=hr.units
  ⟨_,(aM (cN PassesOwn.never rfl (cW K (aW Ochoices hr (aD (bT (gK K) (by rfl) B.len PySem.boot_len (aD (pv 0) aK)) (aD (pv 1) aK)))) (bC (i:=2) ic.nd rfl (by first|exact Or.inl rfl|exact Or.inr rfl)) (aM (xC (i:=3) ["at"] [("codes",0)] ic.nd rfl (by first|exact Or.inl rfl|exact Or.inr rfl) (cW K (pv 2)) (λ_ _ _ _=>(bC (i:=0) (show List.Nodup (["at","codes"]:List Str)by decide+kernel) rfl (by first|exact Or.inl rfl|exact Or.inr rfl))) (λ_ _ _ _=>gJ) (λ_ _ _ _=>(dA (dF K) (pv 1) (pv 0) (λ_ _=>rfl)))) (aR (dY (dO Ey (aW Ofirst_alike hr (aD (pv 0) (aD (pv 3) aK))) qM (eQ _)) (aR (bA (pv 3))) br)))) (aR (bA qM))),(aV (dJ (dR (aU (aG (cB jE (aG (aF 0) aO)) (aG (aF 1) aO)))) (bK 2) (aV (bN 3 (cO (fK (dR (aF 2)) (bK 0) dS j9 (aw dG (aF 1) (aF 0))))) (fu (df (aw GB (aU (aG (aF 0) (aG (aF 3) aO))) sw)) (bI (aF 3)) cG))) (bI sw))⟩
abbrev mO(P:Program)(w:World)(K:Fg)(mg:Str->Option Value)(base:Heap):Prop:=Own P w K mg base 4 "first_settling" ["codes","size"] (cF K 2 bM)
noncomputable abbrev cU:Stmt:=kZ 40
theorem cJ:FnScope ["game","codes","size","guesses"] ["game"] (aL cU):=kU
theorem qJ(F:Fun K "fewest_settling" "fewest_settling" cU f fd)(B:Bt mg)(Ochecked_game:gF P w K mg base)(Osmall_game:r9 P w K mg base)(Oall_codes:fG P w K mg base)(Ofirst_settling:mO P w K mg base):FnOk P w K mg base gY 5 f fd ["game"] (cF K 1 ak):=
 bG F cJ rfl rfl λcdv A outer s H E hr=>have hu:=hr.units
  ⟨_,(aM (bz (aW Ochecked_game hr (aD (pv 0) aK))) (aM (bz (aW Osmall_game hr (aD (pv 0) aK))) (aM (aa (i:=1) cJ.nd (aW Oall_codes hr (aD (pv 0) aK))) (aM (aa (i:=2) cJ.nd af) (aM (aa (i:=3) cJ.nd (aW Ofirst_settling hr (aD (pv 1) (aD (pv 2) aK)))) (aM (yN PassesOwn.never (dO Ey (pv 3) qM (eQ _)) (aM (wn (i:=2) cJ.nd rfl (by first|exact Or.inl rfl|exact Or.inr rfl) af wo) (aR (aa (i:=3) cJ.nd (aW Ofirst_settling hr (aD (pv 1) (aD (pv 2) aK))))))) (aR (bA (pv 3))))))))),(aV (kB (aU (aG (aF 0) aO))) (aV (kB (aU (aG (aF 0) aO))) (aV (bN 1 (aU (aG (aF 0) aO))) (aV (bN 2 aX) (aV (bN 3 (aU (aG (aF 1) (aG (aF 2) aO)))) (aV (yj 100 (df (aw GB (aF 3) sw)) (aV (xH 2 xK aX) (bN 3 (aU (aG (aF 1) (aG (aF 2) aO)))))) (bI (aF 3))))))))⟩
abbrev lM(P:Program)(w:World)(K:Fg)(mg:Str->Option Value)(base:Heap):Prop:=Own P w K mg base 5 "fewest_settling" ["game"] (cF K 1 ak)
noncomputable abbrev gn:Stmt:=kZ 57
theorem jR:FnScope ["_law_game","_law_asks_here","_law_hidden","_law_found","_law_some"] ["_law_game","_law_asks_here","_law_hidden"] (aL gn):=kU
theorem yD(F:Fun K "_law_lists" "_law_lists" gn f fd)(B:Bt mg)(Owhy_clash:um P w K mg base)(Oall_codes:fG P w K mg base)(Oall_answers:qH P w K mg base)(Owhat_fits:iZ P w K mg base)(Oneedless:we P w K mg base)(Osplit:Ia P w K mg base)(Oplayed:DJ P w K mg base)(Ofewest_settling:lM P w K mg base):FnOk P w K mg base gY 8 f fd ["_law_game","_law_asks_here","_law_hidden"] (M5 K ah bO aq bo fZ dP ak bW):=by
 refine F.ok jR (λvs H Q E h=>?_) (λcdv A outer s H vs Q E hr h=>?_)
 · obtain⟨_,_,_,_,_,_,_,_,_,rfl,_⟩:=h;rfl
 · exact⟨_,(aM (aa (i:=3) jR.nd (de (aD (aW Oall_codes hr (aD (pv 0) aK)) (aD (aW Oall_answers hr (aD (pv 0) aK)) (aD (aW Owhat_fits hr (aD (pv 0) (aD (pv 1) aK))) (aD (aW Oneedless hr (aD (pv 0) (aD (pv 1) aK))) (aD (aW Osplit hr (aD (pv 0) (aD (pv 1) (aD (pv 2) aK)))) aK))))))) (aM (aa (i:=3) jR.nd (cz (dm K) (pv 3) (de (aD (aW Oplayed hr (aD (pv 0) (aD (pv 2) aK))) (aD (aW Ofewest_settling hr (aD (pv 0) aK)) aK))))) (aM (aa (i:=4) jR.nd (aW Owhy_clash hr (aD (pv 0) (aD (pv 1) aK)))) (aM (dY (dO Iw (pv 4) qM (eQ _)) (aR (bz (mT PySem.F.plainAttrs_list PySem.F.slot_list_append PySem.F.type_list_append gX (pv 3) (aD (pv 4) aK)))) br) (aR (bA (pv 3))))))),He rfl h⟩
abbrev re(P:Program)(w:World)(K:Fg)(mg:Str->Option Value)(base:Heap):Prop:=Own P w K mg base 8 "_law_lists" ["_law_game","_law_asks_here","_law_hidden"] (M5 K ah bO aq bo fZ dP ak bW)
noncomputable abbrev eB:Stmt:=kZ 50
theorem nI:FnScope ["_law_thing"] ["_law_thing"] (aL eB):=kU
theorem vS(F:Fun K "_law_twin" "_law_twin" eB f fd)(B:Bt mg):FnOk P w K mg base gY 1 f fd ["_law_thing"] (cF K 1 qe):=
 bG F nI rfl rfl λcdv A outer s H E hr=>have hu:=hr.units
  ⟨_,(aM (dY (j3 (eR K (bT (im K) (by rfl) B.isinstance fm (aD (pv 0) (aD (ie (v:=.ty "list") rfl B.list PyProof.Rows.boot_list rfl) aK))))) (aR (bA (pv 0))) br) Cd),(aV (fu (j7 (gP (oU (aF 0)))) (bI (aF 0)) cG) Gq)⟩
theorem vT(F:Fun K "_law_twin" "_law_twin" eB f fd)(B:Bt mg)(O_:Own P w K mg base 1 "_law_twin" ["_law_thing"] (cF K 1 qe)):FnOk P w K mg base gY 2 f fd ["_law_thing"] (Kk K 1 t6):=by
 refine F.ok nI (λvs H Q E h=>?_) (λcdv A outer s H vs Q E hr h=>?_)
 · obtain⟨_,_,_,_,hl,_⟩:=h;exact hl
 · exact⟨_,(aM (dY (j3 (eR K (bT (im K) (by rfl) B.isinstance fm (aD (pv 0) (aD (ie (v:=.ty "list") rfl B.list PyProof.Rows.boot_list rfl) aK))))) (aR (bA (pv 0))) br) (aR (bA (eg ["_law_one"] [] (cW K (pv 0)) (λ_ _ _ _=>(bC (i:=0) (show List.Nodup (["_law_one"]:List Str)by decide+kernel) rfl (by first|exact Or.inl rfl|exact Or.inr rfl))) (λ_ _ _ _=>gJ) (λ_ _ _ _=>(aW O_ hr (aD (pv 0) aK))))))),Hi rfl h⟩
theorem vU(F:Fun K "_law_twin" "_law_twin" eB f fd)(B:Bt mg)(O_:Own P w K mg base 2 "_law_twin" ["_law_thing"] (Kk K 1 t6)):FnOk P w K mg base gY 3 f fd ["_law_thing"] (NM K):=by
 refine F.ok nI (λvs H Q E h=>?_) (λcdv A outer s H vs Q E hr h=>?_)
 · obtain⟨_,_,_,_,_,rfl,_⟩:=h;rfl
 · exact⟨_,(aM (dY (j3 (eR K (bT (im K) (by rfl) B.isinstance fm (aD (pv 0) (aD (ie (v:=.ty "list") rfl B.list PyProof.Rows.boot_list rfl) aK))))) (aR (bA (pv 0))) br) (aR (bA (eg ["_law_one"] [] (cW K (pv 0)) (λ_ _ _ _=>(bC (i:=0) (show List.Nodup (["_law_one"]:List Str)by decide+kernel) rfl (by first|exact Or.inl rfl|exact Or.inr rfl))) (λ_ _ _ _=>gJ) (λ_ _ _ _=>(aW O_ hr (aD (pv 0) aK))))))),Hj rfl h⟩
theorem Ak(F:Fun K "_law_twin" "_law_twin" eB f fd)(B:Bt mg)(m_:mg "_law_twin"=some (.ref f))(k_:PySem.W.keepIn K (.ref f)=true)(b_:Binds K fd ["_law_thing"] []):FnOk P w K mg base gY 3 f fd ["_law_thing"] (NM K):=
 vU F B ⟨⟨f,fd,vT F B ⟨⟨f,fd,vS F B,m_,k_,b_⟩⟩,m_,k_,b_⟩⟩
abbrev ut(P:Program)(w:World)(K:Fg)(mg:Str->Option Value)(base:Heap):Prop:=Own P w K mg base 3 "_law_twin" ["_law_thing"] (NM K)
noncomputable abbrev cS:Stmt:=kZ 51
theorem jv:FnScope ["_law_thing","_law_one"] ["_law_thing"] (aL cS):=kU
theorem qy(F:Fun K "_law_emptied" "_law_emptied" cS f fd)(B:Bt mg):FnOk P w K mg base gY 1 f fd ["_law_thing"] (cF K 1 x8):=
 bG F jv rfl rfl λcdv A outer s H E hr=>have hu:=hr.units
  ⟨_,(aR (dY (eR K (bT (im K) (by rfl) B.isinstance fm (aD (pv 0) (aD (ie (v:=.ty "list") rfl B.list PyProof.Rows.boot_list rfl) aK)))) Cd br)),(fu x9 Gq cG)⟩
theorem qz(F:Fun K "_law_emptied" "_law_emptied" cS f fd)(B:Bt mg)(O_:Own P w K mg base 1 "_law_emptied" ["_law_thing"] (cF K 1 x8)):FnOk P w K mg base gY 2 f fd ["_law_thing"] (M6 K):=by
 refine F.ok jv (λvs H Q E h=>?_) (λcdv A outer s H vs Q E hr h=>?_)
 · obtain⟨_,_,_,_,_,rfl,_⟩:=h;rfl
 · exact⟨_,(aR (dY (eR K (bT (im K) (by rfl) B.isinstance fm (aD (pv 0) (aD (ie (v:=.ty "list") rfl B.list PyProof.Rows.boot_list rfl) aK)))) (aM (cN PassesOwn.never rfl (cW K (iO (xB K) (by rfl) B.list PyProof.Rows.boot_list (aD (pv 0) aK))) (bC (i:=1) jv.nd rfl (by first|exact Or.inl rfl|exact Or.inr rfl)) (aR (bz (aW O_ hr (aD (pv 1) aK))))) (aR (bz (BE PySem.F.plainAttrs_list PySem.F.slot_list_clear PySem.F.type_list_clear FN (pv 0))))) br)),Hk rfl h⟩
theorem uv(F:Fun K "_law_emptied" "_law_emptied" cS f fd)(B:Bt mg)(m_:mg "_law_emptied"=some (.ref f))(k_:PySem.W.keepIn K (.ref f)=true)(b_:Binds K fd ["_law_thing"] []):FnOk P w K mg base gY 2 f fd ["_law_thing"] (M6 K):=
 qz F B ⟨⟨f,fd,qy F B,m_,k_,b_⟩⟩
abbrev oJ(P:Program)(w:World)(K:Fg)(mg:Str->Option Value)(base:Heap):Prop:=Own P w K mg base 2 "_law_emptied" ["_law_thing"] (M6 K)
noncomputable abbrev gq:Stmt:=kZ 54
theorem eC:FnScope ["_law_game","_law_found","_law_place","_law_more","_law_code_here"] ["_law_game"] (aL gq):=kU
theorem yE(F:Fun K "_law_codes" "_law_codes" gq f fd)(B:Bt mg):FnOk P w K mg base gY 1 f fd ["_law_game"] (cF K 1 fC):=
 bG F eC rfl rfl λcdv A outer s H E hr=>have hu:=hr.units
  ⟨_,(aM (aa (i:=1) eC.nd (de (aD (jD aK) aK))) (aM (cN PassesOwn.never rfl (fH rfl B.range (aD (dA (dF K) (pv 0) af (λ_ _=>rfl)) aK)) (bC (i:=2) eC.nd rfl (by first|exact Or.inl rfl|exact Or.inr rfl)) (aM (aa (i:=3) eC.nd (de aK)) (aM (cN PassesOwn.never rfl (cW K (pv 1)) (bC (i:=4) eC.nd rfl (by first|exact Or.inl rfl|exact Or.inr rfl)) (aR (aa (i:=3) eC.nd (cz (dm K) (pv 3) (eg ["_law_colour"] [("_law_code_here",4)] (fH rfl B.range (aD (dA (dF K) (pv 0) af (λ_ _=>rfl)) aK)) (λ_ _ _ _=>(bC (i:=0) (show List.Nodup (["_law_colour","_law_code_here"]:List Str)by decide+kernel) rfl (by first|exact Or.inl rfl|exact Or.inr rfl))) (λ_ _ _ _=>gJ) (λ_ _ _ _=>(cz (dm K) (pv 1) (jD (aD (pv 0) aK))))))))) (aR (aa (i:=1) eC.nd (pv 3)))))) (aR (bA (pv 1))))),(aV (bN 1 (cO (fW (aG (j6 aO) aO)))) (aV (dJ (jK (aG (aw dG (aF 0) aX) aO)) (bK 2) (aV (bN 3 (cO (fW aO))) (aV (dJ (dR (aF 1)) (bK 4) (bN 3 (aw eU (aF 3) (cO (fK (jK (aG (aw dG (aF 0) aX) aO)) (bK 0) dS j9 (aw eU (aF 1) (j6 (aG (aF 0) aO)))))))) (bN 1 (aF 3))))) (bI (aF 1))))⟩
abbrev rf(P:Program)(w:World)(K:Fg)(mg:Str->Option Value)(base:Heap):Prop:=Own P w K mg base 1 "_law_codes" ["_law_game"] (cF K 1 fC)
noncomputable abbrev yF:Stmt:=kZ 58
theorem rg:FnScope ["_law_script","_law_game","_law_asks_here","_law_hidden","_law_handed","_law_rows","_law_due","_law_row"] ["_law_script"] (aL yF):=kU
theorem N0(F:Fun K "law" "law" yF f fd)(B:Bt mg)(O_law_small:rZ P w K mg base)(O_law_asks:ub P w K mg base)(O_law_code:oh P w K mg base)(O_law_lists:re P w K mg base)(O_law_twin:ut P w K mg base)(O_law_cell:lw P w K mg base)(O_law_emptied:oJ P w K mg base)(Owhat_fits:iZ P w K mg base)(O_law_codes:rf P w K mg base):FnOk P w K mg base gY 9 f fd ["_law_script"] (cF K 1 IA):=
 bG F rg rfl rfl λcdv A outer s H E hr=>have hu:=hr.units
  ⟨_,(aM (aa (i:=1) rg.nd (aW O_law_small hr (aD (pv 0) (aD af aK)))) (aM (aa (i:=2) rg.nd (aW O_law_asks hr (aD (pv 0) (aD af (aD (pv 1) aK))))) (aM (aa (i:=3) rg.nd (aW O_law_code hr (aD (pv 1) (aD (aW O_law_cell hr (aD (pv 0) (aD af aK))) aK)))) (aM (aa (i:=4) rg.nd (iO (xB K) (by rfl) B.list PyProof.Rows.boot_list (aD (pv 2) aK))) (aM (aa (i:=5) rg.nd (aW O_law_lists hr (aD (pv 1) (aD (pv 4) (aD (pv 3) aK))))) (aM (aa (i:=6) rg.nd (aW O_law_twin hr (aD (pv 5) aK))) (aM (cN PassesOwn.never rfl (cW K (pv 5)) (bC (i:=7) rg.nd rfl (by first|exact Or.inl rfl|exact Or.inr rfl)) (aR (bz (aW O_law_emptied hr (aD (pv 7) aK))))) (aM (dY (PW.pt (CH (dO (BI K hu) (pv 4) (pv 2) (eQ _)) (wm (dO (BI K hu) (aW O_law_lists hr (aD (pv 1) (aD (pv 4) (aD (pv 3) aK)))) (pv 6) (eQ _))))) (aR (bA rA)) br) (aR (bA (oK (nK (oO K hu) (bT (gK K) (by rfl) B.len PySem.boot_len (aD (dA (dF K) (pv 6) af (λ_ _=>rfl)) aK)) (bT (gK K) (by rfl) B.len PySem.boot_len (aD (aW O_law_codes hr (aD (pv 1) aK)) aK)) (eQ _)) (sR (nK (Ln K hu) (pv 3) (aW Owhat_fits hr (aD (pv 1) (aD (dA (dF K) (pv 6) af (λ_ _=>rfl)) aK))) (by rfl)))))))))))))),(aV (bN 1 (aU (aG (aF 0) (aG aX aO)))) (aV (bN 2 (cO (JV (aG (aF 0) (aG aX (aG (aF 1) aO)))))) (aV (bN 3 (aU (aG (aF 1) (aG (aU (aG (aF 0) (aG aX aO))) aO)))) (aV (bN 4 (cO (qV (aG (aF 2) aO)))) (KG (aV (fu (CQ (df (aw Fz (aF 4) (aF 2))) (df (aw Fz Hq (aF 6)))) (bI rE) cG) (bI (oR (aw tE (cB jE (aG (aw dG (aF 6) aX) aO)) (cB jE (aG (aU (aG (aF 1) aO)) aO))) (aw (Ko false) (aF 3) (aU (aG (aF 1) (aG (aw dG (aF 6) aX) aO))))))))))))⟩
end
theorem all_mk {l:PySem.W.OpenLaw}{w:World}{K:Fg}{h:Heap}{mg:Str->Option Value}{fa:Addr}(X:K.In h)(G:h.Ns mainGlobals mg)(hfa:mg "law"=some (.ref fa))
 {od0 an0 od1 an1 od2 an2 od3 an3 od4 an4 od5 an5 od6 an6 od7 an7 od8 an8 od9 an9 od10 an10 od11 an11 od12 an12 od13 an13 od14 an14 od15 an15 od16 an16 od17 an17 od18 an18 od19 an19 od20 an20 od21 an21 od22 an22 od23 an23 od24 an24 od25 an25 od26 an26 od27 an27 od28 an28 od29 an29 od30 an30 od31 an31 od32 an32 od33 an33 od34 an34 od35 an35 od36 an36 od37 an37 od38 an38 od39 an39 od40 an40 od41 an41 od42 an42:Option Addr} {sl0 sl1 sl2 sl3 sl4 sl5 sl6 sl7 sl8 sl9 sl10 sl11 sl12 sl13 sl14 sl15 sl16 sl17 sl18 sl19 sl20 sl21 sl22 sl23 sl24 sl25 sl26 sl27 sl28 sl29 sl30 sl31 sl32 sl33 sl34 sl35 sl36 sl37 sl38 sl39 sl40 sl41 sl42:Array (Option Value)} {oc0 kV0 dc0 pm0 ct0 cd0 oc1 kV1 dc1 pm1 ct1 cd1 oc2 kV2 dc2 pm2 ct2 cd2 oc3 kV3 dc3 pm3 ct3 cd3 oc4 kV4 dc4 pm4 ct4 cd4 oc5 kV5 dc5 pm5 ct5 cd5 oc6 kV6 dc6 pm6 ct6 cd6 oc7 kV7 dc7 pm7 ct7 cd7 oc8 kV8 dc8 pm8 ct8 cd8 oc9 kV9 dc9 pm9 ct9 cd9 oc10 kV10 dc10 pm10 ct10 cd10 oc11 kV11 dc11 pm11 ct11 cd11 oc12 kV12 dc12 pm12 ct12 cd12 oc13 kV13 dc13 pm13 ct13 cd13 oc14 kV14 dc14 pm14 ct14 cd14 oc15 kV15 dc15 pm15 ct15 cd15 oc16 kV16 dc16 pm16 ct16 cd16 oc17 kV17 dc17 pm17 ct17 cd17 oc18 kV18 dc18 pm18 ct18 cd18 oc19 kV19 dc19 pm19 ct19 cd19 oc20 kV20 dc20 pm20 ct20 cd20 oc21 kV21 dc21 pm21 ct21 cd21 oc22 kV22 dc22 pm22 ct22 cd22 oc23 kV23 dc23 pm23 ct23 cd23 oc24 kV24 dc24 pm24 ct24 cd24 oc25 kV25 dc25 pm25 ct25 cd25 oc26 kV26 dc26 pm26 ct26 cd26 oc27 kV27 dc27 pm27 ct27 cd27 oc28 kV28 dc28 pm28 ct28 cd28 oc29 kV29 dc29 pm29 ct29 cd29 oc30 kV30 dc30 pm30 ct30 cd30 oc31 kV31 dc31 pm31 ct31 oc32 kV32 dc32 pm32 ct32 cd32 oc33 kV33 dc33 pm33 ct33 cd33 oc34 kV34 dc34 pm34 ct34 cd34 oc35 kV35 dc35 pm35 ct35 cd35 oc36 kV36 dc36 pm36 ct36 cd36 oc37 kV37 dc37 pm37 ct37 cd37 oc38 kV38 dc38 pm38 ct38 cd38 oc39 kV39 dc39 pm39 ct39 cd39 oc40 kV40 dc40 pm40 ct40 cd40 oc41 kV41 dc41 pm41 ct41 cd41 oc42 kV42 dc42 pm42 ct42 cd42:Value} {f0 f1 f2 f3 f4 f5 f6 f7 f8 f9 f10 f11 f12 f13 f14 f15 f16 f17 f18 f19 f20 f21 f22 f23 f24 f25 f26 f27 f28 f29 f30 f31 f32 f33 f34 f35 f36 f37 f38 f39 f40 f41 f42:Addr} {cc31:Addr}
 (a0:PySem.W.nsIn K mainGlobals "_law_mix"=some (some (.ref f0))) (l0:K.lookup f0=some ⟨oc0,od0,.func (PySem.W.fnOf "_law_mix" "_law_mix" (ag jX) (aZ jX) (aL jX) .none kV0 dc0 pm0 an0 cd0 ct0),sl0⟩) (c0:PySem.W.codeIn K cd0 "_law_mix"=true) (k0:PySem.W.keepIn K (.ref f0)=true)
 (a1:PySem.W.nsIn K mainGlobals "_law_cell"=some (some (.ref f1))) (l1:K.lookup f1=some ⟨oc1,od1,.func (PySem.W.fnOf "_law_cell" "_law_cell" (ag iR) (aZ iR) (aL iR) .none kV1 dc1 pm1 an1 cd1 ct1),sl1⟩) (c1:PySem.W.codeIn K cd1 "_law_cell"=true) (k1:PySem.W.keepIn K (.ref f1)=true)
 (a2:PySem.W.nsIn K mainGlobals "_law_small"=some (some (.ref f2))) (l2:K.lookup f2=some ⟨oc2,od2,.func (PySem.W.fnOf "_law_small" "_law_small" (ag gd) (aZ gd) (aL gd) .none kV2 dc2 pm2 an2 cd2 ct2),sl2⟩) (c2:PySem.W.codeIn K cd2 "_law_small"=true) (k2:PySem.W.keepIn K (.ref f2)=true)
 (a3:PySem.W.nsIn K mainGlobals "_law_code"=some (some (.ref f3))) (l3:K.lookup f3=some ⟨oc3,od3,.func (PySem.W.fnOf "_law_code" "_law_code" (ag iS) (aZ iS) (aL iS) .none kV3 dc3 pm3 an3 cd3 ct3),sl3⟩) (c3:PySem.W.codeIn K cd3 "_law_code"=true) (k3:PySem.W.keepIn K (.ref f3)=true)
 (a4:PySem.W.nsIn K mainGlobals "_law_answer"=some (some (.ref f4))) (l4:K.lookup f4=some ⟨oc4,od4,.func (PySem.W.fnOf "_law_answer" "_law_answer" (ag fN) (aZ fN) (aL fN) .none kV4 dc4 pm4 an4 cd4 ct4),sl4⟩) (c4:PySem.W.codeIn K cd4 "_law_answer"=true) (k4:PySem.W.keepIn K (.ref f4)=true)
 (a5:PySem.W.nsIn K mainGlobals "_law_asks"=some (some (.ref f5))) (l5:K.lookup f5=some ⟨oc5,od5,.func (PySem.W.fnOf "_law_asks" "_law_asks" (ag iT) (aZ iT) (aL iT) .none kV5 dc5 pm5 an5 cd5 ct5),sl5⟩) (c5:PySem.W.codeIn K cd5 "_law_asks"=true) (k5:PySem.W.keepIn K (.ref f5)=true)
 (a6:PySem.W.nsIn K mainGlobals "is_pair"=some (some (.ref f6))) (l6:K.lookup f6=some ⟨oc6,od6,.func (PySem.W.fnOf "is_pair" "is_pair" (ag lI) (aZ lI) (aL lI) .none kV6 dc6 pm6 an6 cd6 ct6),sl6⟩) (c6:PySem.W.codeIn K cd6 "is_pair"=true) (k6:PySem.W.keepIn K (.ref f6)=true)
 (a7:PySem.W.nsIn K mainGlobals "how_many_codes"=some (some (.ref f7))) (l7:K.lookup f7=some ⟨oc7,od7,.func (PySem.W.fnOf "how_many_codes" "how_many_codes" (ag cn) (aZ cn) (aL cn) .none kV7 dc7 pm7 an7 cd7 ct7),sl7⟩) (c7:PySem.W.codeIn K cd7 "how_many_codes"=true) (k7:PySem.W.keepIn K (.ref f7)=true)
 (a8:PySem.W.nsIn K mainGlobals "is_number_within"=some (some (.ref f8))) (l8:K.lookup f8=some ⟨oc8,od8,.func (PySem.W.fnOf "is_number_within" "is_number_within" (ag cH) (aZ cH) (aL cH) .none kV8 dc8 pm8 an8 cd8 ct8),sl8⟩) (c8:PySem.W.codeIn K cd8 "is_number_within"=true) (k8:PySem.W.keepIn K (.ref f8)=true)
 (a9:PySem.W.nsIn K mainGlobals "is_game"=some (some (.ref f9))) (l9:K.lookup f9=some ⟨oc9,od9,.func (PySem.W.fnOf "is_game" "is_game" (ag lJ) (aZ lJ) (aL lJ) .none kV9 dc9 pm9 an9 cd9 ct9),sl9⟩) (c9:PySem.W.codeIn K cd9 "is_game"=true) (k9:PySem.W.keepIn K (.ref f9)=true)
 (a10:PySem.W.nsIn K mainGlobals "checked_game"=some (some (.ref f10))) (l10:K.lookup f10=some ⟨oc10,od10,.func (PySem.W.fnOf "checked_game" "checked_game" (ag eK) (aZ eK) (aL eK) .none kV10 dc10 pm10 an10 cd10 ct10),sl10⟩) (c10:PySem.W.codeIn K cd10 "checked_game"=true) (k10:PySem.W.keepIn K (.ref f10)=true)
 (a11:PySem.W.nsIn K mainGlobals "is_code"=some (some (.ref f11))) (l11:K.lookup f11=some ⟨oc11,od11,.func (PySem.W.fnOf "is_code" "is_code" (ag lK) (aZ lK) (aL lK) .none kV11 dc11 pm11 an11 cd11 ct11),sl11⟩) (c11:PySem.W.codeIn K cd11 "is_code"=true) (k11:PySem.W.keepIn K (.ref f11)=true)
 (a12:PySem.W.nsIn K mainGlobals "is_answer"=some (some (.ref f12))) (l12:K.lookup f12=some ⟨oc12,od12,.func (PySem.W.fnOf "is_answer" "is_answer" (ag iU) (aZ iU) (aL iU) .none kV12 dc12 pm12 an12 cd12 ct12),sl12⟩) (c12:PySem.W.codeIn K cd12 "is_answer"=true) (k12:PySem.W.keepIn K (.ref f12)=true)
 (a13:PySem.W.nsIn K mainGlobals "is_ask"=some (some (.ref f13))) (l13:K.lookup f13=some ⟨oc13,od13,.func (PySem.W.fnOf "is_ask" "is_ask" (ag nZ) (aZ nZ) (aL nZ) .none kV13 dc13 pm13 an13 cd13 ct13),sl13⟩) (c13:PySem.W.codeIn K cd13 "is_ask"=true) (k13:PySem.W.keepIn K (.ref f13)=true)
 (a14:PySem.W.nsIn K mainGlobals "checked_list"=some (some (.ref f14))) (l14:K.lookup f14=some ⟨oc14,od14,.func (PySem.W.fnOf "checked_list" "checked_list" (ag eM) (aZ eM) (aL eM) .none kV14 dc14 pm14 an14 cd14 ct14),sl14⟩) (c14:PySem.W.codeIn K cd14 "checked_list"=true) (k14:PySem.W.keepIn K (.ref f14)=true)
 (a15:PySem.W.nsIn K mainGlobals "checked_asks"=some (some (.ref f15))) (l15:K.lookup f15=some ⟨oc15,od15,.func (PySem.W.fnOf "checked_asks" "checked_asks" (ag eN) (aZ eN) (aL eN) .none kV15 dc15 pm15 an15 cd15 ct15),sl15⟩) (c15:PySem.W.codeIn K cd15 "checked_asks"=true) (k15:PySem.W.keepIn K (.ref f15)=true)
 (a16:PySem.W.nsIn K mainGlobals "answer_of"=some (some (.ref f16))) (l16:K.lookup f16=some ⟨oc16,od16,.func (PySem.W.fnOf "answer_of" "answer_of" (ag iV) (aZ iV) (aL iV) .none kV16 dc16 pm16 an16 cd16 ct16),sl16⟩) (c16:PySem.W.codeIn K cd16 "answer_of"=true) (k16:PySem.W.keepIn K (.ref f16)=true)
 (a17:PySem.W.nsIn K mainGlobals "fits_ask"=some (some (.ref f17))) (l17:K.lookup f17=some ⟨oc17,od17,.func (PySem.W.fnOf "fits_ask" "fits_ask" (ag jY) (aZ jY) (aL jY) .none kV17 dc17 pm17 an17 cd17 ct17),sl17⟩) (c17:PySem.W.codeIn K cd17 "fits_ask"=true) (k17:PySem.W.keepIn K (.ref f17)=true)
 (a18:PySem.W.nsIn K mainGlobals "those_that_fit"=some (some (.ref f18))) (l18:K.lookup f18=some ⟨oc18,od18,.func (PySem.W.fnOf "those_that_fit" "those_that_fit" (ag cq) (aZ cq) (aL cq) .none kV18 dc18 pm18 an18 cd18 ct18),sl18⟩) (c18:PySem.W.codeIn K cd18 "those_that_fit"=true) (k18:PySem.W.keepIn K (.ref f18)=true)
 (a19:PySem.W.nsIn K mainGlobals "all_codes"=some (some (.ref f19))) (l19:K.lookup f19=some ⟨oc19,od19,.func (PySem.W.fnOf "all_codes" "all_codes" (ag iX) (aZ iX) (aL iX) .none kV19 dc19 pm19 an19 cd19 ct19),sl19⟩) (c19:PySem.W.codeIn K cd19 "all_codes"=true) (k19:PySem.W.keepIn K (.ref f19)=true)
 (a20:PySem.W.nsIn K mainGlobals "what_fits"=some (some (.ref f20))) (l20:K.lookup f20=some ⟨oc20,od20,.func (PySem.W.fnOf "what_fits" "what_fits" (ag iY) (aZ iY) (aL iY) .none kV20 dc20 pm20 an20 cd20 ct20),sl20⟩) (c20:PySem.W.codeIn K cd20 "what_fits"=true) (k20:PySem.W.keepIn K (.ref f20)=true)
 (a21:PySem.W.nsIn K mainGlobals "which_asks_fit"=some (some (.ref f21))) (l21:K.lookup f21=some ⟨oc21,od21,.func (PySem.W.fnOf "which_asks_fit" "which_asks_fit" (ag cr) (aZ cr) (aL cr) .none kV21 dc21 pm21 an21 cd21 ct21),sl21⟩) (c21:PySem.W.codeIn K cd21 "which_asks_fit"=true) (k21:PySem.W.keepIn K (.ref f21)=true)
 (a22:PySem.W.nsIn K mainGlobals "choices"=some (some (.ref f22))) (l22:K.lookup f22=some ⟨oc22,od22,.func (PySem.W.fnOf "choices" "choices" (ag lL) (aZ lL) (aL lL) .none kV22 dc22 pm22 an22 cd22 ct22),sl22⟩) (c22:PySem.W.codeIn K cd22 "choices"=true) (k22:PySem.W.keepIn K (.ref f22)=true)
 (a23:PySem.W.nsIn K mainGlobals "clash_by"=some (some (.ref f23))) (l23:K.lookup f23=some ⟨oc23,od23,.func (PySem.W.fnOf "clash_by" "clash_by" (ag jZ) (aZ jZ) (aL jZ) .none kV23 dc23 pm23 an23 cd23 ct23),sl23⟩) (c23:PySem.W.codeIn K cd23 "clash_by"=true) (k23:PySem.W.keepIn K (.ref f23)=true)
 (a24:PySem.W.nsIn K mainGlobals "why_clash"=some (some (.ref f24))) (l24:K.lookup f24=some ⟨oc24,od24,.func (PySem.W.fnOf "why_clash" "why_clash" (ag i9) (aZ i9) (aL i9) .none kV24 dc24 pm24 an24 cd24 ct24),sl24⟩) (c24:PySem.W.codeIn K cd24 "why_clash"=true) (k24:PySem.W.keepIn K (.ref f24)=true)
 (a25:PySem.W.nsIn K mainGlobals "all_answers"=some (some (.ref f25))) (l25:K.lookup f25=some ⟨oc25,od25,.func (PySem.W.fnOf "all_answers" "all_answers" (ag fQ) (aZ fQ) (aL fQ) .none kV25 dc25 pm25 an25 cd25 ct25),sl25⟩) (c25:PySem.W.codeIn K cd25 "all_answers"=true) (k25:PySem.W.keepIn K (.ref f25)=true)
 (a26:PySem.W.nsIn K mainGlobals "needless"=some (some (.ref f26))) (l26:K.lookup f26=some ⟨oc26,od26,.func (PySem.W.fnOf "needless" "needless" (ag j0) (aZ j0) (aL j0) .none kV26 dc26 pm26 an26 cd26 ct26),sl26⟩) (c26:PySem.W.codeIn K cd26 "needless"=true) (k26:PySem.W.keepIn K (.ref f26)=true)
 (a27:PySem.W.nsIn K mainGlobals "checked_code"=some (some (.ref f27))) (l27:K.lookup f27=some ⟨oc27,od27,.func (PySem.W.fnOf "checked_code" "checked_code" (ag eP) (aZ eP) (aL eP) .none kV27 dc27 pm27 an27 cd27 ct27),sl27⟩) (c27:PySem.W.codeIn K cd27 "checked_code"=true) (k27:PySem.W.keepIn K (.ref f27)=true)
 (a28:PySem.W.nsIn K mainGlobals "counts_by_answer"=some (some (.ref f28))) (l28:K.lookup f28=some ⟨oc28,od28,.func (PySem.W.fnOf "counts_by_answer" "counts_by_answer" (ag cI) (aZ cI) (aL cI) .none kV28 dc28 pm28 an28 cd28 ct28),sl28⟩) (c28:PySem.W.codeIn K cd28 "counts_by_answer"=true) (k28:PySem.W.keepIn K (.ref f28)=true)
 (a29:PySem.W.nsIn K mainGlobals "split"=some (some (.ref f29))) (l29:K.lookup f29=some ⟨oc29,od29,.func (PySem.W.fnOf "split" "split" (ag qw) (aZ qw) (aL qw) .none kV29 dc29 pm29 an29 cd29 ct29),sl29⟩) (c29:PySem.W.codeIn K cd29 "split"=true) (k29:PySem.W.keepIn K (.ref f29)=true)
 (a30:PySem.W.nsIn K mainGlobals "most_left"=some (some (.ref f30))) (l30:K.lookup f30=some ⟨oc30,od30,.func (PySem.W.fnOf "most_left" "most_left" (ag ib) (aZ ib) (aL ib) .none kV30 dc30 pm30 an30 cd30 ct30),sl30⟩) (c30:PySem.W.codeIn K cd30 "most_left"=true) (k30:PySem.W.keepIn K (.ref f30)=true)
 (a31:PySem.W.nsIn K mainGlobals "best_of"=some (some (.ref f31))) (l31:K.lookup f31=some ⟨oc31,od31,.func (PySem.W.fnOf "best_of" "best_of" (ag eG) (aZ eG) (aL eG) .none kV31 dc31 pm31 an31 (.ref cc31) ct31),sl31⟩) (c31:PySem.W.codeIn K (.ref cc31) "best_of"=true) (k31:PySem.W.keepIn K (.ref f31)=true)
 (a32:PySem.W.nsIn K mainGlobals "played"=some (some (.ref f32))) (l32:K.lookup f32=some ⟨oc32,od32,.func (PySem.W.fnOf "played" "played" (ag n0) (aZ n0) (aL n0) .none kV32 dc32 pm32 an32 cd32 ct32),sl32⟩) (c32:PySem.W.codeIn K cd32 "played"=true) (k32:PySem.W.keepIn K (.ref f32)=true)
 (a33:PySem.W.nsIn K mainGlobals "small_game"=some (some (.ref f33))) (l33:K.lookup f33=some ⟨oc33,od33,.func (PySem.W.fnOf "small_game" "small_game" (ag gj) (aZ gj) (aL gj) .none kV33 dc33 pm33 an33 cd33 ct33),sl33⟩) (c33:PySem.W.codeIn K cd33 "small_game"=true) (k33:PySem.W.keepIn K (.ref f33)=true)
 (a34:PySem.W.nsIn K mainGlobals "answers_to"=some (some (.ref f34))) (l34:K.lookup f34=some ⟨oc34,od34,.func (PySem.W.fnOf "answers_to" "answers_to" (ag gm) (aZ gm) (aL gm) .none kV34 dc34 pm34 an34 cd34 ct34),sl34⟩) (c34:PySem.W.codeIn K cd34 "answers_to"=true) (k34:PySem.W.keepIn K (.ref f34)=true)
 (a35:PySem.W.nsIn K mainGlobals "first_alike"=some (some (.ref f35))) (l35:K.lookup f35=some ⟨oc35,od35,.func (PySem.W.fnOf "first_alike" "first_alike" (ag fR) (aZ fR) (aL fR) .none kV35 dc35 pm35 an35 cd35 ct35),sl35⟩) (c35:PySem.W.codeIn K cd35 "first_alike"=true) (k35:PySem.W.keepIn K (.ref f35)=true)
 (a36:PySem.W.nsIn K mainGlobals "first_settling"=some (some (.ref f36))) (l36:K.lookup f36=some ⟨oc36,od36,.func (PySem.W.fnOf "first_settling" "first_settling" (ag cu) (aZ cu) (aL cu) .none kV36 dc36 pm36 an36 cd36 ct36),sl36⟩) (c36:PySem.W.codeIn K cd36 "first_settling"=true) (k36:PySem.W.keepIn K (.ref f36)=true)
 (a37:PySem.W.nsIn K mainGlobals "fewest_settling"=some (some (.ref f37))) (l37:K.lookup f37=some ⟨oc37,od37,.func (PySem.W.fnOf "fewest_settling" "fewest_settling" (ag cU) (aZ cU) (aL cU) .none kV37 dc37 pm37 an37 cd37 ct37),sl37⟩) (c37:PySem.W.codeIn K cd37 "fewest_settling"=true) (k37:PySem.W.keepIn K (.ref f37)=true)
 (a38:PySem.W.nsIn K mainGlobals "_law_lists"=some (some (.ref f38))) (l38:K.lookup f38=some ⟨oc38,od38,.func (PySem.W.fnOf "_law_lists" "_law_lists" (ag gn) (aZ gn) (aL gn) .none kV38 dc38 pm38 an38 cd38 ct38),sl38⟩) (c38:PySem.W.codeIn K cd38 "_law_lists"=true) (k38:PySem.W.keepIn K (.ref f38)=true)
 (a39:PySem.W.nsIn K mainGlobals "_law_twin"=some (some (.ref f39))) (l39:K.lookup f39=some ⟨oc39,od39,.func (PySem.W.fnOf "_law_twin" "_law_twin" (ag eB) (aZ eB) (aL eB) .none kV39 dc39 pm39 an39 cd39 ct39),sl39⟩) (c39:PySem.W.codeIn K cd39 "_law_twin"=true) (k39:PySem.W.keepIn K (.ref f39)=true)
 (a40:PySem.W.nsIn K mainGlobals "_law_emptied"=some (some (.ref f40))) (l40:K.lookup f40=some ⟨oc40,od40,.func (PySem.W.fnOf "_law_emptied" "_law_emptied" (ag cS) (aZ cS) (aL cS) .none kV40 dc40 pm40 an40 cd40 ct40),sl40⟩) (c40:PySem.W.codeIn K cd40 "_law_emptied"=true) (k40:PySem.W.keepIn K (.ref f40)=true)
 (a41:PySem.W.nsIn K mainGlobals "_law_codes"=some (some (.ref f41))) (l41:K.lookup f41=some ⟨oc41,od41,.func (PySem.W.fnOf "_law_codes" "_law_codes" (ag gq) (aZ gq) (aL gq) .none kV41 dc41 pm41 an41 cd41 ct41),sl41⟩) (c41:PySem.W.codeIn K cd41 "_law_codes"=true) (k41:PySem.W.keepIn K (.ref f41)=true)
 (a42:PySem.W.nsIn K mainGlobals "law"=some (some (.ref f42))) (l42:K.lookup f42=some ⟨oc42,od42,.func (PySem.W.fnOf "law" "law" (ag yF) (aZ yF) (aL yF) .none kV42 dc42 pm42 an42 cd42 ct42),sl42⟩) (c42:PySem.W.codeIn K cd42 "law"=true) (k42:PySem.W.keepIn K (.ref f42)=true)
 (h31:PySem.W.codeHdIn K cc31 (NG K cc31)=true)
 {tMOST_PLACES:Tok} (gMOST_PLACES:PySem.W.nsIn K mainGlobals "MOST_PLACES"=some (some (.int 5 tMOST_PLACES)))
 {tMOST_COLOURS:Tok} (gMOST_COLOURS:PySem.W.nsIn K mainGlobals "MOST_COLOURS"=some (some (.int 8 tMOST_COLOURS)))
 {tMOST_CODES:Tok} (gMOST_CODES:PySem.W.nsIn K mainGlobals "MOST_CODES"=some (some (.int 300 tMOST_CODES)))
 {tMOST_ASKS:Tok} (gMOST_ASKS:PySem.W.nsIn K mainGlobals "MOST_ASKS"=some (some (.int 8 tMOST_ASKS)))
 {tMOST_CODES_SEARCHED:Tok} (gMOST_CODES_SEARCHED:PySem.W.nsIn K mainGlobals "MOST_CODES_SEARCHED"=some (some (.int 16 tMOST_CODES_SEARCHED)))
 (zlen:PySem.W.nsIn K mainGlobals "len"=some none)
 (zisinstance:PySem.W.nsIn K mainGlobals "isinstance"=some none)
 (zrange:PySem.W.nsIn K mainGlobals "range"=some none)
 (zint:PySem.W.nsIn K mainGlobals "int"=some none)
 (zbool:PySem.W.nsIn K mainGlobals "bool"=some none)
 (ztuple:PySem.W.nsIn K mainGlobals "tuple"=some none)
 (zlist:PySem.W.nsIn K mainGlobals "list"=some none)
 (zall:PySem.W.nsIn K mainGlobals "all"=some none)
 (zenumerate:PySem.W.nsIn K mainGlobals "enumerate"=some none)
 (zzip:PySem.W.nsIn K mainGlobals "zip"=some none)
 (zsum:PySem.W.nsIn K mainGlobals "sum"=some none)
 (zsorted:PySem.W.nsIn K mainGlobals "sorted"=some none)
 (zmax:PySem.W.nsIn K mainGlobals "max"=some none)
 (zmin:PySem.W.nsIn K mainGlobals "min"=some none)
 (zset:PySem.W.nsIn K mainGlobals "set"=some none)
 (zstr:PySem.W.nsIn K mainGlobals "str"=some none)
:
 ∃fd:FuncData,(∀(s:Shared) (v:Value),BindsTo s fd ⟨[v],[]⟩ [("_law_script",v)])/\∀base:Heap,K.In base->base.Ns mainGlobals mg->BMdB base mg->FnOk l.prog w K mg base gY 9 fa fd ["_law_script"] (cF K 1 IA):=by
 have e:=hfa.symm.trans (PySem.W.mg_of X G a42);cases e;have B:Bt mg:=⟨PySem.W.mg_none_of X G zlen,PySem.W.mg_none_of X G zisinstance,PySem.W.mg_none_of X G zrange,PySem.W.mg_none_of X G zint,PySem.W.mg_none_of X G zbool,PySem.W.mg_none_of X G ztuple,PySem.W.mg_none_of X G zlist,PySem.W.mg_none_of X G zall,PySem.W.mg_none_of X G zenumerate,PySem.W.mg_none_of X G zzip,PySem.W.mg_none_of X G zsum,PySem.W.mg_none_of X G zsorted,PySem.W.mg_none_of X G zmax,PySem.W.mg_none_of X G zmin,PySem.W.mg_none_of X G zset,PySem.W.mg_none_of X G zstr⟩;have F0_:=bQ (st:=jX) l0 c0 k0;have F1_:=bQ (st:=iR) l1 c1 k1;have F2_:=bQ (st:=gd) l2 c2 k2;have F3_:=bQ (st:=iS) l3 c3 k3;have F4_:=bQ (st:=fN) l4 c4 k4;have F5_:=bQ (st:=iT) l5 c5 k5;have F6_:=bQ (st:=lI) l6 c6 k6;have F7_:=bQ (st:=cn) l7 c7 k7;have F8_:=bQ (st:=cH) l8 c8 k8;have F9_:=bQ (st:=lJ) l9 c9 k9;have F10_:=bQ (st:=eK) l10 c10 k10;have F11_:=bQ (st:=lK) l11 c11 k11;have F12_:=bQ (st:=iU) l12 c12 k12;have F13_:=bQ (st:=nZ) l13 c13 k13;have F14_:=bQ (st:=eM) l14 c14 k14;have F15_:=bQ (st:=eN) l15 c15 k15;have F16_:=bQ (st:=iV) l16 c16 k16;have F17_:=bQ (st:=jY) l17 c17 k17;have F18_:=bQ (st:=cq) l18 c18 k18;have F19_:=bQ (st:=iX) l19 c19 k19;have F20_:=bQ (st:=iY) l20 c20 k20;have F21_:=bQ (st:=cr) l21 c21 k21;have F22_:=bQ (st:=lL) l22 c22 k22;have F23_:=bQ (st:=jZ) l23 c23 k23;have F24_:=bQ (st:=i9) l24 c24 k24;have F25_:=bQ (st:=fQ) l25 c25 k25;have F26_:=bQ (st:=j0) l26 c26 k26;have F27_:=bQ (st:=eP) l27 c27 k27;have F28_:=bQ (st:=cI) l28 c28 k28;have F29_:=bQ (st:=qw) l29 c29 k29;have F30_:=bQ (st:=ib) l30 c30 k30;have F31_:=bQ (st:=eG) l31 c31 k31;have FC31_:=Jv (st:=eG) l31 c31;have F32_:=bQ (st:=n0) l32 c32 k32;have F33_:=bQ (st:=gj) l33 c33 k33;have F34_:=bQ (st:=gm) l34 c34 k34;have F35_:=bQ (st:=fR) l35 c35 k35;have F36_:=bQ (st:=cu) l36 c36 k36;have F37_:=bQ (st:=cU) l37 c37 k37;have F38_:=bQ (st:=gn) l38 c38 k38;have F39_:=bQ (st:=eB) l39 c39 k39;have F40_:=bQ (st:=cS) l40 c40 k40;have F41_:=bQ (st:=gq) l41 c41 k41;have F42_:=bQ (st:=yF) l42 c42 k42;have b0:=F0_.binds (ps:=["_law_cell_here","_law_prime","_law_many"]) λ_ _ _ _ _ _=>M4 λ_ _ _=>rfl;have b1:=F1_.binds (ps:=["_law_script","_law_k"]) λ_ _ _ _ _ _=>qb λ_ _=>rfl;have b2:=F2_.binds (ps:=["_law_script","_law_at"]) λ_ _ _ _ _ _=>qb λ_ _=>rfl;have b3:=F3_.binds (ps:=["_law_game","_law_cell_here"]) λ_ _ _ _ _ _=>qb λ_ _=>rfl;have b4:=F4_.binds (ps:=["_law_one","_law_other"]) λ_ _ _ _ _ _=>qb λ_ _=>rfl;have b5:=F5_.binds (ps:=["_law_script","_law_at","_law_game"]) λ_ _ _ _ _ _=>M4 λ_ _ _=>rfl;have b6:=F6_.binds (ps:=["thing"]) λ_ _ _ _ _ _=>Ef λ_=>rfl;have b7:=F7_.binds (ps:=["places","colours"]) λ_ _ _ _ _ _=>qb λ_ _=>rfl;have b8:=F8_.binds (ps:=["thing","low","high"]) λ_ _ _ _ _ _=>M4 λ_ _ _=>rfl;have b9:=F9_.binds (ps:=["thing"]) λ_ _ _ _ _ _=>Ef λ_=>rfl;have b10:=F10_.binds (ps:=["game"]) λ_ _ _ _ _ _=>Ef λ_=>rfl;have b11:=F11_.binds (ps:=["game","thing"]) λ_ _ _ _ _ _=>qb λ_ _=>rfl;have b12:=F12_.binds (ps:=["game","thing"]) λ_ _ _ _ _ _=>qb λ_ _=>rfl;have b13:=F13_.binds (ps:=["game","thing"]) λ_ _ _ _ _ _=>qb λ_ _=>rfl;have b14:=F14_.binds (ps:=["game","things","is_one"]) λ_ _ _ _ _ _=>M4 λ_ _ _=>rfl;have b15:=F15_.binds (ps:=["game","asks"]) λ_ _ _ _ _ _=>qb λ_ _=>rfl;have b16:=F16_.binds (ps:=["hidden","guess"]) λ_ _ _ _ _ _=>qb λ_ _=>rfl;have b17:=F17_.binds (ps:=["code","ask"]) λ_ _ _ _ _ _=>qb λ_ _=>rfl;have b18:=F18_.binds (ps:=["codes","asks"]) λ_ _ _ _ _ _=>qb λ_ _=>rfl;have b19:=F19_.binds (ps:=["game"]) λ_ _ _ _ _ _=>Ef λ_=>rfl;have b20:=F20_.binds (ps:=["game","asks"]) λ_ _ _ _ _ _=>qb λ_ _=>rfl;have b21:=F21_.binds (ps:=["code","asks"]) λ_ _ _ _ _ _=>qb λ_ _=>rfl;have b22:=F22_.binds (ps:=["places","size"]) λ_ _ _ _ _ _=>qb λ_ _=>rfl;have b23:=F23_.binds (ps:=["choice","rows"]) λ_ _ _ _ _ _=>qb λ_ _=>rfl;have b24:=F24_.binds (ps:=["game","asks"]) λ_ _ _ _ _ _=>qb λ_ _=>rfl;have b25:=F25_.binds (ps:=["game"]) λ_ _ _ _ _ _=>Ef λ_=>rfl;have b26:=F26_.binds (ps:=["game","asks"]) λ_ _ _ _ _ _=>qb λ_ _=>rfl;have b27:=F27_.binds (ps:=["game","code"]) λ_ _ _ _ _ _=>qb λ_ _=>rfl;have b28:=F28_.binds (ps:=["codes","guess"]) λ_ _ _ _ _ _=>qb λ_ _=>rfl;have b29:=F29_.binds (ps:=["game","asks","guess"]) λ_ _ _ _ _ _=>M4 λ_ _ _=>rfl;have b30:=F30_.binds (ps:=["fitting","guess"]) λ_ _ _ _ _ _=>qb λ_ _=>rfl;have b31:=F31_.binds (ps:=["codes","fitting"]) λ_ _ _ _ _ _=>qb λ_ _=>rfl;have b32:=F32_.binds (ps:=["game","hidden"]) λ_ _ _ _ _ _=>qb λ_ _=>rfl;have b33:=F33_.binds (ps:=["game"]) λ_ _ _ _ _ _=>Ef λ_=>rfl;have b34:=F34_.binds (ps:=["code","guesses"]) λ_ _ _ _ _ _=>qb λ_ _=>rfl;have b35:=F35_.binds (ps:=["codes","guesses"]) λ_ _ _ _ _ _=>qb λ_ _=>rfl;have b36:=F36_.binds (ps:=["codes","size"]) λ_ _ _ _ _ _=>qb λ_ _=>rfl;have b37:=F37_.binds (ps:=["game"]) λ_ _ _ _ _ _=>Ef λ_=>rfl;have b38:=F38_.binds (ps:=["_law_game","_law_asks_here","_law_hidden"]) λ_ _ _ _ _ _=>M4 λ_ _ _=>rfl;have b39:=F39_.binds (ps:=["_law_thing"]) λ_ _ _ _ _ _=>Ef λ_=>rfl;have b40:=F40_.binds (ps:=["_law_thing"]) λ_ _ _ _ _ _=>Ef λ_=>rfl;have b41:=F41_.binds (ps:=["_law_game"]) λ_ _ _ _ _ _=>Ef λ_=>rfl;have b42:=F42_.binds (ps:=["_law_script"]) λ_ _ _ _ _ _=>Ef λ_=>rfl;refine⟨PySem.W.fnOf "law" "law" (ag yF) (aZ yF) (aL yF) .none kV42 dc42 pm42 an42 cd42 ct42,λs v=>.of_eq rfl,λbase _ _ BM_=>?_⟩;have O0_:nY l.prog w K mg base:=⟨⟨_,_,Bx F0_ B,PySem.W.mg_of X G a0,k0,b0⟩⟩;have O1_:lw l.prog w K mg base:=⟨⟨_,_,A5 F1_ B,PySem.W.mg_of X G a1,k1,b1⟩⟩;have O2_:rZ l.prog w K mg base:=⟨⟨_,_,xy F2_ B O0_ O1_,PySem.W.mg_of X G a2,k2,b2⟩⟩;have O3_:oh l.prog w K mg base:=⟨⟨_,_,A6 F3_ B O0_,PySem.W.mg_of X G a3,k3,b3⟩⟩;have O4_:qF l.prog w K mg base:=⟨⟨_,_,vP F4_ B,PySem.W.mg_of X G a4,k4,b4⟩⟩;have O5_:ub l.prog w K mg base:=⟨⟨_,_,A7 F5_ B O3_ O1_ O0_ O4_,PySem.W.mg_of X G a5,k5,b5⟩⟩;have O6_:qG l.prog w K mg base:=⟨⟨_,_,E3 F6_ B,PySem.W.mg_of X G a6,k6,b6⟩⟩;have O7_:jF l.prog w K mg base:=⟨⟨_,_,qp F7_ B,PySem.W.mg_of X G a7,k7,b7⟩⟩;have O8_:eX l.prog w K mg base:=⟨⟨_,_,ol F8_ B,PySem.W.mg_of X G a8,k8,b8⟩⟩;have O9_:A8 l.prog w K mg base:=⟨⟨_,_,E5 F9_ B O6_ O7_ O8_ (PySem.W.mg_of X G gMOST_PLACES) (PySem.W.mg_of X G gMOST_COLOURS) (PySem.W.mg_of X G gMOST_CODES),PySem.W.mg_of X G a9,k9,b9⟩⟩;have O10_:gF l.prog w K mg base:=⟨⟨_,_,ue F10_ B O9_,PySem.W.mg_of X G a10,k10,b10⟩⟩;have O11_:uf l.prog w K mg base:=⟨⟨_,_,E7 F11_ B O8_,PySem.W.mg_of X G a11,k11,b11⟩⟩;have O12_:ug l.prog w K mg base:=⟨⟨_,_,Aa F12_ B O6_ O8_,PySem.W.mg_of X G a12,k12,b12⟩⟩;have O13_:K3 l.prog w K mg base:=⟨⟨_,_,Ab F13_ B O6_ O11_ O12_,PySem.W.mg_of X G a13,k13,b13⟩⟩;have N13_:OwnN l.prog w K mg base 3 "is_ask" ["game","thing"] (cF K 2 jM):=⟨⟨_,_,Ab F13_ B O6_ O11_ O12_,a13,k13,b13⟩⟩;have O14_:oG l.prog w K mg base:=⟨⟨_,_,uh F14_ B N13_ (PySem.W.mg_of X G gMOST_ASKS),PySem.W.mg_of X G a14,k14,b14⟩⟩;have O15_:oH l.prog w K mg base:=⟨⟨_,_,uj F15_ B O14_ (PySem.W.mg_of X G a13) a13,PySem.W.mg_of X G a15,k15,b15⟩⟩;have O16_:iW l.prog w K mg base:=⟨⟨_,_,Ac F16_ B,PySem.W.mg_of X G a16,k16,b16⟩⟩;have O17_:qr l.prog w K mg base:=⟨⟨_,_,Bz F17_ B O16_,PySem.W.mg_of X G a17,k17,b17⟩⟩;have O18_:gO l.prog w K mg base:=⟨⟨_,_,qt F18_ B O17_,PySem.W.mg_of X G a18,k18,b18⟩⟩;have O19_:fG l.prog w K mg base:=⟨⟨_,_,Ad F19_ B O10_,PySem.W.mg_of X G a19,k19,b19⟩⟩;have O20_:iZ l.prog w K mg base:=⟨⟨_,_,Af F20_ B O10_ O15_ O18_ O19_,PySem.W.mg_of X G a20,k20,b20⟩⟩;have O21_:mM l.prog w K mg base:=⟨⟨_,_,qv F21_ B O17_,PySem.W.mg_of X G a21,k21,b21⟩⟩;have O22_:uk l.prog w K mg base:=⟨⟨_,_,E8 F22_ B,PySem.W.mg_of X G a22,k22,b22⟩⟩;have O23_:wc l.prog w K mg base:=⟨⟨_,_,CA F23_ B,PySem.W.mg_of X G a23,k23,b23⟩⟩;have O24_:um l.prog w K mg base:=⟨⟨_,_,Ag F24_ B O20_ O21_ O22_ O19_ O23_,PySem.W.mg_of X G a24,k24,b24⟩⟩;have O25_:qH l.prog w K mg base:=⟨⟨_,_,vQ F25_ B O19_ O16_,PySem.W.mg_of X G a25,k25,b25⟩⟩;have O26_:we l.prog w K mg base:=⟨⟨_,_,CB F26_ B O20_ O19_ O18_,PySem.W.mg_of X G a26,k26,b26⟩⟩;have O27_:ka l.prog w K mg base:=⟨⟨_,_,uq F27_ B O11_,PySem.W.mg_of X G a27,k27,b27⟩⟩;have O28_:iH l.prog w K mg base:=⟨⟨_,_,on F28_ B O16_,PySem.W.mg_of X G a28,k28,b28⟩⟩;have O29_:Ia l.prog w K mg base:=⟨⟨_,_,K4 F29_ B O20_ O27_ O28_,PySem.W.mg_of X G a29,k29,b29⟩⟩;have O30_:ur l.prog w K mg base:=⟨⟨_,_,Ai F30_ B O28_,PySem.W.mg_of X G a30,k30,b30⟩⟩;have O31_:Aj l.prog w K mg base:=⟨⟨_,_,Eb FC31_ B O30_ h31 BM_,PySem.W.mg_of X G a31,k31,b31⟩⟩;have O32_:DJ l.prog w K mg base:=⟨⟨_,_,Ib F32_ B O10_ O27_ O19_ O31_ O18_ O16_,PySem.W.mg_of X G a32,k32,b32⟩⟩;have O33_:r9 l.prog w K mg base:=⟨⟨_,_,yA F33_ B O7_ (PySem.W.mg_of X G gMOST_CODES_SEARCHED),PySem.W.mg_of X G a33,k33,b33⟩⟩;have O34_:rc l.prog w K mg base:=⟨⟨_,_,yC F34_ B O16_,PySem.W.mg_of X G a34,k34,b34⟩⟩;have O35_:qI l.prog w K mg base:=⟨⟨_,_,vR F35_ B O34_,PySem.W.mg_of X G a35,k35,b35⟩⟩;have O36_:mO l.prog w K mg base:=⟨⟨_,_,qx F36_ B O22_ O35_,PySem.W.mg_of X G a36,k36,b36⟩⟩;have O37_:lM l.prog w K mg base:=⟨⟨_,_,qJ F37_ B O10_ O33_ O19_ O36_,PySem.W.mg_of X G a37,k37,b37⟩⟩;have O38_:re l.prog w K mg base:=⟨⟨_,_,yD F38_ B O24_ O19_ O25_ O20_ O26_ O29_ O32_ O37_,PySem.W.mg_of X G a38,k38,b38⟩⟩;have O39_:ut l.prog w K mg base:=⟨⟨_,_,Ak F39_ B (PySem.W.mg_of X G a39) k39 b39,PySem.W.mg_of X G a39,k39,b39⟩⟩;have O40_:oJ l.prog w K mg base:=⟨⟨_,_,uv F40_ B (PySem.W.mg_of X G a40) k40 b40,PySem.W.mg_of X G a40,k40,b40⟩⟩;have O41_:rf l.prog w K mg base:=⟨⟨_,_,yE F41_ B,PySem.W.mg_of X G a41,k41,b41⟩⟩;exact N0 F42_ B O2_ O5_ O3_ O38_ O39_ O1_ O40_ O20_ O41_
theorem walk {l:PySem.W.OpenLaw}{q:Program}{loose:List Str}{XP:(Str->Option Value)->Heap->Prop}{YP:World->Heap->Prop}{d:DefRec}{K:Params->Fg}(hn:l.most=some 63)(hdf:d.params.defaults=[])
 (hY:∀(w:World) (h:Heap),YP w h->(K w.params).In h/\Tabs (K w.params) h)
 (F : ∀ (w : World) (mg : Str -> Option Value) (fa : Addr) (h : Heap), (K w.params).In h -> h.Ns mainGlobals mg -> mg d.name = some (.ref fa) ->
  ∃fd:FuncData,(∀(s:Shared) (u:Value),BindsTo s fd ⟨[u],[]⟩ [("_law_script",u)])/\∀base:Heap,(K w.params).In base->base.Ns mainGlobals mg->BMdB base mg->FnOk l.prog w (K w.params) mg base gY 9 fa fd ["_law_script"] (cF (K w.params) 1 IA)):
 PySem.W.WalkO q loose XP YP l.row.toRowW d [] (λf vs=>PySem.call f vs):=
 DL.HP (n:=63) (k:=9) (x:="_law_script") (CX:=λ_=>gY) (sp:=λw=>cF (K w.params) 1 IA) hn (by decide) hdf ⟨rfl,by decide,by decide⟩ hY F (λ_ _ a ns hl tb hS=>GH (law_true ns hl) hS tb) λ_ _ _ _ _ z=>z
end GX
open PySem PySem.W PyProof.Rows
noncomputable def PySem.W.Fast.tw13412963457132021927:Nat:=0
noncomputable def PySem.W.Fast.tw121375238376292719:Nat:=0
noncomputable def PySem.W.Fast.tw3010987762268693010:Nat:=0
noncomputable def PySem.W.Fast.tw11854353252393187470:Nat:=0
noncomputable def PySem.W.Fast.tw16566359004260601180:Nat:=0
noncomputable def PySem.W.Fast.tw15538336439300260366:Nat:=0
noncomputable def PySem.W.Fast.tw6262537408500595978:Nat:=0
noncomputable def PySem.W.Fast.tw12642190225667312813:Nat:=0
noncomputable def PySem.W.Fast.tw5961106922478069841:Nat:=0
noncomputable def PySem.W.Fast.tw2149925063362998669:Nat:=0
noncomputable def PySem.W.Fast.tw13627736248152327797:Nat:=0
noncomputable def PySem.W.Fast.tw5982050610345860047:Nat:=0
noncomputable def PySem.W.Fast.tw11843961869945266726:Nat:=0
set_option maxRecDepth 100000 in
set_option maxHeartbeats 0 in
theorem PySem.Challenge.cw_guesscode_k18_nothing_is_kept_holds : PySem.Challenge.rw_guesscode_k18_nothing_is_kept.Holds := by
 w_on;o_law;k_head;(case hw=>w_witness2)
 k_fill
 refine GX.walk (l:=PySem.Challenge.rw_guesscode_k18_nothing_is_kept) rfl rfl (λw h Y=>by first|exact⟨PySem.W.km_in_of Y,DL.Cm (PySem.W.km_tabs_of Y) (by kernel_rfl) (by decide) (by kernel_rfl)⟩|exact⟨PySem.W.kIn_of Y,DL.Cm (ts:=[]) (λ_ h=>nomatch h) (by kernel_rfl) (by decide) (by kernel_rfl)⟩) ?F
 case F=>
  intro w mg fa h KX G hmg
  refine' GX.all_mk KX G hmg ?a0 ?l0 ?c0 ?k0 ?a1 ?l1 ?c1 ?k1 ?a2 ?l2 ?c2 ?k2 ?a3 ?l3 ?c3 ?k3 ?a4 ?l4 ?c4 ?k4 ?a5 ?l5 ?c5 ?k5 ?a6 ?l6 ?c6 ?k6 ?a7 ?l7 ?c7 ?k7 ?a8 ?l8 ?c8 ?k8 ?a9 ?l9 ?c9 ?k9 ?a10 ?l10 ?c10 ?k10 ?a11 ?l11 ?c11 ?k11 ?a12 ?l12 ?c12 ?k12 ?a13 ?l13 ?c13 ?k13 ?a14 ?l14 ?c14 ?k14 ?a15 ?l15 ?c15 ?k15 ?a16 ?l16 ?c16 ?k16 ?a17 ?l17 ?c17 ?k17 ?a18 ?l18 ?c18 ?k18 ?a19 ?l19 ?c19 ?k19 ?a20 ?l20 ?c20 ?k20 ?a21 ?l21 ?c21 ?k21 ?a22 ?l22 ?c22 ?k22 ?a23 ?l23 ?c23 ?k23 ?a24 ?l24 ?c24 ?k24 ?a25 ?l25 ?c25 ?k25 ?a26 ?l26 ?c26 ?k26 ?a27 ?l27 ?c27 ?k27 ?a28 ?l28 ?c28 ?k28 ?a29 ?l29 ?c29 ?k29 ?a30 ?l30 ?c30 ?k30 ?a31 ?l31 ?c31 ?k31 ?a32 ?l32 ?c32 ?k32 ?a33 ?l33 ?c33 ?k33 ?a34 ?l34 ?c34 ?k34 ?a35 ?l35 ?c35 ?k35 ?a36 ?l36 ?c36 ?k36 ?a37 ?l37 ?c37 ?k37 ?a38 ?l38 ?c38 ?k38 ?a39 ?l39 ?c39 ?k39 ?a40 ?l40 ?c40 ?k40 ?a41 ?l41 ?c41 ?k41 ?a42 ?l42 ?c42 ?k42 ?h31 ?gMOST_PLACES ?gMOST_COLOURS ?gMOST_CODES ?gMOST_ASKS ?gMOST_CODES_SEARCHED ?zlen ?zisinstance ?zrange ?zint ?zbool ?ztuple ?zlist ?zall ?zenumerate ?zzip ?zsum ?zsorted ?zmax ?zmin ?zset ?zstr
  (case a0=>k_is);(case l0=>k_is);(case c0=>k_is);(case k0=>k_is)
  (case a1=>k_is);(case l1=>k_is);(case c1=>k_is);(case k1=>k_is)
  (case a2=>k_is);(case l2=>k_is);(case c2=>k_is);(case k2=>k_is)
  (case a3=>k_is);(case l3=>k_is);(case c3=>k_is);(case k3=>k_is)
  (case a4=>k_is);(case l4=>k_is);(case c4=>k_is);(case k4=>k_is)
  (case a5=>k_is);(case l5=>k_is);(case c5=>k_is);(case k5=>k_is)
  (case a6=>k_is);(case l6=>k_is);(case c6=>k_is);(case k6=>k_is)
  (case a7=>k_is);(case l7=>k_is);(case c7=>k_is);(case k7=>k_is)
  (case a8=>k_is);(case l8=>k_is);(case c8=>k_is);(case k8=>k_is)
  (case a9=>k_is);(case l9=>k_is);(case c9=>k_is);(case k9=>k_is)
  (case a10=>k_is);(case l10=>k_is);(case c10=>k_is);(case k10=>k_is)
  (case a11=>k_is);(case l11=>k_is);(case c11=>k_is);(case k11=>k_is)
  (case a12=>k_is);(case l12=>k_is);(case c12=>k_is);(case k12=>k_is)
  (case a13=>k_is);(case l13=>k_is);(case c13=>k_is);(case k13=>k_is)
  (case a14=>k_is);(case l14=>k_is);(case c14=>k_is);(case k14=>k_is)
  (case a15=>k_is);(case l15=>k_is);(case c15=>k_is);(case k15=>k_is)
  (case a16=>k_is);(case l16=>k_is);(case c16=>k_is);(case k16=>k_is)
  (case a17=>k_is);(case l17=>k_is);(case c17=>k_is);(case k17=>k_is)
  (case a18=>k_is);(case l18=>k_is);(case c18=>k_is);(case k18=>k_is)
  (case a19=>k_is);(case l19=>k_is);(case c19=>k_is);(case k19=>k_is)
  (case a20=>k_is);(case l20=>k_is);(case c20=>k_is);(case k20=>k_is)
  (case a21=>k_is);(case l21=>k_is);(case c21=>k_is);(case k21=>k_is)
  (case a22=>k_is);(case l22=>k_is);(case c22=>k_is);(case k22=>k_is)
  (case a23=>k_is);(case l23=>k_is);(case c23=>k_is);(case k23=>k_is)
  (case a24=>k_is);(case l24=>k_is);(case c24=>k_is);(case k24=>k_is)
  (case a25=>k_is);(case l25=>k_is);(case c25=>k_is);(case k25=>k_is)
  (case a26=>k_is);(case l26=>k_is);(case c26=>k_is);(case k26=>k_is)
  (case a27=>k_is);(case l27=>k_is);(case c27=>k_is);(case k27=>k_is)
  (case a28=>k_is);(case l28=>k_is);(case c28=>k_is);(case k28=>k_is)
  (case a29=>k_is);(case l29=>k_is);(case c29=>k_is);(case k29=>k_is)
  (case a30=>k_is);(case l30=>k_is);(case c30=>k_is);(case k30=>k_is)
  (case a31=>k_is);(case l31=>k_is);(case c31=>k_is);(case k31=>k_is)
  (case a32=>k_is);(case l32=>k_is);(case c32=>k_is);(case k32=>k_is)
  (case a33=>k_is);(case l33=>k_is);(case c33=>k_is);(case k33=>k_is)
  (case a34=>k_is);(case l34=>k_is);(case c34=>k_is);(case k34=>k_is)
  (case a35=>k_is);(case l35=>k_is);(case c35=>k_is);(case k35=>k_is)
  (case a36=>k_is);(case l36=>k_is);(case c36=>k_is);(case k36=>k_is)
  (case a37=>k_is);(case l37=>k_is);(case c37=>k_is);(case k37=>k_is)
  (case a38=>k_is);(case l38=>k_is);(case c38=>k_is);(case k38=>k_is)
  (case a39=>k_is);(case l39=>k_is);(case c39=>k_is);(case k39=>k_is)
  (case a40=>k_is);(case l40=>k_is);(case c40=>k_is);(case k40=>k_is)
  (case a41=>k_is);(case l41=>k_is);(case c41=>k_is);(case k41=>k_is)
  (case a42=>k_is);(case l42=>k_is);(case c42=>k_is);(case k42=>k_is)
  (case h31=>kernel_rfl)
  (case gMOST_PLACES=>k_is)
  (case gMOST_COLOURS=>k_is)
  (case gMOST_CODES=>k_is)
  (case gMOST_ASKS=>k_is)
  (case gMOST_CODES_SEARCHED=>k_is)
  (case zlen=>k_is);(case zisinstance=>k_is);(case zrange=>k_is);(case zint=>k_is);(case zbool=>k_is);(case ztuple=>k_is);(case zlist=>k_is);(case zall=>k_is);(case zenumerate=>k_is);(case zzip=>k_is);(case zsum=>k_is);(case zsorted=>k_is);(case zmax=>k_is);(case zmin=>k_is);(case zset=>k_is);(case zstr=>k_is)
