import PyProof.Rows.All
import Wide.All
import OpenK.AllK
import Wide.FinOn
import Lean
import PyProof.EqAt
import PyProof.EqKinds
import PyProof.TupleCall
import PySem.Challenge.RW_guesscode_k12_whole_plans_and_asks
set_option Elab.async false
set_option linter.all false
set_option maxRecDepth 100000
set_option maxHeartbeats 4000000
noncomputable section
abbrev wB:=@PySem.wpAny_bind
abbrev wP:=@PySem.wpAny_pure
abbrev dS:=@List.getElem?_eq_getElem
abbrev gh:=@List.getD_eq_getElem?_getD
abbrev df:=@PySem.Heap.get?_push_of_some
abbrev fU:=@PySem.Heap.get?_push_size
abbrev dh:=@PySem.Heap.lt_size
abbrev iJ:=@List.mem_cons_of_mem
abbrev gG:=@List.mem_cons_self
abbrev kZ:=@Nat.lt_of_lt_of_le
abbrev xQ:=@PySem.Heap.get?_update_other
abbrev ID:=@PySem.Heap.get?_update_self
abbrev AF:=@Nat.le_of_lt
abbrev jG:=@Nat.ne_of_lt
abbrev uL:=@Nat.ne_of_gt
abbrev zA:=@List.getElem?_cons_zero
abbrev zB:=@List.getElem?_cons_succ
abbrev zC:=@List.length_cons
abbrev zD:=@Option.bind_some
abbrev zE:=@List.set_cons_zero
abbrev zF:=@List.set_cons_succ
abbrev zG:=@Option.map_some
abbrev zH:=@List.length_nil
abbrev zI:=@List.map_cons
abbrev zJ:=@List.length_map
abbrev zK:=@List.getElem?_map
abbrev zL:=@List.map_nil
abbrev zM:=@List.size_toArray
abbrev zN:=@Bool.false_eq_true
abbrev Fg:=@PySem.W.Frag
abbrev zO:=@List.map_map
abbrev zP:=@List.mem_map_of_mem
abbrev zQ:=@List.length_append
abbrev zR:=@List.mem_of_find?_eq_some
abbrev zT:=@Nat.lt_irrefl
abbrev zU:=@Nat.zero_le
abbrev zV:=@Option.some.inj
abbrev Q0:=@Option.map_eq_some_iff
abbrev Q1:=@Nat.le_refl
abbrev Q2:=@List.all_eq_true
abbrev Q3:=@List.mem_cons
abbrev Q4:=@Bool.false_ne_true
abbrev Q5:=@Bool.and_eq_true
abbrev Q6:=@List.mem_map
abbrev Q7:=@List.mem_singleton
abbrev Q8:=@List.append_nil
abbrev Q9:=@List.length_set
abbrev Qa:=@List.getElem?_append_left
abbrev Qb:=@List.mem_append_right
abbrev Qc:=@Nat.le_trans
abbrev Qd:=@List.getElem?_append_right
abbrev Qe:=@Array.length_toList
abbrev Qf:=@List.getElem?_replicate
abbrev uM:=@List.lookup_cons
abbrev uN:=@List.cons_append
abbrev C6:=@List.getElem?_eq_some_iff
abbrev uO:=@List.nil_append
abbrev B2:=@List.find?_cons_of_neg
abbrev rR:=@Bool.not_true
abbrev C7:=@List.find?_cons_of_pos
abbrev xP:=@List.nodup_cons
abbrev B3:=@List.map_congr_left
abbrev AA:=@List.getElem_mem
abbrev AB:=@List.map_append
abbrev ES:=@List.mem_of_getElem?
abbrev AC:=@PySem.Heap.size_push
abbrev IE:=@List.length_replicate
abbrev IF:=@Array.getElem?_toList
abbrev C8:=@Nat.lt_succ_self
abbrev ET:=@List.pairwise_cons
abbrev C9:=@List.mem_filter
abbrev Ca:=@List.mem_append
abbrev EU:=@List.length_range
abbrev IG:=@Nat.lt_of_le_of_lt
abbrev IJ:=@List.getElem_range
abbrev KU:=@List.getElem?_set_ne
abbrev NB:=@List.take_succ_eq_append_getElem
abbrev LJ:=@List.getElem?_set_self
abbrev IK:=@Int.toNat_natCast
abbrev Mr:=@Array.perm_iff_toList_perm
abbrev IL:=@Nat.le_add_right
abbrev Ms:=@Option.isSome_iff_exists
abbrev EV:=@List.any_cons
abbrev KW:=@Nat.lt_succ_of_lt
abbrev LK:=@List.length_pos_iff
abbrev Mt:=@List.length_singleton
abbrev NC:=@List.drop_eq_getElem_cons
abbrev ND:=@Array.getElem?_eq_getElem
abbrev Mu:=@List.mem_append_left
set_option hygiene false
local macro_rules
|`(`a)=>`(s.heap.objs.size)
|`(`b)=>`(by first|exact Or.inl rfl|exact Or.inr rfl)
|`(`c)=>`({cls:=.type "list_iterator",data:=.fields #[.ref l,.int 0 0]})
|`(`d)=>`(Value->Shared->Prop)
|`(`e)=>`(by lia)
|`(`f)=>`(List Int)
|`(`g)=>`(List PyData)
|`(`h)=>`(Inv X pins σ H s)
|`(`i)=>`(model X.prog X.w)
|`(`j)=>`(Str->Option Value)
|`(`k)=>`(List (Addr×Obj))
|`(`l)=>`(k==NameKind.free&&env.scope.kind== .function&&env.kindOf n==some .cell)
|`(`m)=>`(model prog w)
|`(`n)=>`(aX (bO 5 (aG 2 bZ (aB (aF 1) (aB (d2 bv (aG 2 a8 (aB (aF 0) (aB (d2 bv (dC (.int 3)) (aF 4)) aL))) (d2 ib (d2 ib (dC (.int 13)) (aF 4)) (aF 4))) aL)))) (dA 3 (cz (aB (aF 5) (aB (aG 2 au (aB (aF 2) (aB (aF 5) aL))) aL)))))
namespace L2
open PySem PySem.Spec PyProof.Rows
noncomputable abbrev bb:=Sum Int Str
noncomputable def ut:bb->Value->Bool
 | .inl k,v=>Value.isInt k v
 | .inr x,v=>Value.isStrOf x v
noncomputable def PN(w:World):bb->Int
 | .inl k=>hashInt k
 | .inr x=>hashStr w x
theorem cM:∀{k:bb} {v:Value},ut k v=true->(∃i t,k=Sum.inl i/\v=Value.int i t)\/(∃x t,k=Sum.inr x/\v=Value.str x t)
 | .inl i,v,h=>by
  obtain⟨t,e⟩:=Value.isInt_shape (k:=i) (v:=v) h;exact .inl ⟨i,t,rfl,e⟩
 | .inr x,v,h=>by
  obtain⟨t,e⟩:=Value.isStrOf_shape (x:=x) (v:=v) h;exact .inr ⟨x,t,rfl,e⟩
theorem Cb(i:Int)(t:Tok):ut (.inl i) (.int i t)=true:=by simp [ut,Value.isInt]
theorem Cc(x:Str)(t:Tok):ut (.inr x) (.str x t)=true:=by simp [ut,Value.isStrOf]
theorem LL(a b:Int):decide ((Sum.inl a:bb)=Sum.inl b)=(a==b):=by
 by_cases e:a=b
 . subst e;simp
 . have h:¬(Sum.inl a:bb)=Sum.inl b:=λq=>e (Sum.inl.inj q);rw [decide_eq_false h];exact(beq_eq_false_iff_ne.mpr e).symm
theorem LM(a b:Str):decide ((Sum.inr a:bb)=Sum.inr b)=decide (a=b):=by
 by_cases e:a=b
 . subst e;simp
 . have h:¬(Sum.inr a:bb)=Sum.inr b:=λq=>e (Sum.inr.inj q);rw [decide_eq_false h,decide_eq_false e]
theorem LN(a:Int)(b:Str):decide ((Sum.inl a:bb)=Sum.inr b)=false:=decide_eq_false (λq=>nomatch q)
theorem LO(a:Str)(b:Int):decide ((Sum.inr a:bb)=Sum.inl b)=false:=decide_eq_false (λq=>nomatch q)
def am(prog:Program)(w:World):PySem.KeyKind prog w bb where
 is:=ut
 hash:=PN w
 inj:=λv a b ha hb=>by
  rcases cM ha with ⟨i,t,rfl,rfl⟩|⟨x,t,rfl,rfl⟩
  . rcases cM hb with ⟨j,u,rfl,e⟩|⟨y,u,rfl,e⟩
    . injection e with e1 _;rw [e1]
    . exact nomatch e
  . rcases cM hb with ⟨j,u,rfl,e⟩|⟨y,u,rfl,e⟩
    . exact nomatch e
    . injection e with e1 _;rw [e1]
 byValue:=λk v h=>by
  rcases cM h with ⟨i,t,rfl,rfl⟩|⟨x,t,rfl,rfl⟩<;>rfl
 pyHash:=λhv h=>by
  rcases cM hv with ⟨i,t,rfl,rfl⟩|⟨x,t,rfl,rfl⟩
  . exact wpAny_pyHash_int h
  . exact wpAny_pyHash_str h
 eqBool:=λhu hv h=>by
  rcases cM hu with ⟨i,t,rfl,rfl⟩|⟨x,t,rfl,rfl⟩
  . rcases cM hv with ⟨j,u,rfl,rfl⟩|⟨y,u,rfl,rfl⟩
    . rw [LL]at h;exact wpAny_eqBool_int h
    . rw [LN]at h;exact SeqAt.EqAt.int_str i t y u _ _ _ _ h
  . rcases cM hv with ⟨j,u,rfl,rfl⟩|⟨y,u,rfl,rfl⟩
    . rw [LO]at h;exact SeqAt.EqAt.str_int x t j u _ _ _ _ h
    . rw [LM]at h;exact wpAny_eqBool_str h
 «strs»:=λk x t v h=>by
  rcases cM h with ⟨i,u,rfl,e⟩|⟨y,u,rfl,e⟩
  . exact nomatch e
  . injection e with e1 _
    subst e1;cases v<;>rfl
theorem xR(prog:Program)(w:World)(i:Int)(t:Tok):(am prog w).is (.inl i) (.int i t)=true:=Cb i t
theorem xS(prog:Program)(w:World)(x:Str)(t:Tok):(am prog w).is (.inr x) (.str x t)=true:=Cc x t
inductive V where
 |non|bl (b:Bool)|int (i:Int)|str (x:Str)|byt (b:Array UInt8)|flt (b:UInt64)|ref (a:Addr)|ty (n:String)
 deriving DecidableEq
noncomputable def RelV:V->Value->Prop
 | .non,u=>u=Value.none
 | .bl b,u=>u=Value.bool b
 | .int i,u=>∃t,u=Value.int i t
 | .str x,u=>∃t,u=Value.str x t
 | .byt b,u=>∃t,u=Value.bytes b t
 | .flt b,u=>∃t,u=Value.float b t
 | .ref a,u=>u=Value.ref a
 | .ty n,u=>u=Value.type n
abbrev Vals:List V->List Value->Prop:=Paired RelV
variable {us:List Value}
theorem Vals.length {xs:List V}(r:Vals xs us):xs.length=us.length:=Paired.length r
theorem Vals.get:∀{xs:List V} {us:List Value} {i:Nat} {x:V},Vals xs us->xs[i]? =some x->∃u,us[i]? =some u/\RelV x u
 |_,_,_,_,.nil,e=>by simp at e
 |_,_,0,_,.cons r _,e=>by simp at e;subst e;exact⟨_,rfl,r⟩
 |_,_,i+1,x,.cons _ t,e=>by
  obtain⟨u,h1,h2⟩:=Vals.get (i:=i) (x:=x) t (by simpa using e)
  exact⟨u,by simpa using h1,h2⟩
variable {u:Value}
theorem Vals.set {x:V}(r:RelV x u):∀{xs:List V} {us:List Value} (i:Nat),Vals xs us->Vals (xs.set i x) (us.set i u)
 |_,_,_,.nil=>.nil
 |_,_,0,.cons _ t=>.cons r t
 |_,_,i+1,.cons q t=>.cons q (Vals.set r i t)
theorem Vals.append {xs ys:List V}{ws:List Value}(h:Vals xs us)(s:Vals ys ws):Vals (xs++ys) (us++ws):=by
 induction h with
 |nil=>exact s
 |cons r t ih=>exact .cons r ih
noncomputable def RelO:Option V->Option Value->Prop
 |some v,some u=>RelV v u
 |none,none=>True
 |_,_=>False
def KV {κ:Type}:List (κ×V)->List (κ×Value)->Prop:=Paired λ(p:κ×V) (q:κ×Value)=>p.1=q.1/\RelV p.2 q.2
noncomputable def kV:bb->V
 | .inl i=>.int i
 | .inr x=>.str x
inductive HO where
 |lst (xs:List V)
 |tup (xs:List V)
 |dK (kvs:List (bb×V))|dT (kvs:List (List bb×V))
 |set (S:Int->Bool) (n:Nat)
 |ins (C dx:Addr) (fs:List (Str×V))
 |own (x:Addr)
 |xd (fs:List (Str×V))
 |met (f x:Addr)
 |rng (lo hi:Int)
 |frz (o:Obj) (u:HO)
 |tbl (ps:Array Value)
 |ext (φ:Heap->Prop)
noncomputable abbrev Hp:=Addr->Option HO
def bC(H:Hp)(a:Addr)(o:HO):Hp:=λb=>if b=a then some o else H b
theorem aR {H:Hp}{a:Addr}{o:HO}:bC H a o a=some o:=by unfold bC;rw [if_pos rfl]
variable {o:HO}{a b:Addr}{H:Hp}
theorem aM(h:b≠a):bC H a o b=H b:=by unfold bC;rw [if_neg h]
theorem KY {u:HO}(h:H a=some o)(h':H b=some u)(d:o≠u):a≠b:=by
 intro e;subst e;rw [h]at h';exact d (zV h')
theorem aQ(h:H a=some o)(h':H b=none):a≠b:=by
 intro e;subst e;rw [h]at h';cases h'
section
variable (P:Program) (w:World)
def ObjOk(H:Hp)(h:Heap)(a:Addr):HO->Prop
 | .lst xs=>xs.length<=sizeLine/\∃(its:List Value) (n:Nat),Vals xs its/\h.get? a=some {cls:=.type "list",data:=.seq its.toArray n}
 | .tup xs=>xs.length<=sizeLine/\∃its:List Value,Vals xs its/\IsTup h a its.toArray/\∃ob,h.get? a=some ob/\ob.dict=none
 | .dK kvs=>kvs.length<=sizeLine/\(a==sysModules)=false/\∃vs,KV kvs vs/\h.DictOf (am P w) a vs
 | .dT kvs=>kvs.length<=sizeLine/\(a==sysModules)=false/\∃xs:List (List bb×Addr×Value),
  Paired (λ(p:List bb×V) (q:List bb×Addr×Value)=>p.1=q.1/\H q.2.1=some (.tup (p.1.map kV))/\RelV p.2 q.2.2) kvs xs/\
  ∃o es ep,h.get? a=some o/\o.ExactDict/\o.data=.dict es ep/\es.toList=xs.map (entryOfKey (tupleKind (am P w)))/\(xs.map (·.1)).Nodup/\ep=xs.length
 | .set S n=>h.SetOf (intKind P w) a S n
 | .ins C dx fs=>H dx=some (.own a)/\fs.length<=1000/\dx≠a/\h.get? a=some (PySem.W.instObj C dx)/\
  ∃mA,h.Ns1 dx mA/\(∀f,RelO (fs.lookup f) (mA f))/\PySem.Within mA (fs.map (·.1))
 | .own _=>∃o,h.get? a=some o
 | .xd fs=>∃mA,h.Ns1 a mA/\∀f,RelO (fs.lookup f) (mA f)
 | .rng lo hi=>∃t u v,h.get? a=some {cls:=.type "range",data:=.fields #[.int lo t,.int hi u,.int 1 v]}
 | .frz o u=>h.get? a=some o/\ObjOk H h a u
 | .tbl ps=>h.get? a=some {cls:=.none,data:=.fields #[]}\/∃(c':Addr) (o:Obj) (u:HO) (l c:Value) (q:Str) (t t2:Tok) (vs:Array Value),ps= #[l,c,.str q t]/\h.get? a=some {cls:=.none,data:=.fields #[l,c,.ref c']}/\H c'=some (.frz o u)/\o.data=.fields vs/\vs[1]? =some (.str q t2)
 | .met f x=>h.get? a=some (PySem.W.methodObj (.ref f) (.ref x))
 | .ext φ=>φ h/\(∃o,h.get? a=some o)/\∀h1 h2:Heap,φ h1->(∀o,h1.get? a=some o->h2.get? a=some o)->φ h2
def HOk(H:Hp)(h:Heap):Prop:=∀a o,H a=some o->ObjOk P w H h a o
end
section
variable {P:Program} {w:World} {H H':Hp} {h h':Heap} {a:Addr} {o:HO}
theorem ObjOk.lt(x:ObjOk P w H h a o):a < h.objs.size:=by
 cases o with
 |lst xs=>obtain⟨_,_,_,_,e⟩:=x;exact dh e
 |tup xs=>obtain⟨_,_,_,p,_⟩:=x;exact p.lt
 |dK kvs=>obtain⟨_,_,_,_,o,_,_,e,_⟩:=x;exact dh e
 |dT kvs=>obtain⟨_,_,_,_,o,_,_,e,_⟩:=x;exact dh e
 |set S n=>obtain⟨o,_,_,_,e,_⟩:=x;exact dh e
 |ins C dx fs=>obtain⟨_,_,_,e,_⟩:=x;exact dh e
 |own y=>obtain⟨_,e⟩:=x;exact dh e
 |xd fs=>obtain⟨_,⟨_,_,_,e,_⟩,_⟩:=x;exact dh e
 |rng lo hi=>obtain⟨_,_,_,e⟩:=x;exact dh e
 |frz ob u=>obtain⟨e,_⟩:=x;exact dh e
 |tbl ps=>
  rcases x with e|⟨c',o,u,l,c,q,t,t2,vs,_,e,_⟩
  . exact dh e
  . exact dh e
 |met f y=>exact dh (show h.get? a=some _ from x)
 |ext φ=>obtain⟨_,⟨_,e⟩,_⟩:=x;exact dh e
theorem Paired.mapP {α β:Type}{F G:α->β->Prop}{l₁:List α}{l₂:List β}(h:Paired F l₁ l₂)(f:∀a b,F a b->G a b):Paired G l₁ l₂:=by
 induction h with
 |nil=>exact .nil
 |cons r t ih=>exact .cons (f _ _ r) ih
theorem ObjOk.stay(x:ObjOk P w H h a o)(k:∀b u,(b=a\/H b=some (.own a))->h.get? b=some u->h'.get? b=some u)
 (ho:∀b,H b=some (.own a)->H' b=some (.own a)) (ht:∀b xs,H b=some (.tup xs)->H' b=some (.tup xs)) (hf:∀b o u,H b=some (.frz o u)->H' b=some (.frz o u)):ObjOk P w H' h' a o:=by
 induction o with
 |lst xs=>obtain⟨z,its,n,r,e⟩:=x;exact⟨z,its,n,r,k _ _ (.inl rfl) e⟩
 |tup xs=>obtain⟨z,its,r,⟨ob,e,c⟩,o2,e2,c2⟩:=x;exact⟨z,its,r,⟨ob,k _ _ (.inl rfl) e,c⟩,o2,k _ _ (.inl rfl) e2,c2⟩
 |dK kvs=>obtain⟨z,y,vs,r,ob,es,ep,e,c⟩:=x;exact⟨z,y,vs,r,ob,es,ep,k _ _ (.inl rfl) e,c⟩
 |dT kvs=>
  obtain⟨z,y,xs,r,ob,es,ep,e,c⟩:=x;exact⟨z,y,xs,Paired.mapP r λp q z=>⟨z.1,ht _ _ z.2.1,z.2.2⟩,ob,es,ep,k _ _ (.inl rfl) e,c⟩
 |set S n=>obtain⟨ob,es,ep,t,e,c⟩:=x;exact⟨ob,es,ep,t,k _ _ (.inl rfl) e,c⟩
 |ins C dx fs=>
  obtain⟨d,z,ne,e,mA,⟨od,es,ep,e2,c⟩,r⟩:=x;exact⟨ho _ d,z,ne,k _ _ (.inl rfl) e,mA,⟨od,es,ep,k _ _ (.inr d) e2,c⟩,r⟩
 |own y=>obtain⟨ob,e⟩:=x;exact⟨ob,k _ _ (.inl rfl) e⟩
 |xd fs=>obtain⟨mA,⟨od,es,ep,e,c⟩,r⟩:=x;exact⟨mA,⟨od,es,ep,k _ _ (.inl rfl) e,c⟩,r⟩
 |rng lo hi=>obtain⟨t,u,v,e⟩:=x;exact⟨t,u,v,k _ _ (.inl rfl) e⟩
 |frz ob u ih=>obtain⟨e,q⟩:=x;exact⟨k _ _ (.inl rfl) e,ih q⟩
 |tbl ps=>
  rcases x with e|⟨c',o,u,l,c,q,t,t2,vs,e1,e2,e3,r⟩
  . exact Or.inl (k _ _ (.inl rfl) e)
  . exact Or.inr ⟨c',o,u,l,c,q,t,t2,vs,e1,k _ _ (.inl rfl) e2,hf _ _ _ e3,r⟩
 |met f y=>
  have e:h.get? a=some (PySem.W.methodObj (.ref f) (.ref y)):=x;show h'.get? a=some (PySem.W.methodObj (.ref f) (.ref y));exact k a _ (.inl rfl) e
 |ext φ=>obtain⟨p,⟨o,e⟩,st⟩:=x;exact⟨st _ _ p λo q=>k _ _ (.inl rfl) q,⟨o,k _ _ (.inl rfl) e⟩,st⟩
theorem HOk.lt(x:HOk P w H h)(e:H a=some o):a < h.objs.size:=(x a o e).lt
theorem HOk.fresh(x:HOk P w H h)(e:h.objs.size<=a):H a=none:=by
 cases q:H a with
 |none=>rfl
 |some u=>exact absurd (kZ (x.lt q) e) (zT _)
theorem HOk.kept(x:HOk P w H h)(k:∀b u,h.get? b=some u->h'.get? b=some u):HOk P w H h':=λa o e=>
 (x a o e).stay (λb u _ q=>k b u q) (λ_ q=>q) (λ_ _ q=>q) λ_ _ _ q=>q
theorem HOk.laid(x:HOk P w H h)(k:∀b u,h.get? b=some u->h'.get? b=some u)(hp:h.objs.size<=a)(new:ObjOk P w (bC H a o) h' a o):HOk P w (bC H a o) h':=λb u e=>by
 have hn:=x.fresh hp
 by_cases hb:b=a
 . subst hb;rw [aR]at e;cases e;exact new
 . rw [aM hb]at e;exact(x b u e).stay (λc v _ q=>k c v q) (λc q=>by rw [aM (aQ q hn)];exact q) (λc xs q=>by rw [aM (aQ q hn)];exact q) λc ob xs q=>by rw [aM (aQ q hn)];exact q
end
def Rd(H:Hp)(a:Addr)(u:HO):Prop:=H a=some u\/∃o,H a=some (.frz o u)
variable {h:Heap}{w:World}{P:Program}
theorem Rd.ok {u:HO}(r:Rd H a u)(x:HOk P w H h):ObjOk P w H h a u:=by
 rcases r with r|⟨o,r⟩
 . exact x a u r
 . obtain⟨_,q⟩:=x a _ r;exact q
noncomputable def NE:Option HO->Prop
 |some (.lst _)=>True
 |some (.dK _)=>True
 |some (.dT _)=>True
 |some (.set _ _)=>True
 |some (.ins _ _ _)=>True
 |some (.ext _)=>True
 |_=>False
section
variable {P:Program} {w:World} {H:Hp} {h h':Heap} {x e:Addr} {o':HO}
theorem HOk.write(ok:HOk P w H h)(mu:NE (H x))(he:e=x\/H e=some (.own x))(k:∀b u,b≠e->h.get? b=some u->h'.get? b=some u)(heo:∃u,h'.get? e=some u)
 (new:ObjOk P w (bC H x o') h' x o'):HOk P w (bC H x o') h':=λb u q=>by
 have nown:∀c y,H c=some (.own y)->c≠x:=λc y r z=>by subst z;rw [r]at mu;exact mu
 have ntup:∀c xs,H c=some (.tup xs)->c≠x:=λc xs r z=>by subst z;rw [r]at mu;exact mu
 have nfrz:∀c ob xs,H c=some (.frz ob xs)->c≠x:=λc ob xs r z=>by subst z;rw [r]at mu;exact mu
 by_cases hb:b=x
 . subst hb;rw [aR]at q;cases q;exact new
 . rw [aM hb]at q
   by_cases hbe:b=e
   . have q':H b=some (.own x):=by
      rcases he with z|z
      . exact absurd (hbe.trans z) hb
      . rw [hbe];exact z
     rw [q]at q';cases q';obtain⟨v,hv⟩:=heo;exact⟨v,by rw [hbe];exact hv⟩
   . refine(ok b u q).stay (λc v hc r=>k c v ?_ r) (λc r=>by rw [aM (nown c b r)];exact r) (λc xs r=>by rw [aM (ntup c xs r)];exact r) λc ob xs r=>by rw [aM (nfrz c ob xs r)];exact r
     rcases hc with rfl|hc
     . exact hbe
     . rintro rfl
       rcases he with z|z
       . exact nown c b hc z
       . rw [hc]at z;cases z;exact hb rfl
end
structure Un (fs ex:List Addr) (H H':Hp) (h h':Heap):Prop where
 keep:∀b o,h.get? b=some o->H b=none->b ∉ fs->b ∉ ex->h'.get? b=some o
 slot:∀b o,h.get? b=some o->H b=none->b∈fs->b ∉ ex->∃sl,h'.get? b=some {o with slots:=sl}
 free:∀b o,h.get? b=some o->H b=none->b ∉ ex->H' b=none
 there:∀b o,h.get? b=some o->b ∉ ex->∃o',h'.get? b=some o'
 tups:∀b xs,H b=some (.tup xs)->H' b=some (.tup xs)
 frzs:∀b o u,H b=some (.frz o u)->H' b=some (.frz o u)
 tbls:∀b ps,H b=some (.tbl ps)->∃more,H' b=some (.tbl (ps++more))
section
variable {fs fs' ex ex':List Addr} {H H1 H2:Hp} {h h1 h2 h':Heap} {a x e:Addr} {o:HO}
theorem Un.any(u:Un fs ex H H1 h h1){b:Addr}{ob:Obj}(q:h.get? b=some ob)(n:H b=none)(hx:b ∉ ex):∃sl,h1.get? b=some {ob with slots:=sl}:=by
 by_cases hb:b∈fs
 . exact u.slot b ob q n hb hx
 . exact⟨ob.slots,u.keep b ob q n hb hx⟩
theorem Un.kept(k:∀b u,h.get? b=some u->h'.get? b=some u):Un fs ex H H h h':=
 ⟨λb ob q _ _ _=>k b ob q,λb ob q _ _ _=>⟨ob.slots,k b ob q⟩,λ_ _ _ n _=>n,λb ob q _=>⟨ob,k b ob q⟩,λ_ _ q=>q,λ_ _ _ q=>q,λ_ ps q=>⟨#[],by rw [q];simp⟩⟩
theorem Un.refl:Un fs ex H H h h:=Un.kept λ_ _ q=>q
theorem Un.laid(k:∀b u,h.get? b=some u->h'.get? b=some u)(hp:h.objs.size<=a)(hn:H a=none):Un fs ex H (bC H a o) h h' where
 keep:=λb u q _ _ _=>k b u q
 slot:=λb u q _ _ _=>⟨u.slots,k b u q⟩
 free:=λb u q n _=>by rw [aM (jG (kZ (dh q) hp))];exact n
 there:=λb u q _=>⟨u,k b u q⟩
 tups:=λb xs q=>by rw [aM (aQ q hn)];exact q
 frzs:=λb u xs q=>by rw [aM (aQ q hn)];exact q
 tbls:=λb ps q=>⟨#[],by rw [aM (aQ q hn),q];simp⟩
theorem Un.write(mu:NE (H x))(he:e=x\/H e=some (.own x))(k:∀b u,b≠e->h.get? b=some u->h'.get? b=some u)(heo:∃u,h'.get? e=some u):Un fs ex H (bC H x o) h h':=by
 have hx:∀b,H b=none->b≠x:=λb n z=>by subst z;rw [n]at mu;exact mu
 have hb:∀b,H b=none->b≠e:=λb n z=>by
  subst z
  rcases he with r|r
  . exact hx b n r
  . rw [n]at r;cases r
 have hm:∀b u,H b=some u->¬NE (some u)->b≠x:=λb u q nm z=>by subst z;rw [q]at mu;exact nm mu
 refine⟨λb u q n _ _=>k b u (hb b n) q,λb u q n _ _=>⟨u.slots,k b u (hb b n) q⟩,λb u q n _=>by rw [aM (hx b n)];exact n,λb u q _=>?_,
  λb xs q=>by rw [aM (hm b _ q λz=>z)];exact q,λb u xs q=>by rw [aM (hm b _ q λz=>z)];exact q,λb ps q=>⟨#[],by rw [aM (hm b _ q λz=>z),q];simp⟩⟩
 by_cases hbe:b=e
 . subst hbe;exact heo
 . exact⟨u,k b u hbe q⟩
end
noncomputable def Os(h:Heap)(H:Hp):List Addr:=(List.range h.objs.size).filter λa=>(H a).isSome
def wA(h:Heap)(H:Hp):Heap:=PySem.W.hideAll h (Os h H)
theorem Cd(h:Heap)(H:Hp):(wA h H).objs.size=h.objs.size:=PySem.W.hideAll_size _ _
variable {o:Obj}
theorem rT(e:h.get? b=some o)(n:H b=none):(wA h H).get? b=some o:=
 PySem.W.hideAll_get _ e λhm=>by
  have q:(H b).isSome=true:=(C9.mp hm).2;rw [n]at q;simp at q
theorem IM(e:(wA h H).get? b=some o):h.get? b=some o/\H b=none:=by
 have e':h.get? b=some o:=PySem.W.of_hideAll (Os h H) e;refine⟨e',?_⟩;cases q:H b with
 |none=>rfl
 |some x=>
  have hm:b∈Os h H:=C9.mpr ⟨List.mem_range.mpr (dh e'),by simp [q]⟩
  have z:(wA h H).get? b=none:=PySem.W.hideAll_none (Os h H) hm;rw [z]at e;cases e
noncomputable def IN(g h:Heap)(L:Addr):List (Addr×Obj):=(List.range h.objs.size).filterMap λa=>if a=L\/(g.get? a).isSome=true then none else(h.get? a).map λo=>(a,o)
def cI(g h:Heap)(L d:Addr):List (Addr×Obj):=(IN g h L).filter λp=>decide (p.1≠d)
structure Mod (K:Fg) (mg:`j) (base:Heap):Prop where
 kin:K.In base
 glob:base.Ns mainGlobals mg
 blt:∃mb,base.Ns builtinsNs mb/\∀x:Str,x≠ "__name__"->mb x=bootBuiltins x
 nolimit:base.NoLimit
structure Cx where
 prog:Program
 w:World
 K:Fg
 mg:Str->Option Value
 base:Heap
 A:Around
 N:List Str
 s₀:Shared
 H₀:Hp
 env:Env
 outer:List Env
 stack:List Env
 ex:List Addr
 fn:Str->Bool
 calm:Bool
 pn:List (Addr×Obj)
 xe:Value->Shared->Prop
noncomputable def AD(l:List Env):List Addr:=l.filterMap (·.frame)
abbrev Cx.fs (X:Cx):List Addr:=AD X.outer
def Ot(sc:Scope)(x:Str):Prop:=sc.names.lookup x=some .local\/sc.names.lookup x=some .cell\/sc.names.lookup x=some .free
def KZ(sc:Scope)(x:Str):Prop:=sc.names.lookup x=some .local\/sc.names.lookup x=some .cell
def PO(env:Env)(h:Heap)(m:`j)(x:Str)(u:Value):Prop:=
 (env.kindOf x=some .local/\m x=some u)\/((env.kindOf x=some .cell\/env.kindOf x=some .free)/\∃c,env.cells.lookup x=some c/\h.IsCell c (some u))
structure Cx.Ok (X:Cx):Prop where
 mod:Mod X.K X.mg X.base
 kind:X.env.scope.kind=.function
 glob:X.env.globals=mainGlobals
 blt:X.env.builtins=builtinsNs
 above:X.s₀.heap.objs.size<=X.env.locals
 inj:∀x y c,X.env.cells.lookup x=some c->X.env.cells.lookup y=some c->x=y
 has:∀x,(X.env.kindOf x=some .cell\/X.env.kindOf x=some .free)->∃c,X.env.cells.lookup x=some c
 cab:∀x c,X.fn x=true->X.env.cells.lookup x=some c->X.s₀.heap.objs.size<=c
 hd:X.calm=true->X.A.handled=none
 frames:X.A.frames=some X.stack
 stk:X.stack=X.outer\/(X.stack=X.env::X.outer/\X.env.frame=some X.env.locals)
 exf:∀b∈X.ex,b≠X.env.locals/\∀x c,X.env.cells.lookup x=some c->c≠b
 bs:∀b o,X.base.get? b=some o->X.s₀.heap.get? b=some o/\X.H₀ b=none
 bsz:X.base.objs.size<=X.s₀.heap.objs.size
 noex:∀b o,X.base.get? b=some o->b ∉ X.ex
 exfs:∀b∈X.ex,b ∉ X.fs
 funs:X.s₀.heap.FunFrames X.base X.outer
 frf:∀b∈X.fs,X.H₀ b=none
structure Inv (X:Cx) (pins:`k) (σ:List (Option V)) (H:Hp) (s:Shared):Prop where
 ok:X.Ok
 os:s.os=X.s₀.os
 bare:AllBare s.gens
 base:Un X.fs X.ex X.H₀ H X.s₀.heap s.heap
 loc:∃m,s.heap.Ns X.env.locals m/\∀(i:Nat) (x:Str) (v:V),X.N[i]? =some x->σ[i]? =some (some v)->Ot X.env.scope x->∃u,RelV v u/\PO X.env s.heap m x u
 cell:∀x c,X.env.cells.lookup x=some c->∃v,s.heap.IsCell c v
 free:H X.env.locals=none
 freeC:∀x c,X.env.cells.lookup x=some c->H c=none
 pin:∀p∈X.pn++pins,s.heap.get? p.1=some p.2/\H p.1=none/\p.1≠X.env.locals/\p.1 ∉ X.fs/\∀v,p.2.data≠ .cell v
 hok:HOk X.prog X.w H s.heap
 len:σ.length=X.N.length
section
variable {X:Cx} {pins:`k} {σ:List (Option V)} {H H':Hp} {s:Shared} {h':Heap}
theorem Cx.Ok.nofr(ok:X.Ok){b:Addr}{o:Obj}(e:X.base.get? b=some o):b ∉ X.fs:=λhb=>by
 have:=(ok.funs.mem hb).1;rw [e]at this;cases this
theorem Inv.bs(I:`h):∀b o,X.base.get? b=some o->s.heap.get? b=some o/\H b=none:=λb o e=>
 ⟨I.base.keep b o (I.ok.bs b o e).1 (I.ok.bs b o e).2 (I.ok.nofr e) (I.ok.noex b o e),I.base.free b o (I.ok.bs b o e).1 (I.ok.bs b o e).2 (I.ok.noex b o e)⟩
theorem Inv.bk(I:`h):∀b o,X.base.get? b=some o->s.heap.get? b=some o:=λb o e=>(I.bs b o e).1
theorem Inv.mod(I:`h):Mod X.K X.mg X.base:=I.ok.mod
theorem Inv.kIn(I:`h):X.K.In s.heap:=I.ok.mod.kin.keeps I.bk
theorem Inv.nolimit(I:`h):s.heap.NoLimit:=I.ok.mod.nolimit.keeps I.bk
theorem Inv.lt(I:`h):X.env.locals < `a:=let ⟨_,hn,_⟩:=I.loc;hn.lt
theorem Inv.sz(I:`h):X.s₀.heap.objs.size<=`a:=Qc I.ok.above (AF I.lt)
theorem Inv.nofs(I:`h){a:Addr}(h:`a<=a):a ∉ X.fs:=λhb=>by
 obtain⟨_,o,ho,_⟩:=I.ok.funs.mem hb;exact absurd (kZ (dh ho) (Qc I.sz h)) (zT _)
theorem Inv.cne(I:`h):∀x c,X.env.cells.lookup x=some c->c≠X.env.locals:=λx c e z=>by
 obtain⟨v,o,ho,hd⟩:=I.cell x c e;obtain⟨m,⟨o',es,ep,ho',hd',_⟩,_⟩:=I.loc;rw [z,ho']at ho;cases ho;rw [hd']at hd;cases hd
theorem Inv.funs(I:`h):s.heap.FunFrames X.base X.outer:=by
 have all:∀(l:List Env),(∀b∈AD l,b∈X.fs)->X.s₀.heap.FunFrames X.base l->s.heap.FunFrames X.base l:=by
  intro l
  induction l with
  |nil=>intro _ _;trivial
  |cons env r ih=>
   intro hs hl;obtain⟨hk,⟨L,o,hf,hn,ho,hd⟩,hr⟩:=hl;have hL:L∈X.fs:=hs L (by unfold AD;rw [List.filterMap_cons,hf];exact gG)
   obtain⟨sl,e⟩:=I.base.slot L o ho (I.ok.frf L hL) hL λz=>I.ok.exfs L z hL;exact⟨hk,⟨L,_,hf,hn,e,hd⟩,ih (λb hb=>hs b (by unfold AD;rw [List.filterMap_cons,hf];exact iJ _ hb)) hr⟩
 exact all X.outer (λ_ hb=>hb) I.ok.funs
theorem Inv.stack(I:`h):s.heap.FunFrames X.base X.stack:=by
 rcases I.ok.stk with e|⟨e,hf⟩
 . rw [e];exact I.funs
 . rw [e];obtain⟨m,hn,_⟩:=I.loc;refine .cons (by rw [I.ok.kind];decide) hf hn ?_ I.funs
   exact Heap.get?_none_of_le (Qc I.ok.bsz I.ok.above)
theorem Inv.stkSub(I:`h):∀b∈AD X.stack,b∈X.env.locals::X.fs:=λb hb=>by
 rcases I.ok.stk with e|⟨e,hf⟩
 . rw [e]at hb;exact iJ _ hb
 . rw [e]at hb;unfold AD at hb;rw [List.filterMap_cons,hf]at hb;exact hb
theorem Inv.stkFree(I:`h):∀b∈AD X.stack,H b=none:=λb hb=>by
 rcases Q3.mp (I.stkSub b hb)with e|hb
 . rw [e];exact I.free
 . obtain⟨_,o,ho,_⟩:=I.ok.funs.mem hb;exact I.base.free b o ho (I.ok.frf b hb) λz=>I.ok.exfs b z hb
variable {t':Nat}
theorem Inv.step {g':Array GenState}{d':Drawn}{ch:List Addr}(I:`h)
 (hch:∀b∈ch,(b∈X.ex\/X.s₀.heap.objs.size<=b)/\b≠X.env.locals/\(∀x c,X.env.cells.lookup x=some c->c≠b)/\∀p∈X.pn++pins,p.1≠b)
 (keep:∀b o,b≠X.env.locals->b ∉ X.fs->b ∉ ch->s.heap.get? b=some o->H b=none->h'.get? b=some o)
 (slot:∀b o,b≠X.env.locals->b∈X.fs->b ∉ ch->s.heap.get? b=some o->H b=none->∃sl,h'.get? b=some {o with slots:=sl}) (free:∀b o,b ∉ ch->s.heap.get? b=some o->H b=none->H' b=none)
 (there:∀b o,b ∉ ch->s.heap.get? b=some o->∃o',h'.get? b=some o')
 (tups:∀b xs,H b=some (.tup xs)->H' b=some (.tup xs)) (frzs:∀b o u,H b=some (.frz o u)->H' b=some (.frz o u)) (tbls:∀b ps,H b=some (.tbl ps)->∃more,H' b=some (.tbl (ps++more)))
 (ns:∀m,s.heap.Ns X.env.locals m->h'.Ns X.env.locals m) (hok:HOk X.prog X.w H' h') (hg:AllBare g'):
 Inv X pins σ H' {s with heap:=h',gens:=g',drawn:=d',toks:=t'}:=by
 have neL:∀b o,X.s₀.heap.get? b=some o->b≠X.env.locals:=λb o e=>jG (kZ (dh e) I.ok.above);have neC:∀b o,X.s₀.heap.get? b=some o->b ∉ X.ex->b ∉ ch:=λb o e hx hb=>by
  rcases(hch b hb).1 with z|z
  . exact hx z
  . exact absurd (kZ (dh e) z) (zT _)
 have cellK:∀x c,X.env.cells.lookup x=some c->∀v,s.heap.IsCell c v->h'.IsCell c v:=λx c e v ⟨o,ho,hd⟩=>by
  have nch:c ∉ ch:=λz=>(hch c z).2.2.1 x c e rfl
  by_cases hc:c∈X.fs
  . obtain⟨sl,q⟩:=slot c o (I.cne x c e) hc nch ho (I.freeC x c e);exact⟨_,q,hd⟩
  . exact⟨o,keep c o (I.cne x c e) hc nch ho (I.freeC x c e),hd⟩
 refine⟨I.ok,I.os,hg,⟨λb o e n hb hx=>?_,λb o e n hb hx=>?_,λb o e n hx=>?_,λb o e hx=>?_,λb xs e=>tups b xs (I.base.tups b xs e),λb o xs e=>frzs b o xs (I.base.frzs b o xs e),λb ps e=>?_⟩,?_,λx c e=>?_,?_,λx c e=>?_,λp hp=>?_,hok,I.len⟩
 . exact keep b o (neL b o e) hb (neC b o e hx) (I.base.keep b o e n hb hx) (I.base.free b o e n hx)
 . obtain⟨sl,e1⟩:=I.base.slot b o e n hb hx;obtain⟨sl',e2⟩:=slot b _ (neL b o e) hb (neC b o e hx) e1 (I.base.free b o e n hx);exact⟨sl',e2⟩
 . obtain⟨o',e1⟩:=I.base.there b o e hx;exact free b o' (neC b o e hx) e1 (I.base.free b o e n hx)
 . obtain⟨o',e1⟩:=I.base.there b o e hx;exact there b o' (neC b o e hx) e1
 . obtain⟨m1,e1⟩:=I.base.tbls b ps e;obtain⟨m2,e2⟩:=tbls b _ e1;exact⟨m1++m2,by rw [e2,Array.append_assoc]⟩
 . obtain⟨m,hn,hl⟩:=I.loc;refine⟨m,ns m hn,λi x v e1 e2 e3=>?_⟩;obtain⟨u,r,l⟩:=hl i x v e1 e2 e3;refine⟨u,r,?_⟩
   rcases l with l|⟨k,c,e,z⟩
   . exact .inl l
   . exact .inr ⟨k,c,e,cellK x c e _ z⟩
 . obtain⟨v,z⟩:=I.cell x c e;exact⟨v,cellK x c e v z⟩
 . obtain⟨m,⟨o,_,_,ho,_⟩,_⟩:=I.loc;exact free _ o (λz=>(hch _ z).2.1 rfl) ho I.free
 . obtain⟨v,o,ho,hd⟩:=I.cell x c e;exact free c o (λz=>(hch c z).2.2.1 x c e rfl) ho (I.freeC x c e)
 . obtain⟨e,n,ne,nf,d⟩:=I.pin p hp;have nch:p.1 ∉ ch:=λz=>(hch p.1 z).2.2.2 p hp rfl;exact⟨keep p.1 p.2 ne nf nch e n,free p.1 p.2 nch e n,ne,nf,d⟩
theorem Inv.un {t':Nat}(I:`h)(u:Un X.fs [] H H' s.heap h')(hok:HOk X.prog X.w H' h'):Inv X pins σ H' {s with heap:=h',toks:=t'}:=by
 obtain⟨m,⟨o,es,ep,ho,r⟩,_⟩:=id I.loc;obtain⟨sl,hL⟩:=u.any ho I.free (by simp)
 exact I.step (g':=s.gens) (d':=s.drawn) (ch:=[]) (λ_ z=>nomatch z) (λb o _ hb _ e n=>u.keep b o e n hb (by simp)) (λb o _ hb _ e n=>u.slot b o e n hb (by simp)) (λb o _ e n=>u.free b o e n (by simp)) (λb o _ e=>u.there b o e (by simp)) u.tups u.frzs u.tbls (λm' hm=>by
  obtain⟨o',es',ep',ho',r'⟩:=hm;rw [ho]at ho';cases ho';exact⟨_,es',ep',hL,r'⟩) hok I.bare
theorem Inv.call {g':Array GenState}{t':Nat}{d':Drawn}{ch:List Addr}(I:`h)(u:Un (AD X.stack) ch H H' s.heap h')(hok:HOk X.prog X.w H' h')(hg:AllBare g')
 (hch:∀b∈ch,(b∈X.ex\/X.s₀.heap.objs.size<=b)/\b≠X.env.locals/\(∀x c,X.env.cells.lookup x=some c->c≠b)/\∀p∈X.pn++pins,p.1≠b):
 Inv X pins σ H' {s with heap:=h',gens:=g',drawn:=d',toks:=t'}:=by
 obtain⟨m,⟨o,es,ep,ho,r⟩,_⟩:=id I.loc;obtain⟨sl,hL⟩:=u.any ho I.free λz=>(hch _ z).2.1 rfl;exact I.step (ch:=ch) hch (λb o hL hb hc e n=>u.keep b o e n (λz=>(Q3.mp (I.stkSub b z)).elim hL hb) hc) (λb o _ _ hc e n=>u.any e n hc) (λb o hc e n=>u.free b o e n hc) (λb o hc e=>u.there b o e hc) u.tups u.frzs u.tbls (λm' hm=>by
  obtain⟨o',es',ep',ho',r'⟩:=hm;rw [ho]at ho';cases ho';exact⟨_,es',ep',hL,r'⟩) hok hg
theorem Inv.turned {t':Nat}{it:Addr}(I:`h)(k:∀b o,b≠it->s.heap.get? b=some o->h'.get? b=some o)(hn:H it=none)(hL:it≠X.env.locals)
 (h1:it∈X.ex\/X.s₀.heap.objs.size<=it) (h2:∀x c,X.env.cells.lookup x=some c->c≠it) (h3:∀p∈X.pn++pins,p.1≠it):Inv X pins σ H {s with heap:=h',toks:=t'}:=by
 have nit:∀b u,H b=some u->b≠it:=λb u e z=>by rw [z,hn]at e;cases e
 refine I.step (g':=s.gens) (d':=s.drawn) (ch:=[it]) (λb hb=>?_) (λb o _ _ hc e _=>k b o (λz=>hc (by simp [z])) e) (λb o _ _ hc e _=>⟨o.slots,k b o (λz=>hc (by simp [z])) e⟩) (λ_ _ _ _ n=>n)
  (λb o hc e=>⟨o,k b o (λz=>hc (by simp [z])) e⟩) (λ_ _ e=>e) (λ_ _ _ e=>e) (λb ps e=>⟨#[],by rw [e];simp⟩) (λm hm=>?_) (λb u e=>?_) I.bare
 . have e:b=it:=by simpa using hb
   subst e;exact⟨h1,hL,h2,h3⟩
 . obtain⟨o,es,ep,ho,r⟩:=hm;exact⟨o,es,ep,k _ o (Ne.symm hL) ho,r⟩
 . refine(I.hok b u e).stay (λc v hc q=>k c v ?_ q) (λ_ q=>q) (λ_ _ q=>q) λ_ _ _ q=>q
   rcases hc with z|z
   . rw [z];exact nit b u e
   . exact nit c _ z
theorem Inv.tok(I:`h)(t:Nat):Inv X pins σ H {s with toks:=t}:=I.un (h':=s.heap) (t':=t) Un.refl I.hok
theorem Inv.kept {t':Nat}(I:`h)(k:∀b u,s.heap.get? b=some u->h'.get? b=some u):Inv X pins σ H {s with heap:=h',toks:=t'}:=I.un (Un.kept k) (I.hok.kept k)
theorem Inv.laid {a:Addr}{o:HO}{t':Nat}(I:`h)(k:∀b u,s.heap.get? b=some u->h'.get? b=some u)(hp:`a<=a)(new:ObjOk X.prog X.w (bC H a o) h' a o):
 Inv X pins σ (bC H a o) {s with heap:=h',toks:=t'}:=I.un (Un.laid k hp (I.hok.fresh hp)) (I.hok.laid k hp new)
theorem Inv.write {x e:Addr}{o:HO}(I:`h)(mu:NE (H x))(he:e=x\/H e=some (.own x))(k:∀b u,b≠e->s.heap.get? b=some u->h'.get? b=some u)(heo:∃u,h'.get? e=some u)
 (new:ObjOk X.prog X.w (bC H x o) h' x o):Inv X pins σ (bC H x o) {s with heap:=h',toks:=t'}:=I.un (Un.write mu he k heo) (I.hok.write mu he k heo new)
theorem Inv.pins_of {pins':`k}(I:`h)(h:∀p∈pins',s.heap.get? p.1=some p.2/\H p.1=none/\p.1≠X.env.locals/\p.1 ∉ X.fs/\∀v,p.2.data≠ .cell v):Inv X pins' σ H s:=
 ⟨I.ok,I.os,I.bare,I.base,I.loc,I.cell,I.free,I.freeC,λp hp=>(Ca.mp hp).elim (λz=>I.pin p (Mu _ z)) (h p),I.hok,I.len⟩
theorem xT {N:List Str}(hN:N.Nodup){i j:Nat}{x:Str}(a:N[i]? =some x)(b:N[j]? =some x):i=j:=by
 obtain⟨h1,e1⟩:=C6.mp a;obtain⟨h2,e2⟩:=C6.mp b;exact(List.getElem_inj hN).mp (e1.trans e2.symm)
variable {Q:Unit->Shared->Prop}{E:`d}
theorem uv {M:Model}{A:Around}{i:Nat}{x:Str}{v:V}(I:`h)(hN:X.N.Nodup)(hi:X.N[i]? =some x)(hx:KZ X.env.scope x)(r:RelV v u)
 (h:∀s',Inv X pins (σ.set i (some v)) H s'->(∃a,Heap.SameBut a s.heap s'.heap/\(a=X.env.locals\/X.env.cells.lookup x=some a))->Q () s') (hf:X.fn x=true\/X.env.scope.names.lookup x=some .local:=by first|exact .inl rfl|exact .inr rfl|assumption):wpAny M A (storeName X.env x u) Q E s:=by
 obtain⟨m,hn,hl⟩:=id I.loc;have hcls:(X.env.scope.kind== .class||(X.env.scope.kind== .module&&X.env.locals != X.env.globals))=false:=by rw [I.ok.kind];rfl
 have hiσ:i < σ.length:=by rw [I.len];exact(C6.mp hi).1
 have cne:=I.cne;have tracked:∀{a:Addr} {h':Heap},(∃o,s.heap.get? a=some o/\H a=none)->Heap.SameBut a s.heap h'->HOk X.prog X.w H h':=λ{a h'} ha hs b ob e=>by
  obtain⟨_,_,hfree⟩:=ha;refine(I.hok b ob e).stay (λc w' hc q=>(hs.2 c ?_).trans q) (λ_ q=>q) (λ_ _ q=>q) λ_ _ _ q=>q;rintro rfl
  rcases hc with rfl|hc
  . rw [hfree]at e;cases e
  . rw [hfree]at hc;cases hc
 rcases hx with hk|hk
 . refine wpAny_storeName_local hk hn (λh' hn' hs=>?_) hcls;obtain⟨oL,_,_,hoL,_⟩:=id hn;refine h _ ⟨I.ok,I.os,I.bare,⟨λb o e n hb hx=>?_,λb o e n hb hx=>?_,I.base.free,λb o e hx=>?_,I.base.tups,I.base.frzs,I.base.tbls⟩,⟨_,hn',λj y v' e1 e2 e3=>?_⟩,λy c e=>?_,I.free,I.freeC,λp hp=>?_,tracked ⟨oL,hoL,I.free⟩ hs,by simpa using I.len⟩ ⟨_,hs,.inl rfl⟩
   . exact(hs.2 b (jG (kZ (dh e) I.ok.above))).trans (I.base.keep b o e n hb hx)
   . obtain⟨sl,e1⟩:=I.base.slot b o e n hb hx;exact⟨sl,(hs.2 b (jG (kZ (dh e) I.ok.above))).trans e1⟩
   . obtain⟨o',e1⟩:=I.base.there b o e hx;exact⟨o',(hs.2 b (jG (kZ (dh e) I.ok.above))).trans e1⟩
   . by_cases hj:j=i
     . subst hj;rw [hi]at e1;cases e1;rw [LJ hiσ]at e2;cases e2;exact⟨u,r,.inl ⟨hk,by simp⟩⟩
     . rw [KU (Ne.symm hj)]at e2;obtain⟨u',r',q⟩:=hl j y v' e1 e2 e3;refine⟨u',r',?_⟩
       rcases q with ⟨k,e⟩|⟨k,c,e,z⟩
       . refine .inl ⟨k,?_⟩;have:y≠x:=λe=>hj (xT hN e1 (e▸hi));simp [this,e]
       . exact .inr ⟨k,c,e,z.sameBut hs (cne y c e)⟩
   . obtain⟨w',z⟩:=I.cell y c e;exact⟨w',z.sameBut hs (cne y c e)⟩
   . obtain⟨e,n,ne,nf,d⟩:=I.pin p hp;exact⟨(hs.2 p.1 ne).trans e,n,ne,nf,d⟩
 . have hfn:X.fn x=true:=by
    rcases hf with z|z
    . exact z
    . rw [z]at hk;cases hk
   obtain⟨c,hc⟩:=I.ok.has x (.inl hk);obtain⟨w',z⟩:=I.cell x c hc;refine wpAny_storeName_cell I.ok.kind hk hc z (λh' hc' hs=>?_);obtain⟨oc,hoc,hocd⟩:=id z;refine h {s with heap:=h'} ⟨I.ok,I.os,I.bare,⟨λb o e n hb hx=>?_,λb o e n hb hx=>?_,I.base.free,λb o e hx=>?_,I.base.tups,I.base.frzs,I.base.tbls⟩,⟨m,hn.sameBut hs (Ne.symm (cne x c hc)),λj y v' e1 e2 e3=>?_⟩,λy c' e=>?_,I.free,I.freeC,λp hp=>?_,tracked ⟨oc,hoc,I.freeC x c hc⟩ hs,by simpa using I.len⟩ ⟨c,hs,.inr hc⟩
   . exact(hs.2 b (jG (kZ (dh e) (I.ok.cab x c hfn hc)))).trans (I.base.keep b o e n hb hx)
   . obtain⟨sl,e1⟩:=I.base.slot b o e n hb hx;exact⟨sl,(hs.2 b (jG (kZ (dh e) (I.ok.cab x c hfn hc)))).trans e1⟩
   . obtain⟨o',e1⟩:=I.base.there b o e hx;exact⟨o',(hs.2 b (jG (kZ (dh e) (I.ok.cab x c hfn hc)))).trans e1⟩
   . by_cases hj:j=i
     . subst hj;rw [hi]at e1;cases e1;rw [LJ hiσ]at e2;cases e2;exact⟨u,r,.inr ⟨.inl hk,c,hc,hc'⟩⟩
     . rw [KU (Ne.symm hj)]at e2;obtain⟨u',r',q⟩:=hl j y v' e1 e2 e3;refine⟨u',r',?_⟩
       rcases q with q|⟨k,c',e,z'⟩
       . exact .inl q
       . refine .inr ⟨k,c',e,z'.sameBut hs ?_⟩;rintro rfl;exact hj (xT hN e1 (I.ok.inj _ _ _ e hc▸hi))
   . by_cases hcc:c'=c
     . subst hcc;exact⟨_,hc'⟩
     . obtain⟨w2,z2⟩:=I.cell y c' e;exact⟨w2,z2.sameBut hs hcc⟩
   . obtain⟨e,n,ne,nf,d⟩:=I.pin p hp;refine⟨(hs.2 p.1 ?_).trans e,n,ne,nf,d⟩;intro q;rw [q,hoc]at e;have q':oc=p.2:=zV e;exact d w' (by rw [<-q'];exact hocd)
theorem rV {M:Model}{A:Around}{i:Nat}{x:Str}{v:V}(I:`h)(hN:X.N.Nodup)(hi:X.N[i]? =some x)(hx:KZ X.env.scope x)(r:RelV v u)
 (h:∀s',Inv X pins (σ.set i (some v)) H s'->Q () s') (hf:X.fn x=true\/X.env.scope.names.lookup x=some .local:=by first|exact .inl rfl|exact .inr rfl|assumption):wpAny M A (storeName X.env x u) Q E s:=
 uv I hN hi hx r (λs' I' _=>h s' I') hf
theorem Inv.call' {s':Shared}{ch:List Addr}(I:`h)(ho:s'.os=s.os)(u:Un (AD X.stack) ch H H' s.heap s'.heap)(hok:HOk X.prog X.w H' s'.heap)(hg:AllBare s'.gens)
 (hch:∀b∈ch,(b∈X.ex\/X.s₀.heap.objs.size<=b)/\b≠X.env.locals/\(∀x c,X.env.cells.lookup x=some c->c≠b)/\∀p∈X.pn++pins,p.1≠b):Inv X pins σ H' s':=by
 obtain⟨h',g',d',t',o'⟩:=s';have e:o'=s.os:=ho;subst e;exact I.call (g':=g') (t':=t') (d':=d') u hok hg hch
end
abbrev XK:=Value->Option Addr->Hp->Prop
noncomputable abbrev St:=List (Option V)
abbrev VK:=V->Hp->Prop
abbrev TE:=St->Hp->VK->Prop
abbrev TT:=St->Hp->(Bool->Hp->Prop)->Prop
abbrev TA:=St->Hp->(List V->Hp->Prop)->Prop
structure Ends where
 nx:St->Hp->Prop
 rt:VK
 bk:St->Hp->Prop:=λ_ _=>False
 ct:St->Hp->Prop:=λ_ _=>False
abbrev TS:=Ends->St->Hp->Prop
def EP(X:Cx)(pins:`k)(σ:St)(Q:VK)(u:Value)(s':Shared):Prop:=∃v H',Inv X pins σ H' s'/\RelV v u/\Q v H'
def TP(X:Cx)(pins:`k)(σ:St)(Q:Bool->Hp->Prop)(b:Bool)(s':Shared):Prop:=∃H',Inv X pins σ H' s'/\Q b H'
def AP(X:Cx)(pins:`k)(σ:St)(Q:List V->Hp->Prop)(us:List Value)(s':Shared):Prop:=∃vs H',Inv X pins σ H' s'/\Vals vs us/\Q vs H'
def SP(X:Cx)(pins:`k)(D:Ends)(f:Flow)(s':Shared):Prop:=
 match f with
 | .next=>∃σ' H',Inv X pins σ' H' s'/\D.nx σ' H'
 | .brk=>∃σ' H',Inv X pins σ' H' s'/\D.bk σ' H'
 | .cont=>∃σ' H',Inv X pins σ' H' s'/\D.ct σ' H'
 | .ret u=>∃v σ' H',Inv X pins σ' H' s'/\RelV v u/\D.rt v H'
def PE(X:Cx)(e:Expr)(t:TE):Prop:=
 ∀(pins:`k) (s:Shared) (σ:St) (H:Hp) (Q:VK),Inv X pins σ H s->t σ H Q->wpAny `i X.A (eval e X.env) (EP X pins σ Q) X.xe s
def PT(X:Cx)(e:Expr)(t:TT):Prop:=
 ∀(pins:`k) (s:Shared) (σ:St) (H:Hp) (Q:Bool->Hp->Prop),Inv X pins σ H s->t σ H Q->wpAny `i X.A (isTrue e X.env (eval e X.env)) (TP X pins σ Q) X.xe s
def PW(X:Cx)(e:Expr)(t:TT):Prop:=
 ∀(whole:Sem Value) (pins:`k) (s:Shared) (σ:St) (H:Hp) (Q:Bool->Hp->Prop),Inv X pins σ H s->t σ H Q->wpAny `i X.A (isTrue e X.env whole) (TP X pins σ Q) X.xe s
variable {X:Cx}
theorem PW.pt {e:Expr}{t:TT}(h:PW X e t):PT X e t:=h _
def PA(X:Cx)(es:List Expr)(t:TA):Prop:=
 ∀(pos:Pos) (pins:`k) (s:Shared) (σ:St) (H:Hp) (Q:List V->Hp->Prop),Inv X pins σ H s->t σ H Q->wpAny `i X.A (spliced (backTo pos (starEach es X.env))) (AP X pins σ Q) X.xe s
def PS(X:Cx)(st:Stmt)(t:TS):Prop:=
 ∀(pins:`k) (s:Shared) (σ:St) (H:Hp) (D:Ends),Inv X pins σ H s->t D σ H->wpAny `i X.A (exec st X.env) (SP X pins D) X.xe s
def PSs(X:Cx)(st:List Stmt)(t:TS):Prop:=
 ∀(pins:`k) (s:Shared) (σ:St) (H:Hp) (D:Ends),Inv X pins σ H s->t D σ H->wpAny `i X.A (execs st X.env) (SP X pins D) X.xe s
variable {s:Shared}{E:`d}{A:Around}
theorem bq {α:Type}{t:Sem α}{Q Q':α->Shared->Prop}{M:Model}(h:wpAny M A t Q E s)(hQ:∀a s,Q a s->Q' a s):wpAny M A t Q' E s:=wpAny_mono h hQ λ_ _ x=>x
section
variable {X:Cx}
theorem Pt {a b:Expr}{ta tb:TE}(ha:PE X a ta)(hb:PE X b tb){pins:`k}{s:Shared}{σ:St}{H:Hp}{R:V->V->Hp->Prop}(I:`h)(h:ta σ H λx H1=>tb σ H1 λy H2=>R x y H2)
 {α:Type} {Q:α->Shared->Prop} {f:Value->Value->Sem α}
 (hf:∀v u s2 x y H2,Inv X pins σ H2 s2->RelV x v->RelV y u->R x y H2->wpAny `i X.A (f v u) Q X.xe s2):
 wpAny `i X.A (eval a X.env) (λv s₁=>wpAny `i X.A (eval b X.env) (λu s₂=>wpAny `i X.A (f v u) Q X.xe s₂) X.xe s₁) X.xe s:=by
 refine bq (ha pins s σ H _ I h) λv s1 q_=>?_;obtain⟨x,H1,I1,r1,q1⟩:=q_;refine bq (hb pins s1 σ H1 _ I1 q1) λu s2 q_=>?_;obtain⟨y,H2,I2,r2,q2⟩:=q_;exact hf v u s2 x y H2 I2 r1 r2 q2
def bJ(i:Nat):TE:=λσ H Q=>∃v,σ[i]? =some (some v)/\Q v H
def tC(v:V):TE:=λ_ H Q=>Q v H
variable {pos:Pos}{x:Str}
theorem LP {i:Nat}(hN:X.N[i]? =some x)(hv:Ot X.env.scope x)(hd:(x==("__debug__":Str))=false:=by decide)(hcd:(x==("__classdict__":Str))=false:=by decide):PE X (.Name x pos) (bJ i):=by
 intro pins s σ H Q I h;obtain⟨v,e,h⟩:=h;obtain⟨m,hn,hl⟩:=I.loc;obtain⟨u,r,l⟩:=hl i x v hN e hv;have fin:EP X pins σ Q u s:=⟨v,H,I,r,h⟩
 rcases l with ⟨hk,hm⟩|⟨hk,c,hc,hcell⟩
 . exact wpAny_Name (wpAny_loadName_local I.ok.kind hk hn hm fin) hd
 . rcases hk with hk|hk
   . exact wpAny_Name (wpAny_loadName_cell I.ok.kind hk hc hcell fin) hd
   . exact wpAny_Name (wpAny_loadName_free I.ok.kind hk hc hcell fin hcd) hd
theorem aY {i j pos}:PE X (.Constant (.int i) j pos) (tC (.int i)):=λ_ _ _ H _ I h=>wpAny_Constant_int ⟨.int i,H,I.tok _,⟨_,rfl⟩,h⟩
theorem mF {b j pos}:PE X (.Constant (.bool b) j pos) (tC (.bl b)):=λ_ _ _ H _ I h=>Constant_bool ⟨.bl b,H,I,rfl,h⟩
theorem gi {j pos}:PE X (.Constant .none j pos) (tC .non):=λ_ _ _ H _ I h=>Constant_none ⟨.non,H,I,rfl,h⟩
theorem LQ {x j pos}:PE X (.Constant (.str x) j pos) (tC (.str x)):=λ_ _ _ H _ I h=>Calls.Constant_str ⟨.str x,H,I.tok _,⟨_,rfl⟩,h⟩
def Gl(X:Cx)(x:Str):Prop:=X.env.kindOf x=some .globalImplicit
variable {Q:`d}{pins:`k}
theorem wC {σ:St}(I:`h)(hg:Gl X x)(hm:X.mg x=some u)(h:Q u s)
 (hd:(x==("__debug__":Str))=false:=by decide):wpAny `i X.A (eval (.Name x pos) X.env) Q E s:=
 Calls.Name_function_global I.ok.kind hg (Calls.loadGlobal_global (by rw [I.ok.glob];exact I.mod.glob.keeps I.bk) hm h) hd
theorem jn {σ:St}(I:`h)(hg:Gl X x)(hm:X.mg x=none)(hv:bootBuiltins x=some u)(h:Q u s)
 (hn:x≠ "__name__":=by decide) (hd:(x==("__debug__":Str))=false:=by decide):wpAny `i X.A (eval (.Name x pos) X.env) Q E s:=by
 obtain⟨mb,h1,h2⟩:=I.mod.blt;exact Calls.Name_function_global I.ok.kind hg (Calls.loadGlobal_builtin (by rw [I.ok.glob];exact I.mod.glob.keeps I.bk) hm (by rw [I.ok.blt];exact h1.keeps I.bk) ((h2 x hn).trans hv) h) hd
theorem la {v:V}(hg:Gl X x)(hm:X.mg x=some u)(r:RelV v u)(hd:(x==("__debug__":Str))=false:=by decide):PE X (.Name x pos) (tC v):=
 λ_ _ _ H _ I h=>wC I hg hm ⟨v,H,I,r,h⟩ hd
theorem lm {v:V}(hg:Gl X x)(hm:X.mg x=none)(hv:bootBuiltins x=some u)(r:RelV v u)(hn:x≠ "__name__":=by decide)(hd:(x==("__debug__":Str))=false:=by decide):PE X (.Name x pos) (tC v):=
 λ_ _ _ H _ I h=>jn I hg hm hv ⟨v,H,I,r,h⟩ hn hd
variable {a b:Expr} {ta tb:TE} {pos:Pos}
def PC(X:Cx)(op:CmpOp)(a b:Expr)(t:TE):Prop:=
 ∀(pins:`k) (s:Shared) (σ:St) (H:Hp) (Q:VK),Inv X pins σ H s->t σ H Q->
  wpAny `i X.A (eval a X.env) (λv s₁=>wpAny `i X.A (eval b X.env) (λu s₂=>wpAny `i X.A (compareOp op v u) (EP X pins σ Q) X.xe s₂) X.xe s₁) X.xe s
def tB(t:TE):TT:=λσ H Q=>t σ H λx H1=>∃c,x=.bl c/\Q c H1
theorem EW {op:CmpOp}{t:TE}(h:PC X op a b t)(h1:behindInMarks op b=false:=by first|exact nobehind _ (by decide) (by decide)|rfl):PT X (.Compare a [op] [b] pos) (tB t):=by
 intro pins s σ H Q I hw;refine wpAny_isTrue_Compare1 (bq (h pins s σ H _ I hw) λv s1 h1=>bq h1 λu s2 h2=>bq h2 λc s3 q_=>?_) h1;obtain⟨x,H1,I1,r1,q1⟩:=q_;obtain⟨d,rfl,q⟩:=q1;cases r1;exact wpAny_truthy_bool ⟨H1,I1,q⟩
variable {tA tB':TT} {cI:List Expr}
def NF(t u:TT):TT:=λσ H Q=>t σ H λc H1=>if c=true then u σ H1 Q else Q false H1
def Pu(t u:TT):TT:=λσ H Q=>t σ H λc H1=>if c=true then Q true H1 else u σ H1 Q
def NG(t:TT):TT:=λσ H Q=>t σ H λc H1=>Q (!c) H1
theorem B4(ha:PT X a tA):PW X (.BoolOp .And [a] pos) tA:=by
 intro wh pins s σ H Q I h;refine isTrue_and (bq (ha pins s σ H Q I h) λc s1 e=>?_);cases c with
 |true=>exact isTrue_and_nil e
 |false=>exact e
theorem rW(ha:PT X a tA):PW X (.BoolOp .Or [a] pos) tA:=by
 intro wh pins s σ H Q I h;refine isTrue_or (bq (ha pins s σ H Q I h) λc s1 e=>?_);cases c with
 |false=>exact isTrue_or_nil e
 |true=>exact e
theorem EX(ha:PT X a tA)(hb:PW X (.BoolOp .And (b::cI) pos) tB'):PW X (.BoolOp .And (a::b::cI) pos) (NF tA tB'):=by
 intro wh pins s σ H Q I h;refine isTrue_and (bq (ha pins s σ H _ I h) λc s1 q_=>?_);obtain⟨H1,I1,q1⟩:=q_;cases c with
 |true=>exact hb wh pins s1 σ H1 Q I1 q1
 |false=>exact⟨H1,I1,q1⟩
theorem xU(ha:PT X a tA)(hb:PW X (.BoolOp .Or (b::cI) pos) tB'):PW X (.BoolOp .Or (a::b::cI) pos) (Pu tA tB'):=by
 intro wh pins s σ H Q I h;refine isTrue_or (bq (ha pins s σ H _ I h) λc s1 q_=>?_);obtain⟨H1,I1,q1⟩:=q_;cases c with
 |true=>exact⟨H1,I1,q1⟩
 |false=>exact hb wh pins s1 σ H1 Q I1 q1
theorem gj(ha:PT X a tA):PT X (.UnaryOp .Not a pos) (NG tA):=by
 intro pins s σ H Q I h;exact isTrue_not (ha pins s σ H (λc H1=>Q (!c) H1) I h)
def K0(ta tb:TE):TE:=λσ H Q=>ta σ H λx H1=>∃c,x=.bl c/\if c=true then tb σ H1 Q else Q (.bl false) H1
def K1(ta:TE):TE:=λσ H Q=>ta σ H λx H1=>∃c,x=.bl c/\Q (.bl (!c)) H1
theorem rX {op}{t:TE}(h:PE X a t):PE X (.BoolOp op [a] pos) t:=λpins s σ H Q I hw=>BoolOp_one (h pins s σ H Q I hw)
theorem mV(ha:PE X a ta)(hb:PE X (.BoolOp .And (b::cI) pos) tb):PE X (.BoolOp .And (a::b::cI) pos) (K0 ta tb):=by
 intro pins s σ H Q I h;refine BoolOp_and (bq (ha pins s σ H _ I h) λv s1 q_=>?_);obtain⟨x,H1,I1,r1,q1⟩:=q_;obtain⟨c,rfl,q1⟩:=q1;cases r1;refine wpAny_truthy_bool ?_;cases c with
 |true=>exact hb pins s1 σ H1 Q I1 q1
 |false=>exact⟨.bl false,H1,I1,rfl,q1⟩
theorem LR(ha:PE X a ta):PE X (.UnaryOp .Not a pos) (K1 ta):=by
 intro pins s σ H Q I h;refine UnaryOp_ (bq (ha pins s σ H _ I h) λv s1 q_=>?_);obtain⟨x,H1,I1,r1,q1⟩:=q_;obtain⟨c,rfl,q1⟩:=q1;cases r1;exact not_of (wpAny_truthy_bool ⟨.bl (!c),H1,I1,rfl,q1⟩)
def Pv(t:TT)(ta tb:TE):TE:=λσ H Q=>t σ H λc H1=>if c=true then ta σ H1 Q else tb σ H1 Q
theorem EY {c:Expr}(hc:PT X c tA)(ha:PE X a ta)(hb:PE X b tb):PE X (.IfExp c a b pos) (Pv tA ta tb):=by
 intro pins s σ H Q I h;refine wpAny_IfExp (bq (hc pins s σ H _ I h) λd s1 q_=>?_);obtain⟨H1,I1,q1⟩:=q_;cases d with
 |true=>exact ha pins s1 σ H1 Q I1 q1
 |false=>exact hb pins s1 σ H1 Q I1 q1
end
def SqL(K:Fg)(H:Hp)(a:Addr)(xs:List V):Prop:=
 Rd H a (.lst xs)\/
  ∃(o:Obj) (its:Array Value) (n:Nat),K.lookup a=some o/\o.cls=.type "list"/\o.dict=none/\o.data=.seq its n/\its.size<=sizeLine/\Vals xs its.toList
def SqT(K:Fg)(H:Hp)(a:Addr)(xs:List V):Prop:=
 Rd H a (.tup xs)\/
  ∃(o:Obj) (its:Array Value) (n:Nat),K.lookup a=some o/\o.cls=.type "tuple"/\o.data=.seq its n/\its.size<=sizeLine/\Vals xs its.toList
noncomputable def PP:Value->Option V
 | .none=>some .non
 | .bool b=>some (.bl b)
 | .int i _=>some (.int i)
 | .str x _=>some (.str x)
 | .bytes b _=>some (.byt b)
 | .float b _=>some (.flt b)
 | .ref a=>some (.ref a)
 | .type n=>some (.ty n)
 |_=>none
theorem RelV.abs {x:V}(r:RelV x u):PP u=some x:=by
 cases x with
 |non=>cases r;rfl
 |bl _=>cases r;rfl
 |int _=>obtain⟨t,rfl⟩:=r;rfl
 |str _=>obtain⟨t,rfl⟩:=r;rfl
 |byt _=>obtain⟨t,rfl⟩:=r;rfl
 |flt _=>obtain⟨t,rfl⟩:=r;rfl
 |ref _=>cases r;rfl
 |ty _=>cases r;rfl
theorem RelV.inj {x y:V}{u:Value}(r:RelV x u)(q:RelV y u):x=y:=zV (r.abs.symm.trans q.abs)
theorem Vals.inj {xs ys:List V}{us:List Value}(h:Vals xs us)(k:Vals ys us):xs=ys:=by
 induction h generalizing ys with
 |nil=>cases k;rfl
 |cons r t ih=>cases k with
  |cons r' t'=>rw [r.inj r',ih t']
section
variable {X:Cx} {pins:`k} {σ:St} {H:Hp} {s:Shared} {a:Addr} {xs ys:List V}
theorem SqL.of {K:Fg}(h:H a=some (.lst xs)):SqL K H a xs:=.inl (.inl h)
theorem SqT.of {K:Fg}(h:H a=some (.tup xs)):SqT K H a xs:=.inl (.inl h)
theorem Inv.list(I:`h)(h:SqL X.K H a xs):∃its:List Value,Vals xs its/\PlainL s.heap a its.toArray/\xs.length<=sizeLine:=by
 rcases h with h|⟨o,its,n,hk,hc,hd,hs,hz,r⟩
 . obtain⟨z,its,n,r,e⟩:=h.ok I.hok;exact⟨its,r,⟨_,n,e,rfl,rfl,rfl⟩,z⟩
 . refine⟨its.toList,r,⟨o,n,I.kIn a o hk,hc,hd,by simpa using hs⟩,?_⟩
   have e:=r.length;simp only [Qe]at e;lia
theorem Inv.tuple(I:`h)(h:SqT X.K H a xs):∃its:List Value,Vals xs its/\IsTup s.heap a its.toArray/\xs.length<=sizeLine:=by
 rcases h with h|⟨o,its,n,hk,hc,hs,hz,r⟩
 . obtain⟨z,its,r,p,_⟩:=h.ok I.hok;exact⟨its,r,p,z⟩
 . refine⟨its.toList,r,⟨o,I.kIn a o hk,hc,n,by simpa using hs⟩,?_⟩
   have e:=r.length;simp only [Qe]at e;lia
theorem Inv.list_inj(I:`h)(h:SqL X.K H a xs)(h':SqL X.K H a ys):xs=ys:=by
 obtain⟨its,r,⟨o,n,e,_,_,d⟩,_⟩:=I.list h;obtain⟨its',r',⟨o',n',e',_,_,d'⟩,_⟩:=I.list h';rw [e]at e';cases e';rw [d]at d';injection d' with d1 _
 have:its=its':=by simpa using congrArg Array.toList d1
 subst this;exact r.inj r'
theorem Inv.tuple_inj(I:`h)(h:SqT X.K H a xs)(h':SqT X.K H a ys):xs=ys:=by
 obtain⟨its,r,⟨o,e,_,n,d⟩,_⟩:=I.tuple h;obtain⟨its',r',⟨o',e',_,n',d'⟩,_⟩:=I.tuple h';rw [e]at e';cases e';rw [d]at d';injection d' with d1 _
 have:its=its':=by simpa using congrArg Array.toList d1
 subst this;exact r.inj r'
end
abbrev Cx.wish(X:Cx)(E:`d):Cx:={X with xe:=E}
abbrev Cx.nox(X:Cx):Cx:=X.wish λ_ _=>False
theorem Cx.Ok.wish(ok:X.Ok)(E:`d):(X.wish E).Ok:=
 ⟨ok.mod,ok.kind,ok.glob,ok.blt,ok.above,ok.inj,ok.has,ok.cab,ok.hd,ok.frames,ok.stk,ok.exf,ok.bs,ok.bsz,ok.noex,ok.exfs,ok.funs,ok.frf⟩
theorem Cx.Ok.unwish(ok:(X.wish E).Ok):X.Ok:=
 ⟨ok.mod,ok.kind,ok.glob,ok.blt,ok.above,ok.inj,ok.has,ok.cab,ok.hd,ok.frames,ok.stk,ok.exf,ok.bs,ok.bsz,ok.noex,ok.exfs,ok.funs,ok.frf⟩
section
variable {X:Cx} {pins:`k} {σ:St} {H:Hp} {s:Shared} {E:`d}
theorem Inv.wish(I:`h)(E:`d):Inv (X.wish E) pins σ H s:=⟨I.ok.wish E,I.os,I.bare,I.base,I.loc,I.cell,I.free,I.freeC,I.pin,I.hok,I.len⟩
theorem Inv.unwish(I:Inv (X.wish E) pins σ H s):Inv X pins σ H s:=⟨I.ok.unwish,I.os,I.bare,I.base,I.loc,I.cell,I.free,I.freeC,I.pin,I.hok,I.len⟩
theorem SP.unwish {D:Ends}{f:Flow}{s':Shared}(h:SP (X.wish E) pins D f s'):SP X pins D f s':=by
 cases f with
 |next=>obtain⟨σ',H',I,q⟩:=h;exact⟨σ',H',I.unwish,q⟩
 |brk=>obtain⟨σ',H',I,q⟩:=h;exact⟨σ',H',I.unwish,q⟩
 |cont=>obtain⟨σ',H',I,q⟩:=h;exact⟨σ',H',I.unwish,q⟩
 |ret u=>obtain⟨v,σ',H',I,r,q⟩:=h;exact⟨v,σ',H',I.unwish,r,q⟩
theorem PSs.nox {st:List Stmt}{t:TS}(h:PSs X.nox st t):PSs X st t:=λpins s σ H D I hw=>
 wpAny_mono (h pins s σ H D (I.wish _) hw) (λ_ _ q=>q.unwish) λ_ _ z=>False.elim z
end
section
variable {X:Cx} {st:Stmt} {cI:List Stmt} {t u:TS} {e:Expr} {te:TE} {pos:Pos}
def qS:TS:=λD σ H=>D.nx σ H
def gM(t u:TS):TS:=λD σ H=>t {D with nx:=u D} σ H
theorem bP:PSs X [] qS:=λ_ _ σ H _ I h=>wpAny_execs_nil ⟨σ,H,I,h⟩
theorem aJ(h1:PS X st t)(h2:PSs X cI u):PSs X (st::cI) (gM t u):=by
 intro pins s σ H D I h;refine wpAny_execs_cons (bq (h1 pins s σ H {D with nx:=u D} I h) λf s1 q=>?_)
 cases f with
 |next=>
  obtain⟨σ',H',I',q⟩:=q;exact h2 pins s1 σ' H' D I' q
 |ret v=>exact q
 |brk=>exact q
 |cont=>exact q
theorem aP(h1:PS X st t):PSs X [st] t:=by
 intro pins s σ H D I h;refine wpAny_execs_cons (bq (h1 pins s σ H D I h) λf s1 q=>?_);cases f with
 |next=>exact wpAny_execs_nil q
 |ret v=>exact q
 |brk=>exact q
 |cont=>exact q
theorem Inv.quiet {pins:`k}{σ:St}(I:`h):interactive X.env=false:=by simp [interactive,I.ok.kind]
def k7(te:TE):TS:=λD σ H=>te σ H λ_ H1=>D.nx σ H1
theorem b7(he:PE X e te)(hs:swapsWith e none pos.line X.env=pure false:=by rfl):PS X (.Expr e pos) (k7 te):=by
 intro pins s σ H D I h;exact wpAny_Expr_any (bq (he pins s σ H _ I h) λv s1 q_=>by obtain⟨x,H1,I1,r1,q1⟩:=q_;exact⟨σ,H1,I1,q1⟩) I.quiet hs
def rY(te:TE):TS:=λD σ H=>te σ H D.rt
theorem af(he:PE X e te):PS X (.Return (some e) pos) (rY te):=by
 intro pins s σ H D I h;exact wpAny_Return_some (bq (he pins s σ H _ I h) λv s1 q_=>by obtain⟨x,H1,I1,r1,q1⟩:=q_;exact⟨x,σ,H1,I1,r1,q1⟩)
def uP(c:TT)(t u:TS):TS:=λD σ H=>c σ H λb H1=>if b=true then t D σ H1 else u D σ H1
theorem cK {c:Expr}{a b:List Stmt}{tc:TT}(hc:PT X c tc)(ha:PSs X a t)(hb:PSs X b u):PS X (.If c a b pos) (uP tc t u):=by
 intro pins s σ H D I h;refine wpAny_If (bq (hc pins s σ H _ I h) λd s1 q_=>?_);obtain⟨H1,I1,q1⟩:=q_;cases d with
 |true=>exact ha pins s1 σ H1 D I1 q1
 |false=>exact hb pins s1 σ H1 D I1 q1
def EZ:TS:=λ_ _ _=>False
theorem iV:PS X st EZ:=λ_ _ _ _ _ _ h=>h.elim
end
abbrev TG:=V->St->Hp->(St->Hp->Prop)->Prop
abbrev E1:=List V->St->Hp->(St->Hp->Prop)->Prop
def PG(X:Cx)(target:Expr)(t:TG):Prop:=
 ∀(pins:`k) (s:Shared) (σ:St) (H:Hp) (v:V) (u:Value) (Q:St->Hp->Prop),Inv X pins σ H s->RelV v u->t v σ H Q->
  wpAny `i X.A (assign target X.env u) (λ_ s'=>∃σ' H',Inv X pins σ' H' s'/\Q σ' H') X.xe s
def NH(X:Cx)(ts:List Expr)(t:E1):Prop:=
 ∀(pins:`k) (s:Shared) (σ:St) (H:Hp) (vs:List V) (us:List Value) (Q:St->Hp->Prop),Inv X pins σ H s->Vals vs us->t vs σ H Q->
  wpAny `i X.A (assignInOrder ((assignEach ts X.env).map (·.2)) us) (λ_ s'=>∃σ' H',Inv X pins σ' H' s'/\Q σ' H') X.xe s
abbrev LS:=V->V->V->Hp->(Hp->Prop)->Prop
def NI(X:Cx)(t:LS):Prop:=
 ∀(pins:`k) (s:Shared) (σ:St) (H:Hp) (o i v:V) (ov iv u:Value) (Q:Hp->Prop),Inv X pins σ H s->RelV o ov->RelV i iv->RelV v u->t o i v H Q->
  wpAny `i X.A (setItem ov iv u) (λ_ s'=>∃H',Inv X pins σ H' s'/\Q H') X.xe s
abbrev PQ:=V->V->Hp->VK->Prop
def QB(X:Cx)(op:Operator)(t:PQ):Prop:=
 ∀(pins:`k) (s:Shared) (σ:St) (H:Hp) (x y:V) (v u:Value) (Q:VK),Inv X pins σ H s->RelV x v->RelV y u->t x y H Q->
  wpAny `i X.A (inplaceOp op v u) (EP X pins σ Q) X.xe s
section
variable {X:Cx} {pos:Pos}
def cV(i:Nat):TG:=λv σ H Q=>Q (σ.set i (some v)) H
variable {x:Str}
theorem aq {i:Nat}(hN:X.N.Nodup)(hi:X.N[i]? =some x)(hx:KZ X.env.scope x)(hf:X.fn x=true\/X.env.scope.names.lookup x=some .local:=by first|exact .inl rfl|exact .inr rfl|assumption):PG X (.Name x pos) (cV i):=by
 intro pins s σ H v u Q I r h;exact wpAny_assign_Name (rV I hN hi hx r (λs' I'=>⟨_,H,I',h⟩) hf)
def NJ:E1:=λvs σ H Q=>vs=[]/\Q σ H
def K2(t:TG)(u:E1):E1:=λvs σ H Q=>∃v r,vs=v::r/\t v σ H λσ' H'=>u r σ' H' Q
theorem ng:NH X [] NJ:=by
 intro pins s σ H vs us Q I r h;obtain⟨e,h⟩:=h;subst e;cases r;exact assignInOrder_nil ⟨σ,H,I,h⟩
variable {es:List Expr}{e:Expr}
theorem eI {t:TG}{u:E1}(h1:PG X e t)(h2:NH X es u)
 (hs:(assignEach (e::es) X.env).map (·.2)=assign e X.env::(assignEach es X.env).map (·.2):=by rfl):NH X (e::es) (K2 t u):=by
 intro pins s σ H vs us Q I r h;obtain⟨v,vr,e1,h⟩:=h;subst e1;cases r with
 |cons r rr=>
  rw [hs];refine assignInOrder_cons (bq (h1 pins s σ H _ _ _ I r h) λ_ s1 q_=>?_);obtain⟨σ1,H1,I1,q1⟩:=q_;exact h2 pins s1 σ1 H1 _ _ Q I1 rr q1
def LT(K:Fg)(n:Nat)(t:E1):TG:=λv σ H Q=>∃a xs,v=.ref a/\SqT K H a xs/\xs.length=n/\t xs σ H Q
theorem LU {k:Nat}{t:E1}{n:Nat}(hc:X.calm=true)(h:NH X es t)
 (hn:(assignEach es X.env).length=n:=by rfl) (hst:(assignEach es X.env).findIdx? (·.1)=none:=by rfl):PG X (.Tuple es k pos) (LT X.K n t):=by
 intro pins s σ H v u Q I r hw;obtain⟨a,xs,e1,hq,hl,hw⟩:=hw;subst e1;cases r;obtain⟨its,rv,ht,hz⟩:=I.tuple hq;refine assign_Tuple_tuple (I.ok.hd hc) ht (by simp [hn, <-hl,rv.length]) hst λh' hx=>?_
 have I1:Inv X pins σ H {s with heap:=h'}:=I.kept (t':=s.toks) λb o e=>hx b o (jG (dh e)) e
 exact h pins _ σ H xs _ Q I1 (by simpa using rv) hw
def NK(to ti:TE)(t:LS):TG:=λv σ H Q=>to σ H λo H1=>ti σ H1 λi H2=>t o i v H2 λH3=>Q σ H3
theorem LV {o i:Expr}{to ti:TE}{t:LS}(ho:PE X o to)(hi:PE X i ti)(hs:NI X t)
 (ha : ∀ v, assign (.Subscript o i pos) X.env v = (do
  let ov<-holding [v] (eval o X.env)
  let iv<-holding [v,ov] (eval i X.env)
  standAt pos
  holding [v,ov,iv] (setItem ov iv v)
  release [v,ov,iv] []):=by intro _;rfl):PG X (.Subscript o i pos) (NK to ti t):=by
 intro pins s σ H v u Q I r h;rw [ha];refine wB (wpAny_holding (bq (ho pins s σ H _ I h) λov s1 q_=>?_));obtain⟨x,H1,I1,r1,q1⟩:=q_;refine wB (wpAny_holding (bq (hi pins s1 σ H1 _ I1 q1) λiv s2 q_=>?_));obtain⟨y,H2,I2,r2,q2⟩:=q_;refine wB (wpAny_standAt (wB (wpAny_holding (bq (hs pins s2 σ H2 x y v ov iv u _ I2 r1 r2 r q2) λ_ s3 q_=>?_))));obtain⟨H3,I3,q3⟩:=q_;exact wpAny_release ⟨σ,H3,I3,q3⟩
def iW(te:TE)(g:TG):TS:=λD σ H=>te σ H λx H1=>g x σ H1 D.nx
variable {te:TE}
theorem LW {tg:Expr}{g:TG}(he:PE X e te)(hg:PG X tg g)(hs:swapsWithSole [tg] e pos.line X.env=pure false:=by rfl)(hw:swappedStores [tg] e X.env=pure none:=by rfl)
 (h1:(assignEach [tg] X.env).map (·.2)=[assign tg X.env]:=by rfl):PS X (.Assign [tg] e pos) (iW te g):=by
 intro pins s σ H D I h;refine wpAny_Assign_stores (bq (he pins s σ H _ I h) λv s1 q_=>?_) hs hw;obtain⟨x,H1,I1,r1,q1⟩:=q_;rw [h1];exact bq (hg pins s1 σ H1 x v _ I1 r1 q1) λ_ s2 q=>q
variable {i:Nat}
theorem E2 {pos':Pos}(hN:X.N.Nodup)(hi:X.N[i]? =some x)(hx:KZ X.env.scope x)(he:PE X e te)(hs:swapsWith e (some (.Name x pos')) pos.line X.env=pure false:=by rfl)(hf:X.fn x=true\/X.env.scope.names.lookup x=some .local:=by first|exact .inl rfl|exact .inr rfl|assumption):
 PS X (.Assign [.Name x pos'] e pos) (iW te (cV i)):=by
 intro pins s σ H D I h;refine wpAny_Assign_Name (bq (he pins s σ H _ I h) λv s1 q_=>?_) hs;obtain⟨y,H1,I1,r1,q1⟩:=q_;exact rV I1 hN hi hx r1 (λs2 I2=>⟨_,H1,I2,q1⟩) hf
def LX(i:Nat)(te:TE)(ti:PQ):TS:=λD σ H=>∃x,σ[i]? =some (some x)/\te σ H λy H1=>ti x y H1 λz H2=>D.nx (σ.set i (some z)) H2
theorem rZ {i:Nat}{op:Operator}{ti:PQ}{pos':Pos}(hN:X.N.Nodup)(hi:X.N[i]? =some x)(hx:KZ X.env.scope x)(he:PE X e te)(ho:QB X op ti)(hf:X.fn x=true\/X.env.scope.names.lookup x=some .local:=by first|exact .inl rfl|exact .inr rfl|assumption):
 PS X (.AugAssign (.Name x pos') op e pos) (LX i te ti):=by
 intro pins s σ H D I h;obtain⟨v,e1,h⟩:=h;obtain⟨m,hn,hl⟩:=I.loc;have vis:Ot X.env.scope x:=by rcases hx with k|k;exact .inl k;exact .inr (.inl k)
 obtain⟨u,r,l⟩:=hl i x v hi e1 vis;refine wpAny_AugAssign_Name ?_;have go:wpAny `i X.A (eval e X.env) (λw s₂=>wpAny `i X.A (inplaceOp op u w) (λr s₃=>wpAny `i X.A (storeName X.env x r) (λ_=>SP X pins D .next) X.xe s₃) X.xe s₂) X.xe s:=by
  refine bq (he pins s σ H _ I h) λw s1 q_=>?_;obtain⟨y,H1,I1,r1,q1⟩:=q_;refine bq (ho pins s1 σ H1 v y u w _ I1 r r1 q1) λz s2 q_=>?_;obtain⟨zv,H2,I2,r2,q2⟩:=q_;exact rV I2 hN hi hx r2 (λs3 I3=>⟨_,H2,I3,q2⟩) hf
 rcases l with ⟨hk,hm⟩|⟨hk,c,hc,hcell⟩
 . exact wpAny_loadName_local I.ok.kind hk hn hm go
 . rcases hk with hk|hk
   . exact wpAny_loadName_cell I.ok.kind hk hc hcell go
   . rcases hx with k|k
     . have:X.env.scope.names.lookup x=some .free:=hk;rw [k]at this;cases this
     . have:X.env.scope.names.lookup x=some .free:=hk;rw [k]at this;cases this
end
section
variable {X:Cx} {pos:Pos}
def AG(c:TT)(tb:TS):TS:=λD σ H=>∃W:Nat->St->Hp->Prop,(∃m,W m σ H)/\∀m σ H,W m σ H->
 c σ H λb H1=>if b=true then ∃N:St->Hp->Prop,(∀σ' H',N σ' H'->∃m',m' < m/\W m' σ' H')/\tb {D with nx:=N,ct:=N,bk:=D.nx} σ H1 else D.nx σ H1
theorem r0 {c:Expr}{body:List Stmt}{tc:TT}{tb:TS}(hp:PassesOwn `i X.A X.env X.xe)(hc:PT X c tc)(hb:PSs X body tb):PS X (.While c body [] pos) (AG tc tb):=by
 intro pins s σ H D I h;obtain⟨W,⟨m0,w0⟩,turn⟩:=h;refine wpAny_While (codeAny_whileLoop (λn s'=>∃σ' H',Inv X pins σ' H' s'/\W n σ' H') ?_ m0 ⟨σ,H,I,w0⟩);rintro n s1 ⟨σ1,H1,I1,w1⟩;refine wpAny_passesOwn hp (bq (hc pins s1 σ1 H1 _ I1 (turn n σ1 H1 w1)) λb s2 q_=>?_);obtain⟨H2,I2,q2⟩:=q_;cases b with
 |true=>
  obtain⟨N,hN,q2⟩:=q2;rw [if_pos rfl];refine wpAny_passesOwn hp (bq (hb pins s2 σ1 H2 _ I2 q2) λf s3 q3=>?_);cases f with
  |next=>
   obtain⟨σ3,H3,I3,n3⟩:=q3;obtain⟨m',hm,w3⟩:=hN σ3 H3 n3;exact⟨m',hm,σ3,H3,I3,w3⟩
  |cont=>
   obtain⟨σ3,H3,I3,n3⟩:=q3;obtain⟨m',hm,w3⟩:=hN σ3 H3 n3;exact⟨m',hm,σ3,H3,I3,w3⟩
  |brk=>exact q3
  |ret v=>exact q3
 |false=>
  rw [if_neg Q4];exact wpAny_execs_nil ⟨σ1,H2,I2,q2⟩
end
structure It where
 go:Nat->Hp->Prop
 yld:Nat->Hp->V->Hp->Prop
 stop:Nat->Hp->Prop
def j8(X:Cx)(pins:`k)(H:Hp)(b:Addr):Prop:=
 H b=none/\b≠X.env.locals/\b ∉ X.fs/\(b∈X.ex\/X.s₀.heap.objs.size<=b)/\(∀x c,X.env.cells.lookup x=some c->c≠b)/\∀p∈X.pn++pins,p.1≠b
theorem Inv.fpOk {pins:`k}{σ:St}{H':Hp}(I:`h)(hb:`a<=b)(hn:H' b=none):j8 X pins H' b:=by
 refine⟨hn,uL (kZ I.lt hb),I.nofs hb,.inr (Qc I.sz hb),λx c e z=>?_,λp hp z=>?_⟩
 . obtain⟨v,q⟩:=I.cell x c e;exact absurd (kZ q.lt (by rw [z];exact hb)) (zT _)
 . exact absurd (kZ (dh (I.pin p hp).1) (by rw [z];exact hb)) (zT _)
structure Turn (P:Program) (w:World) (K:Fg) (tg:Expr) (J:It) (fp:List Addr) (it:Addr) (tn:Nat->Heap->Prop):Prop where
 mem:it∈fp
 obj:∀i h,tn i h->∀b∈fp,∃o,h.get? b=some o/\∀v,o.data≠ .cell v
 keep:∀i h h',tn i h->(∀b∈fp,∀o,h.get? b=some o->h'.get? b=some o)->tn i h'
 item:∀(X:Cx),X.prog=P->X.w=w->X.K=K->X.calm=true->∀(i:Nat) (pins:`k) (s:Shared) (σ:St) (H:Hp) (E:`d),Inv X pins σ H s->(∀b∈fp,j8 X pins H b)->tn i s.heap->J.go i H->
  wpAny (model P w) X.A (pyNext (.ref it)) (λr s1=>∃u,r=some u/\
   wpAny (model P w) X.A (letOwnedTupleGo tg (.ref it) u) (λ_ s2=>∃x H',Inv X pins σ H' s2/\RelV x u/\J.yld i H x H'/\tn (i+1) s2.heap/\∀b∈fp,H' b=none) E s1) E s
 done:∀(X:Cx),X.prog=P->X.w=w->X.K=K->X.calm=true->∀(i:Nat) (pins:`k) (s:Shared) (σ:St) (H:Hp) (E:`d),Inv X pins σ H s->(∀b∈fp,j8 X pins H b)->tn i s.heap->J.stop i H->
  wpAny (model P w) X.A (pyNext (.ref it)) (λr s1=>r=none/\Inv X pins σ H s1) E s
 self:∀(A:Around) (i:Nat) (s:Shared) (Q:`d) (E:`d),tn i s.heap->Q (.ref it) s->wpAny (model P w) A (pyIter (.ref it)) Q E s
abbrev TI:=St->Hp->(It->Hp->Prop)->Prop
def PR(X:Cx)(pins:`k)(σ:St)(tg:Expr)(R:It->Hp->Prop)(itv:Value)(s2:Shared):Prop:=
 ∃(it:Addr) (fp:List Addr) (tn:Nat->Heap->Prop) (J:It) (H':Hp),itv=.ref it/\Inv X pins σ H' s2/\Turn X.prog X.w X.K tg J fp it tn/\tn 0 s2.heap/\(∀b∈fp,j8 X pins H' b)/\R J H'
def PI(X:Cx)(tg iter:Expr)(wi:TI):Prop:=
 ∀(pins:`k) (s:Shared) (σ:St) (H:Hp) (R:It->Hp->Prop),Inv X pins σ H s->wi σ H R->
  wpAny `i X.A (eval iter X.env) (λv s1=>wpAny `i X.A (pyIter v) (PR X pins σ tg R) X.xe s1) X.xe s
variable {tg:Expr}
theorem E3 {M:Model}{s:Shared}{it:Addr}{n:String}{vs:Array Value}{Q:Unit->Shared->Prop}(ho:s.heap.get? it=some o)(hc:o.cls=.type n)(hd:o.data=.fields vs)
 (hn:["enumerate","zip","dict_itemiterator","dict_reverseitemiterator","odict_iterator","itertools.zip_longest","itertools.pairwise"].contains n=false) (hQ:Q () s):wpAny M A (letOwnedTupleGo tg (.ref it) u) Q E s:=by
 unfold letOwnedTupleGo;cases tg<;>first
  |exact wP hQ
  |(cases u<;>first
   |exact wP hQ
   | (refine wB (wpAny_load ho ?_)
      rw [hc,hd];show wpAny M A (if(["enumerate","zip","dict_itemiterator","dict_reverseitemiterator","odict_iterator","itertools.zip_longest","itertools.pairwise"].contains n&&vs[0]? ==some (rawInt _))=true then _ else _) Q E s;rw [if_neg (by intro h;rw [hn,Bool.false_and]at h;cases h)]
      exact wP hQ))
def PU(K:Fg)(a:Addr):It:=
 ⟨λi H=>∃xs x,SqL K H a xs/\xs[i]? =some x,λi H x H'=>H'=H/\∀xs,SqL K H a xs->xs[i]? =some x,λi H=>∃xs,SqL K H a xs/\xs.length<=i⟩
def PV(K:Fg)(a:Addr):It:=
 ⟨λi H=>∃xs x,SqT K H a xs/\xs[i]? =some x,λi H x H'=>H'=H/\∀xs,SqT K H a xs->xs[i]? =some x,λi H=>∃xs,SqT K H a xs/\xs.length<=i⟩
def NL(lo:Int)(n:Nat):It:=⟨λi _=>i < n,λi H x H'=>H'=H/\x=.int (lo+i),λi _=>n<=i⟩
variable {K:Fg}
theorem Ce(a it:Addr):Turn P w K tg (PU K a) [it] it (λi h=>h.IsListIter it a i) where
 mem:=by simp
 obj:=λi h st b hb=>by
  have e:b=it:=by simpa using hb
  subst e;obtain⟨o,e,c,d⟩:=st;exact⟨o,e,λv z=>by rw [d]at z;cases z⟩
 keep:=λi h h' st k=>st.at λo e=>k it (by simp) o e
 item:=by
  intro X hP hw hK hc i pins s σ H E I hf st hg;subst hP hw hK;obtain⟨xs,x,hq,hx⟩:=hg;obtain⟨its,rv,p,hz⟩:=I.list hq;obtain⟨u,hu,ru⟩:=rv.get hx;obtain⟨f0,f1,f2,f3,f4,f5⟩:=hf it (by simp)
  refine wpAny_pyNext_list_item st p.isList (x:=u) (by simpa using hu) λh' st' sb=>?_
  have I1:Inv X pins σ H {s with heap:=h'}:=I.turned (t':=s.toks) (λb o hb e=>(sb.2 b hb).trans e) f0 f1 f3 f4 f5
  obtain⟨o,e,c,d⟩:=id st';exact⟨u,rfl,E3 (s:={s with heap:=h'}) e c d (by decide) ⟨x,H,I1,ru,⟨rfl,λys hy=>by rw [I.list_inj hy hq];exact hx⟩,st',λb hb=>(hf b hb).1⟩⟩
 done:=by
  intro X hP hw hK hc i pins s σ H E I hf st hg;subst hP hw hK;obtain⟨xs,hq,hx⟩:=hg;obtain⟨its,rv,p,hz⟩:=I.list hq;obtain⟨f0,f1,f2,f3,f4,f5⟩:=hf it (by simp)
  have hl:=rv.length;exact wpAny_pyNext_list_end (I.ok.hd hc) st p.isList (by simp;lia) λh' eb=>⟨rfl,I.turned (t':=s.toks) (λb o hb e=>eb b o hb e) f0 f1 f3 f4 f5⟩
 self:=λ_ _ _ _ _ st h=>wpAny_pyIter_listiter st h
theorem AH(a it:Addr):Turn P w K tg (PV K a) [it] it (λi h=>h.IsTupleIter it a i) where
 mem:=by simp
 obj:=λi h st b hb=>by
  have e:b=it:=by simpa using hb
  subst e;obtain⟨o,e,c,d⟩:=st;exact⟨o,e,λv z=>by rw [d]at z;cases z⟩
 keep:=λi h h' st k=>st.at λo e=>k it (by simp) o e
 item:=by
  intro X hP hw hK hc i pins s σ H E I hf st hg;subst hP hw hK;obtain⟨xs,x,hq,hx⟩:=hg;obtain⟨its,rv,p,hz⟩:=I.tuple hq;obtain⟨u,hu,ru⟩:=rv.get hx;obtain⟨f0,f1,f2,f3,f4,f5⟩:=hf it (by simp)
  refine wpAny_pyNext_tuple_item st (show s.heap.IsTuple a its.toArray from p) (x:=u) (by simpa using hu) λh' st' sb=>?_
  have I1:Inv X pins σ H {s with heap:=h'}:=I.turned (t':=s.toks) (λb o hb e=>(sb.2 b hb).trans e) f0 f1 f3 f4 f5
  obtain⟨o,e,c,d⟩:=id st';exact⟨u,rfl,E3 (s:={s with heap:=h'}) e c d (by decide) ⟨x,H,I1,ru,⟨rfl,λys hy=>by rw [I.tuple_inj hy hq];exact hx⟩,st',λb hb=>(hf b hb).1⟩⟩
 done:=by
  intro X hP hw hK hc i pins s σ H E I hf st hg;subst hP hw hK;obtain⟨xs,hq,hx⟩:=hg;obtain⟨its,rv,p,hz⟩:=I.tuple hq;obtain⟨f0,f1,f2,f3,f4,f5⟩:=hf it (by simp)
  have hl:=rv.length;exact wpAny_pyNext_tuple_end (I.ok.hd hc) st (show s.heap.IsTuple a its.toArray from p) (by simp;lia) λh' eb=>⟨rfl,I.turned (t':=s.toks) (λb o hb e=>eb b o hb e) f0 f1 f3 f4 f5⟩
 self:=λ_ _ _ _ _ st h=>wpAny_pyIter_tupleiter st h
theorem AI(it:Addr)(lo:Int)(n:Nat):Turn P w K tg (NL lo n) [it] it (λi h=>IsRangeIter h it (lo+(i:Nat)*1) ((n:Int) - (i:Nat)) 1) where
 mem:=by simp
 obj:=λi h st b hb=>by
  have e:b=it:=by simpa using hb
  subst e;exact⟨_,st,λv z=>by
   have z':Data.fields _=Data.cell v:=z;cases z'⟩
 keep:=λi h h' st k=>k it (by simp) _ st
 item:=by
  intro X hP hw hK hc i pins s σ H E I hf st hg;subst hP hw hK;obtain⟨f0,f1,f2,f3,f4,f5⟩:=hf it (by simp)
  have W:=Walks.range (prog:=X.prog) (w:=X.w) (I.ok.hd hc) it lo 1 n;refine W.item i s _ _ hg st λv h' tk hv st' kk=>?_;obtain⟨t,rfl⟩:=hv;have I1:Inv X pins σ H {s with heap:=h',toks:=tk}:=I.turned (λb o hb e=>kk b o (by simpa using hb) e) f0 f1 f3 f4 f5
  refine⟨_,rfl,E3 (s:={s with heap:=h',toks:=tk}) (n:="range_iterator") st' rfl rfl (by decide) ⟨.int (lo+i),H,I1,⟨t,?_⟩,⟨rfl,rfl⟩,st',λb hb=>(hf b hb).1⟩⟩
  rw [Int.mul_one]
 done:=by
  intro X hP hw hK hc i pins s σ H E I hf st hg;subst hP hw hK;obtain⟨f0,f1,f2,f3,f4,f5⟩:=hf it (by simp)
  exact wpAny_pyNext_range_end (I.ok.hd hc) st (by have:n<=i:=hg;lia) λh' eb=>⟨rfl,I.turned (t':=s.toks) (λb o hb e=>eb b o hb e) f0 f1 f3 f4 f5⟩
 self:=λ_ _ _ _ _ st h=>wpAny_pyIter_rangeiter st h
section
variable {X:Cx} {tg:Expr}
variable {σ:St}{pins:`k}
theorem xV {R:It->Hp->Prop}{lo hi:Int}{t u v:Tok}{tk:Nat}(I:`h)(h1: -(2 ^ 62)<=lo)(h2:lo < 2 ^ 62)(h3: -(2 ^ 62)<=hi)(h4:hi < 2 ^ 62)
 (q:R (NL lo (hi - lo).toNat) H):wpAny `i X.A (pyIter (.ref `a)) (PR X pins σ tg R) E {s with heap:=s.heap.push {cls:=.type "range",data:=.fields #[.int lo t,.int hi u,.int 1 v]},toks:=tk}:=by
 refine wpAny_pyIter_range (IsRange.new ..) (small_one h1 h2 h3 h4) ?_;have I1:Inv X pins σ H {s with heap:=s.heap.push {cls:=.type "range",data:=.fields #[.int lo t,.int hi u,.int 1 v]},toks:=tk}:=I.kept λb o e=>df _ e
 refine⟨(s.heap.push {cls:=.type "range",data:=.fields #[.int lo t,.int hi u,.int 1 v]}).objs.size,[(s.heap.push {cls:=.type "range",data:=.fields #[.int lo t,.int hi u,.int 1 v]}).objs.size],_,_,H,rfl,
  I1.kept (t':=tk) λb o e=>df _ e,AI _ lo (hi - lo).toNat,?_,λb hb=>?_,q⟩
 . have e1:lo+((0:Nat):Int)*1=lo:=by simp
   have e2:(((hi - lo).toNat:Nat):Int) - ((0:Nat):Int)=Builtin.Range.rangeSize lo hi 1:=by rw [rangeSize_one];split<;>lia
   show IsRangeIter _ _ (lo+((0:Nat):Int)*1) ((((hi - lo).toNat:Nat):Int) - ((0:Nat):Int)) 1;rw [e1,e2];exact fU _ rfl
 . have e:b=(s.heap.push {cls:=.type "range",data:=.fields #[.int lo t,.int hi u,.int 1 v]}).objs.size:=by simpa using hb
   subst e;exact I1.fpOk (Q1 _) (I1.hok.fresh (Q1 _))
def K3(ta:TA):TI:=λσ H R=>ta σ H λvs H1=>∃j:Int,vs=[.int j]/\ -(2 ^ 62)<=j/\j < 2 ^ 62/\R (NL 0 j.toNat) H1
def K4(ta:TA):TI:=λσ H R=>ta σ H λvs H1=>∃i j:Int,vs=[.int i,.int j]/\(-(2 ^ 62)<=i/\i < 2 ^ 62/\ -(2 ^ 62)<=j/\j < 2 ^ 62)/\R (NL i (j - i).toNat) H1
variable {pos:Pos}
theorem e7 {a:Expr}{ta:TA}{p:Pos}(hg:Gl X "range")(hm:X.mg "range"=none)(ha:PA X [a] ta)(hs:starEach [a] X.env=[(false,eval a X.env)]:=by rfl):PI X tg (.Call (.Name "range" p) [a] [] pos) (K3 ta):=by
 intro pins s σ H R I h;refine Call_ (jn I hg hm boot_range (PyProof.Rows.callWith_type1 (bq (ha pos pins s σ H _ I h) λus s1 q_=>?_) hs rfl));obtain⟨vs,H1,I1,r1,q1⟩:=q_;obtain⟨j,e,q1,q2,q⟩:=q1;subst e;cases r1 with
 |cons r rr=>
  cases rr;obtain⟨t,rfl⟩:=r;exact call_range_1 (xV I1 `e `e q1 q2 (by simpa using q))
theorem Cf {a b:Expr}{ta:TA}{p:Pos}(hg:Gl X "range")(hm:X.mg "range"=none)(ha:PA X [a,b] ta)(hs:starEach [a,b] X.env=[(false,eval a X.env),(false,eval b X.env)]:=by rfl)(hs2:starEach [b] X.env=[(false,eval b X.env)]:=by rfl):
 PI X tg (.Call (.Name "range" p) [a,b] [] pos) (K4 ta):=by
 intro pins s σ H R I h;refine Call_ (jn I hg hm boot_range (PyProof.Rows.callWith_type1 (bq (ha pos pins s σ H _ I h) λus s1 q_=>?_) (by rw [hs,hs2]) (by rw [hs2];rfl)))
 obtain⟨vs,H1,I1,r1,q1⟩:=q_;obtain⟨i,j,e,⟨q1,q2,q3,q4⟩,q⟩:=q1;subst e;cases r1 with
 |cons r rr=>
  cases rr with
  |cons r' rr=>
   cases rr;obtain⟨t,rfl⟩:=r;obtain⟨t',rfl⟩:=r';exact call_range_2 (xV I1 q1 q2 q3 q4 q)
def xW(wi:TI)(g:TG)(tb:TS):TS:=λD σ H=>wi σ H λJ H1=>∃W:Nat->Nat->St->Hp->Prop,(∃m,W 0 m σ H1)/\∀i m σ H,W i m σ H->
 (J.stop i H/\D.nx σ H)\/(J.go i H/\∃N:St->Hp->Prop,(∀σ' H',N σ' H'->∃m',m' < m/\W (i+1) m' σ' H')/\∀x H',J.yld i H x H'->g x σ H' λσ2 H2=>tb {D with nx:=N,ct:=N,bk:=D.nx} σ2 H2)
noncomputable def r6(fp:List Addr)(h:Heap):List (Addr×Obj):=fp.filterMap λb=>(h.get? b).map λo=>(b,o)
variable {fp:List Addr}
theorem fV(hb:b∈fp)(e:h.get? b=some o):(b,o)∈r6 fp h:=List.mem_filterMap.mpr ⟨b,hb,by rw [e];rfl⟩
theorem Cg {p:Addr×Obj}(hp:p∈r6 fp h):p.1∈fp/\h.get? p.1=some p.2:=by
 obtain⟨b,hb,e⟩:=List.mem_filterMap.mp hp;cases q:h.get? b with
 |none=>rw [q]at e;cases e
 |some o=>
  rw [q]at e;have e':(b,o)=p:=zV e;subst e';exact⟨hb,q⟩
theorem Inv.pinned {fp:List Addr}(I:`h)(hf:∀b∈fp,j8 X pins H b)(ho:∀b∈fp,∃o,s.heap.get? b=some o/\∀v,o.data≠ .cell v):Inv X (pins++r6 fp s.heap) σ H s:=
 I.pins_of λp hp=>(Ca.mp hp).elim (λz=>I.pin p (Qb _ z)) λz=>by
  obtain⟨hb,e⟩:=Cg z;obtain⟨f0,f1,f2,_⟩:=hf p.1 hb;obtain⟨o,e',d⟩:=ho p.1 hb;rw [e]at e';cases e';exact⟨e,f0,f1,f2,d⟩
theorem Inv.unpinned {pl:`k}(I:Inv X (pins++pl) σ H s):Inv X pins σ H s:=I.pins_of λp hp=>I.pin p (Qb _ (Mu _ hp))
theorem cw {iter:Expr}{body:List Stmt}{wi:TI}{g:TG}{tb:TS}(hp:PassesOwn `i X.A X.env X.xe)(hc:X.calm=true)(hi:PI X tg iter wi)(hg:PG X tg g)(hb:PSs X body tb)
 (hs:∀x,foldedSetIterable iter X.env x=pure x:=by intro _;rfl):PS X (.For tg iter body [] pos) (xW wi g tb):=by
 intro pins s σ H D I h;refine wpAny_For (bq (hi pins s σ H _ I h) λv s1 h1=>bq h1 λitv s2 h2=>?_) hs;obtain⟨it,fp,tn,J,H2,e,I2,T,st2,f2,W,⟨m0,w0⟩,turn⟩:=h2;subst e;have stat:∀{H':Hp},(∀b∈fp,H' b=none)->∀b∈fp,j8 X pins H' b:=λhn b hb=>⟨hn b hb,(f2 b hb).2⟩;refine codeAny_forLoop_any (λn s'=>∃i σ' H',Inv X pins σ' H' s'/\tn i s'.heap/\(∀b∈fp,H' b=none)/\W i n σ' H') ?_ m0 ⟨0,σ,H2,I2,st2,λb hb=>(f2 b hb).1,w0⟩;rintro n s3 ⟨i,σ3,H3,I3,st3,fr3,w3⟩
 rcases turn i n σ3 H3 w3 with ⟨stop,qn⟩|⟨go,N,hN,step⟩
 . refine wpAny_passesOwn hp (bq (T.done X rfl rfl rfl hc i pins s3 σ3 H3 X.xe I3 (stat fr3) st3 stop) λr s4 q_=>?_);obtain⟨hr,I4⟩:=q_;subst hr;exact wpAny_execs_nil ⟨σ3,H3,I4,qn⟩
 . refine wpAny_passesOwn hp (bq (T.item X rfl rfl rfl hc i pins s3 σ3 H3 X.xe I3 (stat fr3) st3 go) λr s4 q_=>?_);obtain⟨u,hr,h4⟩:=q_;subst hr;refine wpAny_passesOwn hp (bq h4 λ_ s5 q_=>?_);obtain⟨x,H5,I5,r5,y5,st5,fr5⟩:=q_;have I5':=I5.pinned (stat fr5) (T.obj _ _ st5);refine wpAny_passesOwn hp (bq (hg _ s5 σ3 H5 x u _ I5' r5 (step x H5 y5)) λ_ s6 q_=>?_);obtain⟨σ6,H6,I6,q6⟩:=q_;refine wpAny_passesOwn hp (bq (hb _ s6 σ6 H6 _ I6 q6) λf s7 q7=>?_);have again:∀{σ7:St} {H7:Hp},Inv X (pins++r6 fp s5.heap) σ7 H7 s7->N σ7 H7->∃m,m < n/\∃i σ' H',Inv X pins σ' H' s7/\tn i s7.heap/\(∀b∈fp,H' b=none)/\W i m σ' H':=λ{σ7 H7} I7 n7=>by
    obtain⟨m',hm,w7⟩:=hN σ7 H7 n7;refine⟨m',hm,i+1,σ7,H7,I7.unpinned,T.keep _ _ _ st5 λb hb o e=>(I7.pin (b,o) (Qb _ (Qb _ (fV hb e)))).1,λb hb=>?_,w7⟩;obtain⟨o,e,d⟩:=T.obj _ _ st5 b hb;exact(I7.pin (b,o) (Qb _ (Qb _ (fV hb e)))).2.1
   cases f with
   |next=>obtain⟨σ7,H7,I7,n7⟩:=q7;exact again I7 n7
   |cont=>obtain⟨σ7,H7,I7,n7⟩:=q7;exact again I7 n7
   |brk=>obtain⟨σ7,H7,I7,q7⟩:=q7;exact⟨σ7,H7,I7.unpinned,q7⟩
   |ret v=>obtain⟨x7,σ7,H7,I7,r7,q7⟩:=q7;exact⟨x7,σ7,H7,I7.unpinned,r7,q7⟩
end
abbrev R2:=V->V->Hp->VK->Prop
def OpR(X:Cx)(f:Value->Value->Sem Value)(r:R2):Prop:=
 ∀(pins:`k) (s:Shared) (σ:St) (H:Hp) (x y:V) (v u:Value) (Q:VK),Inv X pins σ H s->RelV x v->RelV y u->r x y H Q->
  wpAny `i X.A (f v u) (EP X pins σ Q) X.xe s
def PX(X:Cx)(f:Value->Sem Value)(r:V->Hp->VK->Prop):Prop:=
 ∀(pins:`k) (s:Shared) (σ:St) (H:Hp) (x:V) (v:Value) (Q:VK),Inv X pins σ H s->RelV x v->r x H Q->
  wpAny `i X.A (f v) (EP X pins σ Q) X.xe s
def dX(X:Cx)(f:Value)(r:List V->Hp->VK->Prop):Prop:=
 ∀(pins:`k) (s:Shared) (σ:St) (H:Hp) (xs:List V) (us:List Value) (Q:VK),Inv X pins σ H s->Vals xs us->r xs H Q->
  wpAny `i X.A (call f us) (EP X pins σ Q) X.xe s
def PY(X:Cx)(r:V->Hp->(Bool->Hp->Prop)->Prop):Prop:=
 ∀(pins:`k) (s:Shared) (σ:St) (H:Hp) (x:V) (v:Value) (Q:Bool->Hp->Prop),Inv X pins σ H s->RelV x v->r x H Q->
  wpAny `i X.A (truthy v) (TP X pins σ Q) X.xe s
def LY(r:R2)(ta tb:TE):TE:=λσ H Q=>ta σ H λx H1=>tb σ H1 λy H2=>r x y H2 Q
def Pw(r:V->Hp->VK->Prop)(ta:TE):TE:=λσ H Q=>ta σ H λx H1=>r x H1 Q
def rI(C:Int->Int->Prop)(g:Int->Int->V):R2:=λx y H Q=>∃i j,x=.int i/\y=.int j/\C i j/\Q (g i j) H
def AE(g:Int->Int->V):R2:=λx y H Q=>∃i j,x=.int i/\y=.int j/\Q (g i j) H
def rU(g:Int->V):V->Hp->VK->Prop:=λx H Q=>∃i,x=.int i/\Q (g i) H
section
variable {X:Cx} {a b c:Expr} {ta tb tc:TE} {pos:Pos}
theorem LZ(ha:PE X a ta)(hb:PE X b tb){pins:`k}{s:Shared}{σ:St}{H:Hp}{R:V->V->Hp->Prop}(I:`h)
 (h:ta σ H λx H1=>tb σ H1 λy H2=>R x y H2) {Q:`d} {f:Value->Value->Sem Value}
 (hf:∀v u s2 x y H2,Inv X pins σ H2 s2->RelV x v->RelV y u->R x y H2->wpAny `i X.A (f v u) Q X.xe s2):
 wpAny `i X.A (eval a X.env) (λv s₁=>wpAny `i X.A (eval b X.env) (λu s₂=>wpAny `i X.A (f v u) Q X.xe s₂) X.xe s₁) X.xe s:=by
 refine bq (ha pins s σ H _ I h) λv s1 q_=>?_;obtain⟨x,H1,I1,r1,q1⟩:=q_;refine bq (hb pins s1 σ H1 _ I1 q1) λu s2 q_=>?_;obtain⟨y,H2,I2,r2,q2⟩:=q_;exact hf v u s2 x y H2 I2 r1 r2 q2
theorem cG {op:Operator}{r:R2}(ho:OpR X (binaryOp op) r)(ha:PE X a ta)(hb:PE X b tb):PE X (.BinOp a op b pos) (LY r ta tb):=by
 intro pins s σ H Q I h;exact wpAny_BinOp (LZ ha hb I h λv u s2 x y H2 I2 rx ry q=>ho pins s2 σ H2 x y v u Q I2 rx ry q)
theorem K5 {op:UnaryOp}{r:V->Hp->VK->Prop}(ho:PX X (unaryOp op) r)(ha:PE X a ta):PE X (.UnaryOp op a pos) (Pw r ta):=by
 intro pins s σ H Q I h;exact UnaryOp_ (bq (ha pins s σ H _ I h) λv s1 q_=>by obtain⟨x,H1,I1,r1,q1⟩:=q_;exact ho pins s1 σ H1 x v Q I1 r1 q1)
variable {g:Int->Int->Int}{f:Value->Value->Sem Value}
theorem PZ {C:Int->Int->Prop}
 (rule:∀(i j:Int) (t u:Tok) (s:Shared) (Q:`d) (E:`d),C i j->Q (.int (g i j) s.toks) {s with toks:=s.toks+1}->wpAny `i X.A (f (.int i t) (.int j u)) Q E s):
 OpR X f (rI C λi j=>.int (g i j)):=by
 intro pins s σ H x y v u Q I rx ry h;obtain⟨i,j,rfl,rfl,hc,q⟩:=h;obtain⟨t,rfl⟩:=rx;obtain⟨t',rfl⟩:=ry;exact rule i j t t' s _ _ hc ⟨.int (g i j),H,I.tok _,⟨_,rfl⟩,q⟩
theorem L0(rule:∀(i j:Int) (t u:Tok) (s:Shared) (Q:`d) (E:`d),Q (.int (g i j) s.toks) {s with toks:=s.toks+1}->wpAny `i X.A (f (.int i t) (.int j u)) Q E s):
 OpR X f (AE λi j=>.int (g i j)):=by
 intro pins s σ H x y v u Q I rx ry h;obtain⟨i,j,rfl,rfl,q⟩:=h;obtain⟨t,rfl⟩:=rx;obtain⟨t',rfl⟩:=ry;exact rule i j t t' s _ _ ⟨.int (g i j),H,I.tok _,⟨_,rfl⟩,q⟩
theorem L1 {g:Int->Int->Bool}
 (rule:∀(i j:Int) (t u:Tok) (s:Shared) (Q:`d) (E:`d),Q (.bool (g i j)) s->wpAny `i X.A (f (.int i t) (.int j u)) Q E s):
 OpR X f (AE λi j=>.bl (g i j)):=by
 intro pins s σ H x y v u Q I rx ry h;obtain⟨i,j,rfl,rfl,q⟩:=h;obtain⟨t,rfl⟩:=rx;obtain⟨t',rfl⟩:=ry;exact rule i j t t' s _ _ ⟨.bl (g i j),H,I,rfl,q⟩
def CMul(i j:Int):Prop:=(-(2 ^ 64) < i/\i < 2 ^ 64)\/(-(2 ^ 64) < j/\j < 2 ^ 64)
theorem CMul.ok {i j:Int}(h:CMul i j):IntMulOk i j:=by
 rcases h with ⟨h1,h2⟩|⟨h1,h2⟩
 . exact .of_left (intBits_le_64 h1 h2)
 . exact .of_right (intBits_le_64 h1 h2)
theorem L3:OpR X (binaryOp .Add) (AE λi j=>.int (i+j)):=L0 λ_ _ _ _ _ _ _ q=>add_int q
theorem r9:OpR X (binaryOp .Sub) (AE λi j=>.int (i - j)):=L0 λ_ _ _ _ _ _ _ q=>sub_int q
theorem pL:OpR X (binaryOp .Mult) (rI CMul λi j=>.int (i*j)):=PZ λ_ _ _ _ _ _ _ hc q=>mul_int q hc.ok
theorem rc:OpR X (binaryOp .Mod) (rI (λ_ j=>0 < j) λi j=>.int (i % j)):=PZ λi j _ _ _ _ _ hc q=>by
 have h1:(0:Int) < j:=hc;exact mod_int' `e (by rw [Int.fmod_eq_emod_of_nonneg i `e];exact q)
theorem rG:OpR X (inplaceOp .Add) (AE λi j=>.int (i+j)):=L0 λ_ _ _ _ _ _ _ q=>iadd_int q
theorem IP:OpR X (inplaceOp .Mult) (rI CMul λi j=>.int (i*j)):=PZ λ_ _ _ _ _ _ _ hc q=>imul_int q hc.ok
theorem QC {f:Value->Sem Value}{g:Int->Int}
 (rule:∀(i:Int) (t:Tok) (s:Shared) (Q:`d) (E:`d),Q (.int (g i) s.toks) {s with toks:=s.toks+1}->wpAny `i X.A (f (.int i t)) Q E s):
 PX X f (rU λi=>.int (g i)):=by
 intro pins s σ H x v Q I rx h;obtain⟨i,rfl,q⟩:=h;obtain⟨t,rfl⟩:=rx;exact rule i t s _ _ ⟨.int (g i),H,I.tok _,⟨_,rfl⟩,q⟩
theorem E6:PX X (unaryOp .USub) (rU λi=>.int (-i)):=QC λ_ _ _ _ _ q=>neg_int q
end
section
variable {X:Cx} {a b c:Expr} {ta tb tc:TE} {pos:Pos}
theorem E7 {pins:`k}{σ:St}{Q:VK}{k k':Bool}(I:`h)(q:Q (.bl k) H)(e:k=k'):EP X pins σ Q (.bool k') s:=by
 subst e;exact⟨.bl k,H,I,rfl,q⟩
theorem K6:OpR X (compareOp .Lt) (AE λi j=>.bl (decide (i < j))):=L1 λ_ _ _ _ _ _ _ q=>lt_int q
theorem B5:OpR X (compareOp .LtE) (AE λi j=>.bl (decide (i<=j))):=L1 λ_ _ _ _ _ _ _ q=>le_int q
theorem re:OpR X (compareOp .Gt) (AE λi j=>.bl (decide (j < i))):=L1 λ_ _ _ _ _ _ _ q=>gt_int q
theorem wD:OpR X (compareOp .Is) (λx y H Q=>y=.non/\Q (.bl (decide (x=.non))) H):=by
 intro pins s σ H x y v u Q I rx ry h;obtain⟨rfl,q⟩:=h;cases ry;refine is_none_gen (E7 I q ?_);cases x<;>first
  |(cases rx;rfl)
  |(obtain⟨t,rfl⟩:=rx;rfl)
theorem B6:OpR X (compareOp .IsNot) (λx y H Q=>y=.non/\Q (.bl (!decide (x=.non))) H):=by
 intro pins s σ H x y v u Q I rx ry h;obtain⟨rfl,q⟩:=h;cases ry;refine isnot_none_gen (E7 I q ?_);cases x<;>first
  |(cases rx;rfl)
  |(obtain⟨t,rfl⟩:=rx;rfl)
variable {r:R2}
theorem OpR.or {f:Value->Value->Sem Value}{r':R2}(h:OpR X f r)(h':OpR X f r'):OpR X f (λx y H Q=>r x y H Q\/r' x y H Q):=by
 intro pins s σ H x y v u Q I rx ry q
 rcases q with q|q
 . exact h pins s σ H x y v u Q I rx ry q
 . exact h' pins s σ H x y v u Q I rx ry q
theorem b0(b:Expr){op:CmpOp}(h:op≠ .In:=by decide)(h2:op≠ .NotIn:=by decide):behindInMarks op b=false:=by
 have e1:(op==CmpOp.In)=false:=by cases op<;>first|rfl|exact absurd rfl h
 have e2:(op==CmpOp.NotIn)=false:=by cases op<;>first|rfl|exact absurd rfl h2
 cases b<;>simp [behindInMarks,e1,e2]
variable {op:CmpOp}
theorem jH(ho:OpR X (compareOp op) r)(ha:PE X a ta)(hb:PE X b tb)(hm:behindInMarks op b=false):PE X (.Compare a [op] [b] pos) (LY r ta tb):=by
 intro pins s σ H Q I h;exact wpAny_Compare1 (LZ ha hb I h λv u s2 x y H2 I2 rx ry q=>ho pins s2 σ H2 x y v u Q I2 rx ry q) hm
def xX(t:TE):TT:=λσ H Q=>t σ H λx H'=>∃k,x=.bl k/\Q k H'
theorem bR(ho:OpR X (compareOp op) r)(ha:PE X a ta)(hb:PE X b tb)(hm:behindInMarks op b=false):PT X (.Compare a [op] [b] pos) (xX (LY r ta tb)):=by
 intro pins s σ H Q I h;refine wpAny_isTrue_Compare1 (bq (ha pins s σ H _ I h) λv s1 ⟨x,H1,I1,r1,q1⟩=>bq (hb pins s1 σ H1 _ I1 q1) λu s2 ⟨y,H2,I2,r2,q2⟩=>
  bq (ho pins s2 σ H2 x y v u _ I2 r1 r2 q2) λc s3 ⟨z,H3,I3,r3,k,e,q3⟩=>?_) hm
 subst e;cases r3;exact wpAny_truthy_bool ⟨H3,I3,q3⟩
def E8(r r':R2)(ta tb tc:TE):TE:=λσ H Q=>ta σ H λx H1=>tb σ H1 λy H2=>r x y H2 λz H3=>∃k,z=.bl k/\
 (if k=true then tc σ H3 λw' H4=>r' y w' H4 Q else Q (.bl false) H3)
theorem E9 {op':CmpOp}{r':R2}(ho:OpR X (compareOp op) r)(ho':OpR X (compareOp op') r')(ha:PE X a ta)(hb:PE X b tb)(hc:PE X c tc)
 (hm:lastMarks [op,op'] [b,c]=false:=by with_unfolding_all rfl):PE X (.Compare a [op,op'] [b,c] pos) (E8 r r' ta tb tc):=by
 intro pins s σ H Q I h;refine Compare_chain (bq (ha pins s σ H _ I h) λv s1 ⟨x,H1,I1,r1,q1⟩=>chain_link (bq (hb pins s1 σ H1 _ I1 q1) λu s2 ⟨y,H2,I2,r2,q2⟩=>
  bq (ho pins s2 σ H2 x y v u _ I2 r1 r2 q2) λd s3 ⟨z,H3,I3,r3,k,e,q3⟩=>?_)) hm
 subst e;cases r3;refine wpAny_truthy_bool ?_;cases k with
 |false=>exact ite_ff ⟨.bl false,H3,I3,rfl,q3⟩
 |true=>exact ite_tt (chain_last (bq (hc pins s3 σ H3 _ I3 q3) λw' s4 q_=>by obtain⟨z',H4,I4,r4,q4⟩:=q_;exact ho' pins s4 σ H4 y z' u w' Q I4 r2 r4 q4))
def IQ(K:Fg)(x:V)(H:Hp)(k:Bool):Prop:=
 match x with
 | .non=>k=false
 | .bl b=>k=b
 | .int i=>k=(i != 0)
 | .str y=>y.length<=sizeLine/\k=((y.length:Int) != 0)
 | .byt y=>y.size<=sizeLine/\k=((y.size:Int) != 0)
 | .ref p=>(∃xs,SqL K H p xs/\k= !xs.isEmpty)\/(∃xs,SqT K H p xs/\k= !xs.isEmpty)\/∃kvs,H p=some (.dK kvs)/\k= !kvs.isEmpty
 |_=>False
theorem AJ {κ:Type}{kvs:List (κ×V)}{vs:List (κ×Value)}(r:KV kvs vs):(!vs.isEmpty)= !kvs.isEmpty:=by
 cases r<;>rfl
theorem rf {xs:List V}{its:List Value}(r:Vals xs its):(!its.toArray.isEmpty)= !xs.isEmpty:=by
 cases r<;>simp
theorem pM:(sizeLine:Nat) < 2 ^ 63:=by rw [sizeLine_eq];decide
theorem L4:PY X (λx H Q=>∃k,IQ X.K x H k/\Q k H):=by
 intro pins s σ H x v Q I rx h;obtain⟨k,e,q⟩:=h;have hl:=pM;have hs:sizeLine=16777216:=sizeLine_eq;cases x with
 |non=>
  cases rx;have e':k=false:=e;subst e';exact truthy_none ⟨H,I,q⟩
 |bl b=>
  cases rx;have e':k=b:=e;subst e';exact wpAny_truthy_bool ⟨H,I,q⟩
 |int i=>
  obtain⟨t,rfl⟩:=rx;have e':k=(i != 0):=e;subst e';exact PySem.P.truthy_int ⟨H,I,q⟩
 |str y=>
  obtain⟨t,rfl⟩:=rx;obtain⟨hy,e'⟩:y.length<=sizeLine/\k=((y.length:Int) != 0):=e;subst e';exact PySem.P.truthy_str `e ⟨H,I.tok _,q⟩
 |byt y=>
  obtain⟨t,rfl⟩:=rx;obtain⟨hy,e'⟩:y.size<=sizeLine/\k=((y.size:Int) != 0):=e;subst e';exact PySem.W.truthy_bytes `e ⟨H,I.tok _,q⟩
 |ref p=>
  cases rx;have e':(∃xs,SqL X.K H p xs/\k= !xs.isEmpty)\/(∃xs,SqT X.K H p xs/\k= !xs.isEmpty)\/∃kvs,H p=some (.dK kvs)/\k= !kvs.isEmpty:=e
  rcases e' with ⟨xs,hx,e'⟩|⟨xs,hx,e'⟩|⟨kvs,hx,e'⟩
  . subst e';obtain⟨its,r,pl,hz⟩:=I.list hx;have hlen:=r.length;exact wpAny_truthy_list pl.isList (by simp only [zM];lia) ⟨H,I.tok _,by rw [rf r];exact q⟩
  . subst e';obtain⟨its,r,pl,hz⟩:=I.tuple hx;have hlen:=r.length;exact truthy_tuple pl (by simp only [zM];lia) ⟨H,I.tok _,by rw [rf r];exact q⟩
  . subst e';obtain⟨hz,hS,vs,r,m⟩:kvs.length<=sizeLine/\(p==sysModules)=false/\∃vs,KV kvs vs/\s.heap.DictOf (am X.prog X.w) p vs:=I.hok p _ hx;have hlen:kvs.length=vs.length:=Paired.length r;exact wpAny_truthy_dict hS m `e ⟨H,I.tok _,by rw [AJ r];exact q⟩
 |_=>exact(show False from e).elim
theorem Ea(ha:PE X a ta)(he:∀whole,isTrue a X.env whole=(do let v<-whole;standAt a.pos;holding [v] (truthy v))):
 PT X a (λσ H Q=>ta σ H λx H'=>∃k,IQ X.K x H' k/\Q k H'):=by
 intro pins s σ H Q I h;exact isTrue_plain (bq (ha pins s σ H _ I h) λv s1 q_=>by obtain⟨x,H1,I1,r1,q1⟩:=q_;exact L4 pins s1 σ H1 x v Q I1 r1 q1) (he _)
theorem AK:OpR X (binaryOp .Add) (λx y H Q=>∃i j,x=.str i/\y=.str j/\i.length+j.length<=sizeLine/\Q (.str (i++j)) H):=by
 intro pins s σ H x y v u Q I rx ry h;obtain⟨i,j,rfl,rfl,hz,q⟩:=h;obtain⟨t,rfl⟩:=rx;obtain⟨t',rfl⟩:=ry;exact add_str (λt' tk=>⟨.str (i++j),H,I.tok _,⟨_,rfl⟩,q⟩) hz
theorem mG {x:V}(r:Vals [x] us):∃u,us=[u]/\RelV x u:=by
 cases r with
 |cons r1 r2=>cases r2;exact⟨_,rfl,r1⟩
def L5(K:Fg)(x:V)(H:Hp)(n:Nat):Prop:=
 match x with
 | .str y=>y.length<=sizeLine/\n=y.length
 | .byt y=>y.size<=sizeLine/\n=y.size
 | .ref p=>(∃xs,SqL K H p xs/\n=xs.length)\/∃xs,SqT K H p xs/\n=xs.length
 |_=>False
theorem Eb:dX X (.builtin "len") (λxs H Q=>∃x n,xs=[x]/\L5 X.K x H n/\Q (.int n) H):=by
 intro pins s σ H xs us Q I r h;obtain⟨x,n,rfl,e,q⟩:=h;obtain⟨u,rfl,rx⟩:=mG r;have hl:=pM;have hs:sizeLine=16777216:=sizeLine_eq;cases x with
 |str y=>
  obtain⟨t,rfl⟩:=rx;obtain⟨hy,e'⟩:y.length<=sizeLine/\n=y.length:=e;subst e';exact len_str `e ⟨.int _,H,I.tok _,⟨_,rfl⟩,q⟩
 |byt y=>
  obtain⟨t,rfl⟩:=rx;obtain⟨hy,e'⟩:y.size<=sizeLine/\n=y.size:=e;subst e';exact PySem.W.len_bytes `e ⟨.int _,H,I.tok _,⟨_,rfl⟩,q⟩
 |ref p=>
  cases rx;have e':(∃xs,SqL X.K H p xs/\n=xs.length)\/∃xs,SqT X.K H p xs/\n=xs.length:=e
  rcases e' with ⟨xs,hx,e'⟩|⟨xs,hx,e'⟩
  . subst e';obtain⟨its,r',pl,hz⟩:=I.list hx;have hlen:=r'.length;exact Calls.call_len_list pl.isList (by simp only [zM];lia) ⟨.int xs.length,H,I.tok _,⟨_,by simp only [zM];rw [hlen]⟩,q⟩
  . subst e';obtain⟨its,r',pl,hz⟩:=I.tuple hx;have hlen:=r'.length;exact len_tuple pl (by simp only [zM];lia) ⟨.int xs.length,H,I.tok _,⟨_,by simp only [zM];rw [hlen]⟩,q⟩
 |_=>exact(show False from e).elim
end
structure ObjM (h:Heap) (x dx C:Addr) (mA:`j):Prop where
 obj:h.get? x=some (PySem.W.instObj C dx)
 ns:h.Ns1 dx mA
 ne:dx≠x
variable {mA:`j}
theorem Ch {dx:Addr}(n:h.Ns1 dx mA):∃od,h.get? dx=some od/\∀name,PySem.W.lookIn name od=some (mA name):=by
 obtain⟨o,es,ep,ho,hd,hk,_,hm⟩:=n;refine⟨o,ho,λname=>?_⟩;have e:=hm name;unfold nsFind findBy at e;rw [<-Array.find?_toList]at e;unfold PySem.W.lookIn;rw [hd]
 dsimp only
 split
 . rename_i y q;rw [q]at e;exact congrArg some e
 . rename_i q;rw [q]at e;have a:es.toList.any (·.refKey)=false:=by
    rw [List.any_eq_false];intro y hy;obtain⟨z,t,hkey⟩:=hk y (Array.mem_toList_iff.mp hy);simp [DictEntry.refKey,hkey]
   have a':¬es.toList.any (·.refKey)=true:=by rw [a];exact Q4
   rw [if_neg a'];exact congrArg some e
variable {C:Addr}
theorem ObjM.look {x dx:Addr}(I:ObjM h x dx C mA):∃od,PySem.W.InstAt h x (PySem.W.instObj C dx) C (some od)/\∀name,PySem.W.lookIn name od=some (mA name):=
 let ⟨od,ho,hl⟩:=Ch I.ns
 ⟨od,⟨I.obj,rfl,rfl,ho⟩,hl⟩
section
variable {prog:Program} {w:World} {A:Around} {E:`d} {s:Shared} {K:Fg} {x dx C f:Addr} {mA:`j} {name:Str} {v:Value}
theorem IR {expr:Bool}{Q:`d}(X:K.In s.heap)(I:ObjM s.heap x dx C mA)(hg:PySem.W.plainGet K C name=true)(hh:PySem.W.hasDictIn K C=true)
 (ha:PySem.W.findIn K (.ref C) name=some none) (hv:mA name=some v) (hv':PySem.W.handedIn v=true) (h:Q v {s with toks:=s.toks+1}):
 wpAny `m A (getAttr (.ref x) name expr) Q E s:=by
 obtain⟨od,J,hl⟩:=I.look;exact PySem.W.get_value X J (PySem.W.plainGet_of hg).1 (PySem.W.findObj_own hh ha rfl (by rw [hl,hv])) hv' h
theorem Ec {pl:Sem Bool}{Q:Value×List Value->Shared->Prop}(X:K.In s.heap)(I:ObjM s.heap x dx C mA)(hg:PySem.W.plainGet K C name=true)
 (hf:PySem.W.findIn K (.ref C) name=some (some (.ref f))) (ht:PySem.W.isFn K (.ref f)=true) (hv:mA name=none) (h:Q (.ref f,[.ref x]) s):
 wpAny `m A (getMethod (.ref x) name pl) Q E s:=by
 obtain⟨od,J,hl⟩:=I.look;exact PySem.W.method_fn X J (PySem.W.plainGet_of hg).1 (PySem.W.plainGet_of hg).2 hf (beq_iff_eq.mp ht) (by show (PySem.W.lookIn name od).map (·.isSome)=some false;rw [hl,hv];rfl) h
theorem IS {ns:List Str}{Q:Unit->Shared->Prop}(X:K.In s.heap)(I:ObjM s.heap x dx C mA)
 (hs:PySem.W.findIn K (.ref C) "__setattr__"=some (some (.builtin "object.__setattr__"))) (hp:PySem.W.plainOver K C=true) (ht:PySem.W.takerIn K C name=some none) (hh:PySem.W.hasDictIn K C=true)
 (hw:PySem.Within mA ns) (hsz:ns.length<=sizeLine)
 (h:∀h',ObjM h' x dx C (λy=>if y=name then some v else mA y)->Heap.SameBut dx s.heap h'->Q () {s with heap:=h',toks:=s.toks+2}):
 wpAny `m A (setAttr (.ref x) name v) Q E s:=by
 obtain⟨od,J,hl⟩:=I.look;refine PySem.W.set_plain X J hs (PySem.W.osa_open (s:={s with toks:=s.toks+1}) (r:=none) X J hp ht λb=>?_)
 obtain⟨cd,hc,hd'⟩:=PySem.W.any_some hh;have hx:s.heap.get? x=some ⟨.ref C,some dx,.plain, #[]⟩:=I.obj;refine wB (wP (wB (wB (wpAny_loadPart hx (wB (PySem.W.Looks.here (s:={s with toks:=s.toks+1}) (PySem.W.looks_clsIn X hc) ?_))))))
 rw [hd'];refine wP (a:=some dx) (wB (wP (wB ?_)));refine wpAny_nsSet1 (s:={s with toks:=s.toks+1}) I.ns λh' hn2 hs2=>?_
 obtain⟨oD,esD,epD,hoD,hdD,hcD⟩:=hn2.count (PySem.Within.cons name v hw);refine wB (wpAny_lookBehind hoD (by rw [hdD];exact pastItsLine_dict (Qc hcD (by rw [zC];lia))) ?_)
 exact wP (h _ ⟨(hs2.2 _ (Ne.symm I.ne)).trans I.obj,hn2,I.ne⟩ hs2)
theorem Ed {R:Result->Shared->Prop}{vs:List Value}{kw:List (Str×Value)}(X:K.In s.heap)(hm:PySem.W.makesIn K C=true)
 (hi:PySem.W.findIn K (.ref C) "__init__"=some (some (.ref f))) (hf:PySem.W.typeIn K (.ref f)=some (.type "function"))
 (h : codeAny `m (A.under (.builtin "type.__call__" ⟨.ref C :: vs, kw⟩)) (.call (.ref f) ⟨.ref (`a + 1) :: vs, kw⟩) (PySem.W.InitBack (`a + 1) R)
  {s with heap:=(s.heap.push PySem.W.emptyDict).push (PySem.W.instObj C `a)}):
 codeAny `m A (.call (.ref C) ⟨vs,kw⟩) R s:=by
 obtain⟨hh,g,d,t,os⟩:=s;exact PySem.W.make_core (PySem.W.makes_of X hm) (PySem.W.looks_findIn X hi) (λself=>PySem.W.bind_fn X self hf) (.inl rfl) h
end
noncomputable def mC(f:Str)(v:V):List (Str×V)->List (Str×V)
 |[]=>[(f,v)]
 |(g,x)::r=>if g=f then(g,v)::r else(g,x)::mC f v r
theorem qT(f g:Str)(v:V):∀fs:List (Str×V),(mC f v fs).lookup g=if g=f then some v else fs.lookup g
 |[]=>by
  show List.lookup g [(f,v)]=_
  by_cases h:g=f
  . have hb:(g==f)=true:=beq_iff_eq.mpr h;simp only [List.lookup,hb,if_pos h]
  . have hb:(g==f)=false:=beq_eq_false_iff_ne.mpr h;simp only [List.lookup,hb,if_neg h]
 |(k,x)::r=>by
  have ih:=qT f g v r;rw [show mC f v ((k,x)::r)=(if k=f then(k,v)::r else(k,x)::mC f v r)from rfl]
  by_cases hk:k=f
  . rw [if_pos hk]
    by_cases h:g=k
    . have hb:(g==k)=true:=beq_iff_eq.mpr h;simp only [List.lookup,hb,if_pos (h.trans hk)]
    . have hb:(g==k)=false:=beq_eq_false_iff_ne.mpr h;simp only [List.lookup,hb,if_neg (λe:g=f=>h (e.trans hk.symm))]
  . rw [if_neg hk]
    by_cases h:g=k
    . have hb:(g==k)=true:=beq_iff_eq.mpr h;simp only [List.lookup,hb,if_neg (λe:g=f=>hk (h.symm.trans e))]
    . have hb:(g==k)=false:=beq_eq_false_iff_ne.mpr h;simp only [List.lookup,hb];exact ih
theorem pN(f:Str)(v:V):∀fs:List (Str×V),f∈(mC f v fs).map (·.1)/\∀g,g∈fs.map (·.1)->g∈(mC f v fs).map (·.1)
 |[]=>⟨by simp [mC],λg h=>by simp at h⟩
 |(k,x)::r=>by
  obtain⟨i1,i2⟩:=pN f v r;rw [show mC f v ((k,x)::r)=(if k=f then(k,v)::r else(k,x)::mC f v r)from rfl]
  by_cases hk:k=f
  . rw [if_pos hk];subst hk;exact⟨by simp,λg h=>by simpa using h⟩
  . rw [if_neg hk];refine⟨?_,λg h=>?_⟩
    . rw [zI];exact iJ _ i1
    . rw [zI]at h ⊢
      rcases Q3.mp h with e|e
      . exact Q3.mpr (.inl e)
      . exact iJ _ (i2 g e)
theorem qU(f:Str)(v:V):∀fs:List (Str×V),(mC f v fs).length<=fs.length+1
 |[]=>by simp [mC]
 |(k,x)::r=>by
  have ih:=qU f v r;rw [show mC f v ((k,x)::r)=(if k=f then(k,v)::r else(k,x)::mC f v r)from rfl]
  by_cases hk:k=f
  . rw [if_pos hk,zC,zC];lia
  . rw [if_neg hk,zC,zC];lia
theorem RelO.some_of {v:V}{o:Option Value}(r:RelO (some v) o):∃u,o=some u/\RelV v u:=by
 cases o with
 |none=>exact(show False from r).elim
 |some u=>exact⟨u,rfl,r⟩
variable {o:Option Value}
theorem RelO.none_of(r:RelO none o):o=none:=by
 cases o with
 |none=>rfl
 |some u=>exact(show False from r).elim
theorem Ci {v:V}(r:RelV v u):PySem.W.handedIn u=true:=by
 cases v with
 |non=>cases (show u=Value.none from r);rfl
 |bl b=>cases (show u=Value.bool b from r);rfl
 |int i=>obtain⟨t,e⟩:=(show ∃t,u=Value.int i t from r);cases e;rfl
 |str x=>obtain⟨t,e⟩:=(show ∃t,u=Value.str x t from r);cases e;rfl
 |byt b=>obtain⟨t,e⟩:=(show ∃t,u=Value.bytes b t from r);cases e;rfl
 |flt b=>obtain⟨t,e⟩:=(show ∃t,u=Value.float b t from r);cases e;rfl
 |ref a=>cases (show u=Value.ref a from r);rfl
 |ty n=>cases (show u=Value.type n from r);rfl
section
variable {P:Program} {w:World} {H H':Hp} {h h':Heap} {a C dx:Addr} {fs fs':List (Str×V)}
theorem rH(hok:HOk P w H h)(e:H a=some (.ins C dx fs)):∃mA,ObjM h a dx C mA/\(∀f,RelO (fs.lookup f) (mA f))/\PySem.Within mA (fs.map (·.1))/\fs.length<=1000/\H dx=some (.own a):=by
 obtain⟨d,z,ne,ob,mA,n,r,q⟩:=(show ObjOk P w H h a (.ins C dx fs)from hok a _ e)
 exact⟨mA,⟨ob,n,ne⟩,r,q,z,d⟩
end
structure Cls (K:Fg) (C:Addr):Prop where
 pg:PySem.W.plainGet K C Str.empty=true
 hd:PySem.W.hasDictIn K C=true
 po:PySem.W.plainOver K C=true
 sa:PySem.W.findIn K (.ref C) "__setattr__"=some (some (.builtin "object.__setattr__"))
theorem Cls.get(c:Cls K C)(f:Str):PySem.W.plainGet K C f=true:=c.pg
def NoAttr(K:Fg)(C:Addr)(f:Str):Prop:=PySem.W.findIn K (.ref C) f=some none
theorem NoAttr.taker {f:Str}(n:NoAttr K C f):PySem.W.takerIn K C f=some none:=by
 unfold PySem.W.takerIn;rw [show PySem.W.findIn K (.ref C) f=some none from n]
 rfl
structure Meth (K:Fg) (C:Addr) (m:Str) (f:Addr):Prop where
 at_:PySem.W.findIn K (.ref C) m=some (some (.ref f))
 fn:PySem.W.isFn K (.ref f)=true
 kp:PySem.W.keepIn K (.ref f)=true
section
variable {X:Cx} {pins:`k} {σ:St} {H:Hp} {s:Shared} {a C dx:Addr} {fs:List (Str×V)} {f:Str} {v:V} {A:Around} {E:`d}
variable {Q:`d}
theorem AL {b:Bool}(I:`h)(e:H a=some (.ins C dx fs))(c:Cls X.K C)(n:NoAttr X.K C f)(l:fs.lookup f=some v)
 (h:∀u s',Inv X pins σ H s'->RelV v u->Q u s'):wpAny `i A (getAttr (.ref a) f b) Q E s:=by
 obtain⟨mA,O,r,_,_,_⟩:=rH I.hok e;obtain⟨u,hu,ru⟩:=RelO.some_of (v:=v) (o:=mA f) (by rw [<-l];exact r f)
 exact IR I.kIn O (c.get f) c.hd n hu (Ci ru) (h u _ (I.tok _) ru)
theorem rh {m:Str}{g:Addr}{pl:Sem Bool}{Q:Value×List Value->Shared->Prop}(I:`h)(e:H a=some (.ins C dx fs))(c:Cls X.K C)(k:Meth X.K C m g)(l:fs.lookup m=none)
 (h:Q (.ref g,[.ref a]) s):wpAny `i A (getMethod (.ref a) m pl) Q E s:=by
 obtain⟨mA,O,r,_,_,_⟩:=rH I.hok e;have hn:mA m=none:=RelO.none_of (by rw [<-l];exact r m)
 exact Ec I.kIn O (c.get m) k.at_ k.fn hn h
theorem AM {y:V}{Q:Unit->Shared->Prop}(I:`h)(e:H a=some (.ins C dx fs))(c:Cls X.K C)(n:NoAttr X.K C f)(hl:fs.length < 1000)(ry:RelV y u)
 (h:∀s',Inv X pins σ (bC H a (.ins C dx (mC f y fs))) s'->Q () s'):wpAny `i A (setAttr (.ref a) f u) Q E s:=by
 obtain⟨mA,O,r,wi,_,ho⟩:=rH I.hok e;have hz:(fs.map (·.1)).length<=sizeLine:=by rw [zJ,sizeLine_eq];lia
 refine IS I.kIn O c.sa c.po n.taker c.hd wi hz λh' O' sb=>h _ ?_;have hd:∃o,h'.get? dx=some o:=let ⟨o,_,_,e',_⟩:=O'.ns;⟨o,e'⟩;refine I.write (x:=a) (e:=dx) (by rw [e];exact True.intro) (.inr ho) (λb q hb z=>(sb.2 b hb).trans z) hd ?_
 refine⟨by rw [aM O.ne];exact ho,?_,O.ne,O'.obj,_,O'.ns,λg=>?_,λg hg=>?_⟩
 . have:=qU f y fs;lia
 . show RelO ((mC f y fs).lookup g) (if g=f then some u else mA g);rw [qT]
   by_cases q:g=f
   . rw [if_pos q,if_pos q];exact ry
   . rw [if_neg q,if_neg q];exact r g
 . by_cases q:g=f
   . rw [q];exact(pN f y fs).1
   . refine(pN f y fs).2 g (wi g λz=>hg ?_);show (if g=f then some u else mA g)=none;rw [if_neg q];exact z
theorem Inv.made(I:`h):Inv X pins σ (bC (bC H `a (.own (`a+1))) (`a+1) (.ins C `a []))
 {s with heap:=(s.heap.push PySem.W.emptyDict).push (PySem.W.instObj C `a)}:=by
 have e1:(s.heap.push PySem.W.emptyDict).get? `a=some PySem.W.emptyDict:=fU s.heap rfl;have e2:((s.heap.push PySem.W.emptyDict).push (PySem.W.instObj C `a)).get? (`a+1)=some (PySem.W.instObj C `a):=by
  have:=fU (s.heap.push PySem.W.emptyDict) (o:=PySem.W.instObj C `a) rfl
  rwa [AC]at this
 have e3:(s.heap.push PySem.W.emptyDict).Ns `a (λ_=>none):=⟨PySem.W.emptyDict, #[],_,e1,rfl,(λe he=>absurd he (by simp)),λ_=>rfl⟩
 have I1:=I.laid (a:=`a) (o:=.own (`a+1)) (h':=s.heap.push PySem.W.emptyDict) (t':=s.toks) (λb u q=>df _ q) (Q1 _) ⟨_,e1⟩;refine I1.laid (a:=`a+1) (o:=.ins C `a []) (t':=s.toks) (λb u q=>df _ q) (Nat.le_of_eq (AC _ _)) ?_;have ne:`a≠`a+1:=jG (C8 _);refine⟨by rw [aM ne,aR],zU _,ne,e2,λ_=>none,(Heap.Ns1.of_empty e3).at λo q=>df _ q,λ_=>True.intro,λy hy=>absurd rfl hy⟩
theorem IU {prog:Program}{env:Env}{e:Expr}{pos:Pos}(hb:attributeBase e f env (eval e env)=eval e env)
 (h:wpAny `m A (eval e env) (λo s₁=>wpAny `m A (getAttr o f true) Q E s₁) E s):wpAny `m A (eval (.Attribute e f pos) env) Q E s:=
 Attribute_any_ h (by rw [arm_eval_Attribute,hb])
end
def uQ(K:Fg)(ta:TE)(f:Str):TE:=λσ H Q=>ta σ H λx H1=>∃a C dx fs v,x=.ref a/\H1 a=some (.ins C dx fs)/\Cls K C/\NoAttr K C f/\fs.lookup f=some v/\Q v H1
def L6(K:Fg)(ta tv:TE)(f:Str):TS:=λD σ H=>tv σ H λy H1=>ta σ H1 λx H2=>∃a C dx fs,x=.ref a/\H2 a=some (.ins C dx fs)/\Cls K C/\NoAttr K C f/\fs.length < 1000/\
 D.nx σ (bC H2 a (.ins C dx (mC f y fs)))
section
variable {X:Cx} {o e value:Expr} {f:Str} {pos pos' tpos:Pos} {ta tv:TE}
theorem wE(he:PE X e ta)(hb:attributeBase e f X.env (eval e X.env)=eval e X.env):PE X (.Attribute e f pos) (uQ X.K ta f):=by
 intro pins s σ H Q I h;refine IU hb (bq (he pins s σ H _ I h) λu s1 q_=>?_);obtain⟨x,H1,I1,rx,a,C,dx,fs,v,ex,ea,c,n,l,q⟩:=q_;subst ex;obtain rfl:u=Value.ref a:=rx;exact AL I1 ea c n l λu' s2 I2 ru=>⟨v,H1,I2,ru,q⟩
theorem Ee(ha:PE X o ta)(hv:PE X value tv)(hs:swapsWith value (some (.Attribute o f pos')) pos.line X.env=pure false):PS X (.Assign [.Attribute o f pos'] value pos) (L6 X.K ta tv f):=by
 intro pins s σ H D I h;refine plainObj_wpAny_Assign_Attribute (bq (hv pins s σ H _ I h) λu s1 ⟨y,H1,I1,ry,q⟩=>bq (ha pins s1 σ H1 _ I1 q) λov s2 q_=>?_) hs;obtain⟨x,H2,I2,rx,a,C,dx,fs,ex,ea,c,n,l,q2⟩:=q_;subst ex;obtain rfl:ov=Value.ref a:=rx;exact AM I2 ea c n l ry λs3 I3=>⟨σ,_,I3,q2⟩
theorem K7 {pl:Sem Bool}{m:Str}{apos:Pos}{args:List Expr}{pins:`k}{σ:St}{Q:`d}{te:TE}(he:PE X e te)(I:`h)
 (h : te σ H λ x H1 => ∃ a C dx fs g, x = .ref a /\ H1 a = some (.ins C dx fs) /\ Cls X.K C /\ Meth X.K C m g /\ fs.lookup m = none /\
  ∀s1,Inv X pins σ H1 s1->wpAny `i X.A (callWith pos (.ref g) [.ref a] (backTo pos (starEach args X.env)) (backToKw pos (keywordEach [] X.env))) Q X.xe s1)
 (ht : eval (.Call (.Attribute e m apos) args [] pos) X.env = (do
  let ov<-eval e X.env
  standAt apos.atName
  let (f,first)<-holding [ov] (getMethod ov m pl)
  callWith pos f first (backTo pos (starEach args X.env)) (backToKw pos (keywordEach [] X.env)))):
 wpAny `i X.A (eval (.Call (.Attribute e m apos) args [] pos) X.env) Q X.xe s:=by
 refine PySem.W.methodCall_KW (pl:=pl) (bq (he pins s σ H _ I h) λu s1 q_=>?_) ht;obtain⟨x,H1,I1,rx,a,C,dx,fs,g,ex,ea,c,k,l,q⟩:=q_;subst ex;obtain rfl:u=Value.ref a:=rx;exact rh I1 ea c k l (q s1 I1)
end
section
variable {X:Cx} {pins:`k} {σ:St} {H:Hp} {s:Shared} {A:Around} {E:`d} {Q:`d} {c:Value} {b:Bool}
inductive TyOf (K:Fg) (H:Hp):V->Value->Prop where
 |non:TyOf K H .non (.type "NoneType")
 |bl (x:Bool):TyOf K H (.bl x) (.type "bool")
 |int (i:Int):TyOf K H (.int i) (.type "int")
 |str (x:Str):TyOf K H (.str x) (.type "str")
 |flt (x:UInt64):TyOf K H (.flt x) (.type "float")
 |lst {a:Addr} {xs:List V} (e:H a=some (.lst xs)):TyOf K H (.ref a) (.type "list")
 |frz {a:Addr} {o:Obj} {xs:List V} (e:H a=some (.frz o (.lst xs))):TyOf K H (.ref a) (.type "list")
 |tup {a:Addr} {xs:List V} (e:H a=some (.tup xs)):TyOf K H (.ref a) (.type "tuple")
 |dK {a:Addr} {kvs:List (bb×V)} (e:H a=some (.dK kvs)):TyOf K H (.ref a) (.type "dict")
 |dT {a:Addr} {kvs:List (List bb×V)} (e:H a=some (.dT kvs)):TyOf K H (.ref a) (.type "dict")
 |ins {a C dx:Addr} {fs:List (Str×V)} (e:H a=some (.ins C dx fs)) (cl:Cls K C) (ha:PySem.W.findIn K (.ref C) "__class__"=some (some (.builtin "object.__class__")))
  (hn:PySem.W.specialIn K (.builtin "object.__class__") "__get__"=some (some (.builtin "getset_descriptor.__get__"))) (htk:PySem.W.takesIn K (.builtin "object.__class__")=some true)
  (hm:PySem.W.mroIn K C (.type "object")=some true):TyOf K H (.ref a) (.ref C)
theorem iP {x:V}{t:Value}(I:`h)(rx:RelV x u)(ty:TyOf X.K H x t)(e:PySem.W.kitOne X.K t c=some b)(h:∀tk,Q (.bool b) {s with toks:=tk}):
 wpAny `i A (call (.builtin "isinstance") [u,c]) Q E s:=by
 cases ty with
 |non=>cases (show u=Value.none from rx);exact PySem.W.kia_one PySem.W.kitx_none I.kIn True.intro e (λz=>nomatch z) h
 |bl y=>cases (show u=Value.bool y from rx);exact PySem.W.kia_one PySem.W.kitx_bool I.kIn True.intro e (λz=>nomatch z) h
 |int i=>obtain⟨t,q⟩:=(show ∃t,u=Value.int i t from rx);cases q;exact PySem.W.kia_one PySem.W.kitx_int I.kIn True.intro e (λz=>nomatch z) h
 |str y=>obtain⟨t,q⟩:=(show ∃t,u=Value.str y t from rx);cases q;exact PySem.W.kia_one PySem.W.kitx_str I.kIn True.intro e (λz=>nomatch z) h
 |flt y=>obtain⟨t,q⟩:=(show ∃t,u=Value.float y t from rx);cases q;exact PySem.W.kia_one PySem.W.kitx_float I.kIn True.intro e (λz=>nomatch z) h
 | @lst a xs ea=>
  cases (show u=Value.ref a from rx)
  obtain⟨_,_,n,_,h1⟩:=(show ObjOk X.prog X.w H s.heap a (.lst xs)from I.hok a _ ea)
  exact PySem.W.kia_one PySem.W.kitx_list I.kIn ⟨_,h1,rfl⟩ e (λz=>nomatch z) h
 | @frz a ob xs ea=>
  cases (show u=Value.ref a from rx)
  obtain⟨_,_,_,n,_,h1⟩:=(show ObjOk X.prog X.w H s.heap a (.frz ob (.lst xs))from I.hok a _ ea)
  exact PySem.W.kia_one PySem.W.kitx_list I.kIn ⟨_,h1,rfl⟩ e (λz=>nomatch z) h
 | @tup a xs ea=>
  cases (show u=Value.ref a from rx)
  obtain⟨_,_,_,p,_⟩:=(show ObjOk X.prog X.w H s.heap a (.tup xs)from I.hok a _ ea)
  obtain⟨o,h1,h2,_⟩:=p;exact PySem.W.kia_one PySem.W.kitx_tuple I.kIn ⟨o,h1,h2⟩ e (λz=>nomatch z) h
 | @dK a kvs ea=>
  cases (show u=Value.ref a from rx)
  obtain⟨_,_,vs,_,p⟩:=(show ObjOk X.prog X.w H s.heap a (.dK kvs)from I.hok a _ ea)
  obtain⟨o,es,ep,h1,h2,_⟩:=p;exact PySem.W.kia_one PySem.W.kitx_dict I.kIn ⟨o,h1,h2.1⟩ e (λz=>nomatch z) h
 | @dT a kvs ea=>
  cases (show u=Value.ref a from rx)
  obtain⟨_,_,xs,_,o,es,ep,h1,h2,_⟩:=(show ObjOk X.prog X.w H s.heap a (.dT kvs)from I.hok a _ ea)
  exact PySem.W.kia_one PySem.W.kitx_dict I.kIn ⟨o,h1,h2.1⟩ e (λz=>nomatch z) h
 | @ins a C dx fs ea cl ha hn htk hm=>
  cases (show u=Value.ref a from rx)
  obtain⟨mA,O,_⟩:=rH I.hok ea;obtain⟨od,J,_⟩:=O.look;exact PySem.W.kia_one (PySem.W.kitx_own (cl.get _) cl.hd ha hn htk hm) I.kIn J e (λz=>nomatch z) h
end
structure Room (k:Nat) (A:Around):Prop where
 hd:A.handled=none
 dp:A.depth+3*k+5 < recursionLimit
 un:A.units+16*k+200 < cLine
variable {k:Nat}
theorem Room.mono {j:Nat}(r:Room k A)(h:j<=k):Room j A:=⟨r.hd,by have:=r.dp;lia,by have:=r.un;lia⟩
theorem Room.deeper(r:Room (k+1) A)(env:Env):Room k (A.deeper env):=
 ⟨r.hd,by have:=r.dp;show A.depth+1+3*k+5 < _;lia,by have:=r.un;show A.units+3+16*k+200 < _;lia⟩
theorem Room.in1(r:Room (k+1) A):Room k A.in1:=
 ⟨r.hd,by have:=r.dp;show A.depth+3*k+5 < _;lia,by have:=r.un;show A.units+1+16*k+200 < _;lia⟩
variable {kw:List (Str×Value)}
theorem AN:(A.under (.builtin "type.__call__" ⟨.ref C::us,kw⟩)).depth=A.depth+1:=by
 first|rfl|simp [Around.under,Code.weight,Code.isCreation,Code.isGuard,Code.isCaller,Code.frames,Code.isFrame,guardIds]
theorem AO:(A.under (.builtin "type.__call__" ⟨.ref C::us,kw⟩)).units=A.units+1:=by
 first|rfl|simp [Around.under,Code.cUnits,Code.frames,Code.isFrame]
theorem Room.make(r:Room (k+1) A)(C:Addr)(us:List Value)(kw:List (Str×Value)):Room k (A.under (.builtin "type.__call__" ⟨.ref C::us,kw⟩)):=
 ⟨r.hd,by have:=r.dp;rw [AN];lia,by have:=r.un;rw [AO];lia⟩
theorem Room.depth(r:Room k A):A.depth < recursionLimit:=by have:=r.dp;lia
theorem Room.units(r:Room k A):A.units+64 < cLine:=by have:=r.un;lia
def dJ:TA:=λ_ H Q=>Q [] H
def bU(ta:TE)(tr:TA):TA:=λσ H Q=>ta σ H λx H1=>tr σ H1 λxs H2=>Q (x::xs) H2
section
variable {X:Cx} {e:Expr} {es:List Expr} {te:TE} {t:TA} {pos:Pos}
theorem aI:PA X [] dJ:=λ_ _ _ _ H Q I h=>Calls.spliced_nil ⟨[],H,I,.nil,h⟩
theorem aA(ha:PE X e te)(hr:PA X es t)(hs:starEach (e::es) X.env=(false,eval e X.env)::starEach es X.env:=by rfl):PA X (e::es) (bU te t):=by
 intro pos pins s σ H Q I h;rw [hs];show wpAny _ _ (spliced ((false,eval e X.env)::backTo pos (starEach es X.env))) _ _ s;refine Calls.spliced_cons (bq (ha pins s σ H _ I h) λu s1 q_=>?_);obtain⟨x,H1,I1,r1,q1⟩:=q_;exact bq (hr pos pins s1 σ H1 _ I1 q1) λus s2 q_=>by obtain⟨xs,H2,I2,r2,q2⟩:=q_;exact⟨x::xs,H2,I2,.cons r1 r2,q2⟩
def Cj(t:TA):TE:=λσ H Q=>t σ H λxs H1=>xs.length<=sizeLine/\∀p,H1 p=none->Q (.ref p) (bC H1 p (.tup xs))
def uR(t:TA):TE:=λσ H Q=>t σ H λxs H1=>xs.length<=sizeLine/\∀p,H1 p=none->Q (.ref p) (bC H1 p (.lst xs))
theorem dL {x1}(h:PA X es t):PE X (.Tuple es x1 pos) (Cj t):=by
 intro pins s σ H Q I hq;refine wpAny_Tuple_spliced (bq (h pos pins s σ H _ I hq) λus s1 ⟨xs,H1,I1,r,z,q⟩=>⟨by rw [<-r.length];exact z,?_⟩)
 have hf:H1 s1.heap.objs.size=none:=I1.hok.fresh (Q1 _);refine⟨.ref s1.heap.objs.size,bC H1 s1.heap.objs.size (.tup xs),I1.laid (t':=s1.toks) (λb u e=>df _ e) (Q1 _) ?_,rfl,q _ hf⟩;exact⟨z,us,r,⟨_,fU _ rfl,rfl,_,rfl⟩,_,fU _ rfl,rfl⟩
theorem cL(h:PA X es t):PE X (.List es pos) (uR t):=by
 intro pins s σ H Q I hq;refine wpAny_List_spliced (bq (h pos pins s σ H _ I hq) λus s1 ⟨xs,H1,I1,r,z,q⟩=>⟨by rw [<-r.length];exact z,?_⟩)
 have hf:H1 s1.heap.objs.size=none:=I1.hok.fresh (Q1 _);refine⟨.ref s1.heap.objs.size,bC H1 s1.heap.objs.size (.lst xs),I1.laid (t':=s1.toks) (λb u e=>df _ e) (Q1 _) ?_,rfl,q _ hf⟩;exact⟨z,us,0,r,fU _ rfl⟩
end
abbrev Sp:=List V->Hp->VK->XK->Prop
abbrev Ef:=List Env->Hp->Shared->XK->Value->Shared->Prop
structure Env0 (P:Program) (w:World) (K:Fg) (mg:`j) (base:Heap) (A:Around) (outer:List Env) (s:Shared) (H:Hp):Prop where
 frames:A.frames=some outer
 mod:Mod K mg base
 bs:∀b o,base.get? b=some o->s.heap.get? b=some o/\H b=none
 bsz:base.objs.size<=`a
 funs:s.heap.FunFrames base outer
 frf:∀b∈AD outer,H b=none
 hok:HOk P w H s.heap
 bare:AllBare s.gens
def CE(outer:List Env)(P:Program)(w:World)(H:Hp)(s:Shared)(Q:VK)(u:Value)(s':Shared):Prop:=
 ∃v H',s'.os=s.os/\AllBare s'.gens/\Un (AD outer) [] H H' s.heap s'.heap/\HOk P w H' s'.heap/\RelV v u/\Q v H'
def CR(CX:Ef)(outer:List Env)(P:Program)(w:World)(H:Hp)(s:Shared)(Q:VK)(E:XK)(r:Result)(s':Shared):Prop:=
 match r with
 | .ok (.ret u)=>CE outer P w H s Q u s'
 | .ok _=>False
 | .error e=>CX outer H s E e s'
structure FnOk (P:Program) (w:World) (K:Fg) (mg:`j) (base:Heap) (CX:Ef) (k:Nat) (f:Addr) (fd:FuncData) (ps:List Str) (sp:Sp):Prop where
 len:∀vs H Q E,sp vs H Q E->vs.length=ps.length
 run:∀(A:Around) (outer:List Env) (s:Shared) (H:Hp) (args:Args) (us:List Value) (vs:List V) (Q:VK) (E:XK),Room k A->Env0 P w K mg base A outer s H->BindsTo s fd args (ps.zip us)->Vals vs us->sp vs H Q E->
  codeAny (model P w) A (.call (.ref f) args) (CR CX outer P w H s Q E) s
variable {outer:List Env}{base:Heap}{mg:`j}
theorem Env0.make(e:Env0 P w K mg base A outer s H)(C:Addr)(us:List Value)(kw:List (Str×Value)):
 Env0 P w K mg base (A.under (.builtin "type.__call__" ⟨.ref C::us,kw⟩)) outer s H:=⟨by first|exact e.frames|(simpa [Around.under,Code.envs,Code.isFrame,pushEnvs]using e.frames),e.mod,e.bs,e.bsz,e.funs,e.frf,e.hok,e.bare⟩
section
variable {X:Cx} {pins:`k} {σ:St} {H:Hp} {s s':Shared}
theorem Inv.env0(I:`h):Env0 X.prog X.w X.K X.mg X.base X.A X.stack s H:=
 ⟨I.ok.frames,I.ok.mod,I.bs,Qc I.ok.bsz I.sz,I.stack,I.stkFree,I.hok,I.bare⟩
theorem Inv.after {Q:VK}(I:`h)(h:CE X.stack X.prog X.w H s Q u s'):EP X pins σ Q u s':=by
 obtain⟨v,H',os,bare,un,hok,r,q⟩:=h;obtain⟨hh,g,d,t,os'⟩:=s';obtain rfl:os'=s.os:=os;exact⟨v,H',I.call (h':=hh) (g':=g) (d':=d) (t':=t) (ch:=[]) un hok bare (λb z=>absurd z (by simp)),r,q⟩
end
def Eg(sp:Sp)(dvs:List V)(E:XK)(t:TA):TE:=λσ H Q=>t σ H λvs H1=>sp (vs++dvs) H1 Q E
def qV(C:Addr)(m:Str)(sp:Sp)(dvs:List V)(E:XK)(ta:TE)(t:TA):TE:=λσ H Q=>ta σ H λx H1=>∃a dx fs,x=.ref a/\H1 a=some (.ins C dx fs)/\fs.lookup m=none/\
 t σ H1 λvs H2=>sp (x::(vs++dvs)) H2 Q E
def K8(C:Addr)(sp:Sp)(dvs:List V)(E:XK)(t:TA):TE:=λσ H Q=>t σ H λvs H1=>∀x dx,H1 x=none->H1 dx=none->dx≠x->
 sp (.ref x::(vs++dvs)) (bC (bC H1 dx (.own x)) x (.ins C dx [])) (λv H2=>v=.non/\Q (.ref x) H2) E
def Binds(K:Fg)(fd:FuncData)(ps:List Str)(ds:List Value):Prop:=
 ∀(s:Shared) (us:List Value),K.In s.heap->(us++ds).length=ps.length->BindsTo s fd ⟨us,[]⟩ (ps.zip (us++ds))
variable {ps:List Str}
theorem Binds.all {fd:FuncData}(h:∀us:List Value,us.length=ps.length->bindArgs fd ⟨us,[]⟩=pure (ps.zip us)):Binds K fd ps []:=λs us _ hl=>by
 rw [Q8]at hl ⊢;exact .of_eq (h us hl)
def pO(CX:Ef)(X:Cx)(E:XK):Prop:=∀(pins:`k) (σ:St) (H:Hp) (s:Shared) (e:Value) (s':Shared),Inv X pins σ H s->CX X.stack H s E e s'->X.xe e s'
section
variable {X:Cx} {CX:Ef} {k:Nat} {f C:Addr} {fd:FuncData} {ps:List Str} {sp:Sp} {dvs:List V} {ds:List Value} {E:XK} {x m:Str} {p pos apos:Pos} {e o:Expr} {es:List Expr} {ta:TE} {t:TA}
variable {pins:`k}
theorem AQ {σ:St}{Q:VK}{us:List Value}{vs:List V}(F:FnOk X.prog X.w X.K X.mg X.base CX k f fd ps sp)(hr:Room k X.A)(hb:Binds X.K fd ps ds)(hd:Vals dvs ds)(hx:pO CX X E)
 (I:`h) (r:Vals vs us) (h:sp (vs++dvs) H Q E):wpAny `i X.A (call (.ref f) us) (EP X pins σ Q) X.xe s:=by
 have r2:Vals (vs++dvs) (us++ds):=r.append hd;have hl:(us++ds).length=ps.length:=by rw [<-r2.length];exact F.len _ _ _ _ h
 refine wpAny_call (codeAny_mono (F.run X.A X.stack s H ⟨us,[]⟩ (us++ds) (vs++dvs) Q E hr I.env0 (hb s us I.kIn hl) r2 h) λr s' hq=>?_);cases r with
 |error e=>exact hx pins σ H s e s' I hq
 |ok fl=>
  cases fl with
  |ret u=>exact I.after hq
  |next=>exact False.elim hq
  |brk=>exact False.elim hq
  |cont=>exact False.elim hq
theorem IV(F:FnOk X.prog X.w X.K X.mg X.base CX k f fd ps sp)(hr:Room k X.A)(hg:Gl X x)(hm:X.mg x=some (.ref f))(hk:PySem.W.keepIn X.K (.ref f)=true)(hb:Binds X.K fd ps ds)(hd:Vals dvs ds)(hx:pO CX X E)
 (ha:PA X (e::es) t) (hdb:(x==("__debug__":Str))=false:=by decide) (he:starEach (e::es) X.env=(false,eval e X.env)::starEach es X.env:=by rfl) (hpl:(backTo pos (starEach es X.env)).any (·.1)=false:=by rfl):
 PE X (.Call (.Name x p) (e::es) [] pos) (Eg sp dvs E t):=by
 intro pins s σ H Q I h;refine wpAny_Call_Name_kw (wC I hg hm ?_ hdb);refine PySem.W.callWith_K (h₀:=X.base) I.ok.mod.kin hk (bq (ha pos pins s σ H _ I h) λus s1 ⟨vs,H1,I1,r,q⟩=>⟨I1.kIn,?_⟩) he hpl;exact AQ F hr hb hd hx I1 r q
theorem lq {pl:Sem Bool}(he:PE X o ta)(c:Cls X.K C)(hm:Meth X.K C m f)(F:FnOk X.prog X.w X.K X.mg X.base CX k f fd ps sp)(hr:Room k X.A)(hb:Binds X.K fd ps ds)(hd:Vals dvs ds)(hx:pO CX X E)(ha:PA X (e::es) t)
 (hst:starEach (e::es) X.env=(false,eval e X.env)::starEach es X.env:=by rfl) (hpl:(backTo pos (starEach es X.env)).any (·.1)=false:=by rfl)
 (ht : eval (.Call (.Attribute o m apos) (e :: es) [] pos) X.env = (do
  let ov<-eval o X.env
  standAt apos.atName
  let (f,first)<-holding [ov] (getMethod ov m pl)
  callWith pos f first (backTo pos (starEach (e::es) X.env)) (backToKw pos (keywordEach [] X.env))):=by rfl):
 PE X (.Call (.Attribute o m apos) (e::es) [] pos) (qV C m sp dvs E ta t):=by
 intro pins s σ H Q I h;refine PySem.W.methodCall_KW (pl:=pl) (bq (he pins s σ H _ I h) λu s1 q_=>?_) ht;obtain⟨x,H1,I1,rx,a,dx,fs,ex,ea,l,q⟩:=q_;subst ex;obtain rfl:u=Value.ref a:=rx;refine rh I1 ea c hm l ?_;refine PySem.W.callWith_K (first:=[.ref a]) (h₀:=X.base) I.ok.mod.kin hm.kp (bq (ha pos pins s1 σ H1 _ I1 q) λus s2 ⟨vs,H2,I2,r,q2⟩=>⟨I2.kIn,?_⟩) hst hpl
 exact AQ (us:=.ref a::us) (vs:=.ref a::vs) F hr hb hd hx I2 (.cons rfl r) q2
structure Mk (K:Fg) (C f:Addr):Prop where
 makes:PySem.W.makesIn K C=true
 init:PySem.W.findIn K (.ref C) "__init__"=some (some (.ref f))
 fn:PySem.W.isFn K (.ref f)=true
 kp:PySem.W.keepIn K (.ref C)=true
theorem Eh {σ:St}{Q:VK}{vs:List V}(M:Mk X.K C f)(F:FnOk X.prog X.w X.K X.mg X.base CX k f fd ps sp)(hr:Room (k+1) X.A)(hb:Binds X.K fd ps ds)(hd:Vals dvs ds)
 (hx:pO CX X E) (I:`h) (r:Vals vs us)
 (h:∀x dx,H x=none->H dx=none->dx≠x->sp (.ref x::(vs++dvs)) (bC (bC H dx (.own x)) x (.ins C dx [])) (λv H2=>v=.non/\Q (.ref x) H2) E):
 wpAny `i X.A (call (.ref C) us) (EP X pins σ Q) X.xe s:=by
 have hq:=h (`a+1) `a (I.hok.fresh (Nat.le_succ _)) (I.hok.fresh (Q1 _)) (jG (C8 _));have I2:=Inv.made (C:=C) I;have r2:Vals (V.ref (`a+1)::(vs++dvs)) (Value.ref (`a+1)::(us++ds)):=.cons rfl (r.append hd);have hl:(Value.ref (`a+1)::us++ds).length=ps.length:=by
  have e:=r2.length;rw [F.len _ _ _ _ hq]at e;exact e.symm
 refine wpAny_call (Ed (f:=f) I.kIn M.makes M.init (beq_iff_eq.mp M.fn) (codeAny_mono (F.run _ X.stack _ _ ⟨Value.ref (`a+1)::us,[]⟩ (Value.ref (`a+1)::(us++ds)) _ _ E (hr.make C us [])
  (I2.env0.make C us []) (hb _ (Value.ref (`a+1)::us) I2.kIn hl) r2 hq) λr s' hq'=>?_))
 cases r with
 |error e=>exact hx pins σ _ _ e s' I2 hq'
 |ok fl=>
  cases fl with
  |ret u=>
   obtain⟨v,H',I3,rv,ev,q3⟩:=I2.after hq';subst ev;exact⟨rv,⟨V.ref (`a+1),H',I3,rfl,q3⟩⟩
  |next=>exact False.elim hq'
  |brk=>exact False.elim hq'
  |cont=>exact False.elim hq'
theorem IW(M:Mk X.K C f)(F:FnOk X.prog X.w X.K X.mg X.base CX k f fd ps sp)(hr:Room (k+1) X.A)(hg:Gl X x)(hm:X.mg x=some (.ref C))(hb:Binds X.K fd ps ds)(hd:Vals dvs ds)(hx:pO CX X E)
 (ha:PA X (e::es) t) (hdb:(x==("__debug__":Str))=false:=by decide) (he:starEach (e::es) X.env=(false,eval e X.env)::starEach es X.env:=by rfl) (hpl:(backTo pos (starEach es X.env)).any (·.1)=false:=by rfl):
 PE X (.Call (.Name x p) (e::es) [] pos) (K8 C sp dvs E t):=by
 intro pins s σ H Q I h;refine wpAny_Call_Name_kw (wC I hg hm ?_ hdb);refine PySem.W.callWith_K (h₀:=X.base) I.ok.mod.kin M.kp (bq (ha pos pins s σ H _ I h) λus s1 ⟨vs,H1,I1,r,q⟩=>⟨I1.kIn,?_⟩) he hpl;exact Eh M F hr hb hd hx I1 r q
end
section
variable {X:Cx} {CX:Ef} {k:Nat} {f C:Addr} {fd:FuncData} {ps ks:List Str} {sp:Sp} {E:XK} {x m:Str} {p pos apos kpos:Pos} {e o:Expr} {es:List Expr} {kws:List Keyword} {te ta:TE} {t tk:TA} {nm:Option Str}
variable {g:List Value->List Value->List Value} {gV:List V->List V->List V}
end
structure FnScope (N P:List Str) (sc:Scope):Prop where
 kind:sc.kind=.function
 co:sc.isCoroutine=false
 gen:sc.isGenerator=false
 nd:N.Nodup
 pre:N.take P.length=P
 par:∀x∈P,sc.names.lookup x=some .local\/sc.names.lookup x=some .cell
 nofree:∀y∈sc.names,y.2≠ .free
variable {x:Str}{kindOf:Str->Option NameKind}
theorem uw:∀{binds:List (Str×Value)} {m:`j},(∀v,(x,v) ∉ binds)->bindL kindOf binds m x=m x
 |[],_,_=>rfl
 |(n,v)::r,m,h=>by
  unfold bindL;rw [uw λw hw=>h w (iJ _ hw)];split
  . have:x≠n:=by rintro rfl;exact h v gG
    simp [this]
  . rfl
theorem ux:∀{binds:List (Str×Value)} {m:`j},(∀v,(x,v) ∉ binds)->bindC kindOf binds m x=m x
 |[],_,_=>rfl
 |(n,v)::r,m,h=>by
  unfold bindC;rw [ux λw hw=>h w (iJ _ hw)];split
  . rfl
  . have:x≠n:=by rintro rfl;exact h v gG
    simp [this]
theorem uy {v:Value}:∀{P:List Str} {vs:List Value} {i:Nat} {m:`j},P.Nodup->P[i]? =some x->vs[i]? =some v->kindOf x=some .local->
 bindL kindOf (P.zip vs) m x=some v
 |[],_,_,_,_,h,_,_=>by simp at h
 |_::_,[],_,_,_,_,h,_=>by simp at h
 |p::P,w::vs,0,m,nd,h1,h2,hk=>by
  simp at h1 h2;subst h1;subst h2;show bindL kindOf ((p,w)::P.zip vs) m p=_;unfold bindL;rw [uw λv hv=>(xP.mp nd).1 (List.of_mem_zip hv).1,if_pos hk]
  simp
 |p::P,w::vs,i+1,m,nd,h1,h2,hk=>by
  show bindL kindOf ((p,w)::P.zip vs) m x=_;unfold bindL;exact uy (i:=i) (xP.mp nd).2 (by simpa using h1) (by simpa using h2) hk
theorem uz {v:Value}:∀{P:List Str} {vs:List Value} {i:Nat} {m:`j},P.Nodup->P[i]? =some x->vs[i]? =some v->kindOf x≠some .local->
 bindC kindOf (P.zip vs) m x=some v
 |[],_,_,_,_,h,_,_=>by simp at h
 |_::_,[],_,_,_,_,h,_=>by simp at h
 |p::P,w::vs,0,m,nd,h1,h2,hk=>by
  simp at h1 h2;subst h1;subst h2;show bindC kindOf ((p,w)::P.zip vs) m p=_;unfold bindC;rw [ux λv hv=>(xP.mp nd).1 (List.of_mem_zip hv).1,if_neg hk]
  simp
 |p::P,w::vs,i+1,m,nd,h1,h2,hk=>by
  show bindC kindOf ((p,w)::P.zip vs) m x=_;unfold bindC;exact uz (i:=i) (xP.mp nd).2 (by simpa using h1) (by simpa using h2) hk
def dY(N:List Str)(vs:List V):St:=vs.map some++List.replicate (N.length - vs.length) none
noncomputable def rj(CX:Ef)(P:Program)(w:World)(K:Fg)(mg:`j)(base:Heap)(N:List Str)(qual:Str)(scope:Scope)(f:Addr)(cd:Value)(A:Around)(outer:List Env)(s:Shared)(H:Hp)(E:XK):Cx where
 prog:=P
 w:=w
 K:=K
 mg:=mg
 base:=base
 A:=A.deeper (envOfC qual scope `a f cd)
 N:=N
 s₀:=s
 H₀:=H
 env:=envOfC qual scope `a f cd
 outer:=outer
 stack:=envOfC qual scope `a f cd::outer
 ex:=[]
 calm:=true
 fn:=λ_=>true
 pn:=[]
 xe:=λe s'=>wpAny (model P w) (A.deeper (envOfC qual scope `a f cd)) (leaving (envOfC qual scope `a f cd) e) (λ_ s''=>CX outer H s E e s'') (λe' s''=>CX outer H s E e' s'') s'
theorem xY {sc:Scope}{n:Nat}(h:sc.names.lookup x=some .cell):∃c,(cellsFrom n sc.names []).lookup x=some c:=by
 have q:=PySem.W.cellsFrom_some sc.names n [] (.inl h);exact Ms.mp q
variable {scope:Scope}{N:List Str}
theorem Ck {CX:Ef}{qual:Str}{f:Addr}{cd:Value}{s1:Shared}{E:XK}{vs:List V}
 (S:FnScope N ps scope) (hd:A.handled=none) (e0:Env0 P w K mg base A outer s H) (hl:vs.length=ps.length) (r:Vals vs us)
 (x:InCallC s `a (bindL (envOfC qual scope `a f cd).kindOf (ps.zip us) λ_=>none) (cellsFrom (`a+1) scope.names []) (bindC (envOfC qual scope `a f cd).kindOf (ps.zip us) λ_=>none) s1):
 Inv (rj CX P w K mg base N qual scope f cd A outer s H E) [] (dY N vs) H s1:=by
 have hpl:ps.length<=N.length:=by have:=congrArg List.length S.pre;rw [List.length_take]at this;lia
 obtain⟨h1,tk,rfl,hk⟩:=x.done;have noA:∀b:Addr,b ∉ (rj CX P w K mg base N qual scope f cd A outer s H E).ex:=λb z=>absurd (show b∈([]:List Addr)from z) (by simp)
 refine⟨⟨e0.mod,S.kind,rfl,rfl,Q1 _,λy z c h1 h2=>?_,λy hy=>?_,λy c _ h=>?_,λ_=>hd,Around.frames_deeper e0.frames,.inr ⟨rfl,rfl⟩,λb z=>absurd z (noA b),e0.bs,e0.bsz,λb _ _=>noA b,λb z=>absurd z (noA b),e0.funs,e0.frf⟩,
  rfl,e0.bare,Un.kept hk,⟨_,x.toInCall.ns,λi y v h1 h2 h3=>?_⟩,λy c h=>⟨_,x.cell y c h⟩,e0.hok.fresh (Q1 _),λy c h=>?_,λp hp=>absurd (show p∈([]:`k)from hp) (by simp),e0.hok.kept hk,?_⟩
 . exact name_of_addr x.apart (PySem.mem_of_lookup h1) (PySem.mem_of_lookup h2)
 . have hy:scope.names.lookup y=some .cell\/scope.names.lookup y=some .free:=hy
   rcases hy with hy|hy
   . exact xY hy
   . exact absurd rfl (S.nofree _ (PySem.mem_of_lookup hy))
 . exact AF (x.above y c (PySem.mem_of_lookup h))
 . have hi:i < vs.length:=by
    unfold dY at h2
    by_cases hi:i < vs.length
    . exact hi
    . rw [Qd (by simpa using hi)]at h2
      rw [Qf]at h2;split at h2<;>cases h2
   have ha:vs[i]? =some v:=by
    unfold dY at h2;rw [Qa (by simpa using hi),zK]at h2
    cases e:vs[i]? with
    |none=>rw [e]at h2;cases h2
    |some a=>rw [e]at h2;cases h2;rfl
   obtain⟨u,hu,rv⟩:=r.get ha;have hp:ps[i]? =some y:=by
    rw [<-S.pre,List.getElem?_take_of_lt `e];exact h1
   have ndP:ps.Nodup:=by rw [<-S.pre];exact S.nd.sublist (List.take_sublist _ _)
   refine⟨u,rv,?_⟩
   rcases S.par y (ES hp)with k|k
   . exact .inl ⟨k,uy ndP hp hu k⟩
   . obtain⟨c,e⟩:=xY (n:=`a+1) k;refine .inr ⟨.inl k,c,e,?_⟩;have q:=x.cell y c e;rw [uz ndP hp hu (by show scope.names.lookup y≠_;rw [k];decide)]at q
     exact q
 . exact e0.hok.fresh (AF (x.above y c (PySem.mem_of_lookup h)))
 . unfold dY;show _=N.length;rw [zQ,zJ,IE];lia
theorem K9 {CX:Ef}{f:Addr}{name qual:Str}{params:Arguments}{body:List Stmt}{dV kV doc pm cdv ct oc:Value}{an od:Option Addr}{osl:Array (Option Value)}{sp:Sp} (lk:K.lookup f=some ⟨oc,od,.func (PySem.W.fnOf name qual params body scope dV kV doc pm an cdv ct),osl⟩) (hcd:PySem.W.codeIn K cdv qual=true) (S:FnScope N ps scope)
 (len:∀vs H Q E,sp vs H Q E->vs.length=ps.length)
 (hbody : ∀ (A : Around) (outer : List Env) (s : Shared) (H : Hp) (vs : List V) (Q : VK) (E : XK), Room k (A.deeper (envOfC qual scope `a f cdv)) -> sp vs H Q E ->
  ∃t,PSs (rj CX P w K mg base N qual scope f cdv A outer s H E) body t/\t {nx:=λ_ H'=>Q .non H',rt:=Q} (dY N vs) H):
 FnOk P w K mg base CX (k+1) f (PySem.W.fnOf name qual params body scope dV kV doc pm an cdv ct) ps sp:=by
 refine⟨len,λA outer s H args us vs Q E hr e0 hb r hsp=>?_⟩;have hl:=len _ _ _ _ hsp;have KX:K.In s.heap:=e0.mod.kin.keeps λb o e=>(e0.bs b o e).1;have lim:s.heap.NoLimit:=e0.mod.nolimit.keeps λb o e=>(e0.bs b o e).1;have hkind:∀y∈ps.zip us,scope.names.lookup y.1=some .local\/(scope.names.lookup y.1=some .cell/\((cellsFrom (`a+1) scope.names []).lookup y.1).isSome=true):=λ⟨n,v⟩ hy=>by
  rcases S.par n (List.of_mem_zip hy).1 with q|q
  . exact .inl q
  . exact .inr ⟨q,PySem.W.cellsFrom_some _ _ _ (.inl q)⟩
 refine codeAny_call_function hr.depth (KX _ _ lk) rfl S.co S.gen rfl (PySem.W.codeRec_of KX hcd) (hb _ _ _ _ ?_);refine wpAny_newFunctionEnv_cells S.kind hkind λenv he s1 x=>?_;subst he;refine⟨lim.keeps x.toInCall.keep,codeAny_func ?_⟩;obtain⟨t,ht,hq⟩:=hbody A outer s H vs Q E (hr.deeper _) hsp;have I:Inv (rj CX P w K mg base N qual scope f cdv A outer s H E) [] (dY N vs) H s1:=Ck S hr.hd e0 hl r x;refine wpAny_mono (ht [] s1 (dY N vs) H _ I hq) (λfl s' hs=>?_) λe s' hs=>hs;have fin:∀{σ':St} {H':Hp} {v:V} {u:Value},Inv (rj CX P w K mg base N qual scope f cdv A outer s H E) [] σ' H' s'->RelV v u->Q v H'->CE outer P w H s Q u s':=
  λ{σ' H' v u} J rv q=>⟨v,H',J.os,J.bare,J.base,J.hok,rv,q⟩
 cases fl with
 |ret u=>
  obtain⟨v,σ',H',J,rv,q⟩:=hs;exact fin J rv q
 |next=>
  obtain⟨σ',H',J,q⟩:=hs;exact fin (v:=V.non) (u:=Value.none) J rfl q
 |brk=>
  obtain⟨_,_,_,q⟩:=hs;exact False.elim q
 |cont=>
  obtain⟨_,_,_,q⟩:=hs;exact False.elim q
section
variable {X:Cx} {x:Str} {p pos:Pos} {e:Expr} {es:List Expr} {t:TA} {id T:String} {r:List V->Hp->VK->Prop}
def IX(r:List V->Hp->VK->Prop)(t:TA):TE:=λσ H Q=>t σ H λvs H1=>r vs H1 Q
theorem bD(hc:dX X (.builtin id) r)(hg:Gl X x)(hm:X.mg x=none)(hv:bootBuiltins x=some (.builtin id))(ha:PA X (e::es) t)(hn:x≠ "__name__":=by decide)(hdb:(x==("__debug__":Str))=false:=by decide)
 (he:starEach (e::es) X.env=(false,eval e X.env)::starEach es X.env:=by rfl) (hpl:(backTo pos (starEach es X.env)).any (·.1)=false:=by rfl):PE X (.Call (.Name x p) (e::es) [] pos) (IX r t):=by
 intro pins s σ H Q I h;refine wpAny_Call_Name_kw (jn I hg hm hv ?_ hn hdb);exact PyProof.Rows.callWith_builtin1 (bq (ha pos pins s σ H _ I h) λus s1 q_=>by obtain⟨vs,H1,I1,r1,q1⟩:=q_;exact hc pins s1 σ H1 vs us Q I1 r1 q1) he hpl
theorem cY(hc:dX X (.type T) r)(hg:Gl X x)(hm:X.mg x=none)(hv:bootBuiltins x=some (.type T))(ha:PA X (e::es) t)(hn:x≠ "__name__":=by decide)(hdb:(x==("__debug__":Str))=false:=by decide)
 (he:starEach (e::es) X.env=(false,eval e X.env)::starEach es X.env:=by rfl) (hpl:(backTo pos (starEach es X.env)).any (·.1)=false:=by rfl):PE X (.Call (.Name x p) (e::es) [] pos) (IX r t):=by
 intro pins s σ H Q I h;refine wpAny_Call_Name_kw (jn I hg hm hv ?_ hn hdb);exact PyProof.Rows.callWith_type1 (bq (ha pos pins s σ H _ I h) λus s1 q_=>by obtain⟨vs,H1,I1,r1,q1⟩:=q_;exact hc pins s1 σ H1 vs us Q I1 r1 q1) he hpl
end
end L2
namespace HT
open PySem PyProof.Rows
section
open PySem.SeqAt
open PySem.AutoSeq1 (wpAny_loadPart')
open PySem.MeetsSeq PySem.MeetsSeq2 PySem.MeetsSeq3
end
section
variable {prog:Program} {w:World} {A:Around} {E:`d} {s:Shared}
theorem IY {t b:Addr}{vs ws:List Value}{Q:`d}(ht:IsTup s.heap t vs.toArray)(hb:IsTup s.heap b ws.toArray)(hv:vs≠[])
 (h1:ws=[]->Q (.ref t) s) (h2:ws≠[]->Q (.ref `a) {s with heap:=s.heap.push {cls:=.type "tuple",data:=.seq (vs++ws).toArray}})
 (hsz:vs.length+ws.length<=sizeLine):wpAny `m A (binaryOp .Add (.ref t) (.ref b)) Q E s:=by
 obtain⟨⟨cls,dd,data,sl⟩,ho,hc,n,hd⟩:=id ht;obtain⟨⟨cls2,dd2,data2,sl2⟩,ho2,hc2,n2,hd2⟩:=id hb;simp only at hc hd hc2 hd2;subst hc hd hc2 hd2;have e:vs.toArray++ws.toArray=(vs++ws).toArray:=by simp
 by_cases hw:ws=[]
 . exact concat_meets ⟨_,ho,rfl⟩ ⟨_,ho2,rfl⟩ noFill_tuple_add seq_tuple_add PySem.F.slot_tuple_add PySem.F.entry_tuple_add (PySem.F.args_tuple_add_2 _ _)
    (tuple_addW1 t b vs.toArray ws.toArray n n2 dd dd2 sl sl2 (by simpa using hv) (by simp [hw])) ⟨ho,ho2,h1 hw⟩
 . refine concat_meets ⟨_,ho,rfl⟩ ⟨_,ho2,rfl⟩ noFill_tuple_add seq_tuple_add PySem.F.slot_tuple_add PySem.F.entry_tuple_add (PySem.F.args_tuple_add_2 _ _)
    (tuple_addW2 t b vs.toArray ws.toArray n n2 dd dd2 sl sl2 (by simpa using hv) (by simpa using hw) (by rw [zM,zM];exact hsz)) ⟨ho,ho2,?_⟩
   rw [e];exact h2 hw
end
end HT
namespace L2
open PySem PySem.Spec PyProof.Rows
abbrev TO:=St->Hp->(Option Int->Hp->Prop)->Prop
section
variable {X:Cx} {e:Expr} {te:TE} {lo hi:Option Expr} {tl th:TO} {pos p2:Pos}
def NM(K:Fg):R2:=λx y H Q=>∃a b xs ys,x=.ref a/\y=.ref b/\SqT K H a xs/\SqT K H b ys/\xs≠[]/\xs.length+ys.length<=sizeLine/\
 (ys=[]->Q (.ref a) H)/\(ys≠[]->∀p,H p=none->Q (.ref p) (bC H p (.tup (xs++ys))))
theorem Vals.nil_iff {xs:List V}{us:List Value}(r:Vals xs us):us=[]↔xs=[]:=by
 cases r with
 |nil=>simp
 |cons _ _=>simp
theorem IZ:OpR X (binaryOp .Add) (NM X.K):=by
 intro pins s σ H x y v u Q I rx ry h;obtain⟨a,b,xs,ys,rfl,rfl,ha,hb,hx,hz,q1,q2⟩:=h;cases rx;cases ry;obtain⟨its,r1,p1,_⟩:=I.tuple ha;obtain⟨its2,r2,p2,_⟩:=I.tuple hb;refine HT.IY p1 p2 (λz=>hx (r1.nil_iff.mp z)) (λz=>⟨.ref a,H,I,rfl,q1 (r2.nil_iff.mp z)⟩) (λz=>?_) (by rw [<-r1.length, <-r2.length];exact hz)
 refine⟨.ref `a,_,I.laid (t':=s.toks) (o:=.tup (xs++ys)) (λb ob q=>df _ q) (Q1 _) ?_,rfl,q2 (λw=>z (r2.nil_iff.mpr w)) _ (I.hok.fresh (Q1 _))⟩;exact⟨by rw [zQ];exact hz,_,r1.append r2,IsTup.new _ _,_,fU _ rfl,rfl⟩
end
noncomputable def I0(n:Nat)(i:Int):Option Nat:=if 0<=i then(if i < n then some i.toNat else none)else if -(n:Int)<=i then some (i+n).toNat else none
def uS {α:Type}(xs:List α)(i:Int):Option α:=(I0 xs.length i).bind λj=>xs[j]?
theorem B7 {n:Nat}{i:Int}{j:Nat}(h:I0 n i=some j):seqIndex? i n=some j/\j < n/\ -(n:Int)<=i/\i < n:=by
 unfold I0 at h
 by_cases h0:0<=i
 . rw [if_pos h0]at h
   by_cases h1:i < n
   . rw [if_pos h1]at h;have e:i.toNat=j:=zV h;exact⟨by rw [seqIndex_of h0 h1,e],by lia,by lia,h1⟩
   . rw [if_neg h1]at h;cases h
 . rw [if_neg h0]at h
   by_cases h1: -(n:Int)<=i
   . rw [if_pos h1]at h;have e:(i+n).toNat=j:=zV h;exact⟨by rw [seqIndex_neg `e h1,e],by lia,h1,by lia⟩
   . rw [if_neg h1]at h;cases h
theorem wF {α:Type}{xs:List α}{i:Int}{v:α}(h:uS xs i=some v):∃j,seqIndex? i xs.length=some j/\xs[j]? =some v/\j < xs.length/\ -(xs.length:Int)<=i/\i < xs.length:=by
 unfold uS at h;cases e:I0 xs.length i with
 |none=>rw [e]at h;cases h
 |some j=>
  rw [e]at h;obtain⟨h1,h2,h3,h4⟩:=B7 e;exact⟨j,h1,h,h2,h3,h4⟩
theorem Ia {α:Type}{xs:List α}{j:Nat}{v:α}(h:xs[j]? =some v):uS xs (j:Int)=some v:=by
 have hj:j < xs.length:=(C6.mp h).1;have e:I0 xs.length (j:Int)=some j:=by
  unfold I0;rw [if_pos `e,if_pos `e];simp
 unfold uS;rw [e];exact h
def Ib(b:Expr):Prop:=∀o i,subscripted b false o i=operate [o,i] (getItem o i)
def IxR(X:Cx)(r:R2):Prop:=
 ∀(value slice:Expr) (pins:`k) (s:Shared) (σ:St) (H:Hp) (x y:V) (v u:Value) (Q:VK),Inv X pins σ H s->RelV x v->RelV y u->r x y H Q->
  subscripted slice false v u=operate [v,u] (getItem v u)->wpAny `i X.A (subscriptTail value slice v u) (EP X pins σ Q) X.xe s
def Ou(X:Cx)(id:String)(r:V->List V->Hp->VK->Prop):Prop:=
 ∀(pins:`k) (s:Shared) (σ:St) (H:Hp) (x:V) (xs:List V) (v:Value) (us:List Value) (Q:VK),Inv X pins σ H s->RelV x v->Vals xs us->r x xs H Q->
  wpAny `i X.A (call (.builtin id) (v::us)) (EP X pins σ Q) X.xe s
section
variable {X:Cx} {a b:Expr} {ta tb:TE} {pos:Pos}
theorem IxR.or {r r':R2}(h:IxR X r)(h':IxR X r'):IxR X (λx y H Q=>r x y H Q\/r' x y H Q):=by
 intro value slice pins s σ H x y v u Q I rx ry q hs
 rcases q with q|q
 . exact h value slice pins s σ H x y v u Q I rx ry q hs
 . exact h' value slice pins s σ H x y v u Q I rx ry q hs
theorem bh {r:R2}(hr:IxR X r)(ha:PE X a ta)(hb:PE X b tb)(hs:Ib b):PE X (.Subscript a b pos) (LY r ta tb):=by
 intro pins s σ H Q I h;exact Subscript_ (LZ ha hb I h λv u s2 x y H2 I2 rx ry q=>hr a b pins s2 σ H2 x y v u Q I2 rx ry q (hs _ _))
def NO(K:Fg):R2:=λx y H Q=>∃p xs i v,x=.ref p/\y=.int i/\SqL K H p xs/\uS xs i=some v/\Q v H
def NP(K:Fg):R2:=λx y H Q=>∃p xs i v,x=.ref p/\y=.int i/\SqT K H p xs/\uS xs i=some v/\Q v H
def NQ:R2:=λx y H Q=>∃z i c,x=.str z/\y=.int i/\z.length<=sizeLine/\uS z.cps.toList i=some c/\Q (.str ⟨#[c]⟩) H
theorem Ic:IxR X (NO X.K):=by
 intro value slice pins s σ H x y v u Q I rx ry h hs;obtain⟨p,xs,i,z,rfl,rfl,hq,he,q⟩:=h;cases rx;obtain⟨t,rfl⟩:=ry;obtain⟨its,r,pl,hz⟩:=I.list hq;obtain⟨j,h1,h2,h3,h4,h5⟩:=wF he;obtain⟨w,ew,rw'⟩:=r.get h2;have hl:=r.length;have hn:=pM;have fin:EP X pins σ Q w s:=⟨z,H,I,rw',q⟩
 by_cases h0:0<=i
 . have hj:i.toNat=j:=by
    rw [seqIndex_of h0 h5]at h1;exact zV h1
   exact item_listR pl.isList h0 `e (by rw [hj];simpa using ew) fin hs
 . have hj:(i+(its.toArray.size:Int)).toNat=j:=by
    rw [seqIndex_neg `e h4]at h1
    rw [zM, <-hl];exact zV h1
   exact subscriptTail_builtinR (x:=w) pl.isList.typeIs slot_list_getitem.lookup
    (wpAny_getItem_list_neg (Q:=λr s'=>r=w/\EP X pins σ Q r s') pl.isList `e (by rw [zM]<;>lia) `e (by rw [hj];simpa using ew) ⟨rfl,fin⟩) hs
theorem L7:IxR X (NP X.K):=by
 intro value slice pins s σ H x y v u Q I rx ry h hs;obtain⟨p,xs,i,z,rfl,rfl,hq,he,q⟩:=h;cases rx;obtain⟨t,rfl⟩:=ry;obtain⟨its,r,pl,hz⟩:=I.tuple hq;obtain⟨j,h1,h2,h3,h4,h5⟩:=wF he;obtain⟨w,ew,rw'⟩:=r.get h2;have hl:=r.length;have hn:=pM;have fin:EP X pins σ Q w s:=⟨z,H,I,rw',q⟩;exact subscriptTail_builtinR (x:=w) pl.typeIs slot_tuple_getitem.lookup
  (getItem_tuple (j:=j) (Q:=λr s'=>r=w/\EP X pins σ Q r s') pl `e `e (by rw [zM, <-hl];exact h1) (by simpa using ew) ⟨rfl,fin⟩) hs
theorem L8:IxR X NQ:=by
 intro value slice pins s σ H x y v u Q I rx ry h hs;obtain⟨z,i,c,rfl,rfl,hz,he,q⟩:=h;obtain⟨t,rfl⟩:=rx;obtain⟨t',rfl⟩:=ry;obtain⟨j,h1,h2,h3,h4,h5⟩:=wF he;have hl:z.cps.toList.length=z.length:=by simp [Str.length]
 rw [hl]at h1 h4 h5;have hn:=pM;exact tail_any (typeIs_str s z t) slot_str_getitem.lookup (getItem_str (c:=c) (by
  have e1:decide (i < -(2 ^ 63:Int))=false:=decide_eq_false `e
  have e2:decide (i>=2 ^ 63)=false:=decide_eq_false `e
  rw [e1,e2,Bool.or_false]) (by rw [h1];simpa using h2) ⟨.str ⟨#[c]⟩,H,I.tok _,⟨_,rfl⟩,q⟩) hs
def P4(K:Fg):R2:=λx y H Q=>NO K x y H Q\/NP K x y H Q\/NQ x y H Q
theorem L9:IxR X (P4 X.K):=Ic.or (L7.or L8)
theorem AR(its:List Value)(n j:Nat)(u:Value):Obj.mapSeq (·.setIfInBounds j u) {cls:=.type "list",data:=.seq its.toArray n}={cls:=.type "list",data:=.seq (its.set j u).toArray n}:=by
 simp [Obj.mapSeq]
theorem Inv.lst {pins:`k}{σ:St}{H:Hp}{s:Shared}{p:Addr}{xs:List V}(I:`h)(h:H p=some (.lst xs)):
 ∃(its:List Value) (n:Nat),Vals xs its/\s.heap.get? p=some {cls:=.type "list",data:=.seq its.toArray n}/\xs.length<=sizeLine:=by
 obtain⟨z,its,n,r,e⟩:=I.hok p _ h;exact⟨its,n,r,e,z⟩
variable {s:Shared}{pins:`k}
theorem Inv.lstUpd {σ:St}{H:Hp}{p:Addr}{xs ys:List V}{its its':List Value}{n n':Nat}{f:Obj->Obj}(I:`h)(h:H p=some (.lst xs))
 (ho:s.heap.get? p=some {cls:=.type "list",data:=.seq its.toArray n}) (hf:f {cls:=.type "list",data:=.seq its.toArray n}={cls:=.type "list",data:=.seq its'.toArray n'}) (r:Vals ys its') (hz:ys.length<=sizeLine) (t:Nat):
 Inv X pins σ (bC H p (.lst ys)) {s with heap:=s.heap.update p f,toks:=t}:=by
 have e:(s.heap.update p f).get? p=some {cls:=.type "list",data:=.seq its'.toArray n'}:=by
  rw [ID f ho (by rw [hf]<;>rfl),hf]
 refine I.write (x:=p) (e:=p) (by rw [h];trivial) (.inl rfl) (λb u hb q=>(xQ _ _ (Ne.symm hb)).trans q) ⟨_,e⟩ ?_
 exact⟨hz,its',n',r,e⟩
def Ka:V->V->V->Hp->(Hp->Prop)->Prop:=λo i v H Q=>∃p xs k j,o=.ref p/\i=.int k/\H p=some (.lst xs)/\I0 xs.length k=some j/\Q (bC H p (.lst (xs.set j v)))
theorem Ei:NI X Ka:=by
 intro pins s σ H o i v ov iv u Q I ro ri rv h;obtain⟨p,xs,k,j,rfl,rfl,hp,hj,q⟩:=h;cases ro;obtain⟨t,rfl⟩:=ri;obtain⟨its,n,r,ho,hz⟩:=I.lst hp;obtain⟨h1,h2,h3,h4⟩:=B7 hj;have hl:=r.length;have hn:=pM;have I':Inv X pins σ (bC H p (.lst (xs.set j v))) {s with heap:=s.heap.update p (Obj.mapSeq (·.setIfInBounds j u))}:=
  I.lstUpd hp ho (AR its n j u) (r.set rv j) (by rw [Q9];exact hz) s.toks
 by_cases h0:0<=k
 . have hk:k.toNat=j:=by
    rw [seqIndex_of h0 h4]at h1;exact zV h1
   exact PySem.W.ki_setAt ho h0 `e (by rw [zM, <-hl];exact h4) (by rw [hk];exact⟨_,I',q⟩)
 . have hk:(k+(its.toArray.size:Int)).toNat=j:=by
    rw [seqIndex_neg `e h3]at h1
    rw [zM, <-hl];exact zV h1
   exact PySem.W.ki_setBack ho `e (by rw [zM, <-hl];exact h3) `e (by rw [hk];exact⟨_,I',q⟩)
noncomputable def mH:V->Bool
 | .non=>true
 | .bl _=>true
 | .int _=>true
 | .str _=>true
 |_=>false
noncomputable def Cm:V->V->Bool
 | .non,.non=>true
 | .bl a,.bl b=>a==b
 | .bl a,.int b=>(if a then 1 else 0)==b
 | .int a,.bl b=>a==(if b then 1 else 0)
 | .int a,.int b=>a==b
 | .str a,.str b=>a==b
 |_,_=>false
variable {v:Value}{x:V}
theorem La {A:Around}{y:V}{u:Value}(ry:RelV y u)(rx:RelV x v)(fy:mH y=true)(fx:mH x=true):SeqAt.EqAt A s u v (Cm y x):=by
 cases y with
 |non=>
  cases ry;cases x with
  |non=>cases rx;exact SeqAt.EqAt.same _
  |bl b=>cases rx;exact SeqAt.EqAt.none_bool b
  |int b=>obtain⟨t,rfl⟩:=rx;exact SeqAt.EqAt.none_int b t
  |str b=>obtain⟨t,rfl⟩:=rx;exact SeqAt.EqAt.none_str b t
  |_=>exact absurd (show false=true from fx) Q4
 |bl a=>
  cases ry;cases x with
  |non=>cases rx;exact SeqAt.EqAt.bool_none a
  |bl b=>cases rx;exact SeqAt.EqAt.bool_bool a b
  |int b=>obtain⟨t,rfl⟩:=rx;exact SeqAt.EqAt.bool_int a b t
  |str b=>obtain⟨t,rfl⟩:=rx;exact SeqAt.EqAt.bool_str a b t
  |_=>exact absurd (show false=true from fx) Q4
 |int a=>
  obtain⟨t',rfl⟩:=ry;cases x with
  |non=>cases rx;exact SeqAt.EqAt.int_none a t'
  |bl b=>cases rx;exact SeqAt.EqAt.int_bool a t' b
  |int b=>obtain⟨t,rfl⟩:=rx;exact SeqAt.EqAt.int_int a t' b t
  |str b=>obtain⟨t,rfl⟩:=rx;exact SeqAt.EqAt.int_str a t' b t
  |_=>exact absurd (show false=true from fx) Q4
 |str a=>
  obtain⟨t',rfl⟩:=ry;cases x with
  |non=>cases rx;exact SeqAt.EqAt.str_none a t'
  |bl b=>cases rx;exact SeqAt.EqAt.str_bool a t' b
  |int b=>obtain⟨t,rfl⟩:=rx;exact SeqAt.EqAt.str_int a t' b t
  |str b=>obtain⟨t,rfl⟩:=rx;exact SeqAt.EqAt.str_str a t' b t
  |_=>exact absurd (show false=true from fx) Q4
 |_=>exact absurd (show false=true from fy) Q4
def EN(x:V)(u:Value):Bool:=match u with
 | .none=>Cm .non x
 | .bool b=>Cm (.bl b) x
 | .int i _=>Cm (.int i) x
 | .str z _=>Cm (.str z) x
 |_=>false
theorem Ej {y:V}{u:Value}(r:RelV y u)(f:mH y=true):EN x u=Cm y x:=by
 cases y with
 |non=>cases r;rfl
 |bl b=>cases r;rfl
 |int i=>obtain⟨t,rfl⟩:=r;rfl
 |str z=>obtain⟨t,rfl⟩:=r;rfl
 |_=>exact absurd (show false=true from f) Q4
theorem B8 {xs:List V}{us:List Value}(h:Vals xs us)(f:xs.all mH=true):us.any (EN x)=xs.any λy=>Cm y x:=by
 induction h with
 |nil=>rfl
 |cons r t ih=>
  rw [List.all_cons,Q5]at f;rw [EV,EV,Ej r f.1,ih f.2]
theorem xZ {A:Around}(rx:RelV x v)(fx:mH x=true){xs:List V}{us:List Value}(h:Vals xs us)(f:xs.all mH=true):∀u∈us,SeqAt.EqAt A s u v (EN x u):=by
 induction h with
 |nil=>exact λu hu=>by cases hu
 |cons r t ih=>
  intro u' hu;rw [List.all_cons,Q5]at f
  rcases Q3.mp hu with rfl|hu
  . rw [Ej r f.1];exact La r rx f.1 fx
  . exact ih f.2 u' hu
def Ov(x:V)(xs:List V):Bool:=xs.any λy=>Cm y x
def P5(K:Fg)(neg:Bool):R2:=λx y H Q=>∃p xs,y=.ref p/\(SqL K H p xs\/SqT K H p xs)/\mH x=true/\xs.all mH=true/\Q (.bl (if neg then !Ov x xs else Ov x xs)) H
theorem Co:OpR X (compareOp .In) (P5 X.K false):=by
 intro pins s σ H x y v u Q I rx ry h;obtain⟨p,xs,rfl,hq,fx,fs,q⟩:=h;cases ry
 rcases hq with hq|hq
 . obtain⟨its,r,pl,hz⟩:=I.list hq;refine SeqAt.in_listAt (EN x) pl.isList (λw hw=>xZ rx fx r fs w (by simpa using hw)) ⟨.bl _,H,I,rfl,?_⟩
   rw [show its.toArray.any (EN x)=its.any (EN x)by simp,B8 r fs]
   exact q
 . obtain⟨its,r,pl,hz⟩:=I.tuple hq;refine SeqAt.in_tupleAt (EN x) pl (λw hw=>xZ rx fx r fs w (by simpa using hw)) ⟨.bl _,H,I,rfl,?_⟩
   rw [show its.toArray.any (EN x)=its.any (EN x)by simp,B8 r fs]
   exact q
theorem wG:dX X (.type "list") (λxs H Q=>∃p ys,xs=[.ref p]/\(SqL X.K H p ys\/SqT X.K H p ys)/\∀l,H l=none->Q (.ref l) (bC H l (.lst ys))):=by
 intro pins s σ H xs us Q I r h;obtain⟨p,ys,rfl,hq,q⟩:=h;obtain⟨u,rfl,rx⟩:=mG r;cases rx;have fin:∀(its:List Value),Vals ys its->ys.length<=sizeLine->∀(h':Heap) (c':Nat),(∀b o',s.heap.get? b=some o'->h'.get? b=some o')->
  h'.get? `a=some {cls:=.type "list",dict:=none,data:=.seq its.toArray c',slots:= #[]}->EP X pins σ Q (.ref `a) {s with heap:=h'}:=λits r' hz h' c' kp e=>
  ⟨.ref `a,_,I.laid (t':=s.toks) kp (Q1 _) (show ObjOk X.prog X.w _ h' _ (.lst ys)from ⟨hz,its,c',r',e⟩),rfl,q _ (I.hok.fresh (Q1 _))⟩
 rcases hq with hq|hq
 . obtain⟨its,r',pl,hz⟩:=I.list hq;have hlen:=r'.length;obtain⟨o,ho,hc,n,hd⟩:=pl.isList;exact call_list_seq p (.inl rfl) ho hc hd (λh' c' kp e=>fin its r' hz h' c' kp e) (by simp only [zM]<;>lia)
 . obtain⟨its,r',pl,hz⟩:=I.tuple hq;have hlen:=r'.length;obtain⟨o,ho,hc,n,hd⟩:=pl;exact call_list_seq p (.inr rfl) ho hc hd (λh' c' kp e=>fin its r' hz h' c' kp e) (by simp only [zM]<;>lia)
theorem uT:dX X (.type "tuple") (λxs H Q=>∃p ys,xs=[.ref p]/\((SqL X.K H p ys/\∀l,H l=none->Q (.ref l) (bC H l (.tup ys)))\/(SqT X.K H p ys/\Q (.ref p) H))):=by
 intro pins s σ H xs us Q I r h;obtain⟨p,ys,rfl,h⟩:=h;obtain⟨u,rfl,rx⟩:=mG r;cases rx
 rcases h with ⟨hq,q⟩|⟨hq,q⟩
 . obtain⟨its,r',pl,hz⟩:=I.list hq;have hlen:=r'.length;refine call_tuple_list pl.isList (λh' kp=>?_) (by simp only [zM]<;>lia)
   have I1:Inv X pins σ H {s with heap:=h'}:=I.kept (t':=s.toks) kp
   have I2:Inv X pins σ (bC H h'.objs.size (.tup ys)) {s with heap:=h'.push {cls:=.type "tuple",data:=.seq its.toArray}}:=
    I1.laid (t':=s.toks) (λb o e=>df _ e) (Q1 _) (show ObjOk X.prog X.w _ _ _ (.tup ys)from ⟨hz,its,r',IsTup.new _ _,_,fU _ rfl,rfl⟩)
   exact⟨.ref h'.objs.size,_,I2,rfl,q _ (I1.hok.fresh (Q1 _))⟩
 . obtain⟨its,r',pl,hz⟩:=I.tuple hq;exact call_tuple_same pl ⟨.ref p,H,I,rfl,q⟩
def Ow(K:Fg)(T:String)(x:V)(H:Hp):Prop:=match x with
 | .str _=>T="str"
 | .int _=>T="int"
 | .ref p=>(T="list"/\∃xs,SqL K H p xs)\/(T="tuple"/\∃o,K.lookup p=some o/\o.cls=.type "tuple"/\o.dict=none)\/
  (T="dict"/\((∃kvs,H p=some (.dK kvs))\/∃kvs,H p=some (.dT kvs)))\/(T="set"/\∃S n,H p=some (.set S n))
 |_=>False
theorem El {σ:St}{H:Hp}{T:String}(I:`h)(r:RelV x v)(ty:Ow X.K T x H):
 s.TypeIs v T/\∀a,v=.ref a->∃ob,s.heap.get? a=some ob/\ob.dict=none:=by
 cases x with
 |str z=>
  obtain⟨t,rfl⟩:=r;cases (show T="str" from ty)
  exact⟨typeIs_str s z t,λ_ e=>nomatch e⟩
 |int i=>
  obtain⟨t,rfl⟩:=r;cases (show T="int" from ty)
  exact⟨typeIs_int s i t,λ_ e=>nomatch e⟩
 |ref p=>
  cases r
  rcases ty with ⟨rfl,xs,hq⟩|⟨rfl,o,hk,hc,hd⟩|⟨rfl,hk⟩|⟨rfl,S,n,hk⟩
  . obtain⟨its,_,pl,_⟩:=I.list hq;refine⟨pl.isList.typeIs,λa e=>?_⟩;cases e;obtain⟨o,n,e,c,hd,_⟩:=pl;exact⟨o,e,hd⟩
  . refine⟨⟨o,I.kIn p o hk,hc⟩,λa e=>?_⟩;cases e;exact⟨o,I.kIn _ o hk,hd⟩
  . have z:∃o,s.heap.get? p=some o/\o.ExactDict:=by
     rcases hk with ⟨kvs,hk⟩|⟨kvs,hk⟩
     . obtain⟨_,_,_,_,o,_,_,e,ex,_⟩:=I.hok p _ hk;exact⟨o,e,ex⟩
     . obtain⟨_,_,_,_,o,_,_,e,ex,_⟩:=I.hok p _ hk;exact⟨o,e,ex⟩
    obtain⟨o,e,ex⟩:=z;refine⟨⟨o,e,ex.1⟩,λa e2=>?_⟩;cases e2;exact⟨o,e,ex.2.1⟩
  . obtain⟨o,_,_,_,e,ex,_⟩:=I.hok p _ hk;refine⟨⟨o,e,ex.1⟩,λa e2=>?_⟩;cases e2;exact⟨o,e,ex.2.1⟩
 |_=>exact False.elim ty
def Lb(K:Fg)(T:String)(r:V->List V->Hp->VK->Prop)(to:TE):TE:=λσ H Q=>to σ H λx H1=>Ow K T x H1/\r x [] H1 Q
def IH(K:Fg)(T:String)(r:V->List V->Hp->VK->Prop)(to:TE)(t:TA):TE:=λσ H Q=>to σ H λx H1=>Ow K T x H1/\t σ H1 λxs H2=>r x xs H2 Q
variable {o e:Expr} {es:List Expr} {to:TE} {t:TA} {name:Str} {apos cpos:Pos} {T id:String} {r:V->List V->Hp->VK->Prop}
theorem En(pa:PlainAttrs T)(slot:Slot T name id)(hty:typeOf (.builtin id)=pure (.type "method_descriptor"))(hm:Ou X id r)(ho:PE X o to)
 (hbase:attributeBase o name X.env (eval o X.env)=eval o X.env:=by rfl) (hline:(apos.endLine==cpos.line)=true:=by rfl):PE X (.Call (.Attribute o name apos) [] [] cpos) (Lb X.K T r to):=by
 intro pins s σ H Q I h;refine wpAny_Call_method0_late hbase hline (bq (ho pins s σ H _ I h) λv s1 q_=>?_);obtain⟨x,H1,I1,r1,ty,q1⟩:=q_;obtain⟨h1,h2⟩:=El I1 r1 ty;exact⟨T,id,pa,slot,hty,h1,h2,Calls.callWith_builtin rfl (PySem.evalArgs_none (hm pins s1 σ H1 x [] v [] Q I1 r1 .nil q1))⟩
theorem k8(pa:PlainAttrs T)(slot:Slot T name id)(hty:typeOf (.builtin id)=pure (.type "method_descriptor"))(hm:Ou X id r)(ho:PE X o to)(ha:PA X (e::es) t)
 (hbase:attributeBase o name X.env (eval o X.env)=eval o X.env:=by rfl)
 (hfew : ((backTo cpos (starEach (e :: es) X.env)).all (λ x => !x.1) && (backToKw cpos (keywordEach [] X.env)).all (λ x => x.1.isSome)
  &&decide ((e::es).length+([]:List Keyword).length+(if([]:List Keyword).isEmpty then 0 else 1) < 30))=true:=by rfl)
 (hline:(apos.endLine==cpos.line)=true:=by rfl) (hs:starEach (e::es) X.env=(false,eval e X.env)::starEach es X.env:=by rfl) (hplain:(backTo cpos (starEach es X.env)).any (·.1)=false:=by rfl):
 PE X (.Call (.Attribute o name apos) (e::es) [] cpos) (IH X.K T r to t):=by
 intro pins s σ H Q I h;refine wpAny_Call_method_late hbase hfew hline rfl (bq (ho pins s σ H _ I h) λv s1 q_=>?_);obtain⟨x,H1,I1,r1,ty,q1⟩:=q_;obtain⟨h1,h2⟩:=El I1 r1 ty;refine⟨T,id,pa,slot,hty,h1,h2,?_⟩;have hA:=ha cpos pins s1 σ H1 _ I1 q1;rw [hs]at hA ⊢;refine Calls.callWith_builtin (by show (false||(backTo cpos (starEach es X.env)).any (·.1))=false;rw [hplain]<;>rfl) (Calls.evalArgs_plain ?_)
 exact bq hA λus s2 q_=>by obtain⟨vs,H2,I2,r2,q2⟩:=q_;exact hm pins s2 σ H2 x vs v us Q I2 r1 r2 q2
end
def P6(X:Cx)(id:String)(r:V->List V->Hp->VK->Prop):Prop:=
 ∀(pins:`k) (s:Shared) (σ:St) (H:Hp) (x:V) (xs:List V) (v:Value) (us:List Value) (Q:VK),Inv X pins σ H s->RelV x v->Vals xs us->r x xs H Q->
  wpAny `i X.A (call (.builtin id) (v::us)) (EP X pins σ Q) X.xe s
theorem Vals.one:∀{x:V} {us:List Value},Vals [x] us->∃u,us=[u]/\RelV x u
 |_,_,h=>by cases h with|cons r t=>cases t;exact⟨_,rfl,r⟩
theorem Vals.two:∀{x y:V} {us:List Value},Vals [x,y] us->∃u v,us=[u,v]/\RelV x u/\RelV y v
 |_,_,_,h=>by
  cases h with
  |cons r t=>
   obtain⟨v,e,q⟩:=Vals.one t;subst e;exact⟨_,_,rfl,r,q⟩
section
variable {X:Cx} {pins:`k} {σ:St} {H:Hp} {s:Shared} {l b:Addr} {xs ys zs:List V}
theorem Inv.lset {its its':List Value}{n:Nat}{f:Array Value->Array Value}{t':Nat}(I:`h)(hH:H l=some (.lst xs))
 (e:s.heap.get? l=some {cls:=.type "list",data:=.seq its.toArray n}) (hf:f its.toArray=its'.toArray) (hv:Vals ys its') (hz:ys.length<=sizeLine):
 Inv X pins σ (bC H l (.lst ys)) {s with heap:=s.heap.update l (Obj.mapSeq f),toks:=t'}:=by
 have q:=PySem.IsL.update e f;rw [hf]at q;refine I.write (x:=l) (e:=l) (by rw [hH];exact trivial) (.inl rfl) (λb' u hb hu=>(xQ s.heap (Obj.mapSeq f) (Ne.symm hb)).trans hu) ⟨_,q⟩ ?_
 exact⟨hz,its',_,hv,q⟩
theorem Inv.lnew {its:List Value}{t':Nat}(I:`h)(hv:Vals ys its)(hz:ys.length<=sizeLine):
 Inv X pins σ (bC H `a (.lst ys)) {s with heap:=s.heap.push {cls:=.type "list",data:=.seq its.toArray},toks:=t'}:=
 I.laid (λ_ _ q=>df _ q) (Q1 _) ⟨hz,its,0,hv,fU _ rfl⟩
theorem Inv.fresh(I:`h):H `a=none:=I.hok.fresh (Q1 _)
theorem Inv.lstM(I:`h)(hH:H l=some (.lst xs)):xs.length<=sizeLine/\∃(its:List Value) (n:Nat),Vals xs its/\xs.length=its.length/\s.heap.get? l=some {cls:=.type "list",data:=.seq its.toArray n}:=by
 obtain⟨z,its,n,r,e⟩:=I.hok l _ hH;exact⟨z,its,n,r,r.length,e⟩
theorem Eo {n:Nat}(h:n<=sizeLine):Builtin.List.listTooLong n=false:=by
 unfold Builtin.List.listTooLong;exact decide_eq_false `e
end
section
variable {X:Cx}
def iK:V->List V->Hp->VK->Prop:=λx vs H Q=>∃l xs y,x=.ref l/\vs=[y]/\H l=some (.lst xs)/\xs.length < sizeLine/\Q .non (bC H l (.lst (xs++[y])))
theorem dj:P6 X "list.append" iK:=by
 intro pins s σ H x vs v us Q I rx rv h;obtain⟨l,xs,y,rfl,rfl,hH,hz,q⟩:=h;cases rx;obtain⟨u,rfl,ru⟩:=rv.one;obtain⟨z,its,n,r,hl,e⟩:=I.lstM hH;refine call_meets F.slot_list_append ⟨_,e,rfl⟩ F.entry_list_append (F.args_list_append_2 _ _) (PySem.list_append l its.toArray n u (by rw [zM];lia)) ⟨e,?_⟩
 refine⟨.non,_,I.lset (its':=its++[u]) hH e (by simp) (r.append (.cons ru .nil)) ?_,rfl,q⟩
 rw [zQ,Mt];lia
def B9:V->List V->Hp->VK->Prop:=λx vs H Q=>∃l b xs zs,x=.ref l/\vs=[.ref b]/\H l=some (.lst xs)/\H b=some (.lst zs)/\xs.length+zs.length<=sizeLine/\Q .non (bC H l (.lst (xs++zs)))
theorem vA:P6 X "list.extend" B9:=by
 intro pins s σ H x vs v us Q I rx rv h;obtain⟨l,b,xs,zs,rfl,rfl,hH,hB,hz,q⟩:=h;cases rx;obtain⟨u,rfl,ru⟩:=rv.one;cases ru;obtain⟨z,its,n,r,hl,e⟩:=I.lstM hH;obtain⟨z2,its2,n2,r2,hl2,e2⟩:=I.lstM hB;have hsz:its.toArray.size+its2.toArray.size<=sizeLine:=by rw [zM,zM];lia
 have hlong:¬(!its.toArray.isEmpty&&Builtin.List.listTooLong (its.toArray.size+its2.toArray.size))=true:=by
  rw [Eo hsz,Bool.and_false];exact Q4
 refine call_meets F.slot_list_extend ⟨_,e,rfl⟩ F.entry_list_extend (F.args_list_extend_2 _ _)
  (AutoSeq1.list_extend_list_list_0 l its.toArray n b its2.toArray n2 hlong (by rw [zM];lia) `e) ⟨e,e2,?_⟩
 refine⟨.non,_,I.lset (its':=its++its2) hH e (by simp) (r.append r2) ?_,rfl,q⟩
 rw [zQ];lia
def NR:R2:=λx y H Q=>∃l b xs zs,x=.ref l/\y=.ref b/\H l=some (.lst xs)/\H b=some (.lst zs)/\xs.length+zs.length<=sizeLine/\∀p,H p=none->Q (.ref p) (bC H p (.lst (xs++zs)))
theorem Lc:OpR X (binaryOp .Add) NR:=by
 intro pins s σ H x y v u Q I rx ry h;obtain⟨l,b,xs,zs,rfl,rfl,hH,hB,hz,q⟩:=h;cases rx;cases ry;obtain⟨z,its,n,r,hl,e⟩:=I.lstM hH;obtain⟨z2,its2,n2,r2,hl2,e2⟩:=I.lstM hB;refine PySem.P.add_list e e2 ?_ (by rw [zM,zM];lia)
 have ea:its.toArray++its2.toArray=(its++its2).toArray:=by simp
 rw [ea];exact⟨.ref _,_,I.lnew (t':=s.toks) (r.append r2) (by rw [zQ];lia),rfl,q _ I.fresh⟩
end
section
variable {prog:Program} {w:World} {A:Around} {E:`d} {s:Shared}
end
section
variable {X:Cx}
end
end L2
namespace Att
open PySem PySem.W PySem.Calls PyProof.Rows
theorem qr {P:Params}{h:Heap}:∀(ns:`f) (vs:List Value),WellAll P h vs (ns.map WData.int)->IntsAre vs ns:=by
 intro ns
 induction ns with
 |nil=>
  intro vs w;rw [zL]at w;cases w;exact .nil
 |cons n ns ih=>
  intro vs w;rw [zI]at w;cases w with
  |cons a b=>
   cases a;exact .cons _ _ (ih _ b)
theorem Cp {l:OpenLaw}{n:Nat}(hn:l.most=some n){P:Params}{h:Heap}{args:List WData}{vals:List Value}
 (hpre:l.row.toRowW.claim.pre args=true) (hwl:WellAll P h vals args):
 ∃a vs ns,vals=[Value.ref a]/\args=[WData.list (ns.map WData.int)]/\h.get? a=some {cls:=.type "list",data:=.seq vs.toArray}/\IntsAre vs ns/\ns.length<=n:=by
 have hsh:WShape.hasAll [] args [.list .int]=true:=(pre_splitW hpre).1;have hc:l.pre.holds [] {args:=args}=true:=(pre_splitW hpre).2;obtain⟨d,r,rfl,h1,h2⟩:=hasAllW_cons hsh;obtain rfl:=hasAllW_nil h2;obtain⟨xs,rfl,h3⟩:=hasW_list h1;obtain⟨ns,rfl⟩:=items_int h3;have hlen:ns.length<=n:=by
  unfold OpenLaw.pre at hc;have h4:(WTm.not (.lt (.lit (.int (n:Int))) (.len (.arg 0)))).holds [] {args:=[.list (ns.map .int)]}=true:=by
   have h4:=(holds_andW hc).1;rw [hn]at h4;exact h4
  have h5:=condW_of h4 (w_not (w_lt w_lit (w_len_list (w_arg rfl))));rw [zJ]at h5;refine Nat.le_of_not_lt λq=>?_;have q':(n:Int) < ((ns.length:Nat):Int):=by lia
  first
   |(rw [decide_eq_true q']at h5;exact absurd h5 (by decide))
   |(simp at h5;lia)
 cases hwl with
 |cons w1 w2=>
  cases w2;cases w1 with
  |list ho hall=>exact⟨_,_,ns,rfl,rfl,ho,qr ns _ hall,hlen⟩
theorem Cq(l:OpenLaw)(args:List WData):l.row.toRowW.claim.post args (.bool true) args=true:=
 postW_of (r:=l.row.toRowW) (X:=(true==true))
  (show WShape.has [] (.bool true) .bool=true by first|rfl|decide|simp [WShape.has,WShape.arms,WShape.armsAll])
  (show (WTm.eq .res (.lit (.bool true))).value [] {args:=args,res:=some (.bool true),after:=args}=some (.bool (true==true))from w_eq_bool (w_res rfl) w_lit) rfl
theorem x6 {l:OpenLaw}{n:Nat}{q:Program}{loose:List Str}{XP:`j->Heap->Prop}{YP:World->Heap->Prop}{d:DefRec}
 (hn:l.most=some n) (hdf:d.params.defaults=[])
 (call : ∀ (w : World) (s₀ s₁ : Shared) (mg mb : Str -> Option Value) (fa : Addr) (o : Obj) (pm cd doc : Value) (a : Addr) (vs : List Value) (ns :`f),
  Ground q loose [] XP w s₀ mg mb s₁.heap->YP w s₁.heap->
  s₁.heap.get? fa=some o->o.data=.func (docDef d.name d.params d.body d.scope pm cd doc)->s₁.heap.CodeRec cd d.name->mg d.name=some (.ref fa)->
  s₁.heap.get? a=some {cls:=.type "list",data:=.seq vs.toArray}->IntsAre vs ns->ns.length<=n->s₁.gens= #[]->
  codeAny (model l.prog w) callerA (.call (.ref fa) ⟨[.ref a],[]⟩) (λr s'=>r=.ok (.ret (.bool true))/\OldK s₁.heap s'.heap/\s'.os=s₁.os/\AllBare s'.gens) s₁):
 WalkO q loose XP YP l.row.toRowW d [] (λf vs=>PySem.call f vs):=by
 intro w s₀ s₁ mg mb G Y fa o pm cd doc dV kV ho hd hcd hD hmg hg args vals as hpre hlay hrd hwl hlo;obtain rfl:dV=.none:=Dflts.none hD hdf;obtain rfl:kV=.none:=Dflts.noKw hD;obtain⟨a,vs,ns,rfl,rfl,hobj,hints,hlen⟩:=Cp hn hpre hwl;refine enter_call (codeAny_mono (call w s₀ s₁ mg mb fa o pm cd doc a vs ns G Y ho (fd_plain hd) hcd hmg hobj hints hlen hg) λr s' hq=>?_);obtain⟨rfl,h2,h3,h4⟩:=hq;exact⟨.inl ⟨.bool true,.bool true,[],rfl,λ_=>rfl,.bool true,Cq l _,λ_=>⟨List.Pairwise.nil,λ_ hm=>(nomatch hm)⟩⟩,h2,h3,h4⟩
section
variable {prog:Program} {w:World} {A:Around} {E:`d} {s:Shared} {K:Frag}
noncomputable def pP(h:Heap):Heap:={h with objs:= #[]}
theorem mX(h:Heap)(b:Addr):(pP h).get? b=none:=by
 cases e:(pP h).get? b with
 |none=>rfl
 |some o=>exact absurd (dh e) (Nat.not_lt_zero _)
noncomputable def jS(h:Heap)(L d:Addr):List (Addr×Obj):=(List.range h.objs.size).filterMap λa=>if a=L\/a=d then none else(h.get? a).map λo=>(a,o)
variable {L:Addr}{h:Heap}
theorem dZ {d a:Addr}{o:Obj}:(a,o)∈jS h L d↔a≠L/\a≠d/\h.get? a=some o:=by
 unfold jS;rw [List.mem_filterMap]
 constructor
 . rintro⟨b,_,e⟩;split at e
   . cases e
   . rename_i hb;obtain⟨o',ho,e'⟩:=Q0.mp e;cases e';exact⟨λq=>hb (.inl q),λq=>hb (.inr q),ho⟩
 . rintro⟨n1,n2,ho⟩;refine⟨a,List.mem_range.mpr (dh ho),?_⟩;rw [if_neg (show ¬(a=L\/a=d)from λq=>q.elim n1 n2),ho]<;>rfl
theorem lE {d:Addr}{od:Obj}(hne:d≠L)(ho:h.get? d=some od):News (pP h) L h ([]++(d,od)::jS h L d):=by
 rintro⟨a,o⟩ hp
 rcases Q3.mp hp with e|hp
 . cases e;exact⟨ho,hne,mX _ _⟩
 . obtain⟨n1,n2,e⟩:=dZ.mp hp;exact⟨e,n1,mX _ _⟩
theorem AS {m:`j}(n:h.Ns L m):Fr (pP h) L h m:=
 ⟨n,λb o e=>(by rw [mX]at e;cases e),zU _⟩
end
end Att
namespace L2
open PySem PySem.Spec PyProof.Rows
theorem Cr {vs:List Value}{ns:`f}(h:IntsAre vs ns):Vals (ns.map V.int) vs:=by
 induction h with
 |nil=>exact .nil
 |cons n t h ih=>exact .cons ⟨t,rfl⟩ ih
noncomputable def eT(s:Stmt):Arguments:=match s with
 | .FunctionDef _ a _ _ _ _ _ _ _ _=>a
 |_=>{posonlyargs:=[],args:=[],vararg:=none,kwonlyargs:=[],kw_defaults:=[],kwarg:=none,defaults:=[]}
noncomputable def bx(s:Stmt):List Stmt:=match s with
 | .FunctionDef _ _ b _ _ _ _ _ _ _=>b
 |_=>[]
noncomputable def aO(s:Stmt):Scope:=match s with
 | .FunctionDef _ _ _ _ _ _ sc _ _ _=>sc
 |_=>{kind:=.function,names:=[],isGenerator:=false,isCoroutine:=false}
abbrev pH:Ef:=λ_ _ _ _ _ _=>False
abbrev E0:XK:=λ_ _ _=>False
variable {X:Cx}
theorem nh:pO pH X E0:=λ_ _ _ _ _ _ _ h=>h.elim
structure Fun (K:Fg) (x qual:Str) (st:Stmt) (f:Addr) (fd:FuncData):Prop where
 ex:∃(oc:Value) (od:Option Addr) (kV doc pm:Value) (an:Option Addr) (cdv ct:Value) (osl:Array (Option Value)),
  fd=PySem.W.fnOf x qual (eT st) (bx st) (aO st) .none kV doc pm an cdv ct/\K.lookup f=some ⟨oc,od,.func fd,osl⟩/\PySem.W.codeIn K cdv qual=true
 kp:PySem.W.keepIn K (.ref f)=true
section
variable {P:Program} {w:World} {K:Fg} {mg:`j} {base:Heap}
variable {ps:List Str}{fd:FuncData}{f:Addr}{st:Stmt}{x qual:Str}
theorem Fun.ok {N:List Str}{k:Nat}{sp:Sp}(F:Fun K x qual st f fd)(S:FnScope N ps (aO st))(len:∀vs H Q E,sp vs H Q E->vs.length=ps.length)
 (hbody : ∀ (cdv : Value) (A : Around) (outer : List Env) (s : Shared) (H : Hp) (vs : List V) (Q : VK) (E : XK), Room k (A.deeper (envOfC qual (aO st) `a f cdv)) -> sp vs H Q E ->
  ∃t,PSs (rj pH P w K mg base N qual (aO st) f cdv A outer s H E).nox (bx st) t/\t {nx:=λ_ H'=>Q .non H',rt:=Q} (dY N vs) H):FnOk P w K mg base pH (k+1) f fd ps sp:=by
 obtain⟨oc,od,kV,doc,pm,an,cdv,ct,osl,rfl,lk,hcd⟩:=F.ex;refine K9 lk hcd S len λA outer s H vs Q E hr hsp=>?_;obtain⟨t,h,q⟩:=hbody cdv A outer s H vs Q E hr hsp;exact⟨t,h.nox,q⟩
theorem Fun.binds {ps:List Str}(F:Fun K x qual st f fd)
 (h:∀(kV doc pm:Value) (an:Option Addr) (cdv ct:Value) (us:List Value),us.length=ps.length->bindArgs (PySem.W.fnOf x qual (eT st) (bx st) (aO st) .none kV doc pm an cdv ct) ⟨us,[]⟩=pure (ps.zip us)):Binds K fd ps []:=by
 obtain⟨oc,od,kV,doc,pm,an,cdv,ct,osl,rfl,lk,hcd⟩:=F.ex;exact .all (h kV doc pm an cdv ct)
theorem AT {oc:Value}{od an:Option Addr}{osl:Array (Option Value)}{kV doc pm cdv ct:Value}(l:K.lookup f=some ⟨oc,od,.func (PySem.W.fnOf x qual (eT st) (bx st) (aO st) .none kV doc pm an cdv ct),osl⟩)
 (c:PySem.W.codeIn K cdv qual=true) (k:PySem.W.keepIn K (.ref f)=true):Fun K x qual st f (PySem.W.fnOf x qual (eT st) (bx st) (aO st) .none kV doc pm an cdv ct):=⟨⟨oc,od,kV,doc,pm,an,cdv,ct,osl,rfl,l,c⟩,k⟩
end
theorem Ba {A:Around}{k:Nat}(hr:Room k A):A.units+1 < cLine:=IG (Nat.add_le_add_left (by decide:1<=64) _) hr.units
theorem Ct {n:Nat}(h:n<=1000):n < sizeLine:=IG h (by decide)
section
variable {X:Cx}
theorem pv(i:Nat){x:Str}{pos:Pos}(hN:X.N[i]? =some x:=by rfl)(hv:Ot X.env.scope x:=by first|exact Or.inl rfl|exact Or.inr (Or.inl rfl)|exact Or.inr (Or.inr rfl))(hd:(x==("__debug__":Str))=false:=by decide)
 (hcd:(x==("__classdict__":Str))=false:=by decide):PE X (.Name x pos) (bJ i):=LP hN hv hd hcd
end
theorem pQ {A B:Prop}(h:B):if false=true then A else B:=by
 rw [if_neg Q4];exact h
theorem pR {A B:Prop}(h:A):if true=true then A else B:=by
 rw [if_pos rfl];exact h
def Same(H H':Hp):Prop:=∀b o,H b=some o->H' b=some o
theorem Same.refl(H:Hp):Same H H:=λ_ _ h=>h
variable {H:Hp}
theorem Same.trans {H1 H2:Hp}(a:Same H H1)(b:Same H1 H2):Same H H2:=λc o h=>b c o (a c o h)
theorem Same.free {H':Hp}(e:Same H H'){l:Addr}(h:H' l=Option.none):H l=Option.none:=by
 cases q:H l with
 |none=>rfl
 |some o=>
  rw [e l o q]at h;cases h
variable {a:Addr}{K:Fg}
theorem Same.seq {H':Hp}{xs:List V}(e:Same H H')(h:SqL K H a xs):SqL K H' a xs:=by
 rcases h with (h|⟨o,h⟩)|h
 . exact .inl (.inl (e _ _ h))
 . exact .inl (.inr ⟨o,e _ _ h⟩)
 . exact .inr h
noncomputable def cN(env:Env):List (Str×NameKind)->List (Str×Addr)->List (Str×Addr)
 |[],acc=>acc
 |(n,k)::r,acc=>if k== .free then cN env r ((n,(env.cells.lookup n).getD 0)::acc)else cN env r acc
variable {env:Env}
theorem wH:∀(names:List (Str×NameKind)) (acc:List (Str×Addr)),(∀y∈names,y.2=.free->∃c,env.cells.lookup y.1=some c)->
 (forIn (m:=Sem) names acc λ(x:Str×NameKind) cs=>(if(x.2== .free)=true then do let c<-cellOf env x.1;pure (ForInStep.yield ((x.1,c)::cs))else pure (ForInStep.yield cs)))=pure (cN env names acc)
 |[],acc,_=>rfl
 |(n,k)::r,acc,h=>by
  have hr:∀y∈r,y.2=.free->∃c,env.cells.lookup y.1=some c:=λy hy=>h y (iJ _ hy);rw [List.forIn_cons]
  by_cases e:k=.free
  . subst e;obtain⟨c,hc⟩:=h (n,.free) gG rfl;have hc':env.cells.lookup n=some c:=hc;have e1:cellOf env n=pure c:=by unfold cellOf;rw [hc']
    show ((if(NameKind.free==NameKind.free)=true then _ else _) >>=_)=pure (if(NameKind.free==NameKind.free)=true then _ else _);rw [if_pos (by rfl),if_pos (by rfl),e1,hc']
    exact wH r _ hr
  . have e':(k==NameKind.free)=false:=by simpa using e
    show ((if(k==NameKind.free)=true then _ else _) >>=_)=pure (if(k==NameKind.free)=true then _ else _);rw [e',if_neg (by simp),if_neg (by simp)]
    exact wH r _ hr
theorem gH {scope:Scope}(h:∀y∈scope.names,y.2=.free->∃c,env.cells.lookup y.1=some c):closureFor scope env=pure (cN env scope.names []):=by
 have q:=wH scope.names [] h;unfold closureFor;show (forIn (m:=Sem) scope.names [] _ >>= λr=>pure r)=_;refine Eq.trans ?_ q;exact bind_pure _
theorem iX:∀{names:List (Str×NameKind)} {acc:List (Str×Addr)} {x:Str} {c:Addr},(∀y∈names,y.2=.free->∃c,env.cells.lookup y.1=some c)->(x,c)∈cN env names acc->(x,c)∈acc\/env.cells.lookup x=some c
 |[],acc,x,c,_,m=>.inl m
 |(n,k)::r,acc,x,c,h,m=>by
  have hr:∀y∈r,y.2=.free->∃c,env.cells.lookup y.1=some c:=λy hy=>h y (iJ _ hy)
  by_cases e:k=.free
  . subst e;obtain⟨d,hd⟩:=h (n,.free) gG rfl;have hd':env.cells.lookup n=some d:=hd;have m':(x,c)∈cN env r ((n,(env.cells.lookup n).getD 0)::acc):=m
    rcases iX hr m' with q|q
    . rcases Q3.mp q with q|q
      . rw [hd']at q;injection q with q1 q2
        subst q1 q2;exact .inr hd'
      . exact .inl q
    . exact .inr q
  . have e':(k==NameKind.free)=false:=by simpa using e
    have m':(x,c)∈(if(k==NameKind.free)=true then cN env r ((n,(env.cells.lookup n).getD 0)::acc)else cN env r acc):=m;rw [e',if_neg (by simp)]at m'
    exact iX hr m'
theorem j9 {env:Env}:∀{names:List (Str×NameKind)} {acc:List (Str×Addr)} {x:Str},((x,NameKind.free)∈names\/∃c,(x,c)∈acc)->∃c,(x,c)∈cN env names acc
 |[],acc,x,h=>by
  rcases h with h|h
  . simp at h
  . exact h
 |(n,k)::r,acc,x,h=>by
  by_cases e:k=.free
  . subst e;show ∃c,(x,c)∈cN env r ((n,(env.cells.lookup n).getD 0)::acc);refine j9 ?_
    rcases h with h|⟨c,h⟩
    . rcases Q3.mp h with h|h
      . injection h with h1 _
        subst h1;exact .inr ⟨_,gG⟩
      . exact .inl h
    . exact .inr ⟨c,iJ _ h⟩
  . have e':(k==NameKind.free)=false:=by simpa using e
    show ∃c,(x,c)∈(if(k==NameKind.free)=true then cN env r ((n,(env.cells.lookup n).getD 0)::acc)else cN env r acc);rw [e',if_neg (by simp)]
    refine j9 ?_
    rcases h with h|h
    . rcases Q3.mp h with h|h
      . injection h with _ h2
        exact absurd h2.symm e
      . exact .inl h
    . exact .inr h
theorem eJ {β:Type}:∀{l:List (Str×β)} {x:Str} {c:β},(x,c)∈l->∃d,l.lookup x=some d
 |(n,k)::r,x,c,h=>by
  by_cases e:x=n
  . subst e;exact⟨k,by simp⟩
  . rcases Q3.mp h with q|q
    . injection q with q1 _;exact absurd q1 e
    . obtain⟨d,hd⟩:=eJ q
      exact ⟨d, by rw [uM]; have : (x == n) = false := by simpa using e
                   rw [this];exact hd⟩
def NT(X:Cx)(cs:List Expr)(t:TT):Prop:=
 ∀(pins:`k) (s:Shared) (σ:St) (H:Hp) (Q:Bool->Hp->Prop),Inv X pins σ H s->t σ H Q->
  wpAny `i X.A (forIn cs true λc r=>if r=true then do let ok<-isTrue c X.env (eval c X.env);pure (ForInStep.yield ok)else pure (ForInStep.yield r)) (TP X pins σ Q) X.xe s
def NU:TT:=λ_ H Q=>Q true H
theorem eU:NT X [] NU:=λpins s σ H Q I h=>wpAny_tests_nil ⟨H,I,h⟩
theorem Ie {c:Expr}{t:TT}(h:PT X c t):NT X [c] t:=λpins s σ H Q I q=>wpAny_tests_one (h pins s σ H Q I q)
def Ep(n:Nat)(fr:List (Str×Nat))(σ:St):St:=List.replicate n none++fr.map λp=>(σ[p.2]?).join
def Er(n:Nat)(fr:List (Str×Nat))(wi:TI)(g:TG)(tc:TT)(te:TE):TE:=λσ H Q=>wi σ H λJ H1=>∀acc,H1 acc=none->
 ∃W:Nat->Nat->St->Hp->Prop,(∃m,W 0 m (Ep n fr σ) (bC H1 acc (.lst [])))/\∀i m σ' H',W i m σ' H'->
  (J.stop i H' /\ Q (.ref acc) H') \/ (J.go i H' /\ ∃ Nx : St -> Hp -> Prop, (∀ σ2 H2, Nx σ2 H2 -> ∃ m', m' < m /\ W (i + 1) m' σ2 H2) /\
   ∀x H2,J.yld i H' x H2->g x σ' H2 λσ2 H3=>tc σ2 H3 λb H4=>if b=true then te σ2 H4 λy H5=>∃ys,H5 acc=some (.lst ys)/\ys.length < sizeLine/\Nx σ2 (bC H5 acc (.lst (ys++[y])))else Nx σ2 H4)
section
variable {prog:Program} {w:World} {A:Around} {R:Result->Shared->Prop} {s:Shared}
theorem x8 {elt target iter:Expr}{ifs:List Expr}{scope:Scope}{pos:Pos}{it acc:Value}(I:Nat->Shared->Prop)
 (turn : ∀ n s, I n s -> wpAny `m A (pyNext it) (λ r s₁ => match r with
  |none=>R (.ok .next) s₁
  |some v=>wpAny `m A (letOwnedTupleGo target it v) (λ_ s₂=>wpAny `m A (assign target env v) (λ_ s₂=>
   wpAny `m A (forIn ifs true λc r=>if r=true then do let ok<-isTrue c env (eval c env);pure (ForInStep.yield ok)else pure (ForInStep.yield r)) (λok s₃=>
    if ok=true then wpAny `m A (eval elt env) (λx s₄=>
     wpAny `m A (call (.builtin "list.append") [acc,x]) (λ_ s₅=>∃m,m < n/\I m s₅) (λ_ _=>False) s₄) (λ_ _=>False) s₃
    else ∃m,m < n/\I m s₃) (λ_ _=>False) s₂) (λ_ _=>False) s₂) (λ_ _=>False) s₁) (λ_ _=>False) s)
 (n:Nat) (h:I n s):
 codeAny `m A (.compLoop (.ListComp elt [⟨target,iter,ifs,0⟩] scope pos) 0 it acc env) R s:=by
 refine codeAny_loop rfl I (λn s hI=>?_) n h;show wpAny _ A ((compTurn (.ListComp elt [⟨target,iter,ifs,0⟩] scope pos) 0 it acc env).onRaise (λx=>do noteFrame x env;theTreesLotGoes x)) _ _ s
 refine wpAny_noted ?_;rw [compTurn_list];refine wB (wpAny_standAt (wB (wpAny_mono (turn n s hI) (λr s₁ h₁=>?_) λ_ _ h'=>h'.elim)));cases r with
 |none=>exact wP h₁
 |some v=>
  refine wB (wpAny_mono h₁ (λ_ s₂ h₂=>?_) λ_ _ h'=>h'.elim);refine wB (wpAny_mono h₂ (λ_ s₂ h₂=>wB (wpAny_mono h₂ (λok s₃ h₃=>?_) λ_ _ h'=>h'.elim)) λ_ _ h'=>h'.elim);cases ok with
  |false=>exact wP ⟨rfl,h₃⟩
  |true=>
   exact wB (wB (wpAny_mono h₃ (λx s₄ h₄=>wB (wpAny_mono h₄ (λ_ s₅ h₅=>wP (wP ⟨rfl,h₅⟩)) λ_ _ h'=>h'.elim)) λ_ _ h'=>h'.elim))
end
theorem rm {env:Env}:∀{names:List (Str×NameKind)} {x:Str},names.lookup x=some .free->
 (((names.map λ (n, k) => if (k == NameKind.free && env.scope.kind == .function && env.kindOf n == some .cell) then (n, NameKind.cell) else (n, k)).lookup x = some .cell) \/
  ((names.map λ(n,k)=>if`l then(n,NameKind.cell)else(n,k)).lookup x=some .free))
 |[],x,h=>by simp at h
 |(n,k)::r,x,h=>by
  have e1:((n,k)::r).map (λ(n,k)=>if`l=true then(n,NameKind.cell)else(n,k))=
   (if`l=true then(n,NameKind.cell)else(n,k))::r.map (λ(n,k)=>if`l=true then(n,NameKind.cell)else(n,k)):=rfl
  rw [e1];cases hx:x==n with
  |true=>
   simp only [uM,hx]at h;have hk:k=.free:=zV h
   by_cases c:`l=true
   . rw [if_pos c];left;simp [uM,hx]
   . rw [if_neg c];right;simp [uM,hx,hk]
  |false=>
   simp only [uM,hx]at h;have q:=rm (env:=env) h
   by_cases c:`l=true
   . rw [if_pos c];simpa only [uM,hx]using q
   . rw [if_neg c];simpa only [uM,hx]using q
section
variable {X:Cx}
theorem Ig {n:Nat}{fr:List (Str×Nat)}{own:List Str}{σ:St}{i:Nat}{x:Str}{v:V}(hn:own.length=n)(h1:(own++fr.map (·.1))[i]? =some x)(h2:(Ep n fr σ)[i]? =some (some v)):
 ∃p∈fr,p.1=x/\σ[p.2]? =some (some v):=by
 unfold Ep at h2
 by_cases hi:i < n
 . rw [Qa (by simpa using hi),Qf,if_pos hi]at h2
   cases h2
 . rw [Qd (by simpa using hi)]at h2
   rw [Qd `e]at h1
   rw [IE,zK]at h2;rw [hn,zK]at h1;cases e:fr[i - n]? with
   |none=>rw [e]at h1;cases h1
   |some p=>
    rw [e]at h1 h2;refine⟨p,ES e,zV h1,?_⟩;have h3:(σ[p.2]?).join=some v:=zV h2;cases q:σ[p.2]? with
    |none=>rw [q]at h3;cases h3
    |some z=>rw [q]at h3;exact congrArg some h3
end
open AutoSeq1 (wpAny_loadPart')
section
variable {prog:Program} {w:World} {A:Around} {E:`d} {s:Shared}
variable {Q:`d}{its:Array Value}
theorem Et {it t:Addr}{i:Nat}{x:Value}(hit:s.heap.IsTupleIter it t i)(ht:s.heap.IsTuple t its)(hx:its[i]? =some x)
 (k:∀h',h'.IsTupleIter it t (i+1)->Heap.SameBut it s.heap h'->Q x {s with heap:=h'}):wpAny `m A (Builtin.SmallTypes.nextOf (.ref it)) Q E s:=by
 have ty:=hit.typeIs;obtain⟨ob,eo,ec,ed⟩:=hit;obtain⟨ot,et,_,n,edt⟩:=ht;unfold Builtin.SmallTypes.nextOf;refine wB (wpAny_callSpecial?_slot (name:=Str.ofString "__next__") ty F.slot_tuple_iterator_next (wpAny_call_entry F.slot_tuple_iterator_next ty F.entry_tuple_iterator_next ?_ (F.args_tuple_iterator_next_1 _)));show wpAny _ _ (field (.ref it) 0 >>=_) _ _ s;refine wB (wpAny_field eo ed (x:=.ref t) rfl ?_);show wpAny _ _ (if(Value.ref t==Value.none)=true then _ else _) _ _ s;rw [if_neg (show ¬((Value.ref t==Value.none)=true)from Q4)]
 show wpAny _ _ (field (.ref it) 1 >>=_) _ _ s;refine wB (wpAny_field eo ed (x:=.int i 0) rfl ?_);show wpAny _ _ (seqItems? (.ref t) >>=_) _ _ s;refine wB (wpAny_seqItems et edt ?_);simp only [IK,hx];refine wB (wpAny_setField eo ed (by simp) (wP ⟨x,rfl,wP (k _ ⟨_,ID _ eo (Obj.isFreed_of_fields (Obj.data_mapFields ed _)),(Obj.cls_mapFields ..).trans ec,?_⟩ (Heap.SameBut.update ..))⟩))
 rw [Obj.data_mapFields ed];simp [rawInt]
theorem Ih {it t:Addr}{i:Nat}(hh:A.handled=none)(hit:s.heap.IsTupleIter it t i)(ht:s.heap.IsTuple t its)(hx:its[i]? =none)
 (k:∀h' e,Heap.ExtBut it s.heap h'->(∃o,h'.get? e=some o/\o.cls=.type "StopIteration")->E (.ref e) {s with heap:=h'}):wpAny `m A (Builtin.SmallTypes.nextOf (.ref it)) Q E s:=by
 have ty:=hit.typeIs;obtain⟨ob,eo,ec,ed⟩:=hit;obtain⟨ot,et,_,n,edt⟩:=ht;unfold Builtin.SmallTypes.nextOf;refine wB (wpAny_callSpecial?_slot (name:=Str.ofString "__next__") ty F.slot_tuple_iterator_next (wpAny_call_entry F.slot_tuple_iterator_next ty F.entry_tuple_iterator_next ?_ (F.args_tuple_iterator_next_1 _)));show wpAny _ _ (field (.ref it) 0 >>=_) _ _ s;refine wB (wpAny_field eo ed (x:=.ref t) rfl ?_);show wpAny _ _ (if(Value.ref t==Value.none)=true then _ else _) _ _ s;rw [if_neg (show ¬((Value.ref t==Value.none)=true)from Q4)]
 show wpAny _ _ (field (.ref it) 1 >>=_) _ _ s;refine wB (wpAny_field eo ed (x:=.int i 0) rfl ?_);show wpAny _ _ (seqItems? (.ref t) >>=_) _ _ s;refine wB (wpAny_seqItems et edt ?_);simp only [IK,hx];refine wB (wpAny_rule (wB (wpAny_setField eo ed (by simp) ?_)))
 show wpAny _ _ (newExc (.type "StopIteration") [] >>=_) _ _ _;refine wB ?_;simp only [newExc,newTuple];refine wB (wpAny_newObj_type ?_ (by size_fits))
 refine wB (m:=firstArgMember _ _) (wpAny_of_eq (a:=Value.none) (by first|rfl|(simp only [firstArgMember];rfl)) ?_)
 refine wpAny_newObj_type ?_ (by size_fits)
 simp only [raiseNew];refine wB (wpAny_handled ?_)
 first|rw [show A.in1.handled=none from hh]|rw [hh]
 exact wB (wP (wpAny_throw (k _ _ (((Heap.SameBut.update ..).extBut.push _).push _) ⟨_,fU _ rfl,rfl⟩)))
end
variable {w:World}
theorem QD {prog:Program}{A:Around}(hh:A.handled=none)(it t:Addr)(ne:t≠it)(its:Array Value):
 Draws prog w A it [it,t] its.size (λi v=>its[i]? =some v) (λi h=>h.IsTupleIter it t i/\h.IsTuple t its) where
 live:=λ_ _ st=>by obtain⟨⟨o,e,_⟩,_⟩:=st;exact⟨o,e⟩
 frame:=λ_ _ _ st k=>⟨st.1.at λo e=>k it (by simp) o e,st.2.at λo e=>k t (by simp) o e⟩
 item:=λi s Q E hi st k=>Et st.1 st.2 (x:=its[i]) (by simp [hi]) λh' a b=>k _ h' s.toks (by simp [hi]) ⟨a,st.2.extBut b.extBut ne⟩ b
 done:=λs Q E st k=>Ih hh st.1 st.2 (by simp) k
theorem Ii(l:Addr)(its:Array Value)(n:Nat)(dct:Option Addr)(sl:Array (Option Value)):
 Meets (Builtin.«enumerate.__new__» ⟨[.type "enumerate",.ref l],[]⟩) (λ_ R s=>s.heap.get? l=some {cls:=.type "tuple",dict:=dct,data:=.seq its n,slots:=sl}/\
  R (.ok (.ret (.ref (s.heap.push {cls:=.type "tuple_iterator",data:=.fields #[.ref l,.int 0 0]}).objs.size)))
   {s with heap:=(s.heap.push {cls:=.type "tuple_iterator",data:=.fields #[.ref l,.int 0 0]}).push {cls:=.type "enumerate",data:=.fields #[.none,.bool false,.ref `a,rawInt 0,.none,.none]}}):=
 .of_wp λprog w A R s h=>by
  obtain⟨hp,g,d,tk,os⟩:=s;obtain⟨hl,h⟩:=h;have hsub:=sub_enumerate;have hT:Heap.IsTuple (Shared.heap ⟨hp,g,d,tk,os⟩) l its:=⟨_,hl,rfl,n,rfl⟩
  wp_walk using wpAny_loadPart' hl
  refine wpAny_stack_any λst=>wP ?_;split
  . rename_i c _ _ _ _ _;cases (c==Value.type "enumerate")<;>(wp_walk using wpAny_loadPart' hl,wpAny_pyIter_tuple hT;exact⟨_,rfl,h⟩)
  . wp_walk using wpAny_loadPart' hl,wpAny_pyIter_tuple hT
    exact⟨_,rfl,h⟩
section
variable {prog:Program} {w:World} {A:Around} {E:`d} {s:Shared}
theorem Eu {l:Addr}{its:Array Value}{Q:`d}(hL:s.heap.IsTuple l its)
 (k:∀h',IsEnum h' (`a+1) `a 0 .none->h'.IsTupleIter `a l 0->h'.objs.size=`a+2->(∀b o,s.heap.get? b=some o->h'.get? b=some o)->Q (.ref (`a+1)) {s with heap:=h'}):
 wpAny `m A (call (.type "enumerate") [.ref l]) Q E s:=by
 obtain⟨⟨c,dct,dt,sl⟩,hl,hc,n,hd⟩:=hL;have hc':c=.type "tuple":=hc;have hd':dt=.seq its n:=hd;subst hc' hd';refine callType_new F.called_enumerate (by decide) (F.typeCall_enumerate_1 _) (F.newCall_enumerate_1 _) (λobj=>F.args_object_init_2 obj _) F.entry_enumerate_new (Ii l its n dct sl) ⟨hl,?_⟩
 generalize hg:s.heap.push {cls:=.type "tuple_iterator",data:=.fields #[.ref l,.int 0 0]}=g1;have z1:g1.objs.size=`a+1:=by rw [<-hg];exact AC ..
 have he:IsEnum (g1.push {cls:=.type "enumerate",data:=.fields #[.none,.bool false,.ref `a,rawInt 0,.none,.none]}) (`a+1) `a 0 .none:=by
  rw [<-z1];exact fU _ rfl
 show _/\_;rw [z1];refine⟨⟨_,he,rfl⟩,k _ he ⟨_,df _ (by rw [<-hg];exact fU _ rfl),rfl,rfl⟩ (by rw [AC,z1]) λb o x=>df _ (by rw [<-hg];exact df _ x)⟩
end
open AutoSeq1 (wpAny_loadPart')
structure ZA (z TI TO i1 i2:Addr) (f1 f2:List Addr):Prop where
 a1:TI≠z
 a2:TO≠z
 a3:i1≠z
 a4:i2≠z
 a5:TO≠i1
 a6:TO≠i2
 b1:z ∉ f1
 b2:z ∉ f2
 b3:TO ∉ f1
 b4:TO ∉ f2
 b5:i2 ∉ f1
 b6:i1 ∉ f2
section
variable {prog:Program} {w:World} {A:Around} {E:`d} {s:Shared}
theorem x9 {T:Addr}{a b x:Value}{k:Nat}{Q:Unit->Shared->Prop}(hT:IsPair s.heap T a b)
 (h:∀h',h'.get? T=some {cls:=.type "tuple",data:=.seq ((#[a,b]:Array Value).setIfInBounds k x)}->Heap.SameBut T s.heap h'->Q () {s with heap:=h'}):wpAny `m A (updateSeq T (·.setIfInBounds k x)) Q E s:=wpAny_updateSeq_pair hT h
variable {z TI TO i1 i2:Addr} {f1 f2:List Addr} {n1 n2 k:Nat} {P1 P2:Nat->Value->Prop} {S1 S2:Nat->Heap->Prop} {a b:Value}
theorem Cu {Q:`d}(D1:Draws prog w A i1 f1 n1 P1 S1)(D2:Draws prog w A i2 f2 n2 P2 S2)(ap:ZA z TI TO i1 i2 f1 f2)
 (hz:IsZip s.heap z TI TO .none) (hTI:IsPair s.heap TI (.ref i1) (.ref i2)) (hTO:IsPair s.heap TO a b) (h1:S1 k s.heap) (h2:S2 k s.heap) (l1:k < n1) (l2:k < n2)
 (K : ∀ x y h' tk, P1 k x -> P2 k y -> IsZip h' z TI TO (rawInt `a) -> IsPair h' TO x y -> S1 (k + 1) h' -> S2 (k + 1) h' -> IsPair h' `a x y -> h'.objs.size = `a + 1 ->
  (∀c o,c≠z->c≠TO->c≠i1->c≠i2->s.heap.get? c=some o->h'.get? c=some o)->Q (.ref `a) {s with heap:=h',toks:=tk}):
 wpAny `m A (Builtin.«zip.__next__» ⟨[.ref z],[]⟩) (λfin s'=>∃v,fin=.done (.ret v)/\Q v s') E s:=by
 obtain⟨hp,g,d,tk0,os⟩:=s;obtain⟨o1,e1⟩:=D1.live _ _ h1;obtain⟨o2,e2⟩:=D2.live _ _ h2;show wpAny _ _ (field (.ref z) 2 >>=_) _ _ _;refine wB (wpAny_field hz rfl (x:=.bool false) rfl ?_);show wpAny _ _ (field (.ref z) 3 >>=_) _ _ _;refine wB (wpAny_field hz rfl (x:=.ref TI) rfl ?_);refine wB (wpAny_seqItems hTI rfl ?_);show wpAny _ _ (Builtin.SmallTypes.ownedTupleIsFree (.ref z) >>=_) _ _ _;refine wB ?_;unfold Builtin.SmallTypes.ownedTupleIsFree;refine wB (wpAny_field hz rfl (x:=.none) rfl (wP ?_));simp only [if_true];refine wB (wpAny_rule ?_);refine wB (wpAny_field hz rfl (x:=.ref TO) rfl ?_);refine wB (wpAny_setField_rec hz (by simp) λg1 z1 c1=>?_)
 have z1:IsZip g1 z TI TO .ellipsis:=z1;have c1:Heap.SameBut z hp g1:=c1;refine wB ?_;simp only [List.zipIdx_cons,List.zipIdx_nil,List.forIn_cons,List.forIn_nil];refine wB (wB (wpAny_onRaise ?_));show wpAny _ _ (Builtin.SmallTypes.nextOf (.ref i1) >>=_) _ _ _;refine wB (D1.item k _ _ _ l1 (D1.frame _ _ _ h1 λq hq o e=>(c1.2 q λy=>ap.b1 (y▸hq)).trans e) λx g2 t2 px s2 c2=>wP ?_);have c2:Heap.SameBut i1 g1 g2:=c2;have p2:IsPair g2 TO a b:=(c2.2 _ ap.a5).trans ((c1.2 _ ap.a2).trans hTO);refine wB (wpAny_seqItems p2 rfl ?_);refine wB (x9 p2 λg3 p3 c3=>?_);have p3:IsPair g3 TO x b:=p3;have c3:Heap.SameBut TO g2 g3:=c3;refine wB (wpAny_letGo (wP ?_));refine wB (wB (wpAny_onRaise ?_));show wpAny _ _ (Builtin.SmallTypes.nextOf (.ref i2) >>=_) _ _ _;have m2:S2 k g3:=D2.frame _ _ _ h2 λq hq o e=>(c3.2 q λy=>ap.b4 (y▸hq)).trans ((c2.2 q λy=>ap.b6 (y▸hq)).trans ((c1.2 q λy=>ap.b2 (y▸hq)).trans e));refine wB (D2.item k _ _ _ l2 m2 λy g4 t4 py s4 c4=>wP ?_);have c4:Heap.SameBut i2 g3 g4:=c4;have p4:IsPair g4 TO x b:=(c4.2 _ ap.a6).trans p3;refine wB (wpAny_seqItems p4 rfl ?_);refine wB (x9 p4 λg5 p5 c5=>?_);have p5:IsPair g5 TO x y:=p5;have c5:Heap.SameBut TO g4 g5:=c5;refine wB (wpAny_letGo (wP (wP ?_)));refine wB (wpAny_seqItems p5 rfl ?_);refine wB (wpAny_newTuple ?_);have zz:g5.objs.size=hp.objs.size:=by rw [c5.1,c4.1,c3.1,c2.1,c1.1]
 have z5:IsZip g5 z TI TO .ellipsis:=(c5.2 _ ap.a2.symm).trans ((c4.2 _ ap.a4.symm).trans ((c3.2 _ ap.a2.symm).trans ((c2.2 _ ap.a3.symm).trans z1)));have k5:∀c o,c≠z->c≠TO->c≠i1->c≠i2->hp.get? c=some o->g5.get? c=some o:=λc o n1 n2 n3 n4 e=>(c5.2 _ n2).trans ((c4.2 _ n4).trans ((c3.2 _ n2).trans ((c2.2 _ n3).trans ((c1.2 _ n1).trans e))));have w1:S1 (k+1) g5:=D1.frame _ _ _ s2 λq hq o e=>(c5.2 q λy=>ap.b3 (y▸hq)).trans ((c4.2 q λy=>ap.b5 (y▸hq)).trans ((c3.2 q λy=>ap.b3 (y▸hq)).trans e));have w2:S2 (k+1) g5:=D2.frame _ _ _ s4 λq hq o e=>(c5.2 q λy=>ap.b4 (y▸hq)).trans e;have zl:z < g5.objs.size:=dh z5;show wpAny _ _ (Builtin.SmallTypes.ownedTupleHandOut (.ref z) (.ref g5.objs.size) >>=_) _ _ _;refine wB ?_;unfold Builtin.SmallTypes.ownedTupleHandOut;have z6:IsZip (g5.push {cls:=.type "tuple",data:=.seq #[x,y]}) z TI TO .ellipsis:=df _ z5;refine wB (wpAny_setField_rec z6 (by simp) λg7 z7 c7=>?_)
 have z7:IsZip g7 z TI TO (rawInt g5.objs.size):=z7;have c7:Heap.SameBut z (g5.push {cls:=.type "tuple",data:=.seq #[x,y]}) g7:=c7;refine wpAny_setField_rec z7 (by simp) λg8 z8 c8=>?_
 have z8:IsZip g8 z TI TO (rawInt g5.objs.size):=z8;have c8:Heap.SameBut z g7 g8:=c8;have up:∀c o,c≠z->g5.get? c=some o->g8.get? c=some o:=λc o n e=>(c8.2 _ n).trans ((c7.2 _ n).trans (df _ e));have t8:IsPair g8 g5.objs.size x y:=(c8.2 _ (uL zl)).trans ((c7.2 _ (uL zl)).trans (fU _ rfl));have l8:g8.objs.size=g5.objs.size+1:=by rw [c8.1,c7.1,AC]
 rw [zz]at z8 t8 l8;refine wP ⟨_,rfl,?_⟩;show Q (.ref g5.objs.size) _;rw [zz];exact K x y g8 _ px py z8 (up _ _ ap.a2 p5) (D1.frame _ _ _ w1 λq hq o e=>up q o (λy=>ap.b1 (y▸hq)) e) (D2.frame _ _ _ w2 λq hq o e=>up q o (λy=>ap.b2 (y▸hq)) e) t8 l8 λc o n1 n2 n3 n4 e=>up c o n1 (k5 c o n1 n2 n3 n4 e)
theorem Ev {Q:Fin->Shared->Prop}(D1:Draws prog w A i1 f1 n1 P1 S1)(ap:ZA z TI TO i1 i2 f1 f2)
 (hz:IsZip s.heap z TI TO .none) (hTI:IsPair s.heap TI (.ref i1) (.ref i2)) (hTO:IsPair s.heap TO a b) (h1:S1 n1 s.heap)
 (K:∀h' e,(∀c o,c≠z->c≠i1->s.heap.get? c=some o->h'.get? c=some o)->(∃o,h'.get? e=some o/\o.cls=.type "StopIteration")->E (.ref e) {s with heap:=h'}):
 wpAny `m A (Builtin.«zip.__next__» ⟨[.ref z],[]⟩) Q E s:=by
 show wpAny _ _ (field (.ref z) 2 >>=_) _ _ _;refine wB (wpAny_field hz rfl (x:=.bool false) rfl ?_);show wpAny _ _ (field (.ref z) 3 >>=_) _ _ _;refine wB (wpAny_field hz rfl (x:=.ref TI) rfl ?_);refine wB (wpAny_seqItems hTI rfl ?_);show wpAny _ _ (Builtin.SmallTypes.ownedTupleIsFree (.ref z) >>=_) _ _ _;refine wB ?_;unfold Builtin.SmallTypes.ownedTupleIsFree;refine wB (wpAny_field hz rfl (x:=.none) rfl (wP ?_));simp only [if_true];refine wB (wpAny_rule ?_);refine wB (wpAny_field hz rfl (x:=.ref TO) rfl ?_);refine wB (wpAny_setField_rec hz (by simp) λg1 z1 c1=>?_)
 have z1:IsZip g1 z TI TO .ellipsis:=z1;have c1:Heap.SameBut z s.heap g1:=c1;refine wB ?_;simp only [List.zipIdx_cons,List.zipIdx_nil,List.forIn_cons,List.forIn_nil];refine wB (wB (wpAny_onRaise ?_));show wpAny _ _ (Builtin.SmallTypes.nextOf (.ref i1) >>=_) _ _ _;refine wB (D1.done _ _ _ (D1.frame _ _ _ h1 λq hq o e=>(c1.2 q λy=>ap.b1 (y▸hq)).trans e) λg2 e c2 st=>?_);have c2:Heap.ExtBut i1 g1 g2:=c2;obtain⟨oe,ho,hc⟩:=st;have z2:IsZip g2 z TI TO .ellipsis:=c2 _ _ ap.a3.symm z1;have ne:e≠z:=λy=>by
  subst y;have:g2.get? e=some oe:=ho;rw [z2]at this;cases this;simp at hc
 refine wpAny_setField_rec z2 (by simp) λg3 _ c3=>?_
 have c3:Heap.SameBut z g2 g3:=c3;exact K g3 e (λc o n1 n2 y=>(c3.2 _ n1).trans (c2 _ _ n2 ((c1.2 _ n1).trans y))) ⟨oe,(c3.2 _ ne).trans ho,hc⟩
variable {Q:Option Value->Shared->Prop}
theorem AU(D1:Draws prog w A.in1 i1 f1 n1 P1 S1)(D2:Draws prog w A.in1 i2 f2 n2 P2 S2)(ap:ZA z TI TO i1 i2 f1 f2)
 (hz:IsZip s.heap z TI TO .none) (hTI:IsPair s.heap TI (.ref i1) (.ref i2)) (hTO:IsPair s.heap TO a b) (h1:S1 k s.heap) (h2:S2 k s.heap) (l1:k < n1) (l2:k < n2)
 (K : ∀ x y h' tk, P1 k x -> P2 k y -> IsZip h' z TI TO (rawInt `a) -> IsPair h' TO x y -> S1 (k + 1) h' -> S2 (k + 1) h' -> IsPair h' `a x y -> h'.objs.size = `a + 1 ->
  (∀c o,c≠z->c≠TO->c≠i1->c≠i2->s.heap.get? c=some o->h'.get? c=some o)->Q (some (.ref `a)) {s with heap:=h',toks:=tk}):
 wpAny `m A (pyNext (.ref z)) Q E s:=by
 have ty:s.TypeIs (.ref z) "zip":=⟨_,hz,rfl⟩;unfold pyNext;exact wB (wpAny_attempt (wpAny_callSpecial?_slot (name:=Str.ofString "__next__") ty F.slot_zip_next (wpAny_call_entry F.slot_zip_next ty F.entry_zip_next
  (Cu D1 D2 ap hz hTI hTO h1 h2 l1 l2 λx y h' tk q1 q2 q3 q4 q5 q6 q7 q8 q9=>wP (K x y h' tk q1 q2 q3 q4 q5 q6 q7 q8 q9)) (F.args_zip_next_1 _))))
theorem Cv(D1:Draws prog w A.in1 i1 f1 n1 P1 S1)(ap:ZA z TI TO i1 i2 f1 f2)
 (hz:IsZip s.heap z TI TO .none) (hTI:IsPair s.heap TI (.ref i1) (.ref i2)) (hTO:IsPair s.heap TO a b) (h1:S1 n1 s.heap)
 (K:∀h',(∀c o,c≠z->c≠i1->s.heap.get? c=some o->h'.get? c=some o)->Q none {s with heap:=h'}):wpAny `m A (pyNext (.ref z)) Q E s:=by
 have ty:s.TypeIs (.ref z) "zip":=⟨_,hz,rfl⟩;unfold pyNext;refine wB (wpAny_attempt (wpAny_callSpecial?_slot (name:=Str.ofString "__next__") ty F.slot_zip_next (wpAny_call_entry F.slot_zip_next ty F.entry_zip_next (Ev D1 ap hz hTI hTO h1 λh' e q st=>?_) (F.args_zip_next_1 _))));obtain⟨o,ho,hc⟩:=st;exact wB (wpAny_isInstance (T:="StopIteration") (b:=true) ⟨o,ho,hc⟩ isSubtype_stop (wP (K _ q)))
end
theorem Ew(l1 l2:Addr)(xs ys:Array Value):
 Meets (Builtin.«zip.__new__» ⟨[.type "zip",.ref l1,.ref l2],[]⟩) (λ_ R s=>s.heap.IsTuple l1 xs/\s.heap.IsTuple l2 ys/\
  ∀g1 g2 g3 g4 g5,g1=s.heap.push {cls:=.type "tuple_iterator",data:=.fields #[.ref l1,.int 0 0]}->g2=g1.push {cls:=.type "tuple_iterator",data:=.fields #[.ref l2,.int 0 0]}->
   g3=g2.push {cls:=.type "tuple",data:=.seq #[.ref `a,.ref g1.objs.size]}->g4=g3.push {cls:=.type "tuple",data:=.seq #[.none,.none]}->
   g5=g4.push {cls:=.type "zip",data:=.fields #[.none,.bool false,.bool false,.ref g2.objs.size,.ref g3.objs.size]}->R (.ok (.ret (.ref g4.objs.size))) {s with heap:=g5}):=
 .of_wp λprog w A R s h=>by
  obtain⟨hp,g,d,tk,os⟩:=s;obtain⟨h1,h2,h⟩:=h;have hsub:=sub_zip;have m1:Heap.IsTuple (Shared.heap ⟨hp,g,d,tk,os⟩) l1 xs:=h1;have m2:Heap.IsTuple (Shared.heap ⟨hp.push {cls:=.type "tuple_iterator",data:=.fields #[.ref l1,.int 0 0]},g,d,tk,os⟩) l2 ys:=Heap.IsTuple.push h2 _
  wp_walk using wpAny_pyIter_tuple m1,wpAny_pyIter_tuple m2
  exact⟨_,rfl,h _ _ _ _ _ rfl rfl rfl rfl rfl⟩
section
variable {prog:Program} {w:World} {A:Around} {E:`d} {s:Shared}
theorem Cw {l1 l2:Addr}{xs ys:Array Value}{Q:`d}(h1:s.heap.IsTuple l1 xs)(h2:s.heap.IsTuple l2 ys)
 (k : ∀ h', IsZip h' (`a + 4) (`a + 2) (`a + 3) .none -> IsPair h' (`a + 2) (.ref `a) (.ref (`a + 1)) -> IsPair h' (`a + 3) .none .none ->
  h'.IsTupleIter `a l1 0->h'.IsTupleIter (`a+1) l2 0->h'.objs.size=`a+5->(∀c o,s.heap.get? c=some o->h'.get? c=some o)->Q (.ref (`a+4)) {s with heap:=h'}):
 wpAny `m A (call (.type "zip") [.ref l1,.ref l2]) Q E s:=by
 refine callType_new F.called_zip (by decide) (F.typeCall_zip_2 _ _) (F.newCall_zip_2 _ _) (λobj=>F.args_object_init_3 obj _ _) F.entry_zip_new (Ew l1 l2 xs ys) ⟨h1,h2,?_⟩
 intro g1 g2 g3 g4 g5 e1 e2 e3 e4 e5;have z1:g1.objs.size=`a+1:=by rw [e1];exact AC ..
 have z2:g2.objs.size=`a+2:=by rw [e2,AC,z1]
 have z3:g3.objs.size=`a+3:=by rw [e3,AC,z2]
 have z4:g4.objs.size=`a+4:=by rw [e4,AC,z3]
 have z5:g5.objs.size=`a+5:=by rw [e5,AC,z4]
 have u2:∀{c o},g1.get? c=some o->g2.get? c=some o:=λe=>by rw [e2];exact df _ e
 have u3:∀{c o},g2.get? c=some o->g3.get? c=some o:=λe=>by rw [e3];exact df _ e
 have u4:∀{c o},g3.get? c=some o->g4.get? c=some o:=λe=>by rw [e4];exact df _ e
 have u5:∀{c o},g4.get? c=some o->g5.get? c=some o:=λe=>by rw [e5];exact df _ e
 have q5:IsZip g5 (`a+4) (`a+2) (`a+3) .none:=by rw [<-z4, <-z3, <-z2,e5];exact fU _ rfl
 have q4:IsPair g5 (`a+3) .none .none:=by rw [<-z3];exact u5 (by rw [e4];exact fU _ rfl)
 have q3:IsPair g5 (`a+2) (.ref `a) (.ref (`a+1)):=by rw [<-z2, <-z1];exact u5 (u4 (by rw [e3];exact fU _ rfl))
 have q2:g5.IsTupleIter (`a+1) l2 0:=⟨_,by rw [<-z1];exact u5 (u4 (u3 (by rw [e2];exact fU _ rfl))),rfl,rfl⟩
 have q1:g5.IsTupleIter `a l1 0:=⟨_,u5 (u4 (u3 (u2 (by rw [e1];exact fU _ rfl)))),rfl,rfl⟩
 rw [z4];exact⟨⟨_,q5,rfl⟩,k _ q5 q3 q4 q1 q2 z5 λc o x=>u5 (u4 (u3 (u2 (by rw [e1];exact df _ x))))⟩
end
section
variable {X:Cx} {pins:`k} {σ:St} {H:Hp} {s:Shared}
theorem Inv.turnedN {ch:List Addr}{h':Heap}{t':Nat}{p:Addr}{o:HO}(I:`h)(hf:∀b∈ch,j8 X pins H b)(k:∀b u,b ∉ ch->s.heap.get? b=some u->h'.get? b=some u)
 (hp:`a<=p) (new:ObjOk X.prog X.w (bC H p o) h' p o):Inv X pins σ (bC H p o) {s with heap:=h',toks:=t'}:=by
 have hn:H p=none:=I.hok.fresh hp;have nit:∀b u,H b=some u->b ∉ ch:=λb u e z=>by rw [(hf b z).1]at e;cases e
 have old:∀b u,s.heap.get? b=some u->b≠p:=λb u e=>jG (kZ (dh e) hp);refine I.step (g':=s.gens) (d':=s.drawn) (ch:=ch) (λb hb=>⟨(hf b hb).2.2.2.1,(hf b hb).2.1,(hf b hb).2.2.2.2.1,(hf b hb).2.2.2.2.2⟩) (λb o _ _ hc e _=>k b o hc e) (λb o _ _ hc e _=>⟨o.slots,k b o hc e⟩)
  (λb u _ e n=>by rw [aM (old b u e)];exact n) (λb o hc e=>⟨o,k b o hc e⟩) (λb xs e=>by rw [aM (aQ e hn)];exact e) (λb u xs e=>by rw [aM (aQ e hn)];exact e)
  (λb ps e=>⟨#[],by rw [aM (aQ e hn),e];simp⟩) (λm hm=>?_) (λb u e=>?_) I.bare
 . obtain⟨ob,es,ep,ho,r⟩:=hm;exact⟨ob,es,ep,k _ ob (λz=>(hf _ z).2.1 rfl) ho,r⟩
 . by_cases hb:b=p
   . subst hb;rw [aR]at e;cases e;exact new
   . rw [aM hb]at e;refine(I.hok b u e).stay (λc v hc q=>k c v ?_ q) (λc q=>by rw [aM (aQ q hn)];exact q) (λc xs q=>by rw [aM (aQ q hn)];exact q) λc ob xs q=>by rw [aM (aQ q hn)];exact q
     rcases hc with z|z
     . rw [z];exact nit b u e
     . exact nit c _ z
theorem Inv.turned0 {ch:List Addr}{h':Heap}{t':Nat}(I:`h)(hf:∀b∈ch,j8 X pins H b)(k:∀b u,b ∉ ch->s.heap.get? b=some u->h'.get? b=some u):Inv X pins σ H {s with heap:=h',toks:=t'}:=by
 have nit:∀b u,H b=some u->b ∉ ch:=λb u e z=>by rw [(hf b z).1]at e;cases e
 refine I.step (g':=s.gens) (d':=s.drawn) (ch:=ch) (λb hb=>⟨(hf b hb).2.2.2.1,(hf b hb).2.1,(hf b hb).2.2.2.2.1,(hf b hb).2.2.2.2.2⟩) (λb o _ _ hc e _=>k b o hc e) (λb o _ _ hc e _=>⟨o.slots,k b o hc e⟩)
  (λ_ _ _ _ n=>n) (λb o hc e=>⟨o,k b o hc e⟩) (λ_ _ e=>e) (λ_ _ _ e=>e) (λb ps e=>⟨#[],by rw [e];simp⟩) (λm hm=>?_) (λb u e=>?_) I.bare
 . obtain⟨ob,es,ep,ho,r⟩:=hm;exact⟨ob,es,ep,k _ ob (λz=>(hf _ z).2.1 rfl) ho,r⟩
 . refine(I.hok b u e).stay (λc v hc q=>k c v ?_ q) (λ_ q=>q) (λ_ _ q=>q) λ_ _ _ q=>q
   rcases hc with z|z
   . rw [z];exact nit b u e
   . exact nit c _ z
end
structure Src (P:Program) (w:World) (K:Fg) (a it:Addr) (S:Hp->List V->Prop) (IT:Nat->Heap->Prop):Prop where
 inj:∀(X:Cx),X.K=K->∀(pins:`k) (σ:St) (H:Hp) (s:Shared) (xs ys:List V),Inv X pins σ H s->S H xs->S H ys->xs=ys
 at_:∀i h h',IT i h->(∀o,h.get? it=some o->h'.get? it=some o)->IT i h'
 ob:∀i h,IT i h->∃o n,h.get? it=some o/\o.cls=.type n/\n≠ "list"/\n≠ "tuple"/\n≠ "enumerate"/\n≠ "zip"/\∀v,o.data≠ .cell v
 dr:∀(X:Cx),X.prog=P->X.w=w->X.K=K->∀(pins:`k) (σ:St) (H:Hp) (s:Shared) (xs:List V),Inv X pins σ H s->S H xs->∃(its:List Value) (SA:Heap->Prop),Vals xs its/\SA s.heap/\
  (∃o n,s.heap.get? a=some o/\o.cls=.type n/\(n="list"\/n="tuple"))/\∀A:Around,A.handled=none->a≠it->Draws P w A it [it,a] its.toArray.size (λi v=>its.toArray[i]? =some v) λi h=>IT i h/\SA h
variable {P:Program}
theorem Ld(a it:Addr):Src P w K a it (λH xs=>SqT K H a xs) (λi h=>h.IsTupleIter it a i) where
 inj:=λX hK pins σ H s xs ys I h1 h2=>by subst hK;exact I.tuple_inj h1 h2
 at_:=λi h h' x e=>x.at e
 ob:=λi h x=>by obtain⟨o,e,c,d⟩:=x;exact⟨o,_,e,c,by decide,by decide,by decide,by decide,λv z=>by rw [d]at z;cases z⟩
 dr:=λX hP hw hK pins σ H s xs I h=>by
  subst hP hw hK;obtain⟨its,rv,p,hz⟩:=I.tuple h;refine⟨its,λh=>h.IsTuple a its.toArray,rv,p,?_,λA hh ne=>QD hh it a ne its.toArray⟩;obtain⟨o,e,c,_⟩:=p;exact⟨o,_,e,c,.inr rfl⟩
theorem P7(a it:Addr):Src P w K a it (λH xs=>SqL K H a xs) (λi h=>h.IsListIter it a i) where
 inj:=λX hK pins σ H s xs ys I h1 h2=>by subst hK;exact I.list_inj h1 h2
 at_:=λi h h' x e=>x.at e
 ob:=λi h x=>by obtain⟨o,e,c,d⟩:=x;exact⟨o,_,e,c,by decide,by decide,by decide,by decide,λv z=>by rw [d]at z;cases z⟩
 dr:=λX hP hw hK pins σ H s xs I h=>by
  subst hP hw hK;obtain⟨its,rv,p,hz⟩:=I.list h;refine⟨its,λh=>h.IsList a its.toArray,rv,p.isList,?_,λA hh ne=>Draws.list hh it a ne its.toArray⟩;obtain⟨o,e,c,_⟩:=p.isList;exact⟨o,_,e,c,.inl rfl⟩
theorem bT {h:Heap}{b:Addr}{o u:Obj}{n m:String}(e:h.get? a=some o)(c:o.cls=.type n)(e':h.get? b=some u)(c':u.cls=.type m)(d:n≠m):a≠b:=λz=>by
 subst z;rw [e]at e';cases e';rw [c]at c';exact d (by injection c')
def Ox(S:Hp->List V->Prop):It:=
 ⟨λi H=>∃xs x,S H xs/\xs[i]? =some x,λi H x H'=>∃p v,H p=none/\x=.ref p/\H'=bC H p (.tup [.int (i:Nat),v])/\∀xs,S H xs->xs[i]? =some v,λi H=>∃xs,S H xs/\xs.length=i⟩
variable {es:List Expr}
theorem vB {k1:Nat}{tp:Pos}{e it:Addr}{S:Hp->List V->Prop}{IT:Nat->Heap->Prop}(R:Src P w K a it S IT):
 Turn P w K (.Tuple es k1 tp) (Ox S) [e,it] e (λi h=>(∃old,IsEnum h e it (i:Nat) old)/\IT i h) where
 mem:=by simp
 obj:=λi h st b hb=>by
  obtain⟨⟨old,he⟩,hi⟩:=st;have hb':b=e\/b=it:=by simpa using hb
  rcases hb' with z|z
  . subst z;exact⟨_,he,λv z=>by cases z⟩
  . subst z;obtain⟨o,n,q,_,_,_,_,_,d⟩:=R.ob _ _ hi;exact⟨o,q,d⟩
 keep:=λi h h' st k=>by
  obtain⟨⟨old,he⟩,hi⟩:=st;exact⟨⟨old,k e (by simp) _ he⟩,R.at_ _ _ _ hi λo q=>k it (by simp) o q⟩
 item:=by
  intro X hP hw hK hc i pins s σ H E I hf st hg;obtain⟨xs,x,hq,hx⟩:=hg;obtain⟨⟨old,he⟩,hi⟩:=st;obtain⟨its,SA,rv,sa,⟨oa,na,ea,ca,da⟩,dr⟩:=R.dr X hP hw hK pins σ H s xs I hq;obtain⟨oi,ni,ei,ci,d1,d2,d3,_,_⟩:=R.ob _ _ hi;have nai:a≠it:=bT ea ca ei ci (by rcases da with z|z<;>(subst z;first|exact d1.symm|exact d2.symm))
  have nea:e≠a:=bT he rfl ea ca (by rcases da with z|z<;>(subst z;decide))
  have nei:e≠it:=bT he rfl ei ci (Ne.symm d3);obtain⟨u,hu,ru⟩:=rv.get hx;have hh:X.A.in1.handled=none:=I.ok.hd hc;have hlt:i < its.toArray.size:=by have:=(C6.mp hu).1;simpa using this
  subst hP hw;refine wpAny_pyNext_enum_itemD (dr _ hh nai) he ⟨hi,sa⟩ hlt nei (by simp [nei,nea]) λy h' tk py heo st' ht hsz hk=>?_
  have ey:y=u:=by
   have:its[i]? =some y:=by simpa using py
   rw [hu]at this;exact(zV this).symm
  subst ey;refine⟨_,rfl,wpAny_letOwnedTupleGo_enum heo λh2 he2 c2=>?_⟩;have c2:Heap.SameBut e h' h2:=c2;have el:e < `a:=dh he;have t2:h2.get? `a=some {cls:=.type "tuple",data:=.seq #[.int i tk,y]}:=(c2.2 _ (uL el)).trans ht;have I2:Inv X pins σ (bC H `a (.tup [.int (i:Nat),x])) {s with heap:=h2,toks:=tk+1}:=I.turnedN (ch:=[e,it]) hf (λb o hb q=>by
   have hb':b≠e/\b≠it:=by simpa using hb
   exact(c2.2 _ hb'.1).trans (hk b o hb'.1 hb'.2 q)) (Q1 _) ⟨by show 2<=sizeLine;decide,[.int i tk,y],.cons ⟨tk,rfl⟩ (.cons ru .nil),⟨_,t2,rfl,_,rfl⟩,_,t2,rfl⟩
  have hn:H `a=none:=I.hok.fresh (Q1 _);refine⟨.ref `a,_,I2,rfl,⟨_,x,hn,rfl,rfl,λys hy=>by rw [R.inj X hK pins σ H s ys xs I hy hq];exact hx⟩,⟨⟨_,by simpa using he2⟩,R.at_ _ _ _ st'.1 λo q=>(c2.2 _ nei.symm).trans q⟩,λb hb=>?_⟩
  have lb:b < `a:=by
   have hb':b=e\/b=it:=by simpa using hb
   rcases hb' with z|z
   . rw [z];exact el
   . rw [z];exact dh ei
  rw [aM (jG lb)];exact(hf b hb).1
 done:=by
  intro X hP hw hK hc i pins s σ H E I hf st hg;obtain⟨xs,hq,hx⟩:=hg;obtain⟨⟨old,he⟩,hi⟩:=st;obtain⟨its,SA,rv,sa,⟨oa,na,ea,ca,da⟩,dr⟩:=R.dr X hP hw hK pins σ H s xs I hq;obtain⟨oi,ni,ei,ci,d1,d2,d3,_,_⟩:=R.ob _ _ hi;have nai:a≠it:=bT ea ca ei ci (by rcases da with z|z<;>(subst z;first|exact d1.symm|exact d2.symm))
  have hh:X.A.in1.handled=none:=I.ok.hd hc;subst hP hw;have hl:its.toArray.size=i:=by rw [<-hx,rv.length];simp
  refine wpAny_pyNext_enum_endD (dr _ hh nai) he (by rw [hl];exact⟨hi,sa⟩) λh' eb=>⟨rfl,I.turned0 (t':=s.toks) (ch:=[e,it]) hf λb u hb q=>?_⟩
  have hb':b≠e/\b≠it:=by simpa using hb
  exact eb b u hb'.2 q
 self:=λA i s Q E st h=>by
  obtain⟨⟨old,he⟩,hi⟩:=st;exact wpAny_pyIter_enum he h
def P8(S1 S2:Hp->List V->Prop):It:=
 ⟨λ i H => ∃ xs ys x y, S1 H xs /\ S2 H ys /\ xs[i]? = some x /\ ys[i]? = some y,
  λi H x H'=>∃p v u,H p=none/\x=.ref p/\H'=bC H p (.tup [v,u])/\(∀xs,S1 H xs->xs[i]? =some v)/\∀ys,S2 H ys->ys[i]? =some u,
  λi H=>∃xs,S1 H xs/\xs.length=i⟩
theorem Ey {k1:Nat}{tp:Pos}{a1 a2 z TI TO i1 i2:Addr}{S1 S2:Hp->List V->Prop}{IT1 IT2:Nat->Heap->Prop}(R1:Src P w K a1 i1 S1 IT1)(R2:Src P w K a2 i2 S2 IT2)(n12:i1≠i2)(nT:TI≠TO):
 Turn P w K (.Tuple es k1 tp) (P8 S1 S2) [z,TI,TO,i1,i2] z (λi h=>IsZip h z TI TO .none/\IsPair h TI (.ref i1) (.ref i2)/\(∃a b,IsPair h TO a b)/\IT1 i h/\IT2 i h/\a1≠TO/\a2≠TO) where
 mem:=by simp
 obj:=λi h st b hb=>by
  obtain⟨hz,hTI,⟨a,b',hTO⟩,h1,h2,_,_⟩:=st;have hb':b=z\/b=TI\/b=TO\/b=i1\/b=i2:=by simpa using hb
  rcases hb' with q|q|q|q|q
  . subst q;exact⟨_,hz,λv z=>by cases z⟩
  . subst q;exact⟨_,hTI,λv z=>by cases z⟩
  . subst q;exact⟨_,hTO,λv z=>by cases z⟩
  . subst q;obtain⟨o,n,q,_,_,_,_,_,d⟩:=R1.ob _ _ h1;exact⟨o,q,d⟩
  . subst q;obtain⟨o,n,q,_,_,_,_,_,d⟩:=R2.ob _ _ h2;exact⟨o,q,d⟩
 keep:=λi h h' st k=>by
  obtain⟨hz,hTI,⟨a,b',hTO⟩,h1,h2,q1,q2⟩:=st;exact⟨k z (by simp) _ hz,k TI (by simp) _ hTI,⟨a,b',k TO (by simp) _ hTO⟩,R1.at_ _ _ _ h1 λo q=>k i1 (by simp) o q,R2.at_ _ _ _ h2 λo q=>k i2 (by simp) o q,q1,q2⟩
 item:=by
  intro X hP hw hK hc i pins s σ H E I hf st hg;obtain⟨xs,ys,x,y,hq1,hq2,hx,hy⟩:=hg;obtain⟨hz,hTI,⟨a,b',hTO⟩,h1,h2,q1,q2⟩:=st;obtain⟨is1,SA1,rv1,sa1,⟨oa1,na1,ea1,ca1,da1⟩,dr1⟩:=R1.dr X hP hw hK pins σ H s xs I hq1;obtain⟨is2,SA2,rv2,sa2,⟨oa2,na2,ea2,ca2,da2⟩,dr2⟩:=R2.dr X hP hw hK pins σ H s ys I hq2;obtain⟨o1,n1,e1,c1,d11,d12,d13,d14,_⟩:=R1.ob _ _ h1;obtain⟨o2,n2,e2,c2,d21,d22,d23,d24,_⟩:=R2.ob _ _ h2;have s11:a1≠i1:=bT ea1 ca1 e1 c1 (by rcases da1 with z|z<;>(subst z;first|exact d11.symm|exact d12.symm))
  have s22:a2≠i2:=bT ea2 ca2 e2 c2 (by rcases da2 with z|z<;>(subst z;first|exact d21.symm|exact d22.symm))
  have s12:a1≠i2:=bT ea1 ca1 e2 c2 (by rcases da1 with z|z<;>(subst z;first|exact d21.symm|exact d22.symm))
  have s21:a2≠i1:=bT ea2 ca2 e1 c1 (by rcases da2 with z|z<;>(subst z;first|exact d11.symm|exact d12.symm))
  have sz1:a1≠z:=bT ea1 ca1 hz rfl (by rcases da1 with z|z<;>(subst z;decide))
  have sz2:a2≠z:=bT ea2 ca2 hz rfl (by rcases da2 with z|z<;>(subst z;decide))
  have tz:TI≠z:=bT hTI rfl hz rfl (by decide)
  have oz:TO≠z:=bT hTO rfl hz rfl (by decide)
  have iz1:i1≠z:=bT e1 c1 hz rfl d14;have iz2:i2≠z:=bT e2 c2 hz rfl d24;have oi1:TO≠i1:=bT hTO rfl e1 c1 (Ne.symm d12);have oi2:TO≠i2:=bT hTO rfl e2 c2 (Ne.symm d22);have ti1:TI≠i1:=bT hTI rfl e1 c1 (Ne.symm d12);have ti2:TI≠i2:=bT hTI rfl e2 c2 (Ne.symm d22);obtain⟨u,hu,ru⟩:=rv1.get hx;obtain⟨v,hv,rv⟩:=rv2.get hy;have hh:X.A.in1.handled=none:=I.ok.hd hc;have l1:i < is1.toArray.size:=by have:=(C6.mp hu).1;simpa using this
  have l2:i < is2.toArray.size:=by have:=(C6.mp hv).1;simpa using this
  subst hP hw;have ap:ZA z TI TO i1 i2 [i1,a1] [i2,a2]:=⟨tz,oz,iz1,iz2,oi1,oi2,by simp [iz1.symm,sz1.symm],by simp [iz2.symm,sz2.symm],by simp [oi1,q1.symm],by simp [oi2,q2.symm],by simp [n12.symm,s12.symm],by simp [n12,s21.symm]⟩
  refine AU (dr1 _ hh s11) (dr2 _ hh s22) ap hz hTI hTO ⟨h1,sa1⟩ ⟨h2,sa2⟩ l1 l2 λx' y' h' tk p1 p2 z' to' w1 w2 t' sz' hk=>?_;have ex:x'=u:=by
   have:is1[i]? =some x':=by simpa using p1
   rw [hu]at this;exact(zV this).symm
  have ey:y'=v:=by
   have:is2[i]? =some y':=by simpa using p2
   rw [hv]at this;exact(zV this).symm
  subst ex ey;refine⟨_,rfl,wpAny_letOwnedTupleGo_zip z' λg2 z2 cc=>?_⟩;have cc:Heap.SameBut z h' g2:=cc;have zl:z < `a:=dh hz;have t2:IsPair g2 `a x' y':=(cc.2 _ (uL zl)).trans t';have I2:Inv X pins σ (bC H `a (.tup [x,y])) {s with heap:=g2,toks:=tk}:=I.turnedN (ch:=[z,TI,TO,i1,i2]) hf (λb o hb q=>by
   have hb':b≠z/\b≠TI/\b≠TO/\b≠i1/\b≠i2:=by simpa using hb
   exact(cc.2 _ hb'.1).trans (hk b o hb'.1 hb'.2.2.1 hb'.2.2.2.1 hb'.2.2.2.2 q)) (Q1 _) ⟨by show 2<=sizeLine;decide,[x',y'],.cons ru (.cons rv .nil),⟨_,t2,rfl,_,rfl⟩,_,t2,rfl⟩
  have hn:H `a=none:=I.hok.fresh (Q1 _);refine⟨.ref `a,_,I2,rfl,⟨_,x,y,hn,rfl,rfl,λzs hz'=>by rw [R1.inj X hK pins σ H s zs xs I hz' hq1];exact hx,λzs hz'=>by rw [R2.inj X hK pins σ H s zs ys I hz' hq2];exact hy⟩,
   ⟨z2,(cc.2 _ tz).trans (hk _ _ tz nT ti1 ti2 hTI),⟨_,_,(cc.2 _ oz).trans to'⟩,R1.at_ _ _ _ w1.1 λo q=>(cc.2 _ iz1).trans q,R2.at_ _ _ _ w2.1 λo q=>(cc.2 _ iz2).trans q,q1,q2⟩,λb hb=>?_⟩
  have lb:b < `a:=by
   have hb':b=z\/b=TI\/b=TO\/b=i1\/b=i2:=by simpa using hb
   rcases hb' with q|q|q|q|q<;>rw [q]
   . exact zl
   . exact dh hTI
   . exact dh hTO
   . exact dh e1
   . exact dh e2
  rw [aM (jG lb)];exact(hf b hb).1
 done:=by
  intro X hP hw hK hc i pins s σ H E I hf st hg;obtain⟨xs,hq1,hx⟩:=hg;obtain⟨hz,hTI,⟨a,b',hTO⟩,h1,h2,q1,q2⟩:=st;obtain⟨is1,SA1,rv1,sa1,⟨oa1,na1,ea1,ca1,da1⟩,dr1⟩:=R1.dr X hP hw hK pins σ H s xs I hq1;obtain⟨o1,n1,e1,c1,d11,d12,d13,d14,_⟩:=R1.ob _ _ h1;obtain⟨o2,n2,e2,c2,d21,d22,d23,d24,_⟩:=R2.ob _ _ h2;have s11:a1≠i1:=bT ea1 ca1 e1 c1 (by rcases da1 with z|z<;>(subst z;first|exact d11.symm|exact d12.symm))
  have s12:a1≠i2:=bT ea1 ca1 e2 c2 (by rcases da1 with z|z<;>(subst z;first|exact d21.symm|exact d22.symm))
  have sz1:a1≠z:=bT ea1 ca1 hz rfl (by rcases da1 with z|z<;>(subst z;decide))
  have tz:TI≠z:=bT hTI rfl hz rfl (by decide)
  have oz:TO≠z:=bT hTO rfl hz rfl (by decide)
  have iz1:i1≠z:=bT e1 c1 hz rfl d14;have iz2:i2≠z:=bT e2 c2 hz rfl d24;have oi1:TO≠i1:=bT hTO rfl e1 c1 (Ne.symm d12);have oi2:TO≠i2:=bT hTO rfl e2 c2 (Ne.symm d22);have hh:X.A.in1.handled=none:=I.ok.hd hc;subst hP hw;have hl:is1.toArray.size=i:=by rw [<-hx,rv1.length];simp
  have ap:ZA z TI TO i1 i2 [i1,a1] []:=⟨tz,oz,iz1,iz2,oi1,oi2,by simp [iz1.symm,sz1.symm],by simp,by simp [oi1,q1.symm],by simp,by simp [n12.symm,s12.symm],by simp⟩
  refine Cv (dr1 _ hh s11) ap hz hTI hTO (by rw [hl];exact⟨h1,sa1⟩) λh' eb=>⟨rfl,I.turned0 (t':=s.toks) (ch:=[z,TI,TO,i1,i2]) hf λb u hb q=>?_⟩
  have hb':b≠z/\b≠TI/\b≠TO/\b≠i1/\b≠i2:=by simpa using hb
  exact eb b u hb'.1 hb'.2.2.2.1 q
 self:=λA i s Q E st h=>wpAny_pyIter_zip st.1 h
section
variable {X:Cx} {es:List Expr} {k1:Nat} {tp:Pos}
def Ez(K:Fg)(ta:TA):TI:=λσ H R=>ta σ H λvs H1=>∃a b,vs=[.ref a,.ref b]/\(∃xs,SqT K H1 a xs)/\(∃ys,SqT K H1 b ys)/\R (P8 (λH xs=>SqT K H a xs) λH xs=>SqT K H b xs) H1
theorem Ij {a b:Expr}{ta:TA}{p pos:Pos}(hg:Gl X "zip")(hm:X.mg "zip"=none)(ha:PA X [a,b] ta)(hs:starEach [a,b] X.env=[(false,eval a X.env),(false,eval b X.env)]:=by rfl)(hs2:starEach [b] X.env=[(false,eval b X.env)]:=by rfl):
 PI X (.Tuple es k1 tp) (.Call (.Name "zip" p) [a,b] [] pos) (Ez X.K ta):=by
 intro pins s σ H R I h;refine Call_ (jn I hg hm boot_zip (PyProof.Rows.callWith_type1 (bq (ha pos pins s σ H _ I h) λus s1 q_=>?_) (by rw [hs,hs2]) (by rw [hs2];rfl)))
 obtain⟨vs,H1,I1,r1,q1⟩:=q_;obtain⟨c,d,e,⟨xs,hx⟩,⟨ys,hy⟩,q⟩:=q1;subst e;cases r1 with
 |cons r rr=>
  cases rr with
  |cons r' rr=>
   cases rr;cases r;cases r';obtain⟨its,rv,pt,hz⟩:=I1.tuple hx;obtain⟨its2,rv2,pt2,hz2⟩:=I1.tuple hy;refine Cw (show s1.heap.IsTuple c its.toArray from pt) (show s1.heap.IsTuple d its2.toArray from pt2) λh' q1 q2 q3 q4 q5 q6 q7=>?_
   have lc:=pt.lt;have ld:=pt2.lt;refine wpAny_pyIter_zip q1 ⟨_,[_,_,_,_,_],_,_,H1,rfl,I1.kept (t':=s1.toks) q7,Ey (TI:=s1.heap.objs.size+2) (TO:=s1.heap.objs.size+3) (Ld c s1.heap.objs.size) (Ld d (s1.heap.objs.size+1)) (jG (C8 _)) (jG (C8 _)),⟨q1,q2,⟨_,_,q3⟩,q4,q5,jG (kZ lc (IL _ _)),jG (kZ ld (IL _ _))⟩,λb hb=>?_,q⟩;have hb':b=s1.heap.objs.size+4\/b=s1.heap.objs.size+2\/b=s1.heap.objs.size+3\/b=s1.heap.objs.size\/b=s1.heap.objs.size+1:=by simpa using hb
   have hle:s1.heap.objs.size<=b:=by
    rcases hb' with z|z|z|z|z<;>rw [z]
    all_goals first|exact Q1 _|exact IL _ _
   exact I1.fpOk hle (I1.hok.fresh hle)
end
mutual
noncomputable def IsD(K:Fg)(H:Hp)(x:V):PyData->Prop
 | .none=>x=.non
 | .bool b=>x=.bl b
 | .int i=>x=.int i
 | .str y=>x=.str y
 | .list ds=>∃a xs,x=.ref a/\SqL K H a xs/\AllD K H xs ds
 | .tuple ds=>∃a xs,x=.ref a/\SqT K H a xs/\AllD K H xs ds
 | .dict _=>False
noncomputable def AllD(K:Fg)(H:Hp)(xs:List V):List PyData->Prop
 |[]=>xs=[]
 |d::ds=>∃x r,xs=x::r/\IsD K H x d/\AllD K H r ds
end
theorem bV {p:Addr}(h:H p=none)(o:HO):Same H (bC H p o):=λb u q=>by rw [aM (aQ q h)];exact q
section
variable {X:Cx} {pins:`k} {σ:St} {H:Hp} {s:Shared}
mutual
theorem IsD.reads(I:`h):∀{x:V} {u:Value} (d:PyData),IsD X.K H x d->RelV x u->∃as,Reads s.heap u d as
 |_,_,.none,h,r=>by rw [show _=V.non from h]at r;cases r;exact⟨_,.none⟩
 |_,_,.bool b,h,r=>by rw [show _=V.bl b from h]at r;cases r;exact⟨_,.bool b⟩
 |_,_,.int i,h,r=>by rw [show _=V.int i from h]at r;obtain⟨t,rfl⟩:=r;exact⟨_,.int i t⟩
 |_,_,.str y,h,r=>by rw [show _=V.str y from h]at r;obtain⟨t,rfl⟩:=r;exact⟨_,.str y t⟩
 |_,_,.list ds,h,r=>by
  obtain⟨a,xs,e,q,al⟩:=h;subst e;cases r;obtain⟨its,rv,p,_⟩:=I.list q;obtain⟨o,h1,h2,n,h3⟩:=p.isList;obtain⟨as,ra⟩:=AllD.reads I ds al rv;exact⟨_,.list h1 h2 h3 (by simpa using ra)⟩
 |_,_,.tuple ds,h,r=>by
  obtain⟨a,xs,e,q,al⟩:=h;subst e;cases r;obtain⟨its,rv,p,_⟩:=I.tuple q;obtain⟨o,h1,h2,n,h3⟩:=p;obtain⟨as,ra⟩:=AllD.reads I ds al rv;exact⟨_,.tuple h1 h2 h3 (by simpa using ra)⟩
 |_,_,.dict _,h,_=>h.elim
theorem AllD.reads(I:`h):∀{xs:List V} {us:List Value} (ds:`g),AllD X.K H xs ds->Vals xs us->∃as,ReadsAll s.heap us ds as
 |_,_,[],h,r=>by rw [show _=[]from h]at r;cases r;exact⟨_,.nil⟩
 |_,_,d::ds,h,r=>by
  obtain⟨x,rr,e,q,al⟩:=h;subst e;cases r with
  |cons r1 r2=>
   obtain⟨as,ra⟩:=IsD.reads I d q r1;obtain⟨bs,rb⟩:=AllD.reads I ds al r2;exact⟨_,.cons ra rb⟩
end
def vC(d:PyData):Prop:=d.canLay0=true/\d.depth<=60
def Cy(K:Fg)(neg:Bool):R2:=λx y H Q=>∃da db,IsD K H x da/\IsD K H y db/\vC da/\vC db/\Q (.bl (if neg then !PyData.eqv da db else PyData.eqv da db)) H
theorem Le(hu:X.A.units+64 < cLine):OpR X (compareOp .Eq) (Cy X.K false):=by
 intro pins s σ H x y v u Q I rx ry h;obtain⟨da,db,hx,hy,ca,cb,q⟩:=h;obtain⟨as,ra⟩:=hx.reads I _ rx;obtain⟨bs,rb⟩:=hy.reads I _ ry;exact SeqAt.compareEq_reads ra rb ca.1 cb.1 (by have:=ca.2;lia) ⟨.bl _,H,I,rfl,q⟩
theorem Lf(hu:X.A.units+64 < cLine):OpR X (compareOp .NotEq) (Cy X.K true):=by
 intro pins s σ H x y v u Q I rx ry h;obtain⟨da,db,hx,hy,ca,cb,q⟩:=h;obtain⟨as,ra⟩:=hx.reads I _ rx;obtain⟨bs,rb⟩:=hy.reads I _ ry;exact SeqAt.compareNe_reads ra rb ca.1 cb.1 (by have:=ca.2;lia) ⟨.bl _,H,I,rfl,q⟩
def Lg(K:Fg):List V->Hp->VK->Prop:=λxs H Q=>∃(p:Addr) (bs:List Bool),xs=[.ref p]/\SqL K H p (bs.map V.bl)/\Q (.bl (bs.all id)) H
theorem Cz {bs:List Bool}:(List.range bs.length).all (λi=>bs.getD i true)=bs.all id:=by
 rw [Bool.eq_iff_iff,Q2,Q2]
 constructor
 . intro h x hx;obtain⟨i,hi,e⟩:=List.mem_iff_getElem.mp hx;have:=h i (by simpa using hi)
   rw [gh,dS hi,e]at this;exact this
 . intro h i hi;have hi':i < bs.length:=by simpa using hi
   rw [gh,dS hi'];exact h _ (AA hi')
theorem FA(hc:X.calm=true):dX X (.builtin "all") (Lg X.K):=by
 intro pins s σ H xs us Q I rv h;obtain⟨p,bs,rfl,hq,q⟩:=h;obtain⟨u,rfl,r⟩:=rv.one;cases r;obtain⟨its,rr,pl,hz⟩:=I.list hq;have hl:its.length=bs.length:=by rw [<-rr.length,zJ]
 have hh:X.A.in1.handled=none:=I.ok.hd hc;have lp:p < `a:=by obtain⟨o,e,_⟩:=pl.isList;exact dh e
 refine call_all_walk (wpAny_pyIter_list pl.isList ⟨_,_,_,_,_,_,λi=>bs.getD i true,rfl,Walks.list hh `a p (jG lp) its.toArray,⟨⟨_,fU _ rfl,rfl,rfl⟩,pl.isList.push _⟩,?_,λh' tk k=>?_⟩)
 . intro i v s' Q' E' hP hQ;have hP':its[i]? =some v:=by simpa using hP
   have hi:i < its.length:=(C6.mp hP').1;have hb:(bs.map V.bl)[i]? =some (.bl (bs[i]'`e)):=by rw [zK,dS `e];rfl
   obtain⟨u,hu,ru⟩:=rr.get hb;rw [hP']at hu;cases hu;cases ru;have e:bs.getD i true=bs[i]'`e:=by rw [gh,dS `e];rfl
   have hQ':Q' (bs.getD i true) s':=hQ;rw [e]at hQ';exact wpAny_truthy_bool hQ'
 . have e:(List.range its.toArray.size).all (λi=>bs.getD i true)=bs.all id:=by rw [zM,hl,Cz]
   rw [e];refine⟨.bl _,H,?_,rfl,q⟩;refine I.kept λb o eb=>k b o ?_ (df _ eb);simp only [Q7];exact jG (dh eb)
def Bb:V->List V->Hp->VK->Prop:=λx vs H Q=>∃(l:Addr) (ns:`f) (n:Int),x=.ref l/\vs=[.int n]/\H l=some (.lst (ns.map V.int))/\n∈ns/\Q .non (bC H l (.lst ((ns.erase n).map V.int)))
theorem DA(n:Int)(ns:`f):∀{us:List Value},Vals (ns.map V.int) us->n∈ns->∃j,∃(hj:j < us.length),EN (.int n) us[j]=true/\(∀m (hm:m < us.length),m < j->EN (.int n) us[m]=false)/\Vals ((ns.erase n).map V.int) (us.eraseIdx j):=by
 induction ns with
 |nil=>intro us _ h;simp at h
 |cons a r ih=>
  intro us rv h;cases rv with
  | @cons _ b _ l2 r1 r2=>
   obtain⟨t,rfl⟩:=(show ∃t,b=Value.int a t from r1)
   by_cases e:a=n
   . subst e;refine⟨0,by simp,?_,λm _ hm=>absurd hm (Nat.not_lt_zero _),?_⟩
     . show Cm (.int a) (.int a)=true;simp [Cm]
     . simpa using r2
   . have hr:n∈r:=by
      rcases Q3.mp h with z|z
      . exact absurd z.symm e
      . exact z
     obtain⟨j,hj,h1,h2,h3⟩:=ih r2 hr;refine⟨j+1,by simpa using hj,by simpa using h1,λm hm hmj=>?_,?_⟩
     . cases m with
       |zero=>
        show Cm (.int a) (.int n)=false;simp [Cm,e]
       |succ m=>simpa using h2 m (by simpa using hm) `e
     . rw [List.erase_cons_tail (by simpa using e)]
       exact .cons ⟨t,rfl⟩ h3
theorem vD:P6 X "list.remove" Bb:=by
 intro pins s σ H x vs v us Q I rx rv h;obtain⟨l,ns,n,rfl,rfl,hH,hm,q⟩:=h;cases rx;obtain⟨u,rfl,ru⟩:=rv.one;obtain⟨z,its,k,r,hl,e⟩:=I.lstM hH;obtain⟨t,rfl⟩:=(show ∃t,u=Value.int n t from ru)
 obtain⟨j,hj,h1,h2,h3⟩:=DA n ns r hm;have hz:its.length<=sizeLine:=by rw [<-hl];exact z
 refine call_meets F.slot_list_remove ⟨_,e,rfl⟩ F.entry_list_remove (F.args_list_remove_2 _ _) (MeetsSeq.list_remove l its.toArray k (.int n t) (EN (.int n)) ?_ j (by simpa using hj) (by simpa using h1) (λm hm hmj=>by simpa using h2 m (by simpa using hm) hmj) (by rw [zM];exact hz)) ⟨e,?_⟩
 . intro y hy;have hy':y∈its:=by simpa using hy
   obtain⟨i,hi,ei⟩:=List.mem_iff_getElem.mp hy';have hl':(ns.map V.int).length=its.length:=r.length;have hi':i < ns.length:=by rw [zJ]at hl';lia
   obtain⟨u,hu,ru⟩:=r.get (i:=i) (x:=.int ns[i]) (by rw [zK,dS hi']<;>rfl)
   rw [dS hi,ei]at hu;cases hu;obtain⟨t',rfl⟩:=ru;exact MeetsSeq.EqGives.int ns[i] n t' t
 . refine⟨.non,_,I.lset (its':=its.eraseIdx j) hH e (by simp [Array.eraseIdxIfInBounds,hj]) h3 ?_,rfl,q⟩
   rw [zJ];have:=List.length_erase_le (a:=n) (l:=ns);rw [zJ]at z;lia
end
section
variable {prog:Program} {w:World} {A:Around} {E:`d} {s:Shared}
end
section
variable {X:Cx}
end
section
variable {prog:Program} {w:World} {A:Around} {E:`d} {s:Shared}
theorem Ik {t b:Addr}{vs ws:List Value}{Q:`d}(ht:IsTup s.heap t vs.toArray)(hb:IsTup s.heap b ws.toArray)(hv:vs=[])(h:Q (.ref b) s):wpAny `m A (binaryOp .Add (.ref t) (.ref b)) Q E s:=by
 obtain⟨⟨cls,dd,data,sl⟩,ho,hc,n,hd⟩:=id ht;obtain⟨⟨cls2,dd2,data2,sl2⟩,ho2,hc2,n2,hd2⟩:=id hb;simp only at hc hd hc2 hd2;subst hc hd hc2 hd2;exact concat_meets ⟨_,ho,rfl⟩ ⟨_,ho2,rfl⟩ noFill_tuple_add seq_tuple_add PySem.F.slot_tuple_add PySem.F.entry_tuple_add (PySem.F.args_tuple_add_2 _ _) (tuple_addW0 t b vs.toArray ws.toArray n n2 dd dd2 sl sl2 (by simp [hv])) ⟨ho,ho2,h⟩
end
section
variable {X:Cx}
end
structure Own (P:Program) (w:World) (K:Fg) (mg:`j) (base:Heap) (k:Nat) (x:Str) (ps:List Str) (sp:Sp):Prop where
 ex:∃(f:Addr) (fd:FuncData),FnOk P w K mg base pH k f fd ps sp/\mg x=some (.ref f)/\PySem.W.keepIn K (.ref f)=true/\Binds K fd ps []
section
variable {X:Cx}
theorem aV {k n:Nat}{x:Str}{ps:List Str}{sp:Sp}{p pos:Pos}{e:Expr}{t:TA}(O:Own X.prog X.w X.K X.mg X.base k x ps sp)(hr:Room n X.A)(ha:PA X (e::es) t)(hkn:k<=n:=by decide)(hg:Gl X x:=by rfl)
 (hdb:(x==("__debug__":Str))=false:=by decide) (he:starEach (e::es) X.env=(false,eval e X.env)::starEach es X.env:=by rfl) (hpl:(backTo pos (starEach es X.env)).any (·.1)=false:=by rfl):
 PE X (.Call (.Name x p) (e::es) [] pos) (Eg sp [] E0 t):=by
 obtain⟨f,fd,F,m,kp,b⟩:=O.ex;exact IV F (hr.mono hkn) hg m kp b .nil nh ha hdb he hpl
end
structure Bt (mg:`j):Prop where
 len:mg "len"=none
 isinstance:mg "isinstance"=none
 range:mg "range"=none
 int:mg "int"=none
 bool:mg "bool"=none
 tuple:mg "tuple"=none
 list:mg "list"=none
 all:mg "all"=none
 enumerate:mg "enumerate"=none
 zip:mg "zip"=none
 sum:mg "sum"=none
 sorted:mg "sorted"=none
 max:mg "max"=none
 min:mg "min"=none
 set:mg "set"=none
 str:mg "str"=none
theorem ja:bootBuiltins "isinstance"=some (.builtin "isinstance"):=by decide+kernel
theorem jI {n:Nat}(h:n<=1000):n<=sizeLine:=AF (Ct h)
section
variable {X:Cx}
end
section
variable {X:Cx}
theorem Kb(K:Fg)(h:X.K=K:=by rfl):OpR X (compareOp .In) (P5 K false):=h▸Co
theorem gn(K:Fg)(hu:X.A.units+64 < cLine)(h:X.K=K:=by rfl):OpR X (compareOp .Eq) (Cy K false):=h▸Le hu
theorem AV(K:Fg)(hu:X.A.units+64 < cLine)(h:X.K=K:=by rfl):OpR X (compareOp .NotEq) (Cy K true):=h▸Lf hu
def Bc(K:Fg):List V->Hp->VK->Prop:=λxs H Q=>∃p ys,xs=[.ref p]/\(SqL K H p ys\/SqT K H p ys)/\∀l,H l=none->Q (.ref l) (bC H l (.lst ys))
def xa(K:Fg):List V->Hp->VK->Prop:=λxs H Q=>∃p ys,xs=[.ref p]/\((SqL K H p ys/\∀l,H l=none->Q (.ref l) (bC H l (.tup ys)))\/(SqT K H p ys/\Q (.ref p) H))
theorem Bd(K:Fg)(h:X.K=K:=by rfl):dX X (.type "list") (Bc K):=h▸wG
theorem iY(K:Fg)(h:X.K=K:=by rfl):dX X (.type "tuple") (xa K):=h▸uT
theorem AW(K:Fg)(h:X.K=K:=by rfl)(hc:X.calm=true:=by rfl):dX X (.builtin "all") (Lg K):=h▸FA hc
theorem Lh {k1:Nat}{tp:Pos}{a b:Expr}{ta:TA}{p pos:Pos}(K:Fg)(hm:X.mg "zip"=none)(ha:PA X [a,b] ta)(h:X.K=K:=by rfl)(hg:Gl X "zip":=by rfl)(hs:starEach [a,b] X.env=[(false,eval a X.env),(false,eval b X.env)]:=by rfl)(hs2:starEach [b] X.env=[(false,eval b X.env)]:=by rfl):
 PI X (.Tuple es k1 tp) (.Call (.Name "zip" p) [a,b] [] pos) (Ez K ta):=h▸Ij hg hm ha hs hs2
theorem nk {k1:Nat}{t:E1}{n:Nat}{pos:Pos}(K:Fg)(h2:NH X es t)(h:X.K=K:=by rfl)(hc:X.calm=true:=by rfl)(hn:(assignEach es X.env).length=n:=by rfl)(hst:(assignEach es X.env).findIdx? (·.1)=none:=by rfl):PG X (.Tuple es k1 pos) (LT K n t):=h▸LU hc h2 hn hst
def NV(K:Fg)(ta:TE):TT:=λσ H Q=>ta σ H λx H'=>∃k,IQ K x H' k/\Q k H'
theorem fX {a:Expr}{ta:TE}(K:Fg)(ha:PE X a ta)(h:X.K=K:=by rfl)(he:∀whole,isTrue a X.env whole=(do let v<-whole;standAt a.pos;holding [v] (truthy v)):=by intro _;rfl):PT X a (NV K ta):=h▸Ea ha he
end
theorem Be(c:Int):∀u:List Int,Ov (.int c) (u.map V.int)=decide (c∈u)
 |[]=>rfl
 |a::u=>by
  have ih:=Be c u;show (Cm (.int a) (.int c)||Ov (.int c) (u.map V.int))=_
  rw [ih];show ((a==c)||decide (c∈u))=_
  by_cases e:a=c
  . subst e;simp
  . have e':¬c=a:=λz=>e z.symm;have:(a==c)=false:=by simpa using e
    rw [this];simp [e']
theorem vF:∀u:List Int,(u.map V.int).all mH=true
 |[]=>rfl
 |_::u=>by
  show (true&&(u.map V.int).all mH)=true;rw [vF u];rfl
theorem ls:∀{names:List (Str×NameKind)} {n:Nat} {acc:List (Str×Addr)} {x:Str} {c:Addr},(x,c)∈cellsFrom n names acc->(x,c)∈acc\/(n<=c/\(x,NameKind.cell)∈names)
 |[],n,acc,x,c,h=>.inl h
 |(y,k)::r,n,acc,x,c,h=>by
  unfold cellsFrom at h
  by_cases hk:(k== .cell)=true
  . rw [if_pos hk]at h;have hk':k=.cell:=by simpa using hk
    rcases ls h with q|⟨q1,q2⟩
    . rcases Q3.mp q with q|q
      . injection q with q1 q2
        subst q1 q2;exact .inr ⟨Q1 _,by rw [hk'];exact gG⟩
      . exact .inl q
    . exact .inr ⟨Nat.le_of_succ_le q1,iJ _ q2⟩
  . rw [if_neg hk]at h
    rcases ls h with q|⟨q1,q2⟩
    . exact .inl q
    . exact .inr ⟨q1,iJ _ q2⟩
theorem pS:∀{names:List (Str×NameKind)} {n:Nat} {acc:List (Str×Addr)} {x y:Str} {c:Addr},(∀z∈acc,z.2 < n)->(x,c)∈cellsFrom n names acc->(y,c)∈cellsFrom n names acc->n<=c->x=y
 |[],n,acc,x,y,c,ha,h1,_,hc=>absurd (ha _ h1) (Nat.not_lt.mpr hc)
 |(z,k)::r,n,acc,x,y,c,ha,h1,h2,hc=>by
  unfold cellsFrom at h1 h2
  by_cases hk:(k== .cell)=true
  . rw [if_pos hk]at h1 h2;have ha':∀w∈(z,n)::acc,w.2 < n+1:=λw hw=>by
     rcases Q3.mp hw with q|q
     . rw [q];exact C8 _
     . exact KW (ha w q)
    by_cases e:c=n
    . subst e;have only:∀{u:Str},(u,c)∈cellsFrom (c+1) r ((z,c)::acc)->u=z:=λ{u} hu=>by
       rcases ls hu with q|⟨q,_⟩
       . rcases Q3.mp q with q|q
         . injection q
         . exact absurd (ha _ q) (zT _)
       . exact absurd q (Nat.not_succ_le_self _)
      rw [only h1,only h2]
    . exact pS ha' h1 h2 (Nat.succ_le_of_lt (Nat.lt_of_le_of_ne hc (λq=>e q.symm)))
  . rw [if_neg hk]at h1 h2;exact pS ha h1 h2 hc
theorem pT {lo:Nat}:∀{names:List (Str×NameKind)} {n:Nat} {acc:List (Str×Addr)} {x:Str} {c:Addr},lo<=n->(names.lookup x=some .cell\/∃c0,acc.lookup x=some c0/\lo<=c0)->(cellsFrom n names acc).lookup x=some c->lo<=c
 |[],n,acc,x,c,hn,h,e=>by
  rcases h with h|⟨c0,h1,h2⟩
  . simp at h
  . have e':acc.lookup x=some c:=e;rw [h1]at e';cases e';exact h2
 |(y,k)::r,n,acc,x,c,hn,h,e=>by
  unfold cellsFrom at e
  by_cases hk:(k== .cell)=true
  . rw [if_pos hk]at e;refine pT (Nat.le_succ_of_le hn) ?_ e;cases hx:x==y with
    |true=>exact .inr ⟨n,by simp [uM,hx],hn⟩
    |false=>
     rcases h with h|⟨c0,h1,h2⟩
     . exact .inl (by simpa only [uM,hx]using h)
     . exact .inr ⟨c0,by simpa only [uM,hx]using h1,h2⟩
  . rw [if_neg hk]at e;refine pT hn ?_ e
    rcases h with h|h
    . cases hx:x==y with
      |true=>
       simp only [uM,hx]at h;have:k=.cell:=zV h;rw [this]at hk;exact absurd rfl hk
      |false=>exact .inl (by simpa only [uM,hx]using h)
    . exact .inr h
theorem pU:∀{names:List (Str×NameKind)} {n:Nat} {acc:List (Str×Addr)} {x:Str},(∀y∈names,y.1=x->y.2≠ .cell)->(cellsFrom n names acc).lookup x=acc.lookup x
 |[],_,_,_,_=>rfl
 |(y,k)::r,n,acc,x,h=>by
  have hr:∀z∈r,z.1=x->z.2≠ .cell:=λz hz=>h z (iJ _ hz);unfold cellsFrom
  by_cases hk:(k== .cell)=true
  . rw [if_pos hk,pU hr];have hk':k=.cell:=by simpa using hk
    have hx:(x==y)=false:=by
     have:y≠x:=λq=>h (y,k) gG q hk';simpa using λq:x=y=>this q.symm
    simp only [uM,hx]
  . rw [if_neg hk,pU hr]
theorem mY:∀{names:List (Str×NameKind)} {h:Heap} {acc:List (Str×Addr)} {x:Str} {c:Addr},(∀z∈acc,z.2 < h.objs.size)->(x,c)∈cellsFrom h.objs.size names acc->h.objs.size<=c->(pushCells h names).IsCell c none
 |[],h,acc,x,c,ha,hm,hc=>absurd (ha _ hm) (Nat.not_lt.mpr hc)
 |(y,k)::r,h,acc,x,c,ha,hm,hc=>by
  unfold cellsFrom at hm;unfold pushCells
  by_cases hk:(k== .cell)=true
  . rw [if_pos hk]at hm ⊢;have z:(h.push {cls:=.type "cell",data:=.cell none}).objs.size=h.objs.size+1:=AC ..;have ha':∀w∈(y,h.objs.size)::acc,w.2 < (h.push {cls:=.type "cell",data:=.cell none}).objs.size:=λw hw=>by
     rw [z]
     rcases Q3.mp hw with q|q
     . rw [q];exact C8 _
     . exact KW (ha w q)
    by_cases e:c=h.objs.size
    . exact⟨_,pushCells_keeps _ _ _ _ (by rw [e];exact fU _ rfl),rfl⟩
    . rw [<-z]at hm;exact mY ha' hm (by rw [z];exact Nat.succ_le_of_lt (Nat.lt_of_le_of_ne hc λq=>e q.symm))
  . rw [if_neg hk]at hm ⊢;exact mY ha hm hc
theorem xc:∀{names:List (Str×NameKind)} {x:Str},
 (((names.map λ (n, k) => if (k == NameKind.free && env.scope.kind == .function && env.kindOf n == some .cell) then (n, NameKind.cell) else (n, k)).lookup x = some .cell) \/
  ((names.map λ(n,k)=>if`l then(n,NameKind.cell)else(n,k)).lookup x=some .free))->
 names.lookup x=some .cell\/names.lookup x=some .free
 |[],x,h=>by rcases h with h|h<;>simp at h
 |(n,k)::r,x,h=>by
  have e1:((n,k)::r).map (λ(n,k)=>if`l=true then(n,NameKind.cell)else(n,k))=
   (if`l=true then(n,NameKind.cell)else(n,k))::r.map (λ(n,k)=>if`l=true then(n,NameKind.cell)else(n,k)):=rfl
  rw [e1]at h;cases hx:x==n with
  |true=>
   by_cases c:`l=true
   . have:k=.free:=by
      simp only [Q5]at c;simpa using c.1.1
     subst this
     right
     simp [uM,hx]
   . rw [if_neg c]at h;simpa only [uM,hx]using h
  |false=>
   have:((r.map λ(n,k)=>if`l=true then(n,NameKind.cell)else(n,k)).lookup x=some .cell)\/
    ((r.map λ(n,k)=>if`l=true then(n,NameKind.cell)else(n,k)).lookup x=some .free):=by
    by_cases c:`l=true
    . rw [if_pos c]at h;simpa only [uM,hx]using h
    . rw [if_neg c]at h;simpa only [uM,hx]using h
   have q:=xc this;simpa only [uM,hx]using q
section
variable {M:Model} {A:Around} {E:`d} {s:Shared}
theorem DB {scope:Scope}{cl:List (Str×Addr)}{Q:Env->Shared->Prop}
 (hQ : Q { scope := scope, locals := `a, globals := env.globals, cells := cellsFrom (`a + 1) scope.names cl, qual := env.qual, func := none, code := env.code, frame := env.frame, builtins := env.builtins }
  {s with heap:=pushCells (s.heap.push {cls:=.type "dict",data:=.dict #[]}) scope.names}):wpAny M A (newFunctionEnv scope env.globals cl [] env.qual none .none (some env)) Q E s:=by
 simp only [newFunctionEnv,Option.isSome_some,if_true];refine wB (wpAny_alloc ?_);refine wB (wpAny_layCells _ (λname kind cells=>by cases hkc:kind==NameKind.cell<;>simp [hkc]) _ _ _ _ ?_)
 rw [show ({s with heap:=s.heap.push {cls:=.type "dict",data:=.dict #[]}}:Shared).heap.objs.size=`a+1 from AC ..]
 simp only [List.forIn_nil];exact wB (wP (wP hQ))
end
def jb(X:Cx)(N:List Str)(sc:Scope)(C:Addr)(fp:List Addr)(s:Shared)(H:Hp):Cx:=
 {X with N:=N,s₀:=s,H₀:=H,env:=compEnvC sc (cellsFrom (C+1) sc.names (cN X.env sc.names [])) C X.env,outer:=X.stack,ex:=fp,fn:=λx=>sc.names.lookup x==some .cell,pn:=[],xe:=λ_ _=>False}
section
variable {X:Cx}
variable {sc:Scope}{s:Shared}{σ:St}{pins:`k}
theorem xf(I:`h)(hfree:∀y∈sc.names,y.2=.free->X.env.kindOf y.1=some .cell\/X.env.kindOf y.1=some .free){x:Str}{c:Addr}
 (e:(x,c)∈cellsFrom (`a+2) sc.names (cN X.env sc.names [])):(X.env.cells.lookup x=some c/\c < `a)\/`a+2<=c:=by
 have hcl:∀y∈sc.names,y.2=.free->∃c,X.env.cells.lookup y.1=some c:=λy hy e=>I.ok.has _ (hfree y hy e)
 rcases ls e with q|⟨q,_⟩
 . rcases iX hcl q with q|q
   . simp at q
   . obtain⟨v,hv⟩:=I.cell x c q;obtain⟨o,ho,_⟩:=hv;exact .inl ⟨q,dh ho⟩
 . exact .inr q
theorem FB(I:`h)(hfree:∀y∈sc.names,y.2=.free->X.env.kindOf y.1=some .cell\/X.env.kindOf y.1=some .free):
 ∀z∈cN X.env sc.names [],z.2 < `a:=λz hz=>by
 have hcl:∀y∈sc.names,y.2=.free->∃c,X.env.cells.lookup y.1=some c:=λy hy e=>I.ok.has _ (hfree y hy e)
 rcases iX (x:=z.1) (c:=z.2) hcl hz with q|q
 . simp at q
 . obtain⟨v,hv⟩:=I.cell _ _ q;obtain⟨o,ho,_⟩:=hv;exact dh ho
variable {fp:List Addr}
theorem NW {N:List Str}(I:`h)(hk:sc.kind=.function)
 (hfree:∀y∈sc.names,y.2=.free->X.env.kindOf y.1=some .cell\/X.env.kindOf y.1=some .free) (hf:∀b∈fp,j8 X pins H b) (hb:∀b∈fp,b < `a):
 (jb X N sc (`a+1) fp s H).Ok:=by
 have cc:∀x c,(cellsFrom (`a+2) sc.names (cN X.env sc.names [])).lookup x=some c->(X.env.cells.lookup x=some c/\c < `a)\/`a+2<=c:=λx c e=>xf I hfree (PySem.mem_of_lookup e);have ca:∀z∈cN X.env sc.names [],z.2 < `a+2:=λz hz=>kZ (FB I hfree z hz) (IL _ _);exact {
  mod:=I.ok.mod
  kind:=hk
  glob:=I.ok.glob
  blt:=I.ok.blt
  above:=Nat.le_succ _
  inj:=λx y c h1 h2=>by
   have h1':(cellsFrom (`a+2) sc.names (cN X.env sc.names [])).lookup x=some c:=h1;have h2':(cellsFrom (`a+2) sc.names (cN X.env sc.names [])).lookup y=some c:=h2
   rcases cc x c h1' with ⟨q1,l1⟩|q1
   . rcases cc y c h2' with ⟨q2,_⟩|q2
     . exact I.ok.inj x y c q1 q2
     . exact absurd (kZ l1 (Qc (IL _ 2) q2)) (zT _)
   . exact pS ca (PySem.mem_of_lookup h1') (PySem.mem_of_lookup h2') q1
  has:=λx h=>by
   have h':=xc h;have q:((cellsFrom (`a+2) sc.names (cN X.env sc.names [])).lookup x).isSome=true:=by
    rcases h' with h'|h'
    . exact PySem.W.cellsFrom_some _ _ _ (.inl h')
    . obtain⟨c,hc⟩:=j9 (env:=X.env) (acc:=[]) (.inl (PySem.mem_of_lookup h'));obtain⟨d,hd⟩:=eJ hc;exact PySem.W.cellsFrom_some _ _ _ (.inr (by rw [hd];rfl))
   exact Ms.mp q
  cab:=λx c h e=>by
   have h':sc.names.lookup x=some .cell:=by simpa [jb]using h
   exact Qc (IL _ 2) (pT (Q1 _) (.inl h') e)
  hd:=I.ok.hd
  frames:=I.ok.frames
  stk:=.inl rfl
  exf:=λb hb'=>⟨jG (KW (hb b hb')),λx c e=>by
   rcases cc x c e with ⟨q,_⟩|q
   . exact(hf b hb').2.2.2.2.1 x c q
   . exact uL (kZ (hb b hb') (Qc (IL _ 2) q))⟩
  bs:=I.bs
  bsz:=Qc I.ok.bsz I.sz
  noex:=λb o e hb'=>by
   rcases(hf b hb').2.2.2.1 with q|q
   . exact I.ok.noex b o e q
   . exact absurd (kZ (dh e) (Qc I.ok.bsz q)) (zT _)
  exfs:=λb hb' hs=>by
   have q:=I.stkSub b hs
   rcases Q3.mp q with q|q
   . exact(hf b hb').2.1 q
   . exact(hf b hb').2.2.1 q
  funs:=I.stack
  frf:=I.stkFree}
variable {fr:List (Str×Nat)}
theorem FC {h1:Heap}{own:List Str}{n:Nat}{m:`j}{t':Nat}(I:`h)(hk:sc.kind=.function)
 (hfree:∀y∈sc.names,y.2=.free->X.env.kindOf y.1=some .cell\/X.env.kindOf y.1=some .free) (hfr:∀p∈fr,X.N[p.2]? =some p.1/\sc.names.lookup p.1=some .free/\∀y∈sc.names,y.1=p.1->y.2≠ .cell) (hn:own.length=n) (hf:∀b∈fp,j8 X pins H b) (hb:∀b∈fp,b < `a)
 (ns:h1.Ns (`a+1) m) (hD:h1.get? `a=some {cls:=.type "list",data:=.seq ([]:List Value).toArray}) (old:∀b o,s.heap.get? b=some o->h1.get? b=some o)
 (hnc:∀x c,(x,c)∈cellsFrom (`a+2) sc.names (cN X.env sc.names [])->`a+2<=c->h1.IsCell c none):
 Inv (jb X (own++fr.map (·.1)) sc (`a+1) fp s H) [] (Ep n fr σ) (bC H `a (.lst [])) {s with heap:=h1,toks:=t'}:=by
 have hcl:∀y∈sc.names,y.2=.free->∃c,X.env.cells.lookup y.1=some c:=λy hy e=>I.ok.has _ (hfree y hy e);have look:∀x c,(cN X.env sc.names []).lookup x=some c->X.env.cells.lookup x=some c:=λx c e=>by
  rcases iX hcl (PySem.mem_of_lookup e)with q|q
  . simp at q
  . exact q
 have cellK:∀{c v},s.heap.IsCell c v->h1.IsCell c v:=λ{c v} q=>by
  obtain⟨o,ho,r⟩:=q;exact⟨o,old _ _ ho,r⟩
 have cc:∀x c,(cellsFrom (`a+2) sc.names (cN X.env sc.names [])).lookup x=some c->(X.env.cells.lookup x=some c/\c < `a)\/`a+2<=c:=λx c e=>xf I hfree (PySem.mem_of_lookup e);have hnD:H `a=none:=I.hok.fresh (Q1 _);have hnC:H (`a+1)=none:=I.hok.fresh (Nat.le_succ _);refine⟨NW I hk hfree hf hb,rfl,I.bare,Un.laid old (Q1 _) hnD,⟨m,ns,λi x v h1' h2 h3=>?_⟩,λx c e=>?_,?_,λx c e=>?_,λp hp=>?_,I.hok.laid old (Q1 _) ?_,?_⟩
 . obtain⟨p,hp,e,q⟩:=Ig hn h1' h2;subst e;obtain⟨hN,hl,hno⟩:=hfr p hp;obtain⟨m0,_,q0⟩:=I.loc;have kk:=hfree (p.1,.free) (PySem.mem_of_lookup hl) rfl;obtain⟨u,ru,lk⟩:=q0 p.2 p.1 v hN q (.inr kk);refine⟨u,ru,.inr ⟨rm hl,?_⟩⟩
   rcases lk with ⟨k1,_⟩|⟨_,c,e1,e2⟩
   . rcases kk with kk|kk
     . have kk':X.env.kindOf p.1=some .cell:=kk;rw [k1]at kk';cases kk'
     . have kk':X.env.kindOf p.1=some .free:=kk;rw [k1]at kk';cases kk'
   . obtain⟨d,hd⟩:=j9 (env:=X.env) (acc:=[]) (.inl (PySem.mem_of_lookup hl));obtain⟨d',hd'⟩:=eJ hd;have e3:=look _ _ hd';rw [e1]at e3;cases e3;refine⟨c,?_,cellK e2⟩;show (cellsFrom (`a+2) sc.names (cN X.env sc.names [])).lookup p.1=some c;rw [pU hno];exact hd'
 . rcases cc x c e with ⟨q,_⟩|q
   . obtain⟨v,hv⟩:=I.cell x c q;exact⟨v,cellK hv⟩
   . exact⟨none,hnc x c (PySem.mem_of_lookup e) q⟩
 . show bC H `a _ (`a+1)=none;rw [aM (Nat.succ_ne_self _)];exact hnC
 . show bC H `a _ c=none
   rcases cc x c e with ⟨q,l⟩|q
   . rw [aM (jG l)];exact I.freeC x c q
   . rw [aM (uL (kZ (KW (C8 _)) q))];exact I.hok.fresh (Qc (IL _ 2) q)
 . exact absurd (show p∈([]:`k)from hp) (by simp)
 . exact⟨by show 0<=sizeLine;decide,[],_,.nil,hD⟩
 . show (Ep n fr σ).length=(own++fr.map (·.1)).length
   unfold Ep;simp [hn]
variable {pos:Pos}{ifs:List Expr}{elt target iter:Expr}
theorem xg(own:List Str)(fr:List (Str×Nat)){g:TG}{tc:TT}{te:TE}(hc:X.calm=true)
 (hk:sc.kind=.function) (hfree:∀y∈sc.names,y.2=.free->X.env.kindOf y.1=some .cell\/X.env.kindOf y.1=some .free)
 (hfr:∀p∈fr,X.N[p.2]? =some p.1/\sc.names.lookup p.1=some .free/\∀y∈sc.names,y.1=p.1->y.2≠ .cell)
 (hg:∀C fp s H,PG (jb X (own++fr.map (·.1)) sc C fp s H) target g) (ht:∀C fp s H,NT (jb X (own++fr.map (·.1)) sc C fp s H) ifs tc) (he:∀C fp s H,PE (jb X (own++fr.map (·.1)) sc C fp s H) elt te)
 {pins:`k} {σ:St} {s2:Shared} {RR:Value->Addr->Result->Shared->Prop} {Q:V->Hp->Prop} {itv:Value}
 (h2 : PR X pins σ target (λ J H1 => ∀ acc, H1 acc = none ->
  ∃W:Nat->Nat->St->Hp->Prop,(∃m,W 0 m (Ep own.length fr σ) (bC H1 acc (.lst [])))/\∀i m σ' H',W i m σ' H'->
   (J.stop i H' /\ Q (.ref acc) H') \/ (J.go i H' /\ ∃ Nx : St -> Hp -> Prop, (∀ σ2 H2, Nx σ2 H2 -> ∃ m', m' < m /\ W (i + 1) m' σ2 H2) /\
    ∀x H2,J.yld i H' x H2->g x σ' H2 λσ2 H3=>tc σ2 H3 λb H4=>if b=true then te σ2 H4 λy H5=>∃ys,H5 acc=some (.lst ys)/\ys.length < sizeLine/\Nx σ2 (bC H5 acc (.lst (ys++[y])))else Nx σ2 H4)) itv s2)
 (hRR : ∀ (D C : Addr) (s4 : Shared) (H3 : Hp) (m4 : Str -> Option Value), s2.heap.objs.size <= C -> s4.heap.Ns C m4 -> H3 C = none -> Q (.ref D) H3 ->
  (∀h':Heap,(∀b,b≠C->h'.get? b=s4.heap.get? b)->Inv X pins σ H3 {s4 with heap:=h'})->RR (.ref D) C (.ok .next) s4):
 wpAny `i X.A (newList []) (λacc s₃=>wpAny `i X.A (newFunctionEnv sc X.env.globals (cN X.env sc.names []) [] X.env.qual none .none (some X.env)) (λcenv s₄=>
  codeAny `i X.A (.compStart (.ListComp elt [⟨target,iter,ifs,0⟩] sc pos) 0 itv acc {cenv with scope:=relabel sc X.env}) (RR acc cenv.locals) s₄) X.xe s₃) X.xe s2:=by
 obtain⟨it,fp,tn,J,H2,e,I2,T,st2,f2,r⟩:=h2;subst e;refine wpAny_newObj_type (DB ?_)
 dsimp only
 generalize hH2:s2.heap.push {cls:=.type "list",dict:=none,data:=.seq ([]:List Value).toArray}=G2;have hC:G2.objs.size=s2.heap.objs.size+1:=by rw [<-hH2,AC]
 have z3:(G2.push {cls:=.type "dict",data:=.dict #[]}).objs.size=s2.heap.objs.size+2:=by rw [AC,hC]
 generalize hh1:pushCells (G2.push {cls:=.type "dict",data:=.dict #[]}) sc.names=h₁;have kp:∀b o,(G2.push {cls:=.type "dict",data:=.dict #[]}).get? b=some o->h₁.get? b=some o:=λb o e=>by rw [<-hh1];exact pushCells_keeps _ _ b o e
 have old:∀b o,s2.heap.get? b=some o->h₁.get? b=some o:=λb o e=>kp b o (df _ (hH2▸df _ e));have hD:h₁.get? s2.heap.objs.size=some {cls:=.type "list",data:=.seq ([]:List Value).toArray}:=kp _ _ (df _ (hH2▸fU _ rfl));have hns₁:h₁.Ns (s2.heap.objs.size+1) (λ_=>none):=by
  rw [<-hC];exact(Heap.Ns.new G2 (.type "dict")).keeps kp
 have hnc:∀x c,(x,c)∈cellsFrom (s2.heap.objs.size+2) sc.names (cN X.env sc.names [])->s2.heap.objs.size+2<=c->h₁.IsCell c none:=λx c hm hc'=>by
  rw [<-hh1];refine mY (acc:=cN X.env sc.names []) (x:=x) (λz hz=>?_) (by rw [z3];exact hm) (by rw [z3];exact hc')
  rw [z3];exact kZ (FB I2 hfree z hz) (IL _ _)
 rw [hC];have below:∀b,b < s2.heap.objs.size->b≠s2.heap.objs.size+1:=λb hb=>jG (KW hb);have hb:∀b∈fp,b < s2.heap.objs.size:=λb hb=>by
  obtain⟨o,e,_⟩:=T.obj _ _ st2 b hb;exact dh e
 have st1:tn 0 h₁:=T.keep _ _ _ st2 λb _ o e=>old b o e;obtain⟨W,⟨m0,w0⟩,turn⟩:=r s2.heap.objs.size (I2.hok.fresh (Q1 _));have J0:∀t',Inv (jb X (own++fr.map (·.1)) sc (s2.heap.objs.size+1) fp s2 H2) [] (Ep own.length fr σ) (bC H2 s2.heap.objs.size (.lst [])) {s2 with heap:=h₁,toks:=t'}:=λt'=>
  FC I2 hk hfree hfr rfl f2 hb hns₁ hD old hnc
 have fpn:∀b∈fp,bC H2 s2.heap.objs.size (.lst []) b=none:=λb hb'=>by rw [aM (jG (hb b hb'))];exact(f2 b hb').1
 have stat:∀{H':Hp},(∀b∈fp,H' b=none)->∀b∈fp,j8 (jb X (own++fr.map (·.1)) sc (s2.heap.objs.size+1) fp s2 H2) [] H' b:=λ{H'} hn b hb'=>
  have ok:=(J0 0).ok
  ⟨hn b hb',(ok.exf b hb').1,ok.exfs b hb',.inl hb',(ok.exf b hb').2,λp hp=>absurd (show p∈([]:`k)from hp) (by simp)⟩
 have loop:∀s3:Shared,s3={s2 with heap:=h₁}->
  codeAny `i X.A (.compLoop (.ListComp elt [⟨target,iter,ifs,0⟩] sc pos) 0 (.ref it) (.ref s2.heap.objs.size) (compEnvC sc (cellsFrom (s2.heap.objs.size+1+1) sc.names (cN X.env sc.names [])) (s2.heap.objs.size+1) X.env))
   (RR (.ref s2.heap.objs.size) (s2.heap.objs.size+1)) s3:=by
  rintro s3 rfl;refine x8 (λn s'=>∃i σ' H',Inv (jb X (own++fr.map (·.1)) sc (s2.heap.objs.size+1) fp s2 H2) [] σ' H' s'/\tn i s'.heap/\(∀b∈fp,H' b=none)/\W i n σ' H') ?_ m0 ⟨0,_,_,J0 _,st1,fpn,w0⟩
  rintro n s3 ⟨i,σ3,H3,I3,st3,fr3,w3⟩
  rcases turn i n σ3 H3 w3 with ⟨stop,qn⟩|⟨go,N,hN,step⟩
  . refine bq (T.done (jb X (own++fr.map (·.1)) sc (s2.heap.objs.size+1) fp s2 H2) rfl rfl rfl hc i [] s3 σ3 H3 (λ_ _=>False) I3 (stat fr3) st3 stop) λr s4 q_=>?_
    obtain⟨hr,I4⟩:=q_;subst hr;obtain⟨m4,ns4,_⟩:=I4.loc;have hCn:H3 (s2.heap.objs.size+1)=none:=I4.free;refine hRR _ _ s4 H3 m4 (Nat.le_succ _) ns4 hCn qn λh' sb=>?_;have u:Un (AD X.stack) fp H2 H3 s2.heap s4.heap:=I4.base;have u':Un (AD X.stack) fp H2 H3 s2.heap h':={
     keep:=λb o e n1 n2 n3=>(sb b (below b (dh e))).trans (u.keep b o e n1 n2 n3)
     slot:=λb o e n1 n2 n3=>by
      obtain⟨sl,q⟩:=u.slot b o e n1 n2 n3;exact⟨sl,(sb b (below b (dh e))).trans q⟩
     free:=u.free
     there:=λb o e n1=>by
      obtain⟨o',q⟩:=u.there b o e n1;exact⟨o',(sb b (below b (dh e))).trans q⟩
     tups:=u.tups
     frzs:=u.frzs
     tbls:=u.tbls}
    have hok':HOk X.prog X.w H3 h':=λa o e=>(I4.hok a o e).stay (λb u q z=>(sb b (by
     rcases q with q|q
     . subst q;exact aQ e hCn
     . exact aQ q hCn)).trans z) (λ_ q=>q) (λ_ _ q=>q) λ_ _ _ q=>q
    exact I2.call' (s':={s4 with heap:=h'}) (ch:=fp) I4.os u' hok' I4.bare λb hb'=>⟨(f2 b hb').2.2.2.1,(f2 b hb').2.1,(f2 b hb').2.2.2.2.1,(f2 b hb').2.2.2.2.2⟩
  . refine bq (T.item (jb X (own++fr.map (·.1)) sc (s2.heap.objs.size+1) fp s2 H2) rfl rfl rfl hc i [] s3 σ3 H3 (λ_ _=>False) I3 (stat fr3) st3 go) λr s4 q_=>?_
    obtain⟨u,hr,h4⟩:=q_;subst hr;refine bq h4 λ_ s5 q_=>?_;obtain⟨x,H5,I5,r5,y5,st5,fr5⟩:=q_;have I5':=I5.pinned (stat fr5) (T.obj _ _ st5);refine bq (hg _ _ _ _ _ s5 σ3 H5 x u _ I5' r5 (step x H5 y5)) λ_ s6 q_=>?_;obtain⟨σ6,H6,I6,q6⟩:=q_;refine bq (ht _ _ _ _ _ s6 σ6 H6 _ I6 q6) λb s7 q_=>?_;obtain⟨H7,I7,q7⟩:=q_;have again:∀{σ7:St} {H7:Hp} {s7:Shared},Inv (jb X (own++fr.map (·.1)) sc (s2.heap.objs.size+1) fp s2 H2) ([]++r6 fp s5.heap) σ7 H7 s7->N σ7 H7->
     ∃m,m < n/\∃i σ' H',Inv (jb X (own++fr.map (·.1)) sc (s2.heap.objs.size+1) fp s2 H2) [] σ' H' s7/\tn i s7.heap/\(∀b∈fp,H' b=none)/\W i m σ' H':=λ{σ7 H7 s7} I7 n7=>by
     obtain⟨m',hm,w7⟩:=hN σ7 H7 n7;refine⟨m',hm,i+1,σ7,H7,I7.unpinned,T.keep _ _ _ st5 λb hb o e=>(I7.pin (b,o) (Qb _ (Qb _ (fV hb e)))).1,λb hb=>?_,w7⟩;obtain⟨o,e,d⟩:=T.obj _ _ st5 b hb;exact(I7.pin (b,o) (Qb _ (Qb _ (fV hb e)))).2.1
    cases b with
    |false=>
     have q7':N σ6 H7:=q7;rw [if_neg (by simp)]
     exact again I7 q7'
    |true=>
     rw [if_pos rfl];refine bq (he _ _ _ _ _ s7 σ6 H7 _ I7 q7) λyv s8 q_=>?_;obtain⟨y,H8,I8,r8,ys,e8,z8,n8⟩:=q_;refine bq (dj (X:=jb X (own++fr.map (·.1)) sc (s2.heap.objs.size+1) fp s2 H2) _ s8 σ6 H8 (.ref s2.heap.objs.size) [y] _ [yv] (λv H'=>v=.non/\H'=bC H8 s2.heap.objs.size (.lst (ys++[y]))) I8 rfl (.cons r8 .nil) ⟨_,ys,y,rfl,rfl,e8,z8,rfl,rfl⟩) λ_ s9 q_=>?_
     obtain⟨v,H9,I9,_,e1,e9⟩:=q_;subst e9;exact again I9 n8
 exact codeAny_compStart_list (loop _ rfl) (T.self X.A 0 _ _ _ st1 (loop _ rfl))
theorem vG(hfree:(sc.names.all λy=>y.2 != .free||(X.env.kindOf y.1==some .cell||X.env.kindOf y.1==some .free))=true)
 (hfr:(fr.all λp=>X.N[p.2]? ==some p.1&&sc.names.lookup p.1==some .free&&sc.names.all λy=>y.1 != p.1||y.2 != .cell)=true) (hnm:(sc.names.all λy=>y.2 != .local||sc.names.lookup y.1==some .local)=true):
 (∀y∈sc.names,y.2=.free->X.env.kindOf y.1=some .cell\/X.env.kindOf y.1=some .free)/\(∀p∈fr,X.N[p.2]? =some p.1/\sc.names.lookup p.1=some .free/\∀y∈sc.names,y.1=p.1->y.2≠ .cell)/\∀x∈sc.names,x.2=.local->sc.names.lookup x.1=some .local:=by
 refine⟨λy hy e=>?_,λp hp=>?_,λy hy e=>?_⟩
 . have:=Q2.mp hfree y hy;rw [e]at this;simpa using this
 . have:=Q2.mp hfr p hp;rw [Q5,Q5,Q2]at this;obtain⟨⟨h1,h2⟩,h3⟩:=this;refine⟨by simpa using h1,by simpa using h2,λy hy e z=>?_⟩
   have:=h3 y hy;rw [e,z]at this;simp at this
 . have:=Q2.mp hnm y hy;rw [e]at this;simpa using this
theorem eK(own:List Str)(fr:List (Str×Nat)){wi:TI}{g:TG}{tc:TT}{te:TE}(hi:PI X target iter wi)
 (hg:∀C fp s H,PG (jb X (own++fr.map (·.1)) sc C fp s H) target g) (ht:∀C fp s H,NT (jb X (own++fr.map (·.1)) sc C fp s H) ifs tc) (he:∀C fp s H,PE (jb X (own++fr.map (·.1)) sc C fp s H) elt te)
 (hc:X.calm=true:=by rfl) (hk:sc.kind=.function:=by rfl)
 (hfree:(sc.names.all λy=>y.2 != .free||(X.env.kindOf y.1==some .cell||X.env.kindOf y.1==some .free))=true:=by rfl)
 (hfr:(fr.all λp=>X.N[p.2]? ==some p.1&&sc.names.lookup p.1==some .free&&sc.names.all λy=>y.1 != p.1||y.2 != .cell)=true:=by rfl) (hnm:(sc.names.all λy=>y.2 != .local||sc.names.lookup y.1==some .local)=true:=by rfl)
 (hs:∀x,foldedSetIterable iter X.env x=pure x:=by intro _;rfl):
 PE X (.ListComp elt [⟨target,iter,ifs,0⟩] sc pos) (Er own.length fr wi g tc te):=by
 obtain⟨c1,c2,c3⟩:=vG hfree hfr hnm;intro pins s σ H Q I h;rw [eval_ListComp];have hcl:∀y∈sc.names,y.2=.free->∃c,X.env.cells.lookup y.1=some c:=λy hy e=>I.ok.has _ (c1 y hy e);refine wpAny_comprehension_free (use:=none) rfl hs (gH hcl) hk c3 (bq (hi pins s σ H _ I h) λxv s₁ h₁=>bq h₁ λitv s2 h2=>?_);refine xg (RR:=λacc C=>compPost `i X.A X.xe none (EP X pins σ Q) acc C) own fr hc hk c1 c2 hg ht he h2 ?_;intro D C s4 H3 m4 hC ns4 hCn q inv;exact⟨m4,ns4,λh' sb=>⟨.ref D,H3,inv h' λb hb=>sb.2 b hb,rfl,q⟩⟩
theorem wI {i:Nat}{x:Str}{spos:Pos}{pos':Pos}(own:List Str)(fr:List (Str×Nat)){wi:TI}{g:TG}{tc:TT}{te:TE}(hN:X.N.Nodup)(hx1:X.N[i]? =some x)(hx:KZ X.env.scope x)(hi:PI X target iter wi)
 (hg:∀C fp s H,PG (jb X (own++fr.map (·.1)) sc C fp s H) target g) (ht:∀C fp s H,NT (jb X (own++fr.map (·.1)) sc C fp s H) ifs tc) (he:∀C fp s H,PE (jb X (own++fr.map (·.1)) sc C fp s H) elt te)
 (hsw:swapsWith (.ListComp elt [⟨target,iter,ifs,0⟩] sc pos) (some (.Name x pos')) spos.line X.env=pure true:=by rfl)
 (hc:X.calm=true:=by rfl) (hk:sc.kind=.function:=by rfl)
 (hfree:(sc.names.all λy=>y.2 != .free||(X.env.kindOf y.1==some .cell||X.env.kindOf y.1==some .free))=true:=by rfl)
 (hfr:(fr.all λp=>X.N[p.2]? ==some p.1&&sc.names.lookup p.1==some .free&&sc.names.all λy=>y.1 != p.1||y.2 != .cell)=true:=by rfl) (hnm:(sc.names.all λy=>y.2 != .local||sc.names.lookup y.1==some .local)=true:=by rfl)
 (hs:∀x,foldedSetIterable iter X.env x=pure x:=by intro _;rfl) (hl:X.env.scope.names.lookup x=some .local:=by rfl):
 PS X (.Assign [.Name x pos'] (.ListComp elt [⟨target,iter,ifs,0⟩] sc pos) spos) (iW (Er own.length fr wi g tc te) (cV i)):=by
 obtain⟨c1,c2,c3⟩:=vG hfree hfr hnm;intro pins s σ H D I h;rw [exec_Assign_Name_used _ _ _ _ hsw];refine wB (wpAny_standAt (wB ?_));show wpAny _ X.A (do let _<-comprehension (.ListComp elt [⟨target,iter,ifs,0⟩] sc pos) sc X.env _ (newList []) false (eval iter X.env) (some (assign (.Name x pos') X.env))) _ _ s
 have hcl:∀y∈sc.names,y.2=.free->∃c,X.env.cells.lookup y.1=some c:=λy hy e=>I.ok.has _ (c1 y hy e);refine wB (wpAny_mono (wpAny_comprehension_free (use:=some (assign (.Name x pos') X.env)) (Q:=λ_ s'=>SP X pins D .next s') rfl hs (gH hcl) hk c3 (bq (hi pins s σ H _ I h) λxv s₁ h₁=>bq h₁ λitv s2 h2=>?_)) (λ_ s' hq=>wP (wP hq)) λ_ _ e=>e);refine xg (RR:=λacc C=>compPost `i X.A X.xe (some (assign (.Name x pos') X.env)) (λ_ s'=>SP X pins D .next s') acc C) (pins:=pins) (σ:=σ) (Q:=λx H1=>cV i x σ H1 D.nx) own fr hc hk c1 c2 hg ht he h2 ?_;intro Da C s4 H3 m4 hC ns4 hCn q inv;have I4:Inv X pins σ H3 s4:=inv s4.heap λb _=>rfl;have lC:X.env.locals≠C:=by
  intro z;obtain⟨it,fp,tn,J,H2,e,I2,_⟩:=h2;exact absurd (kZ I2.lt (by rw [z];exact hC)) (zT _)
 have cC:∀y c,X.env.cells.lookup y=some c->c≠C:=λy c e z=>by
  obtain⟨it,fp,tn,J,H2,e',I2,_⟩:=h2;obtain⟨v,hv⟩:=I2.cell y c e;exact absurd (kZ hv.lt (by rw [z];exact hC)) (zT _)
 show wpAny _ X.A (assign (.Name x pos') X.env (.ref Da)) _ _ _;refine wpAny_assign_Name (uv I4 hN hx1 hx (v:=.ref Da) rfl (λs5 I5 q_=>?_) (.inr hl));obtain⟨a,sb,ha⟩:=q_;have aC:C≠a:=λz=>by
  rcases ha with q1|q1
  . exact lC (q1.symm.trans z.symm)
  . exact cC x a q1 z.symm
 refine⟨m4,ns4.sameBut sb aC,λh' sb'=>⟨_,H3,?_,q⟩⟩;obtain⟨m5,n5,l5⟩:=I5.loc;exact {
  ok:=I5.ok
  os:=I5.os
  bare:=I5.bare
  base:={
   keep:=λb o e n1 n2 n3=>(sb'.2 b λz=>by
    obtain⟨it,fp,tn,J,H2,e',I2,_⟩:=h2;exact absurd (kZ (dh e) (Qc I2.sz (by rw [z];exact hC))) (zT _)).trans (I5.base.keep b o e n1 n2 n3)
   slot:=λb o e n1 n2 n3=>by
    obtain⟨sl,q⟩:=I5.base.slot b o e n1 n2 n3;refine⟨sl,(sb'.2 b λz=>?_).trans q⟩;obtain⟨it,fp,tn,J,H2,e',I2,_⟩:=h2;exact absurd (kZ (dh e) (Qc I2.sz (by rw [z];exact hC))) (zT _)
   free:=I5.base.free
   there:=λb o e n1=>by
    obtain⟨o',q⟩:=I5.base.there b o e n1;refine⟨o',(sb'.2 b λz=>?_).trans q⟩;obtain⟨it,fp,tn,J,H2,e',I2,_⟩:=h2;exact absurd (kZ (dh e) (Qc I2.sz (by rw [z];exact hC))) (zT _)
   tups:=I5.base.tups
   frzs:=I5.base.frzs
   tbls:=I5.base.tbls}
  loc:=⟨m5,n5.sameBut sb' lC,λj y v h1 h2' h3=>by
   obtain⟨u,ru,lk⟩:=l5 j y v h1 h2' h3;refine⟨u,ru,?_⟩
   rcases lk with ⟨k1,k2⟩|⟨k1,c,k2,k3⟩
   . exact .inl ⟨k1,k2⟩
   . exact .inr ⟨k1,c,k2,k3.sameBut sb' (cC y c k2)⟩⟩
  cell:=λy c e=>by
   obtain⟨v,hv⟩:=I5.cell y c e;exact⟨v,hv.sameBut sb' (cC y c e)⟩
  free:=I5.free
  freeC:=I5.freeC
  pin:=λp hp=>by
   obtain⟨q1,q2⟩:=I5.pin p hp;refine⟨(sb'.2 p.1 λz=>?_).trans q1,q2⟩;obtain⟨it,fp,tn,J,H2,e',I2,_⟩:=h2;exact absurd (kZ (dh (I2.pin p hp).1) (by rw [z];exact hC)) (zT _)
  hok:=λa o e=>(I5.hok a o e).stay (λb u q z=>(sb'.2 b (by
   rcases q with q|q
   . subst q;exact aQ e hCn
   . exact aQ q hCn)).trans z) (λ_ q=>q) (λ_ _ q=>q) λ_ _ _ q=>q
  len:=I5.len}
end
end L2
namespace PySem
open Sem (wp)
namespace Heap
def TracedD(h base:Heap)(e:Addr)(cls:Value)(a0:Option Addr):Prop:=
 ∃oe vs T oT ts,h.get? e=some oe/\(oe.cls=cls/\oe.dict=a0)/\oe.data=.fields vs/\vs[1]? =some (.ref T)/\base.get? T=none/\T≠e/\h.get? T=some oT/\oT.data=.fields ts/\ts[3]? =some .none
def TracedAtD(h base:Heap)(e:Addr)(cls:Value)(a0:Option Addr)(fl:Value):Prop:=
 ∃oe vs T oT ts,h.get? e=some oe/\(oe.cls=cls/\oe.dict=a0)/\oe.data=.fields vs/\vs[1]? =some (.ref T)/\base.get? T=none/\T≠e/\h.get? T=some oT/\oT.data=.fields ts/\ts[3]? =some fl
variable {a0:Option Addr}
theorem TracedD.at {h base:Heap}{e:Addr}{cls:Value}(x:h.TracedD base e cls a0):h.TracedAtD base e cls a0 .none:=x
theorem TracedAtD.there {h base:Heap}{e:Addr}{cls:Value}{fl:Value}(x:h.TracedAtD base e cls a0 fl):∃ob,h.get? e=some ob/\ob.cls=cls:=by
 obtain⟨oe,_,_,_,_,he,hc,_⟩:=x;exact⟨oe,he,hc.1⟩
end Heap
section
variable {M:Model} {A:Around} {E:`d} {s:Shared}
def Heap.FlyingD(base:Heap)(l:List Env)(e:Addr)(cls:Value)(a0:Option Addr)(h:Heap):Prop:=
 base.StaysIn h/\base.get? e=none/\h.FunFrames base l/\h.TracedD base e cls a0
variable {a0:Option Addr}{cls:Value}{e:Addr}{l:List Env}{base h:Heap}
theorem Heap.FlyingD.there(x:Heap.FlyingD base l e cls a0 h):∃ob,h.get? e=some ob/\ob.cls=cls:=by
 obtain⟨_,_,_,oe,_,_,_,_,he,hc,_⟩:=x;exact⟨oe,he,hc.1⟩
def Heap.HeldD(base:Heap)(l:List Env)(e:Addr)(cls:Value)(a0:Option Addr)(L:Addr)(h:Heap):Prop:=
 base.StaysIn h/\base.get? e=none/\h.FunFrames base l/\h.TracedAtD base e cls a0 (rawInt L)
theorem Heap.HeldD.there {L:Addr}(x:Heap.HeldD base l e cls a0 L h):∃ob,h.get? e=some ob/\ob.cls=cls:=x.2.2.2.there
theorem Heap.FlyingD.first(x:Heap.FlyingD base l e cls a0 h):∃oe vs,h.get? e=some oe/\oe.cls=cls/\oe.data=.fields vs/\oe.dict=a0:=
 let ⟨_,_,_,oe,vs,_,_,_,he,hc,hd,_⟩:=x;⟨oe,vs,he,hc.1,hd,hc.2⟩
end
end PySem
namespace L2
open PySem PySem.Spec PyProof.Rows PySem.W
theorem ObjOk.there {P:Program}{w:World}{H:Hp}{h:Heap}{a:Addr}{o:HO}(x:ObjOk P w H h a o):∃ob,h.get? a=some ob:=by
 cases o with
 |lst xs=>obtain⟨_,_,_,_,e⟩:=x;exact⟨_,e⟩
 |tup xs=>obtain⟨_,_,_,⟨ob,e,_⟩,_⟩:=x;exact⟨_,e⟩
 |dK kvs=>obtain⟨_,_,_,_,o,_,_,e,_⟩:=x;exact⟨_,e⟩
 |dT kvs=>obtain⟨_,_,_,_,o,_,_,e,_⟩:=x;exact⟨_,e⟩
 |set S n=>obtain⟨o,_,_,_,e,_⟩:=x;exact⟨_,e⟩
 |ins C dx fs=>obtain⟨_,_,_,e,_⟩:=x;exact⟨_,e⟩
 |own y=>obtain⟨_,e⟩:=x;exact⟨_,e⟩
 |xd fs=>obtain⟨_,⟨_,_,_,e,_⟩,_⟩:=x;exact⟨_,e⟩
 |rng lo hi=>obtain⟨_,_,_,e⟩:=x;exact⟨_,e⟩
 |frz ob u=>obtain⟨e,_⟩:=x;exact⟨_,e⟩
 |tbl ps=>
  rcases x with e|⟨_,_,_,_,_,_,_,_,_,_,e,_⟩
  . exact⟨_,e⟩
  . exact⟨_,e⟩
 |met f y=>exact⟨_,(show h.get? a=some _ from x)⟩
 |ext φ=>obtain⟨_,⟨_,e⟩,_⟩:=x;exact⟨_,e⟩
structure Flown (P:Program) (w:World) (outer:List Env) (H:Hp) (s:Shared) (ea C:Addr) (a0:Option Addr) (B:Heap) (H':Hp) (s':Shared):Prop where
 os:s'.os=s.os
 bare:AllBare s'.gens
 hokB:HOk P w H' B
 fly:Heap.FlyingD B outer ea (.ref C) a0 s'.heap
 cov:∀b o,s.heap.get? b=some o->H b=none->b ∉ AD outer->B.get? b=some o
 thr:∀b o,s.heap.get? b=some o->b∈AD outer\/∃o',B.get? b=some o'
 un:Un (AD outer) [] H H' s.heap s'.heap
def XV(ea:Addr)(v:Value)(dx:Option Addr)(H:Hp):Prop:=v=.ref ea\/∃n t d,v=.int n t/\dx=some d/\H d=some (.xd [("at",.int n)])
section
variable {P:Program} {w:World} {outer:List Env} {H H':Hp} {s s':Shared} {ea C:Addr} {a0:Option Addr} {B:Heap}
theorem Flown.hok(f:Flown P w outer H s ea C a0 B H' s'):HOk P w H' s'.heap:=f.hokB.kept f.fly.1
theorem Flown.free(f:Flown P w outer H s ea C a0 B H' s'):H' ea=none:=by
 cases q:H' ea with
 |none=>rfl
 |some u=>
  obtain⟨ob,e⟩:=(f.hokB _ _ q).there;rw [f.fly.2.1]at e;cases e
end
section
variable {X:Cx} {pins:`k} {σ:St} {H:Hp} {s:Shared}
end
section
variable {P:Program} {w:World} {K:Frag} {mg:`j} {base:Heap} {N:List Str} {qual:Str} {scope:Scope} {f:Addr} {cd:Value} {A:Around} {outer:List Env} {s₀:Shared} {H₀:Hp} {E:XK}
end
def XW(e:Value)(ea:Addr):Prop:=e=.ref ea\/∃n t,e=.int n t
theorem XV.w {ea:Addr}{v:Value}{dx:Option Addr}{H:Hp}(h:XV ea v dx H):XW v ea:=by
 rcases h with h|⟨n,t,_,h,_⟩
 . exact .inl h
 . exact .inr ⟨n,t,h⟩
section
variable {X:Cx} {pins:`k} {σ:St} {H:Hp} {s:Shared}
noncomputable def Ends.un(D:Ends)(i:Nat):Ends:={nx:=λσ H=>D.nx (σ.set i none) H,bk:=λσ H=>D.bk (σ.set i none) H,ct:=λσ H=>D.ct (σ.set i none) H,rt:=D.rt}
end
end L2
namespace GC
noncomputable def k9:List Int->List Int->Nat
 |_,[]=>0
 |u,c::g=>if c∈u then k9 (u.erase c) g+1 else k9 u g
noncomputable def left:List Int->List Int->List Int
 |u,[]=>u
 |u,c::g=>if c∈u then left (u.erase c) g else left u g
theorem pV(c:Int):∀(g u:`f),left u (g++[c])=if c∈left u g then(left u g).erase c else left u g
 |[],u=>rfl
 |d::g,u=>by
  show (if d∈u then left (u.erase d) (g++[c])else left u (g++[c]))=if c∈(if d∈u then left (u.erase d) g else left u g)then(if d∈u then left (u.erase d) g else left u g).erase c else(if d∈u then left (u.erase d) g else left u g)
  by_cases m:d∈u
  . simp only [if_pos m];exact pV c g _
  . simp only [if_neg m];exact pV c g _
theorem mZ(c:Int):∀(g u:`f),k9 u (g++[c])=k9 u g+if c∈left u g then 1 else 0
 |[],u=>by
  show (if c∈u then 0+1 else 0)=0+if c∈u then 1 else 0
  by_cases m:c∈u<;>simp [m]
 |d::g,u=>by
  show (if d∈u then k9 (u.erase d) (g++[c])+1 else k9 u (g++[c]))=(if d∈u then k9 (u.erase d) g+1 else k9 u g)+if c∈(if d∈u then left (u.erase d) g else left u g)then 1 else 0
  by_cases m:d∈u
  . simp only [if_pos m];rw [mZ c g];lia
  . simp only [if_neg m];exact mZ c g _
noncomputable def FD:List Int->List Int->Nat
 |a::x,b::y=>(if a=b then 1 else 0)+FD x y
 |_,_=>0
theorem lu {i:Nat}{b:`f}(h:i < b.length):b.take (i+1)=b.take i++[b[i]]:=NB h
theorem xh(c d:Int):∀(x y:`f),x.length=y.length->FD (x++[c]) (y++[d])=FD x y+if c=d then 1 else 0
 |[],[],_=>by simp [FD]
 |[],_::_,h=>by simp at h
 |_::_,[],h=>by simp at h
 |a::x,b::y,h=>by
  show (if a=b then 1 else 0)+FD (x++[c]) (y++[d])=(if a=b then 1 else 0)+FD x y+_;rw [xh c d x y (by simpa using h)]
  lia
def ans(h g:`f):List Int:=[(FD h g:Int),(k9 h g:Int) - (FD h g:Int)]
end GC
namespace DL
open PySem PySem.Spec PyProof.Rows L2
abbrev St:=L2.St
noncomputable def kD:bb->PyData
 | .inl i=>.int i
 | .inr x=>.str x
noncomputable def j5(ns:`f):PyData:=.dict [(.none,.list (ns.map .int))]
mutual
noncomputable def Is(K:Fg)(H:Hp)(x:V):PyData->Prop
 | .none=>x=.non
 | .bool b=>x=.bl b
 | .int i=>x=.int i
 | .str y=>x=.str y
 | .list ds=>∃a xs,x=.ref a/\H a=some (.lst xs)/\Are K H xs ds
 | .tuple ds=>∃a xs,x=.ref a/\H a=some (.tup xs)/\Are K H xs ds
 | .dict kvs=>∃a,x=.ref a/\((∃ns:List Int,kvs=[(.none,.list (ns.map .int))]/\SqL K H a (ns.map V.int))\/(∃m,H a=some (.dT m)/\Kvs K H m kvs)\/(∃nm:Str,kvs=[(.bool true,.str nm)]/\PySem.W.nsIn K mainGlobals nm=some (some (.ref a)))\/∃m,H a=some (.dK m)/\KvsS K H m kvs)
noncomputable def Are(K:Fg)(H:Hp)(xs:List V):List PyData->Prop
 |[]=>xs=[]
 |d::ds=>∃x r,xs=x::r/\Is K H x d/\Are K H r ds
noncomputable def Kvs(K:Fg)(H:Hp)(m:List (List bb×V)):List (PyData×PyData)->Prop
 |[]=>m=[]
 |p::r=>∃q m',m=q::m'/\Kv K H q p/\Kvs K H m' r
noncomputable def Kv(K:Fg)(H:Hp)(q:List bb×V):PyData×PyData->Prop
 |(k,d)=>k=.tuple (q.1.map kD)/\Is K H q.2 d
noncomputable def KvsS(K:Fg)(H:Hp)(m:List (bb×V)):List (PyData×PyData)->Prop
 |[]=>False
 |p::r=>p=(.none,.none)/\KvsI K H m r
noncomputable def KvsI(K:Fg)(H:Hp)(m:List (bb×V)):List (PyData×PyData)->Prop
 |[]=>m=[]
 |p::r=>∃q m',m=q::m'/\KvI K H q p/\KvsI K H m' r
noncomputable def KvI(K:Fg)(H:Hp)(q:bb×V):PyData×PyData->Prop
 |(k,d)=>k=kD q.1/\Is K H q.2 d
end
mutual
variable {H H':Hp}{K:Fg}
theorem Is.same(s:Same H H'):∀{x:V} (d:PyData),Is K H x d->Is K H' x d
 |_,.none,h=>h
 |_,.bool _,h=>h
 |_,.int _,h=>h
 |_,.str _,h=>h
 |_,.list ds,h=>by
  obtain⟨a,xs,e,q,r⟩:=h;exact⟨a,xs,e,s _ _ q,Are.same s ds r⟩
 |_,.tuple ds,h=>by
  obtain⟨a,xs,e,q,r⟩:=h;exact⟨a,xs,e,s _ _ q,Are.same s ds r⟩
 |_,.dict kvs,h=>by
  obtain⟨a,e,h⟩:=h
  rcases h with ⟨ns,e1,q⟩|⟨m,q,r⟩|q
  . exact⟨a,e,.inl ⟨ns,e1,s.seq q⟩⟩
  . exact⟨a,e,.inr (.inl ⟨m,s _ _ q,Kvs.same s kvs r⟩)⟩
  . rcases q with q|⟨m,q,r⟩
    . exact⟨a,e,.inr (.inr (.inl q))⟩
    . exact⟨a,e,.inr (.inr (.inr ⟨m,s _ _ q,KvsS.same s kvs r⟩))⟩
theorem Are.same(s:Same H H'):∀{xs:List V} (ds:`g),Are K H xs ds->Are K H' xs ds
 |_,[],h=>h
 |_,d::ds,h=>by
  obtain⟨x,r,e,q,t⟩:=h;exact⟨x,r,e,Is.same s d q,Are.same s ds t⟩
theorem Kvs.same(s:Same H H'):∀{m:List (List bb×V)} (kvs:List (PyData×PyData)),Kvs K H m kvs->Kvs K H' m kvs
 |_,[],h=>h
 |_,p::r,h=>by
  obtain⟨q,m',e,h1,h2⟩:=h;exact⟨q,m',e,Kv.same s p h1,Kvs.same s r h2⟩
theorem Kv.same(s:Same H H'):∀{q:List bb×V} (p:PyData×PyData),Kv K H q p->Kv K H' q p
 |_,(k,d),h=>⟨h.1,Is.same s d h.2⟩
theorem KvsS.same(s:Same H H'):∀{m:List (bb×V)} (kvs:List (PyData×PyData)),KvsS K H m kvs->KvsS K H' m kvs
 |_,[],h=>h
 |_,p::r,h=>⟨h.1,KvsI.same s r h.2⟩
theorem KvsI.same(s:Same H H'):∀{m:List (bb×V)} (kvs:List (PyData×PyData)),KvsI K H m kvs->KvsI K H' m kvs
 |_,[],h=>h
 |_,p::r,h=>by
  obtain⟨q,m',e,h1,h2⟩:=h;exact⟨q,m',e,KvI.same s p h1,KvsI.same s r h2⟩
theorem KvI.same(s:Same H H'):∀{q:bb×V} (p:PyData×PyData),KvI K H q p->KvI K H' q p
 |_,(k,d),h=>⟨h.1,Is.same s d h.2⟩
end
def DcO(K:Fg)(F:Hp)(o:HO)(kvs:List (PyData×PyData)):Prop:=(∃m,o=.dT m/\Kvs K F m kvs)\/∃m,o=.dK m/\KvsS K F m kvs
variable {kvs:List (PyData×PyData)}{o:HO}{F:Hp}{K:Fg}
theorem DcO.same {F':Hp}(s:Same F F')(h:DcO K F o kvs):DcO K F' o kvs:=
 h.imp (λ⟨m,e,q⟩=>⟨m,e,Kvs.same s _ q⟩) λ⟨m,e,q⟩=>⟨m,e,KvsS.same s _ q⟩
theorem DcO.ntup(h:DcO K F o kvs):∀xs,o≠ .tup xs:=λxs z=>by
 subst z
 rcases h with ⟨_,e,_⟩|⟨_,e,_⟩<;>cases e
theorem DcO.nlst(h:DcO K F o kvs):∀xs,o≠ .lst xs:=λxs z=>by
 subst z
 rcases h with ⟨_,e,_⟩|⟨_,e,_⟩<;>cases e
theorem DcO.is {a:Addr}(h:DcO K F o kvs)(e:F a=some o):Is K F (.ref a) (.dict kvs):=by
 rcases h with ⟨m,rfl,q⟩|⟨m,rfl,q⟩
 . exact⟨a,rfl,.inr (.inl ⟨m,e,q⟩)⟩
 . exact⟨a,rfl,.inr (.inr (.inr ⟨m,e,q⟩))⟩
variable {H:Hp}
theorem Are.length:∀{xs:List V} {ds:`g},Are K H xs ds->xs.length=ds.length
 |_,[],h=>by rw [show _=[]from h];rfl
 |_,d::ds,h=>by
  obtain⟨x,r,e,q,t⟩:=h;rw [e,zC,zC,Are.length t]
theorem Are.get:∀{xs:List V} {ds:`g} {i:Nat} {d:PyData},Are K H xs ds->ds[i]? =some d->∃x,xs[i]? =some x/\Is K H x d
 |_,[],_,_,_,e=>by simp at e
 |_,d::ds,0,_,h,e=>by
  obtain⟨x,r,e',q,t⟩:=h;simp at e;subst e;rw [e'];exact⟨x,rfl,q⟩
 |_,d::ds,i+1,d',h,e=>by
  obtain⟨x,r,e',q,t⟩:=h;obtain⟨y,h1,h2⟩:=Are.get (i:=i) (d:=d') t (by simpa using e)
  rw [e'];exact⟨y,by simpa using h1,h2⟩
variable {ds:`g}
theorem Are.get' {xs:List V}{i:Nat}{x:V}(h:Are K H xs ds)(e:xs[i]? =some x):∃d,ds[i]? =some d/\Is K H x d:=by
 have hi:i < xs.length:=(C6.mp e).1;have hl:=h.length;have hd:ds[i]? =some (ds[i]'`e):=dS _
 obtain⟨y,h1,h2⟩:=h.get hd;rw [e]at h1;cases h1;exact⟨_,hd,h2⟩
theorem Are.append:∀{xs ys:List V} {ds es:`g},Are K H xs ds->Are K H ys es->Are K H (xs++ys) (ds++es)
 |_,ys,[],es,h,h'=>by rw [show _=[]from h];exact h'
 |_,ys,d::ds,es,h,h'=>by
  obtain⟨x,r,e,q,t⟩:=h;subst e;exact⟨x,r++ys,rfl,q,Are.append t h'⟩
theorem Are.one {x:V}{d:PyData}(h:Is K H x d):Are K H [x] [d]:=⟨x,[],rfl,h,rfl⟩
theorem Are.ints:∀{ns:`f} {xs:List V},Are K H xs (ns.map PyData.int)↔xs=ns.map V.int
 |[],xs=>Iff.rfl
 |n::ns,xs=>by
  constructor
  . intro h;obtain⟨x,r,e,q,t⟩:=h;rw [e,show x=V.int n from q,(Are.ints (ns:=ns)).mp t];rfl
  . intro e;subst e;exact⟨_,_,rfl,rfl,(Are.ints (ns:=ns)).mpr rfl⟩
theorem Are.bools:∀{ns:List Bool} {xs:List V},Are K H xs (ns.map PyData.bool)↔xs=ns.map V.bl
 |[],xs=>Iff.rfl
 |n::ns,xs=>by
  constructor
  . intro h;obtain⟨x,r,e,q,t⟩:=h;rw [e,show x=V.bl n from q,(Are.bools (ns:=ns)).mp t];rfl
  . intro e;subst e;exact⟨_,_,rfl,rfl,(Are.bools (ns:=ns)).mpr rfl⟩
structure Grow (F H F' H':Hp):Prop where
 f:Same F F'
 s:Same F' H'
 h:Same H H'
 o:∀a o,H a=some o->(∀xs,o≠ .tup xs)->F a=none->F' a=none
theorem Grow.refl(s:Same F H):Grow F H F H:=⟨Same.refl _,s,Same.refl _,λ_ _ _ _ h=>h⟩
theorem Grow.trans {F1 H1 F2 H2:Hp}(a:Grow F H F1 H1)(b:Grow F1 H1 F2 H2):Grow F H F2 H2:=
 ⟨a.f.trans b.f,b.s,a.h.trans b.h,λc o e t n=>b.o c o (a.h c o e) t (a.o c o e t n)⟩
variable {p:Addr}
theorem FE(s:Same F H):Same (bC F p o) (bC H p o):=λb u e=>by
 by_cases hb:b=p
 . subst hb;rw [aR]at e ⊢;exact e
 . rw [aM hb]at e ⊢;exact s b u e
theorem Grow.new {p:Addr}{o:HO}(s:Same F H)(hp:H p=none):Grow F H (bC F p o) (bC H p o):=
 ⟨bV (s.free hp) o,FE s,bV hp o,λa u e t n=>by rw [aM (aQ e hp)];exact n⟩
theorem Grow.fresh(s:Same F H)(hp:H p=none):Grow F H F (bC H p o):=
 ⟨Same.refl _,s.trans (bV hp o),bV hp o,λ_ _ _ _ n=>n⟩
theorem Grow.frz {F H F' H':Hp}{p:Addr}{o:HO}(g:Grow F H F' H')(hp:H p=none)(hf:F' p=none)(hh:H' p=some o):Grow F H (bC F' p o) H':=
 ⟨g.f.trans (bV hf o), λ b u e => by
  by_cases hb:b=p
  . subst hb;rw [aR]at e;rw [hh];exact e
  . rw [aM hb]at e;exact g.s b u e,g.h,λa u e t n=>by rw [aM (aQ e hp)];exact g.o a u e t n⟩
inductive Sl where
 |fz (d:PyData)
 |ow (ds:List PyData)
 |od (kvs:List (PyData×PyData))
noncomputable abbrev aS:=List (Option Sl)
noncomputable def NX:Expr->Option Pos
 | .Call _ _ [kw] _=>match kw.value with
  | .Lambda _ _ _ pos=>some pos
  |_=>none
 |_=>none
noncomputable def NY:Stmt->Option Pos
 | .Return (some e) _=>NX e
 | .Assign _ e _=>NX e
 |_=>none
def FF(fd:FuncData):Option (Array Value):=match fd.body with
 | .stmts b=>(b.findSome? NY).map λpos=> #[rawInt pos.line,rawInt pos.col,.str (fd.qualname++ ".<locals>."++ "<lambda>") 0]
 |_=>none
def DC(K:Fg)(a:Addr)(ps:Array Value):Prop:=∃(f:Addr) (oc:Value) (od:Option Addr) (fd:FuncData) (sl:Array (Option Value)) (c:Addr),K.lookup f=some ⟨oc,od,.func fd,sl⟩/\fd.code=.ref c/\PySem.W.codeHdIn K c a=true/\FF fd=some ps
def Tb(K:Fg)(F:Hp):Prop:=∀a ps,DC K a ps->F a=some (.tbl ps)
theorem Tb.same {F':Hp}(t:Tb K F)(s:Same F F'):Tb K F':=λa ps h=>s _ _ (t a ps h)
def xi(K:Fg)(F H:Hp):Prop:=Same F H/\Tb K F
structure Rep (K:Fg) (H0 F0 F:Hp) (σ:St) (H:Hp) (δ:aS):Prop where
 g:Grow F0 H0 F H
 len:σ.length=δ.length
 fz:∀(i:Nat) (d:PyData),δ[i]? =some (some (.fz d))->∃v,σ[i]? =some (some v)/\Is K F v d
 ow:∀(i:Nat) (ds:`g),δ[i]? =some (some (.ow ds))->∃a xs,σ[i]? =some (some (.ref a))/\H a=some (.lst xs)/\F a=none/\H0 a=none/\Are K F xs ds
 ap:∀(i j:Nat) (ds es:`g) (a:Addr),δ[i]? =some (some (.ow ds))->δ[j]? =some (some (.ow es))->σ[i]? =some (some (.ref a))->σ[j]? =some (some (.ref a))->i=j
 od:∀(i:Nat) (kvs:List (PyData×PyData)),δ[i]? =some (some (.od kvs))->∃a o,σ[i]? =some (some (.ref a))/\H a=some o/\F a=none/\H0 a=none/\DcO K F o kvs
 ad:∀(i j:Nat) (ds es:List (PyData×PyData)) (a:Addr),δ[i]? =some (some (.od ds))->δ[j]? =some (some (.od es))->σ[i]? =some (some (.ref a))->σ[j]? =some (some (.ref a))->i=j
 tb:Tb K F
section
variable {K:Fg} {H0 F0 F F':Hp} {σ:St} {H H':Hp} {δ:aS}
theorem Rep.grow(R:Rep K H0 F0 F σ H δ)(g:Grow F H F' H'):Rep K H0 F0 F' σ H' δ where
 g:=R.g.trans g
 len:=R.len
 fz:=λi d e=>let ⟨v,h1,h2⟩:=R.fz i d e;⟨v,h1,h2.same g.f⟩
 ow:=λi ds e=>let ⟨a,xs,h1,h2,h3,h4,h5⟩:=R.ow i ds e;⟨a,xs,h1,g.h _ _ h2,g.o _ _ h2 (λ_ z=>nomatch z) h3,h4,h5.same g.f⟩
 ap:=R.ap
 od:=λi ds e=>let ⟨a,m,h1,h2,h3,h4,h5⟩:=R.od i ds e;⟨a,m,h1,g.h _ _ h2,g.o _ _ h2 h5.ntup h3,h4,h5.same g.f⟩
 ad:=R.ad
 tb:=R.tb.same g.f
variable {i:Nat}
theorem aa {α:Type}{l:List α}{j:Nat}{x y:α}(h:(l.set i x)[j]? =some y):(j=i/\y=x)\/(j≠i/\l[j]? =some y):=by
 rw [List.getElem?_set]at h;split at h
 . rename_i e;split at h
   . exact .inl ⟨e.symm,(zV h).symm⟩
   . cases h
 . rename_i e;exact .inr ⟨λz=>e z.symm,h⟩
theorem jp {α:Type}{l:List α}{x:α}(h:i < l.length):(l.set i x)[i]? =some x:=by
 rw [List.getElem?_set,if_pos rfl,if_pos h]
theorem ae {α:Type}{l:List α}{j:Nat}{x:α}(h:j≠i):(l.set i x)[j]? =l[j]? :=by
 rw [List.getElem?_set,if_neg (λz=>h z.symm)]
theorem dm {α:Type}{l:List α}{x:α}(h:l[i]? =some x):i < l.length:=(C6.mp h).1
theorem Rep.set(R:Rep K H0 F0 F σ H δ){i:Nat}{v:V}{d:PyData}(h:Is K F v d):Rep K H0 F0 F (σ.set i (some v)) H (δ.set i (some (.fz d))) where
 g:=R.g
 len:=by rw [Q9,Q9];exact R.len
 fz:=λj e q=>by
  have hj:=dm q;rw [Q9]at hj
  rcases aa q with ⟨rfl,z⟩|⟨n,q⟩
  . injection z with z
    injection z with z
    subst z;exact⟨v,jp (by rw [R.len];exact hj),h⟩
  . rw [ae n];exact R.fz j e q
 ow:=λj ds q=>by
  rcases aa q with ⟨rfl,z⟩|⟨n,q⟩
  . cases z
  . rw [ae n];exact R.ow j ds q
 ap:=λj k ds es a q1 q2 q3 q4=>by
  rcases aa q1 with ⟨rfl,z⟩|⟨n1,q1⟩
  . cases z
  . rcases aa q2 with ⟨rfl,z⟩|⟨n2,q2⟩
    . cases z
    . rw [ae n1]at q3;rw [ae n2]at q4;exact R.ap j k ds es a q1 q2 q3 q4
 od:=λj ds q=>by
  rcases aa q with ⟨rfl,z⟩|⟨n,q⟩
  . cases z
  . rw [ae n];exact R.od j ds q
 ad:=λj k ds es a q1 q2 q3 q4=>by
  rcases aa q1 with ⟨rfl,z⟩|⟨n1,q1⟩
  . cases z
  . rcases aa q2 with ⟨rfl,z⟩|⟨n2,q2⟩
    . cases z
    . rw [ae n1]at q3;rw [ae n2]at q4;exact R.ad j k ds es a q1 q2 q3 q4
 tb:=R.tb
theorem Rep.setO(R:Rep K H0 F0 F σ H δ){i:Nat}{a:Addr}{xs:List V}{ds:`g}(ha:H a=some (.lst xs))(hf:F a=none)(h0:H0 a=none)(h:Are K F xs ds)
 (hn:∀j es,j≠i->δ[j]? =some (some (.ow es))->σ[j]? ≠some (some (.ref a))):Rep K H0 F0 F (σ.set i (some (.ref a))) H (δ.set i (some (.ow ds))) where
 g:=R.g
 len:=by rw [Q9,Q9];exact R.len
 fz:=λj e q=>by
  rcases aa q with ⟨rfl,z⟩|⟨n,q⟩
  . cases z
  . rw [ae n];exact R.fz j e q
 ow:=λj es q=>by
  have hj:=dm q;rw [Q9]at hj
  rcases aa q with ⟨rfl,z⟩|⟨n,q⟩
  . injection z with z
    injection z with z
    subst z;exact⟨a,xs,jp (by rw [R.len];exact hj),ha,hf,h0,h⟩
  . rw [ae n];exact R.ow j es q
 ap:=λj k ds' es' b q1 q2 q3 q4=>by
  have hj:=dm q1;have hk:=dm q2;rw [Q9]at hj hk
  rcases aa q1 with ⟨ej,z⟩|⟨n1,p1⟩
  . rcases aa q2 with ⟨ek,z2⟩|⟨n2,p2⟩
    . rw [ej,ek]
    . rw [ej,jp (by rw [R.len, <-ej];exact hj)]at q3
      rw [ae n2]at q4;cases q3;exact absurd q4 (hn k es' n2 p2)
  . rcases aa q2 with ⟨ek,z⟩|⟨n2,p2⟩
    . rw [ek,jp (by rw [R.len, <-ek];exact hk)]at q4
      rw [ae n1]at q3;cases q4;exact absurd q3 (hn j ds' n1 p1)
    . rw [ae n1]at q3;rw [ae n2]at q4;exact R.ap j k ds' es' b p1 p2 q3 q4
 od:=λj ds q=>by
  rcases aa q with ⟨rfl,z⟩|⟨n,q⟩
  . cases z
  . rw [ae n];exact R.od j ds q
 ad:=λj k ds es a q1 q2 q3 q4=>by
  rcases aa q1 with ⟨rfl,z⟩|⟨n1,q1⟩
  . cases z
  . rcases aa q2 with ⟨rfl,z⟩|⟨n2,q2⟩
    . cases z
    . rw [ae n1]at q3;rw [ae n2]at q4;exact R.ad j k ds es a q1 q2 q3 q4
 tb:=R.tb
theorem Rep.mut(R:Rep K H0 F0 F σ H δ){i:Nat}{a:Addr}{xs:List V}{es ds:`g}(e:δ[i]? =some (some (.ow es)))(hs:σ[i]? =some (some (.ref a)))(hf:F a=none)(h0:H0 a=none)(h:Are K F xs ds):
 Rep K H0 F0 F σ (bC H a (.lst xs)) (δ.set i (some (.ow ds))) where
 g:=⟨R.g.f,λb u q=>by rw [aM (aQ q hf)];exact R.g.s b u q,λb u q=>by rw [aM (aQ q h0)];exact R.g.h b u q,R.g.o⟩
 len:=by rw [Q9];exact R.len
 fz:=λj d q=>by
  rcases aa q with ⟨rfl,z⟩|⟨n,q⟩
  . cases z
  . exact R.fz j d q
 ow:=λj us q=>by
  rcases aa q with ⟨rfl,z⟩|⟨n,q⟩
  . injection z with z
    injection z with z
    subst z;exact⟨a,xs,hs,aR,hf,h0,h⟩
  . obtain⟨b,ys,q1,q2,q3,q4,q5⟩:=R.ow j us q;have nb:b≠a:=λz=>by subst z;exact n (R.ap j i us es b q e q1 hs)
    exact⟨b,ys,q1,by rw [aM nb];exact q2,q3,q4,q5⟩
 ap:=λj k ds' es' b q1 q2 q3 q4=>by
  have f:∀{m:Nat} {us:`g},(δ.set i (some (Sl.ow ds)))[m]? =some (some (Sl.ow us))->∃us':List PyData,δ[m]? =some (some (Sl.ow us')):=λ{m us} q=>by
   rcases aa q with ⟨em,z⟩|⟨n,q⟩
   . exact⟨es,by rw [em];exact e⟩
   . exact⟨us,q⟩
  obtain⟨u1,p1⟩:=f q1;obtain⟨u2,p2⟩:=f q2;exact R.ap j k u1 u2 b p1 p2 q3 q4
 od:=λj us q=>by
  rcases aa q with ⟨rfl,z⟩|⟨n,q⟩
  . cases z
  . obtain⟨b,m,q1,q2,q3,q4,q5⟩:=R.od j us q;have nb:b≠a:=λz=>by
     subst z;obtain⟨b2,ys,w1,w2,_⟩:=R.ow i es e;rw [hs]at w1;cases w1;rw [q2]at w2;exact q5.nlst _ (zV w2)
    exact⟨b,m,q1,by rw [aM nb];exact q2,q3,q4,q5⟩
 ad:=λj k ds' es' b q1 q2 q3 q4=>by
  rcases aa q1 with ⟨rfl,z⟩|⟨n1,q1⟩
  . cases z
  . rcases aa q2 with ⟨rfl,z⟩|⟨n2,q2⟩
    . cases z
    . exact R.ad j k ds' es' b q1 q2 q3 q4
 tb:=R.tb
noncomputable def frz(i:Nat)(δ:aS):aS:=match δ[i]? with
 |some (some (.ow ds))=>δ.set i (some (.fz (.list ds)))
 |some (some (.od kvs))=>δ.set i (some (.fz (.dict kvs)))
 |_=>δ
theorem Rep.frz(R:Rep K H0 F0 F σ H δ)(i:Nat):∃F',Same F F'/\Rep K H0 F0 F' σ H (frz i δ):=by
 unfold DL.frz;split
 . rename_i ds e;obtain⟨a,xs,q1,q2,q3,q4,q5⟩:=R.ow i ds e;have g:=R.g.frz (p:=a) (o:=.lst xs) q4 q3 q2;have sF:Same F (bC F a (.lst xs)):=bV q3 _;refine⟨bC F a (.lst xs),sF,g,by rw [Q9];exact R.len,λj d q=>?_,λj us q=>?_,λj k ds' es' b p1 p2 p3 p4=>?_,λj us q=>?_,λj k ds' es' b p1 p2 p3 p4=>?_,R.tb.same sF⟩
   . rcases aa q with ⟨rfl,z⟩|⟨n,q⟩
     . injection z with z
       injection z with z
       subst z;exact⟨.ref a,q1,a,xs,rfl,aR,q5.same sF⟩
     . obtain⟨v,h1,h2⟩:=R.fz j d q;exact⟨v,h1,h2.same sF⟩
   . rcases aa q with ⟨rfl,z⟩|⟨n,q⟩
     . cases z
     . obtain⟨b,ys,h1,h2,h3,h4,h5⟩:=R.ow j us q;have nb:b≠a:=λz=>by subst z;exact n (R.ap j i us ds b q e h1 q1)
       exact⟨b,ys,h1,h2,by rw [aM nb];exact h3,h4,h5.same sF⟩
   . rcases aa p1 with ⟨rfl,z⟩|⟨n1,p1⟩
     . cases z
     . rcases aa p2 with ⟨rfl,z⟩|⟨n2,p2⟩
       . cases z
       . exact R.ap j k ds' es' b p1 p2 p3 p4
   . rcases aa q with ⟨rfl,z⟩|⟨n,q⟩
     . cases z
     . obtain⟨b,m,h1,h2,h3,h4,h5⟩:=R.od j us q;have nb:b≠a:=λz=>by
        subst z;rw [q2]at h2;exact h5.nlst _ (zV h2).symm
       exact⟨b,m,h1,h2,by rw [aM nb];exact h3,h4,h5.same sF⟩
   . rcases aa p1 with ⟨rfl,z⟩|⟨n1,p1⟩
     . cases z
     . rcases aa p2 with ⟨rfl,z⟩|⟨n2,p2⟩
       . cases z
       . exact R.ad j k ds' es' b p1 p2 p3 p4
 . rename_i kvs e;obtain⟨a,m,q1,q2,q3,q4,q5⟩:=R.od i kvs e;have g:=R.g.frz (p:=a) (o:=m) q4 q3 q2;have sF:Same F (bC F a m):=bV q3 _;refine⟨bC F a m,sF,g,by rw [Q9];exact R.len,λj d q=>?_,λj us q=>?_,λj k ds' es' b p1 p2 p3 p4=>?_,λj us q=>?_,λj k ds' es' b p1 p2 p3 p4=>?_,R.tb.same sF⟩
   . rcases aa q with ⟨rfl,z⟩|⟨n,q⟩
     . injection z with z
       injection z with z
       subst z;exact⟨.ref a,q1,(q5.same sF).is aR⟩
     . obtain⟨v,h1,h2⟩:=R.fz j d q;exact⟨v,h1,h2.same sF⟩
   . rcases aa q with ⟨rfl,z⟩|⟨n,q⟩
     . cases z
     . obtain⟨b,ys,h1,h2,h3,h4,h5⟩:=R.ow j us q;have nb:b≠a:=λz=>by
        subst z;rw [q2]at h2;exact q5.nlst _ (zV h2)
       exact⟨b,ys,h1,h2,by rw [aM nb];exact h3,h4,h5.same sF⟩
   . rcases aa p1 with ⟨rfl,z⟩|⟨n1,p1⟩
     . cases z
     . rcases aa p2 with ⟨rfl,z⟩|⟨n2,p2⟩
       . cases z
       . exact R.ap j k ds' es' b p1 p2 p3 p4
   . rcases aa q with ⟨rfl,z⟩|⟨n,q⟩
     . cases z
     . obtain⟨b,m2,h1,h2,h3,h4,h5⟩:=R.od j us q;have nb:b≠a:=λz=>by subst z;exact n (R.ad j i us kvs b q e h1 q1)
       exact⟨b,m2,h1,h2,by rw [aM nb];exact h3,h4,h5.same sF⟩
   . rcases aa p1 with ⟨rfl,z⟩|⟨n1,p1⟩
     . cases z
     . rcases aa p2 with ⟨rfl,z⟩|⟨n2,p2⟩
       . cases z
       . exact R.ad j k ds' es' b p1 p2 p3 p4
 . exact⟨F,Same.refl _,R⟩
theorem Rep.weak(R:Rep K H0 F0 F σ H δ){δ':aS}(l:δ'.length=δ.length)(w:∀(i:Nat) s,δ'[i]? =some (some s)->δ[i]? =some (some s)):Rep K H0 F0 F σ H δ':=
 ⟨R.g,by rw [R.len,l],λi d e=>R.fz i d (w i _ e),λi ds e=>R.ow i ds (w i _ e),λi j ds es a q1 q2=>R.ap i j ds es a (w i _ q1) (w j _ q2),λi ds e=>R.od i ds (w i _ e),λi j ds es a q1 q2=>R.ad i j ds es a (w i _ q1) (w j _ q2),R.tb⟩
end
section
variable (K:Fg)
def SE(te:TE)(f:aS->Option PyData):Prop:=∀(H0 F0 F:Hp) (σ:St) (H:Hp) (δ:aS) (d:PyData) (Q:VK),Rep K H0 F0 F σ H δ->f δ=some d->(∀v H' F',Grow F H F' H'->Is K F' v d->Q v H')->te σ H Q
def ST(tt:TT)(f:aS->Option Bool):Prop:=∀(H0 F0 F:Hp) (σ:St) (H:Hp) (δ:aS) (b:Bool) (Q:Bool->Hp->Prop),Rep K H0 F0 F σ H δ->f δ=some b->(∀H' F',Grow F H F' H'->Q b H')->tt σ H Q
def SA(ta:TA)(f:aS->Option `g):Prop:=∀(H0 F0 F:Hp) (σ:St) (H:Hp) (δ:aS) (ds:`g) (Q:List V->Hp->Prop),Rep K H0 F0 F σ H δ->f δ=some ds->(∀vs H' F',Grow F H F' H'->Are K F' vs ds->Q vs H')->ta σ H Q
def SO(te:TE)(f:aS->Option `g):Prop:=∀(H0 F0 F:Hp) (σ:St) (H:Hp) (δ:aS) (ds:`g) (Q:VK),Rep K H0 F0 F σ H δ->f δ=some ds->
 (∀a xs H' F',Grow F H F' H'->H a=none->F' a=none->H' a=some (.lst xs)->Are K F' xs ds->Q (.ref a) H')->te σ H Q
def vH(r:R2)(g:PyData->PyData->Option PyData):Prop:=∀(F H:Hp) (x y:V) (dx dy d:PyData) (Q:VK),Same F H->Is K F x dx->Is K F y dy->g dx dy=some d->(∀v H' F',Grow F H F' H'->Is K F' v d->Q v H')->r x y H Q
def rp(r:List V->Hp->VK->Prop)(g:List PyData->Option PyData):Prop:=∀(F H:Hp) (xs:List V) (ds:`g) (d:PyData) (Q:VK),Same F H->Are K F xs ds->g ds=some d->(∀v H' F',Grow F H F' H'->Is K F' v d->Q v H')->r xs H Q
end
noncomputable def aF(i:Nat)(δ:aS):Option PyData:=match δ[i]? with
 |some (some (.fz d))=>some d
 |_=>none
noncomputable def dC(d:PyData)(_:aS):Option PyData:=some d
noncomputable def d2(g:PyData->PyData->Option PyData)(fa fb:aS->Option PyData)(δ:aS):Option PyData:=(fa δ).bind λa=>(fb δ).bind λb=>g a b
def bE(g:List PyData->Option PyData)(fs:aS->Option `g)(δ:aS):Option PyData:=(fs δ).bind g
noncomputable def aL(_:aS):Option `g:=some []
def aB(f:aS->Option PyData)(fs:aS->Option `g)(δ:aS):Option `g:=(f δ).bind λd=>(fs δ).bind λds=>some (d::ds)
theorem bind_some {α β:Type}{x:Option α}{f:α->Option β}{b:β}(h:x.bind f=some b):∃a,x=some a/\f a=some b:=by
 cases x with
 |none=>cases h
 |some a=>exact⟨a,rfl,h⟩
section
variable {K:Fg} {ta tb te:TE} {fa fb f:aS->Option PyData}
variable {fo:aS->Option `g}
theorem SO.se(h:SO K te fo):SE K te (λδ=>(fo δ).map PyData.list):=by
 intro H0 F0 F σ H δ d Q R e k;obtain⟨ds,e1,e2⟩:=Q0.mp e;subst e2;refine h H0 F0 F σ H δ ds Q R e1 λa xs H' F' g h0 hf ha ar=>?_;exact k (.ref a) H' _ (g.frz h0 hf ha) ⟨a,xs,rfl,aR,ar.same (bV hf _)⟩
theorem aE(i:Nat):SE K (bJ i) (aF i):=by
 intro H0 F0 F σ H δ d Q R e h;unfold aF at e;split at e
 . rename_i d' q;cases e;obtain⟨v,hv,is⟩:=R.fz i d q;exact⟨v,hv,h v H F (Grow.refl R.g.s) is⟩
 . cases e
theorem Il {v:V}{d:PyData}(h:∀H,Is K H v d):SE K (tC v) (dC d):=λH0 F0 F σ H δ d' Q R e k=>by
 cases e;exact k v H F (Grow.refl R.g.s) (h F)
theorem aW {n:Int}:SE K (tC (.int n)) (dC (.int n)):=Il λ_=>rfl
variable {b:Bool}
theorem mI:SE K (tC (.bl b)) (dC (.bool b)):=Il λ_=>rfl
theorem m7:SE K (tC .non) (dC .none):=Il λ_=>rfl
theorem Li {x:Str}:SE K (tC (.str x)) (dC (.str x)):=Il λ_=>rfl
theorem aZ {r:R2}{g:PyData->PyData->Option PyData}(o:vH K r g)(a:SE K ta fa)(b:SE K tb fb):SE K (LY r ta tb) (d2 g fa fb):=by
 intro H0 F0 F σ H δ d Q R e h;obtain⟨dx,ex,e⟩:=bind_some e;obtain⟨dy,ey,e⟩:=bind_some e;refine a H0 F0 F σ H δ dx _ R ex λv H1 F1 g1 i1=>b H0 F0 F1 σ H1 δ dy _ (R.grow g1) ey λw H2 F2 g2 i2=>?_;exact o F2 H2 v w dx dy d Q g2.s (i1.same g2.f) i2 e λv' H3 F3 g3 i3=>h v' H3 F3 (g1.trans (g2.trans g3)) i3
theorem aK:SA K dJ aL:=λH0 F0 F σ H δ ds Q R e h=>by cases e;exact h [] H F (Grow.refl R.g.s) rfl
variable {fs:aS->Option `g}{t:TA}
theorem aD(a:SE K te f)(b:SA K t fs):SA K (bU te t) (aB f fs):=by
 intro H0 F0 F σ H δ ds Q R e h;obtain⟨dx,ex,e⟩:=bind_some e;obtain⟨dy,ey,e⟩:=bind_some e;cases e;refine a H0 F0 F σ H δ dx _ R ex λv H1 F1 g1 i1=>b H0 F0 F1 σ H1 δ dy _ (R.grow g1) ey λvs H2 F2 g2 i2=>?_;exact h (v::vs) H2 F2 (g1.trans g2) ⟨v,vs,rfl,i1.same g2.f,i2⟩
theorem bH {r:List V->Hp->VK->Prop}{g:List PyData->Option PyData}(o:rp K r g)(a:SA K t fs):SE K (IX r t) (bE g fs):=by
 intro H0 F0 F σ H δ d Q R e h;obtain⟨ds,ex,e⟩:=bind_some e;refine a H0 F0 F σ H δ ds _ R ex λvs H1 F1 g1 i1=>?_;exact o F1 H1 vs ds d Q g1.s i1 e λv H2 F2 g2 i2=>h v H2 F2 (g1.trans g2) i2
noncomputable def fD:Nat:=100000
theorem eM {n:Nat}(h:n<=fD):n<=sizeLine:=Qc h (by decide)
theorem lF {n:Nat}(h:n<=fD):n < sizeLine:=IG h (by decide)
def cz(fs:aS->Option `g)(δ:aS):Option PyData:=(fs δ).bind λds=>if ds.length<=fD then some (.tuple ds)else none
def bd(fs:aS->Option `g)(δ:aS):Option `g:=(fs δ).bind λds=>if ds.length<=fD then some ds else none
noncomputable def br(fo:aS->Option `g)(δ:aS):Option PyData:=(fo δ).map PyData.list
theorem eE(a:SA K t fs):SE K (Cj t) (cz fs):=by
 intro H0 F0 F σ H δ d Q R e h;obtain⟨ds,ex,e⟩:=bind_some e;split at e
 . rename_i hl;cases e;refine a H0 F0 F σ H δ ds _ R ex λvs H1 F1 g1 i1=>⟨by rw [i1.length];exact eM hl,λp hp=>?_⟩
   refine h (.ref p) _ _ (g1.trans (Grow.new g1.s hp)) ⟨p,vs,rfl,aR,i1.same (bV (g1.s.free hp) _)⟩
 . cases e
theorem cZ(a:SA K t fs):SO K (uR t) (bd fs):=by
 intro H0 F0 F σ H δ d Q R e h;obtain⟨ds,ex,e⟩:=bind_some e;split at e
 . rename_i hl;cases e;refine a H0 F0 F σ H δ d _ R ex λvs H1 F1 g1 i1=>⟨by rw [i1.length];exact eM hl,λp hp=>?_⟩
   have hp0:H p=none:=g1.h.free hp;exact h p vs _ F1 (g1.trans (Grow.fresh g1.s hp)) hp0 (g1.s.free hp) aR i1
 . cases e
theorem bu(h:SO K te fo):SE K te (br fo):=h.se
noncomputable def dB(f:aS->Option PyData)(δ:aS):Option Bool:=(f δ).bind λd=>match d with
 | .bool b=>some b
 |_=>none
noncomputable def rq:PyData->Option Bool
 | .none=>some false
 | .bool b=>some b
 | .int i=>some (i != 0)
 | .str y=>if y.length<=fD then some ((y.length:Int) != 0)else none
 | .list ds=>some (!ds.isEmpty)
 | .tuple ds=>some (!ds.isEmpty)
 | .dict _=>none
def gO(f:aS->Option PyData)(δ:aS):Option Bool:=(f δ).bind rq
noncomputable def dP(f:aS->Option Bool)(δ:aS):Option Bool:=(f δ).map (!·)
noncomputable def nn(f g:aS->Option Bool)(δ:aS):Option Bool:=(f δ).bind λb=>if b=true then g δ else some false
noncomputable def sA(f g:aS->Option Bool)(δ:aS):Option Bool:=(f δ).bind λb=>if b=true then some true else g δ
def gP(f g:aS->Option PyData)(δ:aS):Option PyData:=(dB f δ).bind λb=>if b=true then g δ else some (.bool false)
def vI(f:aS->Option PyData)(δ:aS):Option PyData:=(dB f δ).map λb=>.bool (!b)
noncomputable def NZ(c:aS->Option Bool)(f g:aS->Option PyData)(δ:aS):Option PyData:=(c δ).bind λb=>if b=true then f δ else g δ
theorem wJ {δ:aS}(h:dB f δ=some b):f δ=some (.bool b):=by
 obtain⟨d,e,h⟩:=bind_some h;cases d<;>simp at h
 subst h;exact e
theorem b8(a:SE K ta fa):ST K (xX ta) (dB fa):=λH0 F0 F σ H δ b Q R e h=>
 a H0 F0 F σ H δ (.bool b) _ R (wJ e) λv H1 F1 g1 i1=>⟨b,i1,h H1 F1 g1⟩
theorem qW {α β:Type}{xs:List α}{ys:List β}(h:xs.length=ys.length):(!xs.isEmpty)= !ys.isEmpty:=by
 cases xs<;>cases ys<;>simp at h<;>rfl
theorem Im {v:V}{d:PyData}(s:Same F H)(i:Is K F v d)(e:rq d=some b):IQ K v H b:=by
 cases d with
 |none=>rw [show v=.non from i];cases e;rfl
 |bool c=>rw [show v=.bl c from i];cases e;rfl
 |int c=>rw [show v=.int c from i];cases e;rfl
 |str c=>
  rw [show v=.str c from i]
  have e':(if c.length<=fD then some ((c.length:Int) != 0)else none)=some b:=e;split at e'
  . rename_i hl;cases e';exact⟨eM hl,rfl⟩
  . cases e'
 |list ds=>
  obtain⟨a,xs,rfl,h1,h2⟩:=i;cases e;exact .inl ⟨xs,SqL.of (s _ _ h1),(qW h2.length).symm⟩
 |tuple ds=>
  obtain⟨a,xs,rfl,h1,h2⟩:=i;cases e;exact .inr (.inl ⟨xs,SqT.of (s _ _ h1),(qW h2.length).symm⟩)
 |dict _=>cases e
theorem fY(a:SE K ta fa):ST K (NV K ta) (gO fa):=λH0 F0 F σ H δ b Q R e h=>by
 obtain⟨d,e1,e2⟩:=bind_some e;exact a H0 F0 F σ H δ d _ R e1 λv H1 F1 g1 i1=>⟨b,Im g1.s i1 e2,h H1 F1 g1⟩
variable {t u:TT} {c c':aS->Option Bool}
theorem gq(a:ST K t c):ST K (NG t) (dP c):=λH0 F0 F σ H δ b Q R e h=>by
 obtain⟨d,e1,e2⟩:=Q0.mp e;subst e2;exact a H0 F0 F σ H δ d _ R e1 λH1 F1 g1=>h H1 F1 g1
theorem FG(a:ST K t c)(b:ST K u c'):ST K (NF t u) (nn c c'):=λH0 F0 F σ H δ b' Q R e h=>by
 obtain⟨d,e1,e2⟩:=bind_some e;refine a H0 F0 F σ H δ d _ R e1 λH1 F1 g1=>?_;cases d with
 |true=>exact pR (b H0 F0 F1 σ H1 δ b' _ (R.grow g1) e2 λH2 F2 g2=>h H2 F2 (g1.trans g2))
 |false=>cases e2;exact pQ (h H1 F1 g1)
theorem xj(a:ST K t c)(b:ST K u c'):ST K (Pu t u) (sA c c'):=λH0 F0 F σ H δ b' Q R e h=>by
 obtain⟨d,e1,e2⟩:=bind_some e;refine a H0 F0 F σ H δ d _ R e1 λH1 F1 g1=>?_;cases d with
 |true=>cases e2;exact pR (h H1 F1 g1)
 |false=>exact pQ (b H0 F0 F1 σ H1 δ b' _ (R.grow g1) e2 λH2 F2 g2=>h H2 F2 (g1.trans g2))
theorem m8(a:SE K ta fa)(b:SE K tb fb):SE K (K0 ta tb) (gP fa fb):=λH0 F0 F σ H δ d Q R e h=>by
 obtain⟨b',e1,e2⟩:=bind_some e;refine a H0 F0 F σ H δ _ _ R (wJ e1) λv H1 F1 g1 i1=>⟨b',i1,?_⟩;cases b' with
 |true=>exact pR (b H0 F0 F1 σ H1 δ d _ (R.grow g1) e2 λv2 H2 F2 g2 i2=>h v2 H2 F2 (g1.trans g2) i2)
 |false=>cases e2;exact pQ (h _ H1 F1 g1 rfl)
theorem Lj(a:SE K ta fa):SE K (K1 ta) (vI fa):=λH0 F0 F σ H δ d Q R e h=>by
 obtain⟨b',e1,e2⟩:=Q0.mp e;subst e2;exact a H0 F0 F σ H δ _ _ R (wJ e1) λv H1 F1 g1 i1=>⟨b',i1,h _ H1 F1 g1 rfl⟩
theorem Lk(cc:ST K t c)(a:SE K ta fa)(b:SE K tb fb):SE K (Pv t ta tb) (NZ c fa fb):=λH0 F0 F σ H δ d Q R e h=>by
 obtain⟨b',e1,e2⟩:=bind_some e;refine cc H0 F0 F σ H δ b' _ R e1 λH1 F1 g1=>?_;cases b' with
 |true=>exact pR (a H0 F0 F1 σ H1 δ d _ (R.grow g1) e2 λv2 H2 F2 g2 i2=>h v2 H2 F2 (g1.trans g2) i2)
 |false=>exact pQ (b H0 F0 F1 σ H1 δ d _ (R.grow g1) e2 λv2 H2 F2 g2 i2=>h v2 H2 F2 (g1.trans g2) i2)
end
inductive DFlow where
 |nx (δ:aS)
 |rt (d:PyData)
 |ro (ds:List PyData)
 |bk (δ:aS)
 |ct (δ:aS)
noncomputable def Lands(K:Fg)(H0 F0 F:Hp)(D:Ends):DFlow->Prop
 | .nx δ=>∀F' σ H,Rep K H0 F0 F' σ H δ->Same F F'->D.nx σ H
 | .rt d=>∀F' v H,Grow F0 H0 F' H->Is K F' v d->D.rt v H
 | .ro ds=>∀F' a xs H,Grow F0 H0 F' H->H0 a=none->F' a=none->H a=some (.lst xs)->Are K F' xs ds->D.rt (.ref a) H
 | .bk δ=>∀F' σ H,Rep K H0 F0 F' σ H δ->Same F F'->D.bk σ H
 | .ct δ=>∀F' σ H,Rep K H0 F0 F' σ H δ->Same F F'->D.ct σ H
theorem Lands.up {H0 F0 F1:Hp}{D:Ends}(s:Same F F1):∀{r:DFlow},Lands K H0 F0 F D r->Lands K H0 F0 F1 D r
 | .nx δ,h=>λF' σ H R q=>h F' σ H R (s.trans q)
 | .rt d,h=>h
 | .ro ds,h=>h
 | .bk δ,h=>λF' σ H R q=>h F' σ H R (s.trans q)
 | .ct δ,h=>λF' σ H R q=>h F' σ H R (s.trans q)
def SS(K:Fg)(ts:TS)(f:aS->Option DFlow):Prop:=∀(H0 F0 F:Hp) (σ:St) (H:Hp) (δ:aS) (r:DFlow) (D:Ends),Rep K H0 F0 F σ H δ->f δ=some r->Lands K H0 F0 F D r->ts D σ H
noncomputable def az(δ:aS):Option DFlow:=some (.nx δ)
noncomputable def aX(f g:aS->Option DFlow)(δ:aS):Option DFlow:=(f δ).bind λr=>match r with
 | .nx δ'=>g δ'
 |r=>some r
noncomputable def fR(c:aS->Option Bool)(f g:aS->Option DFlow)(δ:aS):Option DFlow:=(c δ).bind λb=>if b=true then f δ else g δ
noncomputable def bO(i:Nat)(f:aS->Option PyData)(δ:aS):Option DFlow:=(f δ).map λd=>.nx (δ.set i (some (.fz d)))
noncomputable def iE(i:Nat)(f:aS->Option `g)(δ:aS):Option DFlow:=(f δ).map λds=>.nx (δ.set i (some (.ow ds)))
def pW(i:Nat)(g:PyData->PyData->Option PyData)(f:aS->Option PyData)(δ:aS):Option DFlow:=(aF i δ).bind λx=>(f δ).bind λy=>(g x y).map λz=>.nx (δ.set i (some (.fz z)))
noncomputable def ai(f:aS->Option PyData)(δ:aS):Option DFlow:=(f δ).map .rt
noncomputable def Px(i:Nat)(δ:aS):Option DFlow:=match δ[i]? with
 |some (some (.ow ds))=>some (.ro ds)
 |_=>none
noncomputable def iF(f:aS->Option PyData)(δ:aS):Option DFlow:=(f δ).map λ_=>.nx δ
noncomputable def eX(_:aS):Option DFlow:=none
def cW(i:Nat)(f:aS->Option DFlow)(δ:aS):Option DFlow:=f (frz i δ)
def dA(i:Nat)(f:aS->Option PyData)(δ:aS):Option DFlow:=match δ[i]? with
 |some (some (.ow ds))=>(f δ).bind λd=>if ds.length < fD then some (.nx (δ.set i (some (.ow (ds++[d])))))else none
 |_=>none
def rJ(i:Nat)(f:aS->Option PyData)(δ:aS):Option DFlow:=match δ[i]? with
 |some (some (.ow ds))=>(f δ).bind λd=>match d with
  | .list es=>if ds.length+es.length<=fD then some (.nx (δ.set i (some (.ow (ds++es)))))else none
  |_=>none
 |_=>none
noncomputable def ee:List PyData->Option `f
 |[]=>some []
 | .int n::r=>(ee r).map (n:: ·)
 |_::_=>none
theorem cB:∀{ds:`g} {ns:`f},ee ds=some ns->ds=ns.map PyData.int
 |[],ns,h=>by cases h;rfl
 | .int n::r,ns,h=>by
  obtain⟨ms,e1,e2⟩:=Q0.mp h;subst e2;rw [cB e1];rfl
 | .none::r,ns,h=>by cases h
 | .bool _::r,ns,h=>by cases h
 | .str _::r,ns,h=>by cases h
 | .list _::r,ns,h=>by cases h
 | .tuple _::r,ns,h=>by cases h
 | .dict _::r,ns,h=>by cases h
theorem bM:∀ns:List Int,ee (ns.map PyData.int)=some ns
 |[]=>rfl
 |n::r=>by
  show (ee (r.map PyData.int)).map (n:: ·)=_
  rw [bM r];rfl
def gJ(i:Nat)(f:aS->Option PyData)(δ:aS):Option DFlow:=match δ[i]? with
 |some (some (.ow ds))=>(f δ).bind λd=>match d with
  | .int n=>(ee ds).bind λns=>if n∈ns then some (.nx (δ.set i (some (.ow ((ns.erase n).map PyData.int)))))else none
  |_=>none
 |_=>none
section
variable {K:Fg} {t u:TS} {f g:aS->Option DFlow} {te ta tb:TE} {fe fa fb:aS->Option PyData} {c:TT} {fc:aS->Option Bool}
theorem bp:SS K qS az:=λH0 F0 F σ H δ r D R e h=>by cases e;exact h F σ H R (Same.refl _)
theorem aU(a:SS K t f)(b:SS K u g):SS K (gM t u) (aX f g):=by
 intro H0 F0 F σ H δ r D R e h;obtain⟨r1,e1,e2⟩:=bind_some e;refine a H0 F0 F σ H δ r1 {D with nx:=u D} R e1 ?_
 cases r1 with
 |nx δ1=>exact λF' σ' H' R' s'=>b H0 F0 F' σ' H' δ1 r D R' e2 (h.up s')
 |rt d=>cases e2;exact h
 |ro d=>cases e2;exact h
 |bk d=>cases e2;exact h
 |ct d=>cases e2;exact h
theorem d4(cc:ST K c fc)(a:SS K t f)(b:SS K u g):SS K (uP c t u) (fR fc f g):=by
 intro H0 F0 F σ H δ r D R e h;obtain⟨b',e1,e2⟩:=bind_some e;refine cc H0 F0 F σ H δ b' _ R e1 λH1 F1 g1=>?_;cases b' with
 |true=>exact pR (a H0 F0 F1 σ H1 δ r D (R.grow g1) e2 (h.up g1.f))
 |false=>exact pQ (b H0 F0 F1 σ H1 δ r D (R.grow g1) e2 (h.up g1.f))
theorem bG(i:Nat)(a:SE K te fe):SS K (iW te (cV i)) (bO i fe):=by
 intro H0 F0 F σ H δ r D R e h;obtain⟨d,e1,e2⟩:=Q0.mp e;subst e2;exact a H0 F0 F σ H δ d _ R e1 λv H1 F1 g1 i1=>h F1 _ H1 ((R.grow g1).set i1) g1.f
theorem iL(i:Nat){fo:aS->Option `g}(a:SO K te fo):SS K (iW te (cV i)) (iE i fo):=by
 intro H0 F0 F σ H δ r D R e h;obtain⟨d,e1,e2⟩:=Q0.mp e;subst e2;refine a H0 F0 F σ H δ d _ R e1 λp xs H1 F1 g1 hn hf hp ar=>h F1 _ H1 ((R.grow g1).setO hp hf (R.g.h.free hn) ar λj es nj ej=>?_) g1.f;obtain⟨b,ys,q1,q2,_⟩:=R.ow j es ej;rw [q1];intro z;cases z;rw [q2]at hn;cases hn
theorem wK(i:Nat){r:R2}{gg:PyData->PyData->Option PyData}(o:vH K r gg)(a:SE K te fe):SS K (LX i te r) (pW i gg fe):=by
 intro H0 F0 F σ H δ r' D R e h;obtain⟨x,e1,e⟩:=bind_some e;obtain⟨y,e2,e⟩:=bind_some e;obtain⟨z,e3,e4⟩:=Q0.mp e;subst e4;unfold aF at e1;split at e1
 . rename_i d' q;cases e1;obtain⟨v,hv,is⟩:=R.fz i x q;refine⟨v,hv,a H0 F0 F σ H δ y _ R e2 λw H1 F1 g1 i1=>o F1 H1 v w x y z _ g1.s (is.same g1.f) i1 e3 λv2 H2 F2 g2 i2=>?_⟩;exact h F2 _ H2 ((R.grow (g1.trans g2)).set i2) (g1.trans g2).f
 . cases e1
theorem ah(a:SE K te fe):SS K (rY te) (ai fe):=by
 intro H0 F0 F σ H δ r D R e h;obtain⟨d,e1,e2⟩:=Q0.mp e;subst e2;exact a H0 F0 F σ H δ d _ R e1 λv H1 F1 g1 i1=>h F1 v H1 (R.g.trans g1) i1
theorem eV(a:SE K te fe):SS K (k7 te) (iF fe):=by
 intro H0 F0 F σ H δ r D R e h;obtain⟨d,e1,e2⟩:=Q0.mp e;subst e2;exact a H0 F0 F σ H δ d _ R e1 λv H1 F1 g1 i1=>h F1 σ H1 (R.grow g1) g1.f
theorem iZ:SS K EZ eX:=λH0 F0 F σ H δ r D R e h=>by cases e
theorem d5(i:Nat)(a:SS K t f):SS K t (cW i f):=by
 intro H0 F0 F σ H δ r D R e h;obtain⟨F',s,R'⟩:=R.frz i;exact a H0 F0 F' σ H _ r D R' e (h.up s)
theorem jd(i:Nat)(a:SE K te fe):SS K (k7 (IH K "list" iK (bJ i) (bU te dJ))) (dA i fe):=by
 intro H0 F0 F σ H δ r D R e h;unfold dA at e;split at e
 . rename_i ds q;obtain⟨d,e1,e2⟩:=bind_some e;split at e2
   . rename_i hl;cases e2;obtain⟨p,xs,q1,q2,q3,q4,q5⟩:=R.ow i ds q;refine⟨.ref p,q1,.inl ⟨rfl,xs,SqL.of q2⟩,a H0 F0 F σ H δ d _ R e1 λv H1 F1 g1 i1=>⟨p,xs,v,rfl,rfl,g1.h _ _ q2,?_,?_⟩⟩
     . rw [q5.length];exact lF (AF hl)
     . exact h F1 σ _ ((R.grow g1).mut q q1 (g1.o _ _ q2 (λ_ z=>nomatch z) q3) q4 ((q5.same g1.f).append (Are.one i1))) g1.f
   . cases e2
 . cases e
theorem vJ(i:Nat)(a:SE K te fe):SS K (k7 (IH K "list" B9 (bJ i) (bU te dJ))) (rJ i fe):=by
 intro H0 F0 F σ H δ r D R e h;unfold rJ at e;split at e
 . rename_i ds q;obtain⟨d,e1,e2⟩:=bind_some e;split at e2
   . rename_i es;split at e2
     . rename_i hl;cases e2;obtain⟨p,xs,q1,q2,q3,q4,q5⟩:=R.ow i ds q;refine⟨.ref p,q1,.inl ⟨rfl,xs,SqL.of q2⟩,a H0 F0 F σ H δ _ _ R e1 λv H1 F1 g1 i1=>?_⟩;obtain⟨b,zs,rfl,hb,ab⟩:=i1;refine⟨p,b,xs,zs,rfl,rfl,g1.h _ _ q2,g1.s _ _ hb,?_,?_⟩
       . rw [q5.length,ab.length];exact eM hl
       . exact h F1 σ _ ((R.grow g1).mut q q1 (g1.o _ _ q2 (λ_ z=>nomatch z) q3) q4 ((q5.same g1.f).append ab)) g1.f
     . cases e2
   . cases e2
 . cases e
theorem vK(i:Nat)(a:SE K te fe):SS K (k7 (IH K "list" Bb (bJ i) (bU te dJ))) (gJ i fe):=by
 intro H0 F0 F σ H δ r D R e h;unfold gJ at e;split at e
 . rename_i ds q;obtain⟨d,e1,e2⟩:=bind_some e;split at e2
   . rename_i n;obtain⟨ns,e3,e4⟩:=bind_some e2;split at e4
     . rename_i hm;cases e4;obtain⟨p,xs,q1,q2,q3,q4,q5⟩:=R.ow i ds q;have ed:=cB e3;subst ed;have ex:=Are.ints.mp q5;subst ex;refine⟨.ref p,q1,.inl ⟨rfl,_,SqL.of q2⟩,a H0 F0 F σ H δ _ _ R e1 λv H1 F1 g1 i1=>?_⟩;refine⟨p,ns,n,rfl,by rw [show v=.int n from i1],g1.h _ _ q2,hm,?_⟩
       exact h F1 σ _ ((R.grow g1).mut q q1 (g1.o _ _ q2 (λ_ z=>nomatch z) q3) q4 (Are.ints.mpr rfl)) g1.f
     . cases e4
   . cases e2
 . cases e
end
structure IterD (K:Fg) (F:Hp) (J:It) (ds:`g):Prop where
 go:∀(i:Nat) (F2 H2:Hp),i < ds.length->Same F F2->Same F2 H2->J.go i H2
 stop:∀F2 H2:Hp,Same F F2->Same F2 H2->J.stop ds.length H2
 yld:∀(i:Nat) (d:PyData) (F2 H2:Hp) (x:V) (H3:Hp),ds[i]? =some d->Same F F2->Same F2 H2->J.yld i H2 x H3->∃F3,Grow F2 H2 F3 H3/\Is K F3 x d
def SI(K:Fg)(wi:TI)(fi:aS->Option `g):Prop:=∀(H0 F0 F:Hp) (σ:St) (H:Hp) (δ:aS) (ds:`g) (R:It->Hp->Prop),Rep K H0 F0 F σ H δ->fi δ=some ds->
 (∀J H' F',Grow F H F' H'->IterD K F' J ds->R J H')->wi σ H R
def SG(K:Fg)(g:TG)(fg:PyData->aS->Option aS):Prop:=∀(H0 F0 F:Hp) (σ:St) (H:Hp) (δ δ':aS) (v:V) (d:PyData) (Q:St->Hp->Prop),Rep K H0 F0 F σ H δ->Is K F v d->fg d δ=some δ'->
 (∀σ',Rep K H0 F0 F σ' H δ'->Q σ' H)->g v σ H Q
def Oy(K:Fg)(g:E1)(fg:List PyData->aS->Option aS):Prop:=∀(H0 F0 F:Hp) (σ:St) (H:Hp) (δ δ':aS) (vs:List V) (ds:`g) (Q:St->Hp->Prop),Rep K H0 F0 F σ H δ->Are K F vs ds->fg ds δ=some δ'->
 (∀σ',Rep K H0 F0 F σ' H δ'->Q σ' H)->g vs σ H Q
noncomputable def gN(i:Nat)(d:PyData)(δ:aS):Option aS:=some (δ.set i (some (.fz d)))
noncomputable def gT(n:Nat)(fg:List PyData->aS->Option aS)(d:PyData)(δ:aS):Option aS:=match d with
 | .tuple ds=>if ds.length=n then fg ds δ else none
 |_=>none
noncomputable def gZ(ds:`g)(δ:aS):Option aS:=match ds with
 |[]=>some δ
 |_::_=>none
noncomputable def gC(f:PyData->aS->Option aS)(g:List PyData->aS->Option aS)(ds:`g)(δ:aS):Option aS:=match ds with
 |[]=>none
 |d::r=>(f d δ).bind (g r)
section
variable {K:Fg}
theorem bA(i:Nat):SG K (cV i) (gN i):=λH0 F0 F σ H δ δ' v d Q R h e k=>by cases e;exact k _ (R.set h)
theorem nq:Oy K NJ gZ:=λH0 F0 F σ H δ δ' vs ds Q R h e k=>by
 cases ds with
 |nil=>cases e;exact⟨h,k σ R⟩
 |cons _ _=>cases e
variable {g:List PyData->aS->Option aS}
theorem eN {t:TG}{u:E1}{f:PyData->aS->Option aS}(a:SG K t f)(b:Oy K u g):Oy K (K2 t u) (gC f g):=λH0 F0 F σ H δ δ' vs ds Q R h e k=>by
 cases ds with
 |nil=>cases e
 |cons d r=>
  obtain⟨v,vr,rfl,i1,i2⟩:=h;obtain⟨δ1,e1,e2⟩:=bind_some e;exact⟨v,vr,rfl,a H0 F0 F σ H δ δ1 v d _ R i1 e1 λσ1 R1=>b H0 F0 F σ1 H δ1 δ' vr r Q R1 i2 e2 k⟩
theorem sB {n:Nat}{t:E1}(b:Oy K t g):SG K (LT K n t) (gT n g):=λH0 F0 F σ H δ δ' v d Q R h e k=>by
 unfold gT at e;split at e
 . rename_i ds;split at e
   . rename_i hl;obtain⟨a,xs,rfl,q,ar⟩:=h;exact⟨a,xs,rfl,SqT.of (R.g.s _ _ q),by rw [ar.length,hl],b H0 F0 F σ H δ δ' xs ds Q R ar e k⟩
   . cases e
 . cases e
noncomputable def Py:PyData->Option `g
 | .list ds=>some ds
 | .tuple ds=>some ds
 | .dict [(.none,.list ds)]=>some ds
 |_=>none
noncomputable def fZ(i:Int):Bool:=decide (-1000000000<=i)&&decide (i<=1000000000)
noncomputable def bL(lo:Int)(n:Nat):List PyData:=(List.range n).map λk:Nat=>PyData.int (lo+(k:Int))
def eO(fs:aS->Option `g)(δ:aS):Option `g:=(fs δ).bind λds=>match ds with
 |[.int j]=>if fZ j=true then some (bL 0 j.toNat)else none
 |_=>none
def Kc(fs:aS->Option `g)(δ:aS):Option `g:=(fs δ).bind λds=>match ds with
 |[.int i,.int j]=>if(fZ i&&fZ j)=true then some (bL i (j - i).toNat)else none
 |_=>none
theorem xl(F:Hp)(lo:Int)(n:Nat):IterD K F (NL lo n) (bL lo n) where
 go:=λi F2 H2 h _ _=>by
  have:i < n:=by simpa [bL]using h
  exact this
 stop:=λF2 H2 _ _=>by show n<=(bL lo n).length;simp [bL]
 yld:=λi d F2 H2 x H3 e _ s2 y=>by
  obtain⟨y1,y2⟩:=y;subst y1 y2;refine⟨F2,Grow.refl s2,?_⟩;unfold bL at e;rw [zK]at e;obtain⟨k,e1,e2⟩:=Q0.mp e;have hi:=dm e1;rw [dS hi]at e1;have:k=i:=by simpa using e1.symm
  subst this;subst e2;rfl
variable {fs:aS->Option `g}
theorem jJ {ta:TA}(a:SA K ta fs):SI K (K3 ta) (eO fs):=λH0 F0 F σ H δ ds R RR e k=>by
 obtain⟨es,e1,e2⟩:=bind_some e;split at e2
 . rename_i j;split at e2
   . rename_i hs;cases e2;unfold fZ at hs;rw [Q5,decide_eq_true_eq,decide_eq_true_eq]at hs;refine a H0 F0 F σ H δ _ _ RR e1 λvs H1 F1 g1 ar=>?_;obtain⟨x,r,rfl,hx,hr⟩:=ar;rw [show r=[]from hr,show x=.int j from hx]
     exact⟨j,rfl,by lia,by lia,k _ H1 F1 g1 (xl F1 0 j.toNat)⟩
   . cases e2
 . cases e2
theorem Io {ta:TA}(a:SA K ta fs):SI K (K4 ta) (Kc fs):=λH0 F0 F σ H δ ds R RR e k=>by
 obtain⟨es,e1,e2⟩:=bind_some e;split at e2
 . rename_i i j;split at e2
   . rename_i hs;cases e2;unfold fZ at hs;simp only [Q5,decide_eq_true_eq]at hs;refine a H0 F0 F σ H δ _ _ RR e1 λvs H1 F1 g1 ar=>?_;obtain⟨x,r,rfl,hx,y,r',rfl,hy,hr⟩:=ar;rw [show r'=[]from hr,show x=.int i from hx,show y=.int j from hy]
     exact⟨i,j,rfl,⟨by lia,by lia,by lia,by lia⟩,k _ H1 F1 g1 (xl F1 i (j - i).toNat)⟩
   . cases e2
 . cases e2
end
def DD(K:Fg)(tl:TE):TI:=λσ H R=>tl σ H λx H1=>∃a,x=.ref a/\(((∃xs,SqL K H1 a xs)/\R (PU K a) H1)\/((∃xs,SqT K H1 a xs)/\R (PV K a) H1))
section
variable {X:Cx} {tg:Expr}
theorem Ll {l:Expr}{tl:TE}(hl:PE X l tl):PI X tg l (DD X.K tl):=by
 intro pins s σ H R I h;refine bq (hl pins s σ H _ I h) λv s1 ⟨x,H1,I1,r1,q1⟩=>?_;obtain⟨a,e,q⟩:=q1;subst e;cases r1
 rcases q with ⟨⟨xs,hq⟩,q⟩|⟨⟨xs,hq⟩,q⟩
 . obtain⟨its,rv,p,hz⟩:=I1.list hq;refine wpAny_pyIter_list p.isList ?_;refine⟨s1.heap.objs.size,[s1.heap.objs.size],_,_,H1,rfl,I1.kept (t':=s1.toks) λb o e=>df _ e,Ce a _,⟨_,fU _ rfl,rfl,rfl⟩,λb hb=>?_,q⟩;have e:b=s1.heap.objs.size:=by simpa using hb
   subst e;exact I1.fpOk (Q1 _) (I1.hok.fresh (Q1 _))
 . obtain⟨its,rv,p,hz⟩:=I1.tuple hq;refine wpAny_pyIter_tuple (show s1.heap.IsTuple a its.toArray from p) ?_
   refine⟨s1.heap.objs.size,[s1.heap.objs.size],_,_,H1,rfl,I1.kept (t':=s1.toks) λb o e=>df _ e,AH a _,⟨_,fU _ rfl,rfl,rfl⟩,λb hb=>?_,q⟩;have e:b=s1.heap.objs.size:=by simpa using hb
   subst e;exact I1.fpOk (Q1 _) (I1.hok.fresh (Q1 _))
theorem dD {l:Expr}{tl:TE}(K:Fg)(hl:PE X l tl)(h:X.K=K:=by rfl):PI X tg l (DD K tl):=h▸Ll hl
def P9(K:Fg)(ta:TA):TI:=λσ H R=>ta σ H λvs H1=>∃a,vs=[.ref a]/\(((∃xs,SqT K H1 a xs)/\R (Ox λH xs=>SqT K H a xs) H1)\/((∃xs,SqL K H1 a xs)/\R (Ox λH xs=>SqL K H a xs) H1))
variable {es:List Expr}
theorem N0 {k1:Nat}{tp:Pos}{a:Expr}{ta:TA}{p pos:Pos}(hg:Gl X "enumerate")(hm:X.mg "enumerate"=none)(ha:PA X [a] ta)(hs:starEach [a] X.env=[(false,eval a X.env)]:=by rfl):PI X (.Tuple es k1 tp) (.Call (.Name "enumerate" p) [a] [] pos) (P9 X.K ta):=by
 intro pins s σ H R I h;refine Call_ (jn I hg hm boot_enumerate (PyProof.Rows.callWith_type1 (bq (ha pos pins s σ H _ I h) λus s1 ⟨vs,H1,I1,r1,q1⟩=>?_) hs rfl));obtain⟨b,e,q1⟩:=q1;subst e;cases r1 with
 |cons r rr=>
  cases rr;cases r
  rcases q1 with ⟨⟨xs,hq⟩,q⟩|⟨⟨xs,hq⟩,q⟩
  . obtain⟨its,rv,pt,hz⟩:=I1.tuple hq;refine Eu (show s1.heap.IsTuple b its.toArray from pt) λh' he hi hz' hk=>?_
    refine wpAny_pyIter_enum he ⟨_,[_,_],_,_,H1,rfl,I1.kept (t':=s1.toks) hk,vB (Ld b s1.heap.objs.size),⟨⟨_,he⟩,hi⟩,λc hc=>?_,q⟩;have hc':c=s1.heap.objs.size+1\/c=s1.heap.objs.size:=by simpa using hc
    have hle:s1.heap.objs.size<=c:=by rcases hc' with z|z<;>rw [z];exact Nat.le_succ _;exact Q1 _
    exact I1.fpOk hle (I1.hok.fresh hle)
  . obtain⟨its,rv,pt,hz⟩:=I1.list hq;refine call_enumerate_list pt.isList λh' he hi hz' hk=>?_;refine wpAny_pyIter_enum he ⟨_,[_,_],_,_,H1,rfl,I1.kept (t':=s1.toks) hk,vB (P7 b s1.heap.objs.size),⟨⟨_,he⟩,hi⟩,λc hc=>?_,q⟩;have hc':c=s1.heap.objs.size+1\/c=s1.heap.objs.size:=by simpa using hc
    have hle:s1.heap.objs.size<=c:=by rcases hc' with z|z<;>rw [z];exact Nat.le_succ _;exact Q1 _
    exact I1.fpOk hle (I1.hok.fresh hle)
theorem FH {k1:Nat}{tp:Pos}{a:Expr}{ta:TA}{p pos:Pos}(K:Fg)(hm:X.mg "enumerate"=none)(ha:PA X [a] ta)(h:X.K=K:=by rfl)(hg:Gl X "enumerate":=by rfl)(hs:starEach [a] X.env=[(false,eval a X.env)]:=by rfl):
 PI X (.Tuple es k1 tp) (.Call (.Name "enumerate" p) [a] [] pos) (P9 K ta):=h▸N0 hg hm ha hs
end
section
variable {K:Fg}
variable {xs:List V}
theorem xm {a:Addr}(h:F a=some (.lst xs))(ar:Are K F xs ds):IterD K F (PU K a) ds where
 go:=λi F2 H2 hi s1 s2=>by
  obtain⟨x,e,_⟩:=ar.get (dS hi);exact⟨xs,x,SqL.of (s2 _ _ (s1 _ _ h)),e⟩
 stop:=λF2 H2 s1 s2=>⟨xs,SqL.of (s2 _ _ (s1 _ _ h)),Nat.le_of_eq ar.length⟩
 yld:=λi d F2 H2 x H3 e s1 s2 y=>by
  obtain⟨rfl,y⟩:=y;have q:=y xs (SqL.of (s2 _ _ (s1 _ _ h)));obtain⟨x',e',i'⟩:=ar.get e;rw [q]at e';cases e';exact⟨F2,Grow.refl s2,i'.same s1⟩
theorem FI {a:Addr}(h:F a=some (.tup xs))(ar:Are K F xs ds):IterD K F (PV K a) ds where
 go:=λi F2 H2 hi s1 s2=>by
  obtain⟨x,e,_⟩:=ar.get (dS hi);exact⟨xs,x,SqT.of (s2 _ _ (s1 _ _ h)),e⟩
 stop:=λF2 H2 s1 s2=>⟨xs,SqT.of (s2 _ _ (s1 _ _ h)),Nat.le_of_eq ar.length⟩
 yld:=λi d F2 H2 x H3 e s1 s2 y=>by
  obtain⟨rfl,y⟩:=y;have q:=y xs (SqT.of (s2 _ _ (s1 _ _ h)));obtain⟨x',e',i'⟩:=ar.get e;rw [q]at e';cases e';exact⟨F2,Grow.refl s2,i'.same s1⟩
noncomputable def qt:PyData->Option `g
 | .list ds=>some ds
 | .tuple ds=>some ds
 |_=>none
def bi(f:aS->Option PyData)(δ:aS):Option `g:=(f δ).bind qt
theorem dM {tl:TE}{f:aS->Option PyData}(a:SE K tl f):SI K (DD K tl) (bi f):=λH0 F0 F σ H δ ds R RR e k=>by
 obtain⟨d,e1,e2⟩:=bind_some e;refine a H0 F0 F σ H δ d _ RR e1 λv H1 F1 g1 is=>?_;cases d with
 |list es=>
  cases e2;obtain⟨p,xs,rfl,q,ar⟩:=is;exact⟨p,rfl,.inl ⟨⟨xs,SqL.of (g1.s _ _ q)⟩,k _ H1 F1 g1 (xm q ar)⟩⟩
 |tuple es=>
  cases e2;obtain⟨p,xs,rfl,q,ar⟩:=is;exact⟨p,rfl,.inr ⟨⟨xs,SqT.of (g1.s _ _ q)⟩,k _ H1 F1 g1 (FI q ar)⟩⟩
 |_=>cases e2
noncomputable def jK(ds:`g):List PyData:=ds.zipIdx.map λp=>PyData.tuple [.int (p.2:Nat),p.1]
theorem pX {i:Nat}{d:PyData}(h:(jK ds)[i]? =some d):∃e,ds[i]? =some e/\d=.tuple [.int (i:Nat),e]:=by
 unfold jK at h;rw [zK,List.getElem?_zipIdx]at h;obtain⟨p,h1,h2⟩:=Q0.mp h;obtain⟨e,h3,h4⟩:=Q0.mp h1;subst h4;subst h2;exact⟨e,h3,by simp⟩
theorem vL(ds:`g):(jK ds).length=ds.length:=by simp [jK]
theorem Bf {S:Hp->List V->Prop}(h:∀F2 H2,Same F F2->Same F2 H2->S H2 xs)(ar:Are K F xs ds):IterD K F (Ox S) (jK ds) where
 go:=λi F2 H2 hi s1 s2=>by
  rw [vL]at hi;obtain⟨x,e,_⟩:=ar.get (dS hi);exact⟨xs,x,h F2 H2 s1 s2,e⟩
 stop:=λF2 H2 s1 s2=>⟨xs,h F2 H2 s1 s2,by rw [vL];exact ar.length⟩
 yld:=λi d F2 H2 x H3 e s1 s2 y=>by
  obtain⟨p,v,hp,rfl,rfl,y⟩:=y;have q:=y xs (h F2 H2 s1 s2);obtain⟨d',h1,rfl⟩:=pX e;obtain⟨x',e',i'⟩:=ar.get h1;rw [q]at e';cases e';exact⟨_,Grow.new s2 hp,p,_,rfl,aR,.int (i:Nat),[v],rfl,rfl,v,[],rfl,(i'.same s1).same (bV (s2.free hp) _),rfl⟩
def Lm(fs:aS->Option `g)(δ:aS):Option `g:=(fs δ).bind λds=>match ds with
 |[d]=>(qt d).map jK
 |_=>none
variable {fs:aS->Option `g}
theorem FJ {ta:TA}(a:SA K ta fs):SI K (P9 K ta) (Lm fs):=λH0 F0 F σ H δ ds R RR e k=>by
 obtain⟨es,e1,e2⟩:=bind_some e;split at e2
 . rename_i d;obtain⟨us,e3,e4⟩:=Q0.mp e2;subst e4;refine a H0 F0 F σ H δ _ _ RR e1 λvs H1 F1 g1 ar=>?_;obtain⟨x,r,rfl,hx,hr⟩:=ar;rw [show r=[]from hr]
   cases d with
   |list es=>
    cases e3;obtain⟨p,xs,rfl,q,ar⟩:=hx;exact⟨p,rfl,.inr ⟨⟨xs,SqL.of (g1.s _ _ q)⟩,k _ H1 F1 g1 (Bf (λF2 H2 s1 s2=>SqL.of (s2 _ _ (s1 _ _ q))) ar)⟩⟩
   |tuple es=>
    cases e3;obtain⟨p,xs,rfl,q,ar⟩:=hx;exact⟨p,rfl,.inl ⟨⟨xs,SqT.of (g1.s _ _ q)⟩,k _ H1 F1 g1 (Bf (λF2 H2 s1 s2=>SqT.of (s2 _ _ (s1 _ _ q))) ar)⟩⟩
   |_=>cases e3
 . cases e2
noncomputable def DE(ds es:`g):List PyData:=(ds.zip es).map λp=>PyData.tuple [p.1,p.2]
variable {es:`g}
theorem FK {i:Nat}{d:PyData}(h:(DE ds es)[i]? =some d):∃x y,ds[i]? =some x/\es[i]? =some y/\d=.tuple [x,y]:=by
 unfold DE at h;rw [zK]at h;obtain⟨p,h1,h2⟩:=Q0.mp h;obtain⟨h3,h4⟩:=List.getElem?_zip_eq_some.mp h1;exact⟨p.1,p.2,h3,h4,h2.symm⟩
theorem xn(h:ds.length=es.length):(DE ds es).length=ds.length:=by simp [DE,h]
theorem FL {S1 S2:Hp->List V->Prop}{ys:List V}(h1:∀F2 H2,Same F F2->Same F2 H2->S1 H2 xs)(h2:∀F2 H2,Same F F2->Same F2 H2->S2 H2 ys)(a1:Are K F xs ds)(a2:Are K F ys es)(hl:ds.length=es.length):IterD K F (P8 S1 S2) (DE ds es) where
 go:=λi F2 H2 hi s1 s2=>by
  rw [xn hl]at hi;obtain⟨x,e,_⟩:=a1.get (dS hi);obtain⟨y,e',_⟩:=a2.get (dS (by lia:i < es.length))
  exact⟨xs,ys,x,y,h1 F2 H2 s1 s2,h2 F2 H2 s1 s2,e,e'⟩
 stop:=λF2 H2 s1 s2=>⟨xs,h1 F2 H2 s1 s2,by rw [xn hl];exact a1.length⟩
 yld:=λi d F2 H2 x H3 e s1 s2 y=>by
  obtain⟨p,v,u,hp,rfl,rfl,y1,y2⟩:=y;have q1:=y1 xs (h1 F2 H2 s1 s2);have q2:=y2 ys (h2 F2 H2 s1 s2);obtain⟨d1,d2,e1,e2,rfl⟩:=FK e;obtain⟨x1,f1,i1⟩:=a1.get e1;obtain⟨x2,f2,i2⟩:=a2.get e2;rw [q1]at f1;rw [q2]at f2;cases f1;cases f2;have sn:Same F2 (bC F2 p (.tup [v,u])):=bV (s2.free hp) _;exact⟨_,Grow.new s2 hp,p,_,rfl,aR,v,[u],rfl,(i1.same s1).same sn,u,[],rfl,(i2.same s1).same sn,rfl⟩
def N1(fs:aS->Option `g)(δ:aS):Option `g:=(fs δ).bind λds=>match ds with
 |[.tuple xs,.tuple ys]=>if xs.length=ys.length then some (DE xs ys)else none
 |_=>none
theorem Ln {ta:TA}(a:SA K ta fs):SI K (Ez K ta) (N1 fs):=λH0 F0 F σ H δ ds R RR e k=>by
 obtain⟨es,e1,e2⟩:=bind_some e;split at e2
 . rename_i d1 d2;split at e2
   . rename_i hl;cases e2;refine a H0 F0 F σ H δ _ _ RR e1 λvs H1 F1 g1 ar=>?_;obtain⟨x,r,rfl,hx,y,r',rfl,hy,hr⟩:=ar;rw [show r'=[]from hr]
     obtain⟨p,xs,rfl,q,ar⟩:=hx;obtain⟨p',ys,rfl,q',ar'⟩:=hy;exact⟨p,p',rfl,⟨xs,SqT.of (g1.s _ _ q)⟩,⟨ys,SqT.of (g1.s _ _ q')⟩,k _ H1 F1 g1 (FL (λF2 H2 s1 s2=>SqT.of (s2 _ _ (s1 _ _ q))) (λF2 H2 s1 s2=>SqT.of (s2 _ _ (s1 _ _ q'))) ar ar' hl)⟩
   . cases e2
 . cases e2
end
noncomputable def ka(fg:PyData->aS->Option aS)(fb:aS->Option DFlow):List PyData->aS->Option DFlow
 |[],δ=>some (.nx δ)
 |d::r,δ=>(fg d δ).bind λδ1=>(fb δ1).bind λfl=>match fl with
  | .nx δ2=>ka fg fb r δ2
  | .ct δ2=>ka fg fb r δ2
  | .bk δ2=>some (.nx δ2)
  | .rt v=>some (.rt v)
  | .ro v=>some (.ro v)
def gQ(fi:aS->Option `g)(fg:PyData->aS->Option aS)(fb:aS->Option DFlow)(δ:aS):Option DFlow:=(fi δ).bind λds=>ka fg fb ds δ
noncomputable def ma(c:aS->Option Bool)(fb:aS->Option DFlow):Nat->aS->Option DFlow
 |0,_=>none
 |n+1,δ=>(c δ).bind λb=>if b=true then(fb δ).bind λfl=>match fl with
  | .nx δ2=>ma c fb n δ2
  | .ct δ2=>ma c fb n δ2
  | .bk δ2=>some (.nx δ2)
  | .rt v=>some (.rt v)
  | .ro v=>some (.ro v)else some (.nx δ)
section
variable {K:Fg}
variable {fb:aS->Option DFlow}
theorem eY {wi:TI}{g:TG}{tb:TS}{fi:aS->Option `g}{fg:PyData->aS->Option aS}(hi:SI K wi fi)(hg:SG K g fg)(hb:SS K tb fb):SS K (xW wi g tb) (gQ fi fg fb):=by
 intro H0 F0 F σ H δ r D R e h;obtain⟨ds,e1,e2⟩:=bind_some e;refine hi H0 F0 F σ H δ ds _ R e1 λJ H1 F1 g1 it=>?_;refine⟨λi m σ H=>m=ds.length - i/\i<=ds.length/\∃F' δ',Rep K H0 F0 F' σ H δ'/\Same F1 F'/\ka fg fb (ds.drop i) δ'=some r,⟨ds.length,by simp,zU _,F1,δ,R.grow g1,Same.refl _,e2⟩,?_⟩
 rintro i m σ' H' ⟨rfl,hle,F',δ',R',s',e'⟩
 by_cases hlt:i < ds.length
 . refine .inr ⟨it.go i F' H' hlt s' R'.g.s,λσ H=>i+1<=ds.length/\∃F' δ',Rep K H0 F0 F' σ H δ'/\Same F1 F'/\ka fg fb (ds.drop (i+1)) δ'=some r,λσ2 H2 q=>⟨ds.length - (i+1),by lia,rfl,q⟩,λx H2 y=>?_⟩
   have hd:ds[i]? =some ds[i]:=dS hlt;obtain⟨F2,g2,is⟩:=it.yld i _ F' H' x H2 hd s' R'.g.s y;rw [NC hlt]at e';obtain⟨δ1,q1,q2⟩:=bind_some e';obtain⟨fl,q3,q4⟩:=bind_some q2;refine hg H0 F0 F2 σ' H2 δ' δ1 x ds[i] _ (R'.grow g2) is q1 λσ3 R3=>?_;refine hb H0 F0 F2 σ3 H2 δ1 fl _ R3 q3 ?_;have up:Same F1 F2:=s'.trans g2.f;cases fl with
   |nx δ2=>exact λF3 σ4 H4 R4 s4=>⟨hlt,F3,δ2,R4,up.trans s4,q4⟩
   |ct δ2=>exact λF3 σ4 H4 R4 s4=>⟨hlt,F3,δ2,R4,up.trans s4,q4⟩
   |bk δ2=>
    cases q4;exact λF3 σ4 H4 R4 s4=>h F3 σ4 H4 R4 (g1.f.trans (up.trans s4))
   |rt d=>cases q4;exact h
   |ro d=>cases q4;exact h
 . have e3:i=ds.length:=by lia
   subst e3;rw [List.drop_length]at e';cases e';exact .inl ⟨it.stop F' H' s' R'.g.s,h F' σ' H' R' (g1.f.trans s')⟩
theorem xo {c:TT}{tb:TS}{fc:aS->Option Bool}(n:Nat)(hc:ST K c fc)(hb:SS K tb fb):SS K (AG c tb) (ma fc fb n):=by
 intro H0 F0 F σ H δ r D R e h;refine⟨λm σ H=>∃F' δ',Rep K H0 F0 F' σ H δ'/\Same F F'/\ma fc fb m δ'=some r,⟨n,F,δ,R,Same.refl _,e⟩,?_⟩;rintro m σ' H' ⟨F',δ',R',s',e'⟩;cases m with
 |zero=>cases e'
 |succ m=>
  obtain⟨b,q1,q2⟩:=bind_some e';refine hc H0 F0 F' σ' H' δ' b _ R' q1 λH1 F1 g1=>?_;cases b with
  |false=>
   cases q2;exact pQ (h F1 σ' H1 (R'.grow g1) (s'.trans g1.f))
  |true=>
   obtain⟨fl,q3,q4⟩:=bind_some q2;refine pR ⟨λσ H=>∃F' δ',Rep K H0 F0 F' σ H δ'/\Same F F'/\ma fc fb m δ'=some r,λσ2 H2 q=>⟨m,C8 _,q⟩,?_⟩;refine hb H0 F0 F1 σ' H1 δ' fl _ (R'.grow g1) q3 ?_;have up:Same F F1:=s'.trans g1.f;cases fl with
   |nx δ2=>exact λF3 σ4 H4 R4 s4=>⟨F3,δ2,R4,up.trans s4,q4⟩
   |ct δ2=>exact λF3 σ4 H4 R4 s4=>⟨F3,δ2,R4,up.trans s4,q4⟩
   |bk δ2=>
    cases q4;exact λF3 σ4 H4 R4 s4=>h F3 σ4 H4 R4 (up.trans s4)
   |rt d=>cases q4;exact h
   |ro d=>cases q4;exact h
end
noncomputable def f6(n:Nat)(fr:List (Str×Nat))(δ:aS):aS:=List.replicate n none++fr.map λp=>match δ[p.2]? with
 |some (some (.fz d))=>some (.fz d)
 |_=>none
noncomputable def i7(f:PyData->Option (Option PyData)):List PyData->Option `g
 |[]=>some []
 |d::r=>(f d).bind λo=>match o with
  |some y=>(i7 f r).map (y:: ·)
  |none=>i7 f r
noncomputable def dE(_:aS):Option Bool:=some true
def bK(n:Nat)(fr:List (Str×Nat))(fi:aS->Option `g)(fg:PyData->aS->Option aS)(fc:aS->Option Bool)(fe:aS->Option PyData)(δ:aS):Option `g:=
 (fi δ).bind λds=>if ds.length<=fD then i7 (λd=>(fg d (f6 n fr δ)).bind λδ1=>(fc δ1).bind λb=>if b=true then(fe δ1).map some else some none) ds else none
def Oz(n:Nat)(fg:PyData->aS->Option aS):Prop:=∀d δ δ1,fg d δ=some δ1->δ1.length=δ.length/\∀i,n<=i->δ1[i]? =δ[i]?
def Ip(n:Nat)(fg:List PyData->aS->Option aS):Prop:=∀d δ δ1,fg d δ=some δ1->δ1.length=δ.length/\∀i,n<=i->δ1[i]? =δ[i]?
variable {n:Nat}
theorem cO {i:Nat}(h:i < n:=by decide):Oz n (gN i):=λd δ δ1 e=>by
 cases e;exact⟨Q9 ..,λj hj=>ae `e⟩
theorem FM:Ip n gZ:=λd δ δ1 e=>by
 cases d with
 |nil=>cases e;exact⟨rfl,λ_ _=>rfl⟩
 |cons _ _=>cases e
variable {g:List PyData->aS->Option aS}
theorem vM {f:PyData->aS->Option aS}(a:Oz n f)(b:Ip n g):Ip n (gC f g):=λd δ δ1 e=>by
 cases d with
 |nil=>cases e
 |cons x r=>
  obtain⟨δ2,e1,e2⟩:=bind_some e;obtain⟨l1,h1⟩:=a x δ δ2 e1;obtain⟨l2,h2⟩:=b r δ2 δ1 e2;exact⟨l2.trans l1,λi hi=>(h2 i hi).trans (h1 i hi)⟩
theorem Iq {m:Nat}(b:Ip n g):Oz n (gT m g):=λd δ δ1 e=>by
 unfold gT at e;split at e
 . split at e
   . exact b _ δ δ1 e
   . cases e
 . cases e
section
variable {K:Fg}
theorem Pa {H0 F0:Hp}{σ:St}{δ:aS}(R:Rep K H0 F0 F σ H δ)(n:Nat)(fr:List (Str×Nat))(H':Hp)(F1:Hp)(g:Grow F1 H' F H):Rep K H' F1 F (Ep n fr σ) H (f6 n fr δ) where
 g:=g
 tb:=R.tb
 len:=by simp [Ep,f6]
 fz:=λi d e=>by
  unfold f6 at e;unfold Ep
  by_cases hi:i < n
  . rw [Qa (by simpa using hi),Qf,if_pos hi]at e
    cases e
  . rw [Qd (by simpa using hi),IE,zK]at e ⊢
    cases q:fr[i - n]? with
    |none=>rw [q]at e;cases e
    |some p=>
     rw [q]at e;have e':(match δ[p.2]? with|some (some (.fz d))=>some (Sl.fz d)|_=>none)=some (.fz d):=zV e
     split at e'
     . rename_i d' q';cases e';obtain⟨v,h1,h2⟩:=R.fz p.2 d q';refine⟨v,?_,h2⟩;show some ((σ[p.2]?).join)=some (some v);rw [h1];rfl
     . cases e'
 ow:=λi ds e=>by
  exfalso
  unfold f6 at e
  by_cases hi:i < n
  . rw [Qa (by simpa using hi),Qf,if_pos hi]at e
    cases e
  . rw [Qd (by simpa using hi),IE,zK]at e
    cases q:fr[i - n]? with
    |none=>rw [q]at e;cases e
    |some p=>
     rw [q]at e;have e':(match δ[p.2]? with|some (some (.fz d))=>some (Sl.fz d)|_=>none)=some (.ow ds):=zV e
     split at e'<;>cases e'
 ap:=λi j ds es a e1 e2 e3 e4=>by
  exfalso
  unfold f6 at e1
  by_cases hi:i < n
  . rw [Qa (by simpa using hi),Qf,if_pos hi]at e1
    cases e1
  . rw [Qd (by simpa using hi),IE,zK]at e1
    cases q:fr[i - n]? with
    |none=>rw [q]at e1;cases e1
    |some p=>
     rw [q]at e1;have e':(match δ[p.2]? with|some (some (.fz d))=>some (Sl.fz d)|_=>none)=some (.ow ds):=zV e1
     split at e'<;>cases e'
 od:=λi ds e=>by
  exfalso
  unfold f6 at e
  by_cases hi:i < n
  . rw [Qa (by simpa using hi),Qf,if_pos hi]at e
    cases e
  . rw [Qd (by simpa using hi),IE,zK]at e
    cases q:fr[i - n]? with
    |none=>rw [q]at e;cases e
    |some p=>
     rw [q]at e;have e':(match δ[p.2]? with|some (some (.fz d))=>some (Sl.fz d)|_=>none)=some (.od ds):=zV e
     split at e'<;>cases e'
 ad:=λi j ds es a e1 e2 e3 e4=>by
  exfalso
  unfold f6 at e1
  by_cases hi:i < n
  . rw [Qa (by simpa using hi),Qf,if_pos hi]at e1
    cases e1
  . rw [Qd (by simpa using hi),IE,zK]at e1
    cases q:fr[i - n]? with
    |none=>rw [q]at e1;cases e1
    |some p=>
     rw [q]at e1;have e':(match δ[p.2]? with|some (some (.fz d))=>some (Sl.fz d)|_=>none)=some (.od ds):=zV e1
     split at e'<;>cases e'
theorem gu:ST K NU dE:=λH0 F0 F σ H δ b Q R e h=>by cases e;exact h H F (Grow.refl R.g.s)
theorem dn {fr:List (Str×Nat)}{wi:TI}{g:TG}{tc:TT}{te:TE}{fi:aS->Option `g}{fg:PyData->aS->Option aS}{fc:aS->Option Bool}{fe:aS->Option PyData}
 (hi:SI K wi fi) (hg:SG K g fg) (hl:Oz n fg) (hc:ST K tc fc) (he:SE K te fe):SO K (Er n fr wi g tc te) (bK n fr fi fg fc fe):=by
 intro H0 F0 F σ H δ rs Q R e h;obtain⟨ds,e1,e2⟩:=bind_some e;split at e2
 . rename_i lim;refine hi H0 F0 F σ H δ ds _ R e1 λJ H1 F1 g1 it acc hacc=>?_;have hF1:F1 acc=none:=g1.s.free hacc;have h0:H acc=none:=g1.h.free hacc;have R1:=R.grow g1
   let f:PyData->Option (Option PyData):=λd=>(fg d (f6 n fr δ)).bind λδ1=>(fc δ1).bind λb=>if b=true then(fe δ1).map some else some none
   have e2':i7 f ds=some rs:=e2;refine⟨λi m σ' H'=>m=ds.length - i/\i<=ds.length/\∃F' xs us vs,Rep K H1 F1 F' σ' H' (f6 n fr δ)/\F' acc=none/\H' acc=some (.lst xs)/\Are K F' xs us/\us.length<=i/\i7 f (ds.drop i)=some vs/\rs=us++vs,⟨ds.length,by simp,zU _,F1,[],[],rs,?_,hF1,aR,rfl,Q1 _,e2',rfl⟩,?_⟩
   . exact(Pa R1 n fr H1 F1 (Grow.refl g1.s)).grow (Grow.fresh g1.s hacc)
   rintro i m σ' H' ⟨rfl,hle,F',xs,us,vs,R',hF',ha,ar,hu,em,er⟩;have s':Same F1 F':=R'.g.f
   by_cases hlt:i < ds.length
   . refine .inr ⟨it.go i F' H' hlt s' R'.g.s,λσ' H'=>i+1<=ds.length/\∃F' xs us vs,Rep K H1 F1 F' σ' H' (f6 n fr δ)/\F' acc=none/\H' acc=some (.lst xs)/\Are K F' xs us/\us.length<=i+1/\i7 f (ds.drop (i+1))=some vs/\rs=us++vs,λσ2 H2 q=>⟨ds.length - (i+1),by lia,rfl,q⟩,λx H2 y=>?_⟩
     have hd:ds[i]? =some ds[i]:=dS hlt;obtain⟨F2,g2,is⟩:=it.yld i _ F' H' x H2 hd s' R'.g.s y;rw [NC hlt]at em;obtain⟨o,q1,q2⟩:=bind_some em;obtain⟨δ1,q3,q4⟩:=bind_some q1;obtain⟨b,q5,q6⟩:=bind_some q4;obtain⟨ll,lh⟩:=hl _ _ _ q3;have weak:∀{Fx:Hp} {σx:St} {Hx:Hp},Rep K H1 F1 Fx σx Hx δ1->Rep K H1 F1 Fx σx Hx (f6 n fr δ):=λ{Fx σx Hx} RR=>RR.weak ll.symm λj s es=>by
      by_cases hj:j < n
      . unfold f6 at es;rw [Qa (by simpa using hj),Qf,if_pos hj]at es
        cases es
      . rw [lh j `e];exact es
     have ha2:H2 acc=some (.lst xs):=g2.h _ _ ha;have hF2:F2 acc=none:=g2.o _ _ ha (λ_ z=>nomatch z) hF';refine hg H1 F1 F2 σ' H2 _ δ1 x ds[i] _ (R'.grow g2) is q3 λσ3 R3=>?_;refine hc H1 F1 F2 σ3 H2 δ1 b _ R3 q5 λH4 F4 g4=>?_;have ha4:H4 acc=some (.lst xs):=g4.h _ _ ha2;have hF4:F4 acc=none:=g4.o _ _ ha2 (λ_ z=>nomatch z) hF2;cases b with
     |false=>
      have q6':(some none:Option (Option PyData))=some o:=q6;cases q6';refine pQ ⟨hlt,F4,xs,us,vs,weak (R3.grow g4),hF4,ha4,(ar.same g2.f).same g4.f,by lia,q2,er⟩
     |true=>
      have q6':(fe δ1).map some=some o:=q6;obtain⟨yd,q7,q8⟩:=Q0.mp q6';subst q8;obtain⟨ws,q9,q10⟩:=Q0.mp q2;subst q10;refine pR (he H1 F1 F4 σ3 H4 δ1 yd _ (R3.grow g4) q7 λv H5 F5 g5 i5=>?_);have ha5:H5 acc=some (.lst xs):=g5.h _ _ ha4;have hF5:F5 acc=none:=g5.o _ _ ha4 (λ_ z=>nomatch z) hF4;have ar5:Are K F5 xs us:=((ar.same g2.f).same g4.f).same g5.f;refine⟨xs,ha5,?_,hlt,F5,xs++[v],us++[yd],ws,?_,hF5,aR,ar5.append (Are.one i5),?_,q9,by rw [er];simp⟩
      . rw [ar5.length];exact lF `e
      . have R5:=weak ((R3.grow g4).grow g5);exact⟨⟨R5.g.f,λb u q=>by rw [aM (aQ q hF5)];exact R5.g.s b u q,λb u q=>by rw [aM (aQ q hacc)];exact R5.g.h b u q,R5.g.o⟩,R5.len,R5.fz,λj es q=>by
         exfalso
         unfold f6 at q
         by_cases hj:j < n
         . rw [Qa (by simpa using hj),Qf,if_pos hj]at q
           cases q
         . rw [Qd (by simpa using hj),IE,zK]at q
           cases z:fr[j - n]? with
           |none=>rw [z]at q;cases q
           |some p=>
            rw [z]at q;have e':(match δ[p.2]? with|some (some (.fz d))=>some (Sl.fz d)|_=>none)=some (.ow es):=zV q
            (split at e'<;>cases e'),R5.ap,λj es q=>by
         exfalso
         unfold f6 at q
         by_cases hj:j < n
         . rw [Qa (by simpa using hj),Qf,if_pos hj]at q
           cases q
         . rw [Qd (by simpa using hj),IE,zK]at q
           cases z:fr[j - n]? with
           |none=>rw [z]at q;cases q
           |some p=>
            rw [z]at q;have e':(match δ[p.2]? with|some (some (.fz d))=>some (Sl.fz d)|_=>none)=some (.od es):=zV q
            (split at e'<;>cases e'),R5.ad,R5.tb⟩
      . rw [zQ,Mt];lia
   . have e3:i=ds.length:=by lia
     subst e3;rw [List.drop_length]at em;cases em;rw [Q8]at er;subst er;refine .inl ⟨it.stop F' H' s' R'.g.s,?_⟩;refine h acc xs H' F' ?_ h0 hF' ha ar;exact g1.trans R'.g
 . cases e2
end
noncomputable def bz:DFlow->Option PyData
 | .nx _=>some .none
 | .rt d=>some d
 | .ro ds=>some (.list ds)
 |_=>none
noncomputable def iQ(n:Nat)(ds:`g):aS:=ds.map (λd=>some (.fz d))++List.replicate (n - ds.length) none
def bF(n:Nat)(fb:aS->Option DFlow)(ds:`g):Option PyData:=(fb (iQ n ds)).bind bz
def f7(K:Fg)(n:Nat)(f:List PyData->Option PyData):Sp:=λvs H Q _=>∃F ds d,xi K F H/\vs.length=n/\Are K F vs ds/\f ds=some d/\∀v H' F',Grow F H F' H'->Is K F' v d->Q v H'
theorem nr {K:Fg}{F H:Hp}{N:List Str}{vs:List V}{ds:`g}(s:xi K F H)(ar:Are K F vs ds):Rep K H F F (L2.dY N vs) H (iQ N.length ds) where
 g:=Grow.refl s.1
 tb:=s.2
 len:=by
  have:=ar.length;simp [L2.dY,iQ,this]
 fz:=λi d e=>by
  have hl:=ar.length;unfold iQ at e;unfold L2.dY
  by_cases hi:i < ds.length
  . rw [Qa (by simpa using hi),zK]at e
    obtain⟨d',e1,e2⟩:=Q0.mp e;cases e2;obtain⟨x,h1,h2⟩:=ar.get e1;refine⟨x,?_,h2⟩;rw [Qa (by rw [zJ];lia),zK,h1]
    rfl
  . rw [Qd (by simpa using hi),Qf]at e
    split at e<;>cases e
 ow:=λi es e=>by
  exfalso
  unfold iQ at e
  by_cases hi:i < ds.length
  . rw [Qa (by simpa using hi),zK]at e
    obtain⟨d',e1,e2⟩:=Q0.mp e;cases e2
  . rw [Qd (by simpa using hi),Qf]at e
    split at e<;>cases e
 ap:=λi j es us a e=>by
  exfalso
  unfold iQ at e
  by_cases hi:i < ds.length
  . rw [Qa (by simpa using hi),zK]at e
    obtain⟨d',e1,e2⟩:=Q0.mp e;cases e2
  . rw [Qd (by simpa using hi),Qf]at e
    split at e<;>cases e
 od:=λi es e=>by
  exfalso
  unfold iQ at e
  by_cases hi:i < ds.length
  . rw [Qa (by simpa using hi),zK]at e
    obtain⟨d',e1,e2⟩:=Q0.mp e;cases e2
  . rw [Qd (by simpa using hi),Qf]at e
    split at e<;>cases e
 ad:=λi j es us a e=>by
  exfalso
  unfold iQ at e
  by_cases hi:i < ds.length
  . rw [Qa (by simpa using hi),zK]at e
    obtain⟨d',e1,e2⟩:=Q0.mp e;cases e2
  . rw [Qd (by simpa using hi),Qf]at e
    split at e<;>cases e
section
variable {P:Program} {w:World} {K:Fg} {mg:`j} {base:Heap}
theorem Bg {x qual:Str}{st:Stmt}{f:Addr}{fd:FuncData}{N ps:List Str}{k m:Nat}{fb:aS->Option DFlow}(F:Fun K x qual st f fd)(S:FnScope N ps (aO st))(hN:N.length=n)(hm:ps.length=m)
 (hbody : ∀ (cdv : Value) (A : Around) (outer : List Env) (s : Shared) (H : Hp) (E : XK), Room k (A.deeper (envOfC qual (aO st) `a f cdv)) ->
  ∃t,PSs (rj pH P w K mg base N qual (aO st) f cdv A outer s H E).nox (bx st) t/\SS K t fb):FnOk P w K mg base pH (k+1) f fd ps (f7 K m (bF n fb)):=by
 subst hN hm;refine F.ok S (λvs H Q E h=>?_) (λcdv A outer s H vs Q E hr h=>?_)
 . obtain⟨F',ds,d,_,hl,_⟩:=h;exact hl
 . obtain⟨F',ds,d,sF,hl,ar,e,q⟩:=h;obtain⟨t,ht,hs⟩:=hbody cdv A outer s H E hr;obtain⟨r,e1,e2⟩:=bind_some e;refine⟨t,ht,hs H F' F' (L2.dY N vs) H (iQ N.length ds) r _ (nr sF ar) e1 ?_⟩;cases r with
   |nx δ=>cases e2;exact λF2 σ2 H2 R2 _=>q .non H2 F2 R2.g rfl
   |rt d'=>cases e2;exact λF2 v H2 g2 i2=>q v H2 F2 g2 i2
   |ro es=>
    cases e2;exact λF2 a xs H2 g2 h0 hf ha ar2=>q (.ref a) H2 _ (g2.frz h0 hf ha) ⟨a,xs,rfl,aR,ar2.same (bV hf _)⟩
   |bk _=>cases e2
   |ct _=>cases e2
end
section
variable {K:Fg}
def aG(n:Nat)(g:List PyData->Option PyData)(fs:aS->Option `g)(δ:aS):Option PyData:=(fs δ).bind λds=>if ds.length=n then g ds else none
theorem aT {g:List PyData->Option PyData}{t:TA}{fs:aS->Option `g}(a:SA K t fs):SE K (Eg (f7 K n g) [] E0 t) (aG n g fs):=by
 intro H0 F0 F σ H δ d Q R e h;obtain⟨ds,e1,e2⟩:=bind_some e;split at e2
 . rename_i hl;refine a H0 F0 F σ H δ ds _ R e1 λvs H1 F1 g1 ar=>⟨F1,ds,d,⟨g1.s,R.tb.same g1.f⟩,?_,?_,e2,λv H2 F2 g2 i2=>h v H2 F2 (g1.trans g2) i2⟩
   . rw [Q8,ar.length,hl]
   . rw [Q8];exact ar
 . cases e2
end
section
variable {K:Fg}
noncomputable def FN(g:Int->Int->Option PyData):PyData->PyData->Option PyData
 | .int a,.int b=>g a b
 |_,_=>none
variable {d:PyData}
theorem xp {g:Int->Int->Option PyData}{x y:PyData}(h:FN g x y=some d):∃i j,x=.int i/\y=.int j/\g i j=some d:=by
 unfold FN at h;split at h
 . exact⟨_,_,rfl,rfl,h⟩
 . cases h
variable {g':Int->Int->PyData}{g:Int->Int->V}
theorem xq(hg:∀i j H,Is K H (g i j) (g' i j)):vH K (AE g) (FN λi j=>some (g' i j)):=λF H x y dx dy d Q s hx hy e k=>by
 obtain⟨i,j,rfl,rfl,e⟩:=xp e;cases e;exact⟨i,j,hx,hy,k _ H F (Grow.refl s) (hg i j F)⟩
theorem N2 {C:Int->Int->Prop}{c:Int->Int->Bool}(hc:∀i j,c i j=true->C i j)(hg:∀i j H,Is K H (g i j) (g' i j)):vH K (rI C g) (FN λi j=>if c i j=true then some (g' i j)else none):=λF H x y dx dy d Q s hx hy e k=>by
 obtain⟨i,j,rfl,rfl,e1⟩:=xp e;split at e1
 . rename_i h;cases e1;exact⟨i,j,hx,hy,hc i j h,k _ H F (Grow.refl s) (hg i j F)⟩
 . cases e1
def uU:=FN λi j=>some (.int (i - j))
def pI:=FN λi j=>some (.bool (decide (i < j)))
def Lo:=FN λi j=>some (.bool (decide (i<=j)))
def EO:=FN λi j=>some (.bool (decide (j < i)))
def nt:=FN λi j=>some (.int (i+j))
noncomputable def nu(i j:Int):Bool:=(decide (-1000000000000<=i)&&decide (i<=1000000000000))||(decide (-1000000000000<=j)&&decide (j<=1000000000000))
def ib:=FN λi j=>if nu i j=true then some (.int (i*j))else none
noncomputable def wL(_ j:Int):Bool:=decide (0 < j)
def nv:=FN λi j=>if wL i j=true then some (.int (i % j))else none
theorem sD:vH K (AE λi j=>.int (i - j)) uU:=xq λ_ _ _=>rfl
theorem Kd:vH K (AE λi j=>.bl (decide (i < j))) pI:=xq λ_ _ _=>rfl
theorem Bh:vH K (AE λi j=>.bl (decide (i<=j))) Lo:=xq λ_ _ _=>rfl
theorem sE:vH K (AE λi j=>.bl (decide (j < i))) EO:=xq λ_ _ _=>rfl
theorem wM:vH K (AE λi j=>.int (i+j)) nt:=xq λ_ _ _=>rfl
theorem Ir {i j:Int}(h:nu i j=true):CMul i j:=by
 unfold nu at h;simp only [Bool.or_eq_true,Q5,decide_eq_true_eq]at h;unfold CMul;lia
theorem md:vH K (rI CMul λi j=>.int (i*j)) ib:=N2 (λ_ _ h=>Ir h) λ_ _ _=>rfl
theorem sG:vH K (rI (λ_ j=>0 < j) λi j=>.int (i % j)) nv:=N2 (λ_ _ h=>by simpa [wL]using h) λ_ _ _=>rfl
def Ke(K:Fg):R2:=λx y H Q=>∃a b xs ys,x=.ref a/\y=.ref b/\H a=some (.tup xs)/\H b=some (.tup ys)/\xs.length+ys.length<=sizeLine/\(ys=[]->Q (.ref a) H)/\(xs=[]->Q (.ref b) H)/\∀p,H p=none->Q (.ref p) (bC H p (.tup (xs++ys)))
variable {X:Cx}
theorem Iu:OpR X (binaryOp .Add) (Ke X.K):=by
 intro pins s σ H x y v u Q I rx ry h;obtain⟨a,b,xs,ys,rfl,rfl,ha,hb,hz,q1,q2,q3⟩:=h
 by_cases hx:xs=[]
 . cases rx;cases ry;obtain⟨its,r1,p1,_⟩:=I.tuple (SqT.of ha);obtain⟨its2,r2,p2,_⟩:=I.tuple (SqT.of hb);exact Ik p1 p2 (r1.nil_iff.mpr hx) ⟨.ref b,H,I,rfl,q2 hx⟩
 . exact IZ pins s σ H _ _ v u Q I rx ry ⟨a,b,xs,ys,rfl,rfl,SqT.of ha,SqT.of hb,hx,hz,q1,λ_ p hp=>q3 p hp⟩
def N3:R2:=λx y H Q=>∃i j,x=.str i/\y=.str j/\i.length+j.length<=sizeLine/\Q (.str (i++j)) H
def Kf(K:Fg):R2:=λx y H Q=>(AE λi j=>.int (i+j)) x y H Q\/(Ke K x y H Q\/(NR x y H Q\/N3 x y H Q))
theorem eF(K:Fg)(h:X.K=K:=by rfl):OpR X (binaryOp .Add) (Kf K):=L3.or ((h▸Iu).or (Lc.or AK))
noncomputable def bv:PyData->PyData->Option PyData
 | .int a,.int b=>some (.int (a+b))
 | .tuple a,.tuple b=>if a.length+b.length<=fD then some (.tuple (a++b))else none
 | .list a,.list b=>if a.length+b.length<=fD then some (.list (a++b))else none
 | .str a,.str b=>if a.length+b.length<=fD then some (.str (a++b))else none
 |_,_=>none
theorem eG:vH K (Kf K) bv:=λF H x y dx dy d Q s hx hy e k=>by
 unfold bv at e;split at e
 . cases e;exact .inl ⟨_,_,hx,hy,k _ H F (Grow.refl s) rfl⟩
 . rename_i a b;split at e
   . rename_i hl;cases e;obtain⟨p,xs,rfl,q,ar⟩:=hx;obtain⟨p',ys,rfl,q',ar'⟩:=hy;refine .inr (.inl ⟨p,p',xs,ys,rfl,rfl,s _ _ q,s _ _ q',by rw [ar.length,ar'.length];exact eM hl,λz=>?_,λz=>?_,λt ht=>?_⟩)
     . refine k _ H F (Grow.refl s) ⟨p,xs,rfl,q,?_⟩;have:=ar'.length;rw [z]at this;have:b=[]:=List.eq_nil_of_length_eq_zero this.symm;subst this;rw [Q8];exact ar
     . refine k _ H F (Grow.refl s) ⟨p',ys,rfl,q',?_⟩;have:=ar.length;rw [z]at this;have:a=[]:=List.eq_nil_of_length_eq_zero this.symm;subst this;exact ar'
     . have sn:Same F (bC F t (.tup (xs++ys))):=bV (s.free ht) _;exact k _ _ _ (Grow.new s ht) ⟨t,_,rfl,aR,(ar.append ar').same sn⟩
   . cases e
 . rename_i a b;split at e
   . rename_i hl;cases e;obtain⟨p,xs,rfl,q,ar⟩:=hx;obtain⟨p',ys,rfl,q',ar'⟩:=hy;refine .inr (.inr (.inl ⟨p,p',xs,ys,rfl,rfl,s _ _ q,s _ _ q',by rw [ar.length,ar'.length];exact eM hl,λt ht=>?_⟩))
     have sn:Same F (bC F t (.lst (xs++ys))):=bV (s.free ht) _;exact k _ _ _ (Grow.new s ht) ⟨t,_,rfl,aR,(ar.append ar').same sn⟩
   . cases e
 . rename_i a b;split at e
   . rename_i hl;cases e;exact .inr (.inr (.inr ⟨a,b,hx,hy,eM hl,k _ H F (Grow.refl s) rfl⟩))
   . cases e
 . cases e
theorem Bi {xs:List V}{i:Int}(ar:Are K F xs ds)(e:uS ds i=some d):∃v,uS xs i=some v/\Is K F v d:=by
 unfold uS at e ⊢;rw [<-ar.length]at e;obtain⟨j,e1,e2⟩:=bind_some e;rw [e1];exact ar.get e2
noncomputable def AX:PyData->Option `f
 | .dict [(.none,.list ds)]=>ee ds
 |_=>none
theorem FO {x:V}{ns:`f}(e:AX d=some ns)(h:Is K F x d):∃a,x=.ref a/\SqL K F a (ns.map V.int):=by
 unfold AX at e;split at e
 . rename_i ds;have ed:=cB e;subst ed;obtain⟨a,rfl,h⟩:=h
   rcases h with ⟨ms,e1,q⟩|⟨m,_,q⟩|⟨nm,z,_⟩|⟨m,_,q⟩
   . have:ns=ms:=by
      injection e1 with e1 _
      injection e1 with _ e1
      injection e1 with e1
      have:=congrArg ee e1;rw [bM,bM]at this;exact zV this
     subst this;exact⟨a,rfl,q⟩
   . obtain⟨z,m',_,q,_⟩:=q;have:=q.1;cases this
   . cases z
   . cases q.1
 . cases e
noncomputable def cT:PyData->PyData->Option PyData
 | .tuple ds,.int i=>uS ds i
 | .list ds,.int i=>uS ds i
 | .str z,.int i=>if z.length<=fD then(uS z.cps.toList i).map λc=>.str ⟨#[c]⟩else none
 |d,.int i=>(AX d).bind λns=>(uS ns i).map PyData.int
 |_,_=>none
theorem bj(K:Fg)(h:X.K=K:=by rfl):IxR X (P4 K):=h▸L9
theorem Bj {α β:Type}(f:α->β)(l:List α)(i:Int):uS (l.map f) i=(uS l i).map f:=by
 unfold uS;rw [zJ];cases I0 l.length i with
 |none=>rfl
 |some j=>simp
theorem bn:vH K (P4 K) cT:=λF H x y dx dy d Q s hx hy e k=>by
 unfold cT at e;split at e
 . obtain⟨p,xs,rfl,q,ar⟩:=hx;obtain⟨v,e1,i1⟩:=Bi ar e;exact .inr (.inl ⟨p,xs,_,v,rfl,hy,SqT.of (s _ _ q),e1,k v H F (Grow.refl s) i1⟩)
 . obtain⟨p,xs,rfl,q,ar⟩:=hx;obtain⟨v,e1,i1⟩:=Bi ar e;exact .inl ⟨p,xs,_,v,rfl,hy,SqL.of (s _ _ q),e1,k v H F (Grow.refl s) i1⟩
 . rename_i z i;split at e
   . rename_i hl;obtain⟨c,e1,e2⟩:=Q0.mp e;subst e2;exact .inr (.inr ⟨z,i,c,hx,hy,eM hl,e1,k _ H F (Grow.refl s) rfl⟩)
   . cases e
 . rename_i i _ _ _;obtain⟨ns,e1,e2⟩:=bind_some e;obtain⟨n,e3,e4⟩:=Q0.mp e2;subst e4;obtain⟨a,rfl,q⟩:=FO e1 hx;exact .inl ⟨a,_,i,.int n,rfl,hy,s.seq q,by rw [Bj,e3];rfl,k _ H F (Grow.refl s) rfl⟩
 . cases e
noncomputable def xr:PyData->Option Nat
 | .tuple ds=>some ds.length
 | .list ds=>some ds.length
 | .str z=>if z.length<=fD then some z.length else none
 |d=>(AX d).map List.length
def Kg(K:Fg):List V->Hp->VK->Prop:=λxs H Q=>∃x n,xs=[x]/\L5 K x H n/\Q (.int (n:Nat)) H
theorem fE(K:Fg)(h:X.K=K:=by rfl):dX X (.builtin "len") (Kg K):=h▸Eb
noncomputable def fF:List PyData->Option PyData
 |[d]=>(xr d).map λn:Nat=>.int (n:Nat)
 |_=>none
theorem Iv {x:V}(s:Same F H)(h:Is K F x d)(e:xr d=some n):L5 K x H n:=by
 unfold xr at e;split at e
 . cases e;obtain⟨p,xs,rfl,q,ar⟩:=h;exact .inr ⟨xs,SqT.of (s _ _ q),ar.length.symm⟩
 . cases e;obtain⟨p,xs,rfl,q,ar⟩:=h;exact .inl ⟨xs,SqL.of (s _ _ q),ar.length.symm⟩
 . rename_i z;split at e
   . rename_i hl;cases e;rw [show x=.str z from h]
     exact⟨eM hl,rfl⟩
   . cases e
 . obtain⟨ns,e1,e2⟩:=Q0.mp e;subst e2;obtain⟨a,rfl,q⟩:=FO e1 h;exact .inl ⟨_,s.seq q,by rw [zJ]⟩
theorem ic:rp K (Kg K) fF:=λF H xs ds d Q s ar e k=>by
 unfold fF at e;split at e
 . obtain⟨n,e1,e2⟩:=Q0.mp e;subst e2;obtain⟨x,r,rfl,hx,hr⟩:=ar;rw [show r=[]from hr]
   exact⟨x,n,rfl,Iv s hx e1,k _ H F (Grow.refl s) rfl⟩
 . cases e
mutual
theorem FP:∀{x:V} (d:PyData),d.canLay0=true->Is K H x d->L2.IsD K H x d
 |_,.none,_,h=>h
 |_,.bool _,_,h=>h
 |_,.int _,_,h=>h
 |_,.str _,_,h=>h
 |_,.list ds,c,h=>by
  obtain⟨a,xs,e,q,r⟩:=h;exact⟨a,xs,e,SqL.of q,toDs ds (by simpa [PyData.canLay0]using c) r⟩
 |_,.tuple ds,c,h=>by
  obtain⟨a,xs,e,q,r⟩:=h;exact⟨a,xs,e,SqT.of q,toDs ds (by simpa [PyData.canLay0]using c) r⟩
 |_,.dict _,c,h=>by simp [PyData.canLay0]at c
theorem toDs:∀{xs:List V} (ds:`g),PyData.canLayAll0 ds=true->Are K H xs ds->L2.AllD K H xs ds
 |_,[],_,h=>h
 |_,d::ds,c,h=>by
  obtain⟨x,r,e,q,t⟩:=h;simp only [PyData.canLayAll0,Q5]at c;exact⟨x,r,e,FP d c.1 q,toDs ds c.2 t⟩
end
noncomputable def uW(d:PyData):Bool:=d.canLay0&&decide (d.depth<=60)
theorem cP(h:uW d=true):vC d:=by
 unfold uW at h;rw [Q5,decide_eq_true_eq]at h;exact h
def j6(a b:PyData):Option PyData:=if(uW a&&uW b)=true then some (.bool (PyData.eqv a b))else none
def EQ(a b:PyData):Option PyData:=if(uW a&&uW b)=true then some (.bool (!PyData.eqv a b))else none
theorem ke:vH K (Cy K false) j6:=λF H x y dx dy d Q s hx hy e k=>by
 unfold j6 at e;split at e
 . rename_i c;rw [Q5]at c;cases e;exact⟨dx,dy,FP dx (cP c.1).1 (hx.same s),FP dy (cP c.2).1 (hy.same s),cP c.1,cP c.2,k _ H F (Grow.refl s) rfl⟩
 . cases e
theorem FQ:vH K (Cy K true) EQ:=λF H x y dx dy d Q s hx hy e k=>by
 unfold EQ at e;split at e
 . rename_i c;rw [Q5]at c;cases e;exact⟨dx,dy,FP dx (cP c.1).1 (hx.same s),FP dy (cP c.2).1 (hy.same s),cP c.1,cP c.2,k _ H F (Grow.refl s) rfl⟩
 . cases e
noncomputable def Lp:PyData->Bool
 | .none=>true
 |_=>false
def FR(a b:PyData):Option PyData:=match b with
 | .none=>some (.bool (Lp a))
 |_=>none
def FS(a b:PyData):Option PyData:=match b with
 | .none=>some (.bool (!Lp a))
 |_=>none
theorem FT {x:V}(h:Is K F x d):decide (x=.non)=Lp d:=by
 cases d with
 |none=>rw [show x=.non from h];rfl
 |bool b=>rw [show x=.bl b from h];rfl
 |int b=>rw [show x=.int b from h];rfl
 |str b=>rw [show x=.str b from h];rfl
 |list ds=>obtain⟨a,xs,rfl,_⟩:=h;rfl
 |tuple ds=>obtain⟨a,xs,rfl,_⟩:=h;rfl
 |dict ds=>obtain⟨a,rfl,_⟩:=h;rfl
theorem AY:vH K (λx y H Q=>y=.non/\Q (.bl (decide (x=.non))) H) FR:=λF H x y dx dy d Q s hx hy e k=>by
 unfold FR at e;split at e
 . cases e;exact⟨hy,k _ H F (Grow.refl s) (by rw [FT hx];rfl)⟩
 . cases e
theorem Iw:vH K (λx y H Q=>y=.non/\Q (.bl (!decide (x=.non))) H) FS:=λF H x y dx dy d Q s hx hy e k=>by
 unfold FS at e;split at e
 . cases e;exact⟨hy,k _ H F (Grow.refl s) (by rw [FT hx];rfl)⟩
 . cases e
noncomputable def pY(g g':PyData->PyData->Option PyData)(fa fb fc:aS->Option PyData)(δ:aS):Option PyData:=(fa δ).bind λa=>(fb δ).bind λb=>(g a b).bind λr=>match r with
 | .bool true=>(fc δ).bind λc=>g' b c
 | .bool false=>some (.bool false)
 |_=>none
theorem FU {r r':R2}{g g':PyData->PyData->Option PyData}{ta tb tc:TE}{fa fb fc:aS->Option PyData}(o:vH K r g)(o':vH K r' g')(a:SE K ta fa)(b:SE K tb fb)(c:SE K tc fc):SE K (E8 r r' ta tb tc) (pY g g' fa fb fc):=λH0 F0 F σ H δ d Q R e h=>by
 obtain⟨dx,ex,e⟩:=bind_some e;obtain⟨dy,ey,e⟩:=bind_some e;obtain⟨dz,ez,e⟩:=bind_some e;refine a H0 F0 F σ H δ dx _ R ex λv H1 F1 g1 i1=>b H0 F0 F1 σ H1 δ dy _ (R.grow g1) ey λw H2 F2 g2 i2=>?_;refine o F2 H2 v w dx dy dz _ g2.s (i1.same g2.f) i2 ez λv' H3 F3 g3 i3=>?_;split at e
 . refine⟨true,i3,pR ?_⟩;obtain⟨du,eu,e⟩:=bind_some e;refine c H0 F0 F3 σ H3 δ du _ ((R.grow (g1.trans g2)).grow g3) eu λu H4 F4 g4 i4=>?_;exact o' F4 H4 w u dy du d Q g4.s ((i2.same g3.f).same g4.f) i4 e λv5 H5 F5 g5 i5=>h v5 H5 F5 (g1.trans (g2.trans (g3.trans (g4.trans g5)))) i5
 . cases e;exact⟨false,i3,pQ (h _ H3 F3 (g1.trans (g2.trans g3)) rfl)⟩
 . cases e
noncomputable def AZ(f:aS->Option PyData)(δ:aS):Option PyData:=(f δ).bind λd=>match d with
 | .int i=>some (.int (-i))
 |_=>none
theorem FV {te:TE}{f:aS->Option PyData}(a:SE K te f):SE K (Pw (rU λi=>.int (-i)) te) (AZ f):=λH0 F0 F σ H δ d Q R e h=>by
 obtain⟨dx,e1,e2⟩:=bind_some e;split at e2
 . rename_i i;cases e2;exact a H0 F0 F σ H δ _ _ R e1 λv H1 F1 g1 i1=>⟨i,i1,h _ H1 F1 g1 rfl⟩
 . cases e2
noncomputable def II:PyData->String
 | .none=>"NoneType"
 | .bool _=>"bool"
 | .int _=>"int"
 | .str _=>"str"
 | .list _=>"list"
 | .tuple _=>"tuple"
 | .dict _=>"dict"
def me(d:PyData)(n:String):Bool:=II d==n||(II d== "bool"&&n== "int")
def FW(K:Fg):List V->Hp->VK->Prop:=λxs H Q=>∃x n d,xs=[x,.ty n]/\Is K H x d/\(d matches .dict _)=false/\n∈["int","bool","str","list","tuple"]/\Q (.bl (me d n)) H
end
section
variable {X:Cx}
theorem Pb {K:Fg}(d:PyData)(hd:(d matches .dict _)=false)(n:String)(hn:n∈["int","bool","str","list","tuple"]):PySem.W.kitOne K (.type (II d)) (.type n)=some (me d n):=by
 have go:∀t∈["NoneType","bool","int","str","list","tuple"],∀n∈["int","bool","str","list","tuple"],
  (if(Value.type t==Value.type n)=true then some true else if PySem.W.kitMeta n=true then(fastBuiltinMro t).map (·.contains (.type n))else none)=some (t==n||(t== "bool"&&n== "int")):=by decide+kernel
 have ht:II d∈["NoneType","bool","int","str","list","tuple"]:=by
  cases d<;>simp [II]at hd ⊢
 exact go _ ht n hn
theorem DF:dX X (.builtin "isinstance") (FW X.K):=by
 intro pins s σ H xs us Q I rv h;obtain⟨x,n,d,rfl,hx,hd,hn,q⟩:=h;obtain⟨u,w',rfl,r1,r2⟩:=rv.two;cases r2;have e:=Pb (K:=X.K) d hd n hn;have fin:∀tk,EP X pins σ Q (.bool (me d n)) {s with toks:=tk}:=λtk=>⟨.bl _,H,I.tok tk,rfl,q⟩
 cases d with
 |none=>exact iP I r1 (by rw [show x=.non from hx];exact TyOf.non) e fin
 |bool b=>exact iP I r1 (by rw [show x=.bl b from hx];exact TyOf.bl b) e fin
 |int b=>exact iP I r1 (by rw [show x=.int b from hx];exact TyOf.int b) e fin
 |str b=>exact iP I r1 (by rw [show x=.str b from hx];exact TyOf.str b) e fin
 |list ds=>
  obtain⟨a,ys,rfl,q',_⟩:=hx;exact iP I r1 (TyOf.lst q') e fin
 |tuple ds=>
  obtain⟨a,ys,rfl,q',_⟩:=hx;exact iP I r1 (TyOf.tup q') e fin
 |dict _=>cases hd
theorem lv(K:Fg)(h:X.K=K:=by rfl):dX X (.builtin "isinstance") (FW K):=h▸DF
end
section
variable {K:Fg}
def mD(n:String)(f:aS->Option PyData)(δ:aS):Option PyData:=(f δ).bind λd=>match d with
 | .dict _=>none
 |d=>some (.bool (me d n))
variable {f:aS->Option PyData}
theorem pZ {te:TE}{n:String}(a:SE K te f)(hn:n∈["int","bool","str","list","tuple"]:=by decide):SE K (IX (FW K) (bU te (bU (tC (.ty n)) dJ))) (mD n f):=λH0 F0 F σ H δ d Q R e h=>by
 obtain⟨dx,e1,e2⟩:=bind_some e;refine a H0 F0 F σ H δ dx _ R e1 λv H1 F1 g1 i1=>?_;cases dx with
 |dict _=>cases e2
 |none=>cases e2;exact⟨v,n,_,rfl,i1.same g1.s,rfl,hn,h _ H1 F1 g1 rfl⟩
 |bool _=>cases e2;exact⟨v,n,_,rfl,i1.same g1.s,rfl,hn,h _ H1 F1 g1 rfl⟩
 |int _=>cases e2;exact⟨v,n,_,rfl,i1.same g1.s,rfl,hn,h _ H1 F1 g1 rfl⟩
 |str _=>cases e2;exact⟨v,n,_,rfl,i1.same g1.s,rfl,hn,h _ H1 F1 g1 rfl⟩
 |list _=>cases e2;exact⟨v,n,_,rfl,i1.same g1.s,rfl,hn,h _ H1 F1 g1 rfl⟩
 |tuple _=>cases e2;exact⟨v,n,_,rfl,i1.same g1.s,rfl,hn,h _ H1 F1 g1 rfl⟩
noncomputable def mh:List PyData->Option (List Bool)
 |[]=>some []
 | .bool n::r=>(mh r).map (n:: ·)
 |_::_=>none
theorem qX:∀{ds:`g} {ns:List Bool},mh ds=some ns->ds=ns.map PyData.bool
 |[],ns,h=>by cases h;rfl
 | .bool n::r,ns,h=>by
  obtain⟨ms,e1,e2⟩:=Q0.mp h;subst e2;rw [qX e1];rfl
 | .none::r,ns,h=>by cases h
 | .int _::r,ns,h=>by cases h
 | .str _::r,ns,h=>by cases h
 | .list _::r,ns,h=>by cases h
 | .tuple _::r,ns,h=>by cases h
 | .dict _::r,ns,h=>by cases h
theorem jq:∀ns:List Bool,mh (ns.map PyData.bool)=some ns
 |[]=>rfl
 |n::r=>by
  show (mh (r.map PyData.bool)).map (n:: ·)=_
  rw [jq r];rfl
noncomputable def xt:List PyData->Option PyData
 |[.list ds]=>(mh ds).map λbs=>.bool (bs.all id)
 |_=>none
theorem A0:rp K (Lg K) xt:=λF H xs ds d Q s ar e k=>by
 unfold xt at e;split at e
 . obtain⟨bs,e1,e2⟩:=Q0.mp e;subst e2;obtain⟨x,r,rfl,hx,hr⟩:=ar;rw [show r=[]from hr]
   obtain⟨p,ys,rfl,q,ar⟩:=hx;have:=qX e1;subst this;have:=Are.bools.mp ar;subst this;exact⟨p,bs,rfl,SqL.of (s _ _ q),k _ H F (Grow.refl s) rfl⟩
 . cases e
noncomputable def nw:List PyData->Option PyData
 |[.list ds]=>some (.tuple ds)
 |[.tuple ds]=>some (.tuple ds)
 |_=>none
theorem mi:rp K (xa K) nw:=λF H xs ds d Q s ar e k=>by
 unfold nw at e;split at e
 . cases e;obtain⟨x,r,rfl,hx,hr⟩:=ar;rw [show r=[]from hr]
   obtain⟨p,ys,rfl,q,ar⟩:=hx;exact⟨p,ys,rfl,.inl ⟨SqL.of (s _ _ q),λt ht=>k _ _ _ (Grow.new s ht) ⟨t,_,rfl,aR,ar.same (bV (s.free ht) _)⟩⟩⟩
 . cases e;obtain⟨x,r,rfl,hx,hr⟩:=ar;rw [show r=[]from hr]
   obtain⟨p,ys,rfl,q,ar⟩:=hx;exact⟨p,ys,rfl,.inr ⟨SqT.of (s _ _ q),k _ H F (Grow.refl s) ⟨p,ys,rfl,q,ar⟩⟩⟩
 . cases e
def sH(fs:aS->Option `g)(δ:aS):Option `g:=(fs δ).bind λds=>match ds with
 |[d]=>qt d
 |_=>none
theorem vN {t:TA}{fs:aS->Option `g}(a:SA K t fs):SO K (IX (Bc K) t) (sH fs):=λH0 F0 F σ H δ es Q R e h=>by
 obtain⟨ds,e1,e2⟩:=bind_some e;refine a H0 F0 F σ H δ ds _ R e1 λvs H1 F1 g1 ar=>?_;split at e2
 . rename_i d;obtain⟨x,r,rfl,hx,hr⟩:=ar;rw [show r=[]from hr]
   cases d with
   |list us=>
    cases e2;obtain⟨p,ys,rfl,q,ar⟩:=hx;exact⟨p,ys,rfl,.inl (SqL.of (g1.s _ _ q)),λl hl=>h l ys _ F1 (g1.trans (Grow.fresh g1.s hl)) (g1.h.free hl) (g1.s.free hl) aR ar⟩
   |tuple us=>
    cases e2;obtain⟨p,ys,rfl,q,ar⟩:=hx;exact⟨p,ys,rfl,.inr (SqT.of (g1.s _ _ q)),λl hl=>h l ys _ F1 (g1.trans (Grow.fresh g1.s hl)) (g1.h.free hl) (g1.s.free hl) aR ar⟩
   |_=>cases e2
 . cases e2
def uX(neg:Bool)(i:Nat)(f:aS->Option PyData)(δ:aS):Option PyData:=match δ[i]? with
 |some (some (.ow ds))=>(f δ).bind λd=>match d with
  | .int n=>(ee ds).bind λns=>some (.bool (if neg=true then !decide (n∈ns)else decide (n∈ns)))
  |_=>none
 |_=>none
theorem FX {te:TE}(neg:Bool)(i:Nat)(a:SE K te f):SE K (LY (P5 K neg) te (bJ i)) (uX neg i f):=λH0 F0 F σ H δ d Q R e h=>by
 unfold uX at e;split at e
 . rename_i ds q;obtain⟨dx,e1,e2⟩:=bind_some e;split at e2
   . rename_i n;obtain⟨ns,e3,e4⟩:=bind_some e2;cases e4;obtain⟨p,xs,q1,q2,q3,q4,q5⟩:=R.ow i ds q;have ed:=cB e3;subst ed;have ex:=Are.ints.mp q5;subst ex;refine a H0 F0 F σ H δ _ _ R e1 λv H1 F1 g1 i1=>⟨.ref p,q1,p,_,rfl,.inl (SqL.of (g1.h _ _ q2)),?_,vF _,?_⟩
     . rw [show v=.int n from i1];rfl
     . rw [show v=.int n from i1,Be]
       exact h _ H1 F1 g1 (by cases neg<;>rfl)
   . cases e2
 . cases e
end
def Ix(K:Fg)(neg:Bool):R2:=λx y H Q=>∃dx ds p xs,L2.IsD K H x dx/\y=.ref p/\(SqL K H p xs\/SqT K H p xs)/\L2.AllD K H xs ds/\vC dx/\(∀d∈ds,vC d)/\Q (.bl (if neg=true then !(ds.any λe=>PyData.eqv e dx)else ds.any λe=>PyData.eqv e dx)) H
noncomputable def jr(h:Heap)(dx:PyData)(y:Value):Bool:=@decide (∃d as,Reads h y d as/\d.canLay0=true/\PyData.eqv d dx=true) (Classical.propDecidable _)
variable {h:Heap}
theorem wN {dx d:PyData}{y:Value}{as:List Addr}(r:Reads h y d as)(c:d.canLay0=true):jr h dx y=PyData.eqv d dx:=by
 unfold jr;cases e:PyData.eqv d dx with
 |true=>exact @decide_eq_true _ (Classical.propDecidable _) ⟨d,as,r,c,e⟩
 |false=>
  refine @decide_eq_false _ (Classical.propDecidable _) ?_;rintro⟨d',as',r',c',e'⟩;have:=(SeqAt.Reads.unique d d' y as as' c r r');subst this;rw [e]at e';cases e'
theorem p0 {dx:PyData}:∀{us:List Value} {ds:`g} {as:List Addr},ReadsAll h us ds as->(∀d∈ds,d.canLay0=true)->us.any (jr h dx)=ds.any λd=>PyData.eqv d dx
 |_,_,_,.nil,_=>rfl
 |_,_,_,.cons r t,c=>by
  rw [EV,EV,wN r (c _ gG),p0 t λd hd=>c d (iJ _ hd)]
theorem p6:∀{us:List Value} {ds:`g} {as:List Addr},ReadsAll h us ds as->∀y∈us,∃d∈ds,∃as',Reads h y d as'
 |_,_,_,.nil,y,hy=>by cases hy
 |_,_,_,.cons r t,y,hy=>by
  rcases Q3.mp hy with z|z
  . subst z;exact⟨_,gG,_,r⟩
  . obtain⟨d,hd,q⟩:=p6 t y z;exact⟨d,iJ _ hd,q⟩
section
variable {X:Cx}
theorem Pc(hu:X.A.units+64 < cLine):OpR X (compareOp .In) (Ix X.K false):=by
 intro pins s σ H x y v u Q I rx ry h;obtain⟨dx,ds,p,xs,hx,rfl,hq,al,cx,cs,q⟩:=h;cases ry;obtain⟨as,ra⟩:=hx.reads I _ rx;have eq:∀{its:List Value},Vals xs its->(∀w∈its,SeqAt.EqAt X.A.in1 s w v (jr s.heap dx w))/\its.any (jr s.heap dx)=ds.any λe=>PyData.eqv e dx:=λ{its} r=>by
  obtain⟨bs,rb⟩:=AllD.reads I ds al r;refine⟨λw hw=>?_,p0 rb λd hd=>(cs d hd).1⟩;obtain⟨d,hd,as',rd⟩:=p6 rb w hw;rw [wN rd (cs d hd).1];refine SeqAt.eqAt_reads d dx X.A.in1 s w v as' as rd ra (cs d hd).1 cx.1 ?_;have:=cx.2;show X.A.units+1+min d.depth dx.depth < cLine;lia
 rcases hq with hq|hq
 . obtain⟨its,r,pl,hz⟩:=I.list hq;obtain⟨e1,e2⟩:=eq r;refine SeqAt.in_listAt (jr s.heap dx) pl.isList (λw hw=>e1 w (by simpa using hw)) ⟨.bl _,H,I,rfl,?_⟩
   rw [show its.toArray.any (jr s.heap dx)=its.any (jr s.heap dx)by simp,e2]
   exact q
 . obtain⟨its,r,pl,hz⟩:=I.tuple hq;obtain⟨e1,e2⟩:=eq r;refine SeqAt.in_tupleAt (jr s.heap dx) pl (λw hw=>e1 w (by simpa using hw)) ⟨.bl _,H,I,rfl,?_⟩
   rw [show its.toArray.any (jr s.heap dx)=its.any (jr s.heap dx)by simp,e2]
   exact q
theorem DG(hu:X.A.units+64 < cLine):OpR X (compareOp .NotIn) (Ix X.K true):=by
 intro pins s σ H x y v u Q I rx ry h;obtain⟨dx,ds,p,xs,hx,rfl,hq,al,cx,cs,q⟩:=h;cases ry;obtain⟨as,ra⟩:=hx.reads I _ rx;have eq:∀{its:List Value},Vals xs its->(∀w∈its,SeqAt.EqAt X.A.in1 s w v (jr s.heap dx w))/\its.any (jr s.heap dx)=ds.any λe=>PyData.eqv e dx:=λ{its} r=>by
  obtain⟨bs,rb⟩:=AllD.reads I ds al r;refine⟨λw hw=>?_,p0 rb λd hd=>(cs d hd).1⟩;obtain⟨d,hd,as',rd⟩:=p6 rb w hw;rw [wN rd (cs d hd).1];refine SeqAt.eqAt_reads d dx X.A.in1 s w v as' as rd ra (cs d hd).1 cx.1 ?_;have:=cx.2;show X.A.units+1+min d.depth dx.depth < cLine;lia
 rcases hq with hq|hq
 . obtain⟨its,r,pl,hz⟩:=I.list hq;obtain⟨e1,e2⟩:=eq r;refine SeqAt.notIn_listAt (jr s.heap dx) pl.isList (λw hw=>e1 w (by simpa using hw)) ⟨.bl _,H,I,rfl,?_⟩
   rw [show its.toArray.any (jr s.heap dx)=its.any (jr s.heap dx)by simp,e2]
   exact q
 . obtain⟨its,r,pl,hz⟩:=I.tuple hq;obtain⟨e1,e2⟩:=eq r;refine SeqAt.notIn_tupleAt (jr s.heap dx) pl (λw hw=>e1 w (by simpa using hw)) ⟨.bl _,H,I,rfl,?_⟩
   rw [show its.toArray.any (jr s.heap dx)=its.any (jr s.heap dx)by simp,e2]
   exact q
theorem DH(K:Fg)(hu:X.A.units+64 < cLine)(h:X.K=K:=by rfl):OpR X (compareOp .NotIn) (Ix K true):=h▸DG hu
end
section
variable {K:Fg}
def Pz(neg:Bool)(a b:PyData):Option PyData:=(qt b).bind λds=>if(uW a&&ds.all uW)=true then some (.bool (if neg=true then !(ds.any λe=>PyData.eqv e a)else ds.any λe=>PyData.eqv e a))else none
theorem rK(h:∀d∈ds,d.canLay0=true):PyData.canLayAll0 ds=true:=by
 induction ds with
 |nil=>simp [PyData.canLayAll0]
 |cons d r ih=>simp [PyData.canLayAll0,h d gG,ih λx hx=>h x (iJ _ hx)]
theorem N4(neg:Bool):vH K (Ix K neg) (Pz neg):=λF H x y dx dy d Q s hx hy e k=>by
 obtain⟨ds,e1,e2⟩:=bind_some e;split at e2
 . rename_i c;rw [Q5,Q2]at c;cases e2;have cs:∀d∈ds,vC d:=λd hd=>cP (c.2 d hd);cases dy with
   |list es=>
    cases e1;obtain⟨p,xs,rfl,q,ar⟩:=hy;exact⟨dx,_,p,xs,FP dx (cP c.1).1 (hx.same s),rfl,.inl (SqL.of (s _ _ q)),toDs _ (rK λd hd=>(cs d hd).1) (ar.same s),cP c.1,cs,k _ H F (Grow.refl s) rfl⟩
   |tuple es=>
    cases e1;obtain⟨p,xs,rfl,q,ar⟩:=hy;exact⟨dx,_,p,xs,FP dx (cP c.1).1 (hx.same s),rfl,.inr (SqT.of (s _ _ q)),toDs _ (rK λd hd=>(cs d hd).1) (ar.same s),cP c.1,cs,k _ H F (Grow.refl s) rfl⟩
   |_=>cases e1
 . cases e2
end
theorem FY {f:List PyData->Option PyData}{a:Addr}{ns:`f}(h:f [j5 ns]=some (.bool true))(q:SqL K H a (ns.map V.int))(tb:Tb K H):f7 K 1 f [.ref a] H (λv _=>v=.bl true) λ_ _ _=>False:=
 ⟨H,[j5 ns],.bool true,⟨Same.refl _,tb⟩,rfl,⟨.ref a,[],rfl,⟨a,rfl,.inl ⟨ns,rfl,q⟩⟩,rfl⟩,h,λv H' F' _ i=>i⟩
end DL
namespace DL
open PySem L2
theorem ie {fg:PyData->aS->Option aS}{fb:aS->Option DFlow}:∀{ds:`g} (P:Nat->aS->Prop) {δ:aS},P 0 δ->
 (∀(i:Nat) (hi:i < ds.length) (δ:aS),P i δ->∃δ1 δ2,fg ds[i] δ=some δ1/\fb δ1=some (.nx δ2)/\P (i+1) δ2)->∃δ',ka fg fb ds δ=some (.nx δ')/\P ds.length δ'
 |[],P,δ,h0,_=>⟨δ,rfl,h0⟩
 |d::r,P,δ,h0,h=>by
  obtain⟨δ1,δ2,e1,e2,h1⟩:=h 0 (by simp) δ h0
  obtain⟨δ',e3,h3⟩:=ie (ds:=r) (λi=>P (i+1)) h1 λi hi δ hp=>by
   have:=h (i+1) (by simpa using hi) δ hp
   simpa using this
  refine⟨δ',?_,h3⟩;have e1':fg d δ=some δ1:=e1;show ((fg d δ).bind λδ1=>(fb δ1).bind λfl=>match fl with
   | .nx δ2=>ka fg fb r δ2
   | .ct δ2=>ka fg fb r δ2
   | .bk δ2=>some (.nx δ2)
   | .rt v=>some (.rt v)
   | .ro v=>some (.ro v))=_
  rw [e1'];show ((fb δ1).bind λfl=>match fl with
   | .nx δ2=>ka fg fb r δ2
   | .ct δ2=>ka fg fb r δ2
   | .bk δ2=>some (.nx δ2)
   | .rt v=>some (.rt v)
   | .ro v=>some (.ro v))=_
  rw [e2];exact e3
variable {g:PyData->PyData}{f:PyData->Option (Option PyData)}
theorem vO:∀{ds:`g},(∀d∈ds,f d=some (some (g d)))->i7 f ds=some (ds.map g)
 |[],_=>rfl
 |d::r,h=>by
  show ((f d).bind λo=>match o with
   |some y=>(i7 f r).map (y:: ·)
   |none=>i7 f r)=_
  rw [h d gG];show (i7 f r).map (g d:: ·)=_
  rw [vO λx hx=>h x (iJ _ hx)];rfl
theorem ny {f:PyData->Option (Option PyData)}{p:PyData->Bool}{g:PyData->PyData}:∀{ds:`g},(∀d∈ds,f d=some (if p d=true then some (g d)else none))->i7 f ds=some ((ds.filter p).map g)
 |[],_=>rfl
 |d::r,h=>by
  have ih:=ny (ds:=r) (f:=f) (p:=p) (g:=g) λx hx=>h x (iJ _ hx);show ((f d).bind λo=>match o with
   |some y=>(i7 f r).map (y:: ·)
   |none=>i7 f r)=_
  rw [h d gG];cases e:p d with
  |true=>
   show (i7 f r).map (g d:: ·)=_
   rw [ih,List.filter_cons,e];rfl
  |false=>
   show i7 f r=_;rw [ih,List.filter_cons,e];rfl
variable {fe:aS->Option PyData}{fc:aS->Option Bool}{fg:PyData->aS->Option aS}{fi:aS->Option `g}{fr:List (Str×Nat)}{n:Nat}
theorem dF {δ:aS}{ds:`g}(g:PyData->PyData)(h1:fi δ=some ds)(hl:ds.length<=fD)
 (h:∀d∈ds,((fg d (f6 n fr δ)).bind λδ1=>(fc δ1).bind λb=>if b=true then(fe δ1).map some else some none)=some (some (g d))):bK n fr fi fg fc fe δ=some (ds.map g):=by
 unfold bK;rw [h1];show (if ds.length<=fD then _ else none)=_;rw [if_pos hl];exact vO h
variable {ds:`g}
theorem uY {δ:aS}(p:PyData->Bool)(g:PyData->PyData)(h1:fi δ=some ds)(hl:ds.length<=fD)
 (h:∀d∈ds,((fg d (f6 n fr δ)).bind λδ1=>(fc δ1).bind λb=>if b=true then(fe δ1).map some else some none)=some (if p d=true then some (g d)else none)):bK n fr fi fg fc fe δ=some ((ds.filter p).map g):=by
 unfold bK;rw [h1];show (if ds.length<=fD then _ else none)=_;rw [if_pos hl];exact ny h
noncomputable def aH(c:`f):PyData:=.tuple (c.map PyData.int)
mutual
noncomputable def nb:PyData->Bool
 | .none=>true
 | .bool _=>false
 | .int _=>true
 | .str _=>true
 | .list ds=>nbs ds
 | .tuple ds=>nbs ds
 | .dict _=>false
noncomputable def nbs:List PyData->Bool
 |[]=>true
 |d::r=>nb d&&nbs r
end
mutual
theorem wO:∀(a b:PyData),nb a=true->nb b=true->(PyData.eqv a b=true↔a=b)
 | .none,b,_,hb=>by cases b<;>simp [PyData.eqv,nb]at hb ⊢
 | .bool _,_,ha,_=>by simp [nb]at ha
 | .int i,b,_,hb=>by cases b<;>simp [PyData.eqv,nb]at hb ⊢
 | .str i,b,_,hb=>by cases b<;>simp [PyData.eqv,nb]at hb ⊢
 | .list xs,b,ha,hb=>by
  cases b with
  |list ys=>
   have:=eqvs_iff xs ys (by simpa [nb]using ha) (by simpa [nb]using hb)
   simp [PyData.eqv,this]
  |_=>simp [PyData.eqv,nb]at hb ⊢
 | .tuple xs,b,ha,hb=>by
  cases b with
  |tuple ys=>
   have:=eqvs_iff xs ys (by simpa [nb]using ha) (by simpa [nb]using hb)
   simp [PyData.eqv,this]
  |_=>simp [PyData.eqv,nb]at hb ⊢
 | .dict _,_,ha,_=>by simp [nb]at ha
theorem eqvs_iff:∀(a b:`g),nbs a=true->nbs b=true->(PyData.eqvAll a b=true↔a=b)
 |[],[],_,_=>by simp [PyData.eqvAll]
 |[],_::_,_,_=>by simp [PyData.eqvAll]
 |_::_,[],_,_=>by simp [PyData.eqvAll]
 |x::xs,y::ys,ha,hb=>by
  simp only [nbs,Q5]at ha hb;have h1:=wO x y ha.1 hb.1;have h2:=eqvs_iff xs ys ha.2 hb.2;simp [PyData.eqvAll,h1,h2]
end
theorem Bk:nbs ds=true↔ ∀d∈ds,nb d=true:=by
 induction ds with
 |nil=>simp [nbs]
 |cons d r ih=>simp [nbs,ih]
theorem Iy(h:∀d∈ds,nb d=true):nb (.list ds)=true:=by simpa [nb]using Bk.mpr h
theorem Lq(h:∀d∈ds,nb d=true):nb (.tuple ds)=true:=by simpa [nb]using Bk.mpr h
theorem Bl(c:`f):nb (aH c)=true:=Lq λd hd=>by
 obtain⟨n,_,rfl⟩:=Q6.mp hd;rfl
def okN(n:Nat)(d:PyData):Prop:=d.canLay0=true/\d.depth<=n
theorem okN.ok {d:PyData}(h:okN n d)(hn:n<=60:=by decide):uW d=true:=by
 unfold uW;rw [Q5,decide_eq_true_eq];exact⟨h.1,Qc h.2 hn⟩
theorem jL(i:Int):okN 0 (.int i):=⟨by simp [PyData.canLay0],by simp [PyData.depth]⟩
theorem FZ(h:∀d∈ds,d.depth<=n):PyData.depthAll ds<=n:=by
 induction ds with
 |nil=>simp [PyData.depthAll]
 |cons d r ih=>
  have h1:=h d gG;have h2:=ih λx hx=>h x (iJ _ hx);simp only [PyData.depthAll];lia
theorem xu {n:Nat}(h:∀d∈ds,okN n d):okN (n+1) (.list ds):=by
 refine⟨?_,?_⟩
 . simp only [PyData.canLay0];exact rK λd hd=>(h d hd).1
 . simp only [PyData.depth];have:=FZ λd hd=>(h d hd).2;lia
theorem wQ {n:Nat}(h:∀d∈ds,okN n d):okN (n+1) (.tuple ds):=by
 refine⟨?_,?_⟩
 . simp only [PyData.canLay0];exact rK λd hd=>(h d hd).1
 . simp only [PyData.depth];have:=FZ λd hd=>(h d hd).2;lia
theorem lG(c:`f):okN 1 (aH c):=wQ λd hd=>by
 obtain⟨n,_,rfl⟩:=Q6.mp hd;exact jL n
theorem sI {a b:`f}(h:aH a=aH b):a=b:=by
 unfold aH at h;injection h with h
 have:=congrArg ee h;rw [bM,bM]at this;exact zV this
theorem sJ(a b:`f):PyData.eqv (aH a) (aH b)=decide (a=b):=by
 rw [Bool.eq_iff_iff,wO _ _ (Bl a) (Bl b),decide_eq_true_eq];exact⟨sI,λh=>by rw [h]⟩
theorem rL(i j:Int):PyData.eqv (.int i) (.int j)=decide (i=j):=by
 rw [PyData.eqv];rfl
theorem sK {a b:PyData}(ha:uW a=true)(hb:uW b=true):j6 a b=some (.bool (PyData.eqv a b)):=by
 unfold j6;rw [ha,hb];rfl
theorem Lr {a b:PyData}(ha:uW a=true)(hb:uW b=true):EQ a b=some (.bool (!PyData.eqv a b)):=by
 unfold EQ;rw [ha,hb];rfl
theorem gK(i j:Int):j6 (.int i) (.int j)=some (.bool (decide (i=j))):=by rw [sK (jL i).ok (jL j).ok,rL]
theorem Bn(i j:Int):EQ (.int i) (.int j)=some (.bool (!decide (i=j))):=by rw [Lr (jL i).ok (jL j).ok,rL]
theorem xw(a b:`f):j6 (aH a) (aH b)=some (.bool (decide (a=b))):=by rw [sK (lG a).ok (lG b).ok,sJ]
theorem F7(i:Int):me (.int i) "int"=true:=by simp [me,II]
theorem Fc(i:Int):me (.int i) "bool"=false:=by simp [me,II]
theorem wR(ds:`g):me (.tuple ds) "tuple"=true:=by simp [me,II]
theorem Ls(ds:`g):me (.list ds) "list"=true:=by simp [me,II]
theorem p7(i j:Int):bv (.int i) (.int j)=some (.int (i+j)):=rfl
theorem A1(i j:Int):uU (.int i) (.int j)=some (.int (i - j)):=rfl
theorem Fd(i j:Int):pI (.int i) (.int j)=some (.bool (decide (i < j))):=rfl
theorem Fe(i j:Int):Lo (.int i) (.int j)=some (.bool (decide (i<=j))):=rfl
theorem vP(i j:Int):EO (.int i) (.int j)=some (.bool (decide (j < i))):=rfl
theorem rM(i j:Int):nt (.int i) (.int j)=some (.int (i+j)):=rfl
theorem A3(i j:Int):ib (.int i) (.int j)=if nu i j=true then some (.int (i*j))else none:=rfl
theorem wS(i j:Int):nv (.int i) (.int j)=if wL i j=true then some (.int (i % j))else none:=rfl
theorem Bo(ds:`g):xr (.tuple ds)=some ds.length:=rfl
theorem xx(ds:`g):xr (.list ds)=some ds.length:=rfl
theorem xy(ns:`f):AX (j5 ns)=some ns:=bM ns
theorem xz(ns:`f):xr (j5 ns)=some ns.length:=by
 show (AX (j5 ns)).map List.length=_;rw [xy];rfl
theorem Iz(ns:`f)(i:Int):cT (j5 ns) (.int i)=(uS ns i).map PyData.int:=by
 show ((AX (j5 ns)).bind λns=>(uS ns i).map PyData.int)=_;rw [xy];rfl
theorem yA {α:Type}{xs:List α}{j:Nat}(h:j < xs.length):uS xs (j:Int)=some xs[j]:=Ia (dS h)
end DL
namespace DL
open PySem PySem.Spec PyProof.Rows L2
noncomputable def DI(f:Expr->Option PyData):List Expr->Option `g
 |[]=>some []
 |e::r=>(f e).bind λd=>(DI f r).map (d:: ·)
noncomputable def lit:Nat->Expr->Option PyData
 |0,_=>none
 |n+1,e=>match e with
  | .Constant (.int i) _ _=>some (.int i)
  | .Constant (.bool b) _ _=>some (.bool b)
  | .Constant .none _ _=>some .none
  | .Constant (.str x) _ _=>some (.str x)
  | .Tuple es _ _=>(DI (lit n) es).map .tuple
  | .List es _=>(DI (lit n) es).map .list
  |_=>none
mutual
noncomputable def PB:PyData->TE
 | .none=>tC .non
 | .bool b=>tC (.bl b)
 | .int i=>tC (.int i)
 | .str x=>tC (.str x)
 | .tuple ds=>Cj (tOfs ds)
 | .list ds=>uR (tOfs ds)
 | .dict _=>λ_ _ _=>False
noncomputable def tOfs:List PyData->TA
 |[]=>dJ
 |d::r=>bU (PB d) (tOfs r)
end
mutual
noncomputable def yB:PyData->Bool
 | .none=>true
 | .bool _=>true
 | .int _=>true
 | .str _=>true
 | .tuple ds=>decide (ds.length<=fD)&&litsOk ds
 | .list ds=>decide (ds.length<=fD)&&litsOk ds
 | .dict _=>false
noncomputable def litsOk:List PyData->Bool
 |[]=>true
 |d::r=>yB d&&litsOk r
end
section
variable {X:Cx}
variable {es:List Expr}
theorem sL {n:Nat}{e:Expr}{d:PyData}(h:lit n e=some d):starEach (e::es) X.env=(false,eval e X.env)::starEach es X.env:=by
 cases n with
 |zero=>cases h
 |succ n=>cases e<;>first|rfl|(simp [lit]at h)
theorem nz {f:Expr->Option PyData}(hf:∀e d,f e=some d->PE X e (PB d)/\∀es,starEach (e::es) X.env=(false,eval e X.env)::starEach es X.env):∀{es:List Expr} {ds:`g},DI f es=some ds->PA X es (tOfs ds)
 |[],ds,h=>by cases h;exact aI
 |e::r,ds,h=>by
  obtain⟨d,e1,e2⟩:=bind_some h;obtain⟨us,e3,e4⟩:=Q0.mp e2;subst e4;exact aA (hf e d e1).1 (nz hf e3) ((hf e d e1).2 r)
theorem A4:∀(n:Nat) (e:Expr) (d:PyData),lit n e=some d->PE X e (PB d)
 |0,_,_,h=>by cases h
 |n+1,e,d,h=>by
  unfold lit at h;split at h
  . cases h;exact aY
  . cases h;exact mF
  . cases h;exact gi
  . cases h;exact LQ
  . obtain⟨us,e3,e4⟩:=Q0.mp h;subst e4;exact dL (nz (λe d q=>⟨A4 n e d q,λes=>sL q⟩) e3)
  . obtain⟨us,e3,e4⟩:=Q0.mp h;subst e4;exact cL (nz (λe d q=>⟨A4 n e d q,λes=>sL q⟩) e3)
  . cases h
@[irreducible] def yC (ds:`g):TA:=tOfs ds
theorem JA(ds:`g)(h:DI (lit 4) es=some ds):PA X es (yC ds):=by
 unfold yC;exact nz (λe d q=>⟨A4 4 e d q,λes=>sL q⟩) h
theorem JB {i:Nat}{x:Str}{es:List Expr}{p1 p2 pos:Pos}(ds:`g)(hN:X.N.Nodup)(hi:X.N[i]? =some x)(hx:KZ X.env.scope x)(h:DI (lit 4) es=some ds)(hs:swapsWith (.List es p2) (some (.Name x p1)) pos.line X.env=pure false)(hf:X.fn x=true\/X.env.scope.names.lookup x=some .local):
 PS X (.Assign [.Name x p1] (.List es p2) pos) (iW (uR (yC ds)) (cV i)):=E2 hN hi hx (cL (JA ds h)) hs hf
theorem Ff {st:Stmt}{cI:List Stmt}{t u:TS}(h1:PS X st t)(h2:PSs X cI u):PSs X (st::cI) (gM t u):=aJ h1 h2
end
section
variable {K:Fg}
noncomputable def Bp(ds:`g)(_:aS):Option `g:=some ds
mutual
theorem Lu:∀(d:PyData),yB d=true->SE K (PB d) (dC d)
 | .none,_=>m7
 | .bool _,_=>mI
 | .int _,_=>aW
 | .str _,_=>Li
 | .tuple ds,h=>by
  simp only [yB,Q5,decide_eq_true_eq]at h;have q:=eE (sa_litsF ds h.2);intro H0 F0 F σ H δ d Q R e k;refine q H0 F0 F σ H δ d Q R ?_ k;cases e;show ((some ds).bind λds=>if ds.length<=fD then some (PyData.tuple ds)else none)=_;simp [h.1]
 | .list ds,h=>by
  simp only [yB,Q5,decide_eq_true_eq]at h;have q:=bu (cZ (sa_litsF ds h.2));intro H0 F0 F σ H δ d Q R e k;refine q H0 F0 F σ H δ d Q R ?_ k;cases e;show (((some ds).bind λds=>if ds.length<=fD then some ds else none).map PyData.list)=_;simp [h.1]
 | .dict _,h=>by simp [yB]at h
theorem sa_litsF:∀(ds:`g),litsOk ds=true->SA K (tOfs ds) (Bp ds)
 |[],_=>aK
 |d::r,h=>by
  simp only [litsOk,Q5]at h;have q:=aD (Lu d h.1) (sa_litsF r h.2);intro H0 F0 F σ H δ ds Q R e k;refine q H0 F0 F σ H δ ds Q R ?_ k;cases e;rfl
end
theorem JC(ds:`g)(h:litsOk ds=true):SA K (yC ds) (Bp ds):=by
 unfold yC;exact sa_litsF ds h
end
def Fh:List V->Hp->VK->Prop:=λvs H Q=>∃j:Int,vs=[.int j]/\∀p,H p=none->Q (.ref p) (bC H p (.rng 0 j))
def sM:List V->Hp->VK->Prop:=λvs H Q=>∃(p:Addr) (j:Int),vs=[.ref p]/\H p=some (.rng 0 j)/\0<=j/\j<=100000/\∀l,H l=none->Q (.ref l) (bC H l (.lst ((List.range j.toNat).map λk:Nat=>V.int (k:Int))))
section
variable {X:Cx}
theorem DJ:dX X (.type "range") Fh:=by
 intro pins s σ H xs us Q I rv h;obtain⟨j,rfl,q⟩:=h;obtain⟨u,rfl,t,rfl⟩:=rv.one;refine call_range_1 ⟨.ref `a,_,I.laid (a:=`a) (o:=.rng 0 j) (λ_ _ e=>df _ e) (Q1 _) ⟨_,_,_,fU _ rfl⟩,rfl,q _ (I.hok.fresh (Q1 _))⟩
theorem A5 {acc:Array Value}:∀{n:Nat},ItemsOf (λi v=>∃t,v=.int (0+(i:Int)*1) t) acc n->Vals ((List.range n).map λk:Nat=>V.int (k:Int)) acc.toList:=by
 intro n h;obtain⟨hz,hv⟩:=h;have go:∀(m:Nat),m<=n->Vals ((List.range m).map λk:Nat=>V.int (k:Int)) (acc.toList.take m):=by
  intro m
  induction m with
  |zero=>intro _;exact .nil
  |succ m ih=>
   intro hm;have hlt:m < acc.toList.length:=by rw [Qe,hz];lia
   rw [List.range_succ,AB,NB hlt];refine(ih `e).append (.cons ?_ .nil)
   obtain⟨t,e⟩:=hv m acc.toList[m] (by rw [<-IF,dS hlt])
   refine⟨t,?_⟩;rw [e];congr 1
   lia
 have:=go n (Q1 _)
 rwa [List.take_of_length_le (by rw [Qe,hz];exact Q1 _)]at this
theorem wT(hc:X.calm=true):dX X (.type "list") sM:=by
 intro pins s σ H xs us Q I rv h;obtain⟨p,j,rfl,hp,h0,h1,q⟩:=h;obtain⟨u,rfl,r⟩:=rv.one;cases r;obtain⟨t,t',v,e⟩:=I.hok p _ hp;have hh:X.A.handled=none:=I.ok.hd hc;refine call_list_range (a:=0) (b:=j) (c:=1) (n:=j.toNat) hh e (small_one `e `e `e `e) ?_ `e λh' tk acc c hk hS hI=>?_
 . rw [rangeSize_one];split<;>lia
 have rv':=A5 hI;refine⟨.ref `a,_,I.laid (t':=tk) hk (Q1 _) (show ObjOk X.prog X.w _ h' _ (.lst _)from ⟨?_,acc.toList,c,rv',by simpa using hS⟩),rfl,q _ (I.hok.fresh (Q1 _))⟩
 rw [zJ,EU];exact Qc (show _<=fD by unfold fD;lia) (by decide)
theorem JD(K:Fg):dX X (.type "range") Fh:=DJ
theorem A6(K:Fg)(hc:X.calm=true:=by rfl):dX X (.type "list") sM:=wT hc
end
section
variable {K:Fg}
def sN(f:aS->Option PyData)(δ:aS):Option `g:=(f δ).bind λd=>match d with
 | .int j=>if(decide (0<=j)&&decide (j<=100000))=true then some (bL 0 j.toNat)else none
 |_=>none
theorem DK {F:Hp}(n:Nat):Are K F ((List.range n).map λk:Nat=>V.int (k:Int)) (bL 0 n):=by
 have e:bL 0 n=((List.range n).map λk:Nat=>(k:Int)).map PyData.int:=by
  unfold bL;rw [zO];apply B3
  intro k _;show PyData.int (0+(k:Int))=PyData.int (k:Int);rw [Int.zero_add]
 rw [e,Are.ints,zO];rfl
theorem A7 {te:TE}{f:aS->Option PyData}(a:SE K te f):SO K (IX sM (bU (IX Fh (bU te dJ)) dJ)) (sN f):=λH0 F0 F σ H δ es Q R e h=>by
 obtain⟨d,e1,e2⟩:=bind_some e;split at e2
 . rename_i j;split at e2
   . rename_i c;rw [Q5,decide_eq_true_eq,decide_eq_true_eq]at c;cases e2;refine a H0 F0 F σ H δ _ _ R e1 λv H1 F1 g1 i1=>⟨j,by rw [show v=.int j from i1],λp hp=>?_⟩
     have g2:Grow F1 H1 F1 (bC H1 p (.rng 0 j)):=Grow.fresh g1.s hp;refine⟨p,j,rfl,aR,c.1,c.2,λl hl=>?_⟩;exact h l _ _ F1 ((g1.trans g2).trans (Grow.fresh g2.s hl)) ((g1.trans g2).h.free hl) (g2.s.free hl) aR (DK _)
   . cases e2
 . cases e2
end
section
variable {X:Cx}
end
section
variable {K:Fg}
end
end DL
namespace DL
open PySem L2 PyProof.Rows
section
variable {K:Fg}
structure XI where
 c:Addr
 z:Option Int
instance:Coe Addr XI:=⟨λc=>⟨c,none⟩⟩
variable {E:XK} {C:XI}
end
section
variable {P:Program} {w:World} {K:Fg} {mg:`j} {base:Heap}
end
section
variable {K:Fg}
end
section
variable {X:Cx}
end
end DL
namespace DL
open PySem PySem.Spec PyProof.Rows L2
noncomputable def Lv(nm:Str):PyData:=.dict [(.bool true,.str nm)]
structure OwnN (P:Program) (w:World) (K:Fg) (mg:`j) (base:Heap) (k:Nat) (x:Str) (ps:List Str) (sp:Sp):Prop where
 ex:∃(f:Addr) (fd:FuncData),FnOk P w K mg base pH k f fd ps sp/\PySem.W.nsIn K mainGlobals x=some (some (.ref f))/\PySem.W.keepIn K (.ref f)=true/\Binds K fd ps []
def Fi(K:Fg)(i:Nat)(nm:Str)(sp:Sp)(t:TA):TE:=λσ H Q=>∃f,σ[i]? =some (some (.ref f))/\PySem.W.nsIn K mainGlobals nm=some (some (.ref f))/\t σ H λvs H1=>sp (vs++[]) H1 Q E0
theorem JE {X:Cx}{k n i:Nat}{x nm:Str}{ps:List Str}{sp:Sp}{p pos:Pos}{e:Expr}{es:List Expr}{t:TA}(O:OwnN X.prog X.w X.K X.mg X.base k nm ps sp)(hr:Room n X.A)(hv:PE X (.Name x p) (bJ i))(ha:PA X (e::es) t)(hkn:k<=n:=by decide)
 (he:starEach (e::es) X.env=(false,eval e X.env)::starEach es X.env:=by rfl) (hpl:(backTo pos (starEach es X.env)).any (·.1)=false:=by rfl):
 PE X (.Call (.Name x p) (e::es) [] pos) (Fi X.K i nm sp t):=by
 intro pins s σ H Q I h;obtain⟨f,hs,hn,h⟩:=h;obtain⟨f',fd,F,m,kp,b⟩:=O.ex;rw [hn]at m;cases m;refine wpAny_Call_Name_kw (bq (hv pins s σ H (λv H1=>v=.ref f/\H1=H) I ⟨_,hs,rfl,rfl⟩) λu s1 ⟨v,H1,I1,r,q⟩=>?_);obtain⟨rfl,rfl⟩:=q;obtain rfl:u=.ref f:=r;refine PySem.W.callWith_K (h₀:=X.base) I1.ok.mod.kin kp (bq (ha pos pins s1 σ _ _ I1 h) λus s2 ⟨vs,H2,I2,r2,q2⟩=>⟨I2.kIn,?_⟩) he hpl;exact AQ F (hr.mono hkn) b .nil nh I2 r2 q2
section
variable {K:Fg}
theorem N5 {a:Addr}{nm:Str}(h:PySem.W.nsIn K mainGlobals nm=some (some (.ref a))):SE K (tC (.ref a)) (dC (Lv nm)):=by
 intro H0 F0 F σ H δ d Q R e k;cases e;exact k (.ref a) H F (Grow.refl R.g.s) ⟨a,rfl,.inr (.inr (.inl ⟨nm,rfl,h⟩))⟩
noncomputable def isFn(nm:Str):PyData->Bool
 | .dict [(.bool true,.str x)]=>x==nm
 |_=>false
theorem DM(nm:Str):isFn nm (Lv nm)=true:=by
 show (nm==nm)=true
 simp
def wU(i:Nat)(nm:Str)(n:Nat)(g:List PyData->Option PyData)(fs:aS->Option `g)(δ:aS):Option PyData:=(aF i δ).bind λd=>if isFn nm d=true then aG n g fs δ else none
theorem Fj {i n:Nat}{nm:Str}{g:List PyData->Option PyData}{t:TA}{fs:aS->Option `g}(a:SA K t fs):SE K (Fi K i nm (f7 K n g) t) (wU i nm n g fs):=by
 intro H0 F0 F σ H δ d Q R e h;obtain⟨d0,e1,e2⟩:=bind_some e;split at e2
 . rename_i hd;have hf:d0=Lv nm:=by
    unfold isFn at hd;split at hd
    . rw [show _=nm from eq_of_beq hd];rfl
    . cases hd
   subst hf;unfold aF at e1;split at e1
   . rename_i d1 e0;cases e1;obtain⟨v,hv,a0,rfl,hh⟩:=R.fz i _ e0
     rcases hh with ⟨ns,z,_⟩|⟨m,z,kv⟩|⟨nm',z,hn⟩|⟨m,z,kv⟩
     . cases z
     . obtain⟨q,m',_,q2,_⟩:=kv;cases q2.1
     . cases z;exact⟨a0,hv,hn,aT (K:=K) a H0 F0 F σ H δ d Q R e2 h⟩
     . cases kv.1
   . cases e1
 . cases e2
end
end DL
namespace SRT
open PySem PySem.W PyProof.Rows
noncomputable def DN {α:Type}(lt:Nat->Nat->Bool)(n:Nat):KasT α->(α->Prop)->Prop
 | .ret a,Q=>Q a
 | .ask i j k,Q=>i < n/\j < n/\DN lt n (k (lt i j)) Q
variable {n:Nat}{lt:Nat->Nat->Bool}
theorem gR {α:Type}{Q Q':α->Prop}(h:∀a,Q a->Q' a):∀{t:KasT α},DN lt n t Q->DN lt n t Q'
 | .ret a,q=>h a q
 | .ask i j k,q=>⟨q.1,q.2.1,gR h q.2.2⟩
theorem je {α β:Type}{f:α->KasT β}{Q:β->Prop}:∀{t:KasT α},DN lt n t (λa=>DN lt n (f a) Q)->DN lt n (t.bind f) Q
 | .ret a,q=>q
 | .ask i j k,q=>⟨q.1,q.2.1,je q.2.2⟩
theorem A8 {α:Type}{lt:Nat->Nat->Bool}{n:Nat}{cmp:Nat->Nat->(Bool->Shared->Prop)->Shared->Prop}{J:Shared->Prop}(hc:∀i j C s,i < n->j < n->J s->(∀s',J s'->C (lt i j) s')->cmp i j C s){Q:α->Prop}{Q':α->Shared->Prop}
 (h:∀a s,Q a->J s->Q' a s):∀{t:KasT α} {s:Shared},J s->DN lt n t Q->t.kasWp cmp Q' s
 | .ret a,s,js,q=>h a s q js
 | .ask i j k,s,js,q=>hc i j _ s q.1 q.2.1 js λs' js'=>A8 hc h js' q.2.2
noncomputable def g(p:Array Nat)(i:Nat):Nat:=(p[i]?).getD 0
theorem lH(p:Array Nat)(i:Nat):p.getD i 0=g p i:=by unfold g;rw [Array.getD_eq_getD_getElem?]
structure Ord (lt:Nat->Nat->Bool) (n:Nat):Prop where
 tr:∀a b c,lt a b=true->lt b c=true->lt a c=true
 to:∀a b,a < n->b < n->a≠b->lt a b=false->lt b a=true
structure Pm (n:Nat) (p:Array Nat):Prop where
 sz:p.size=n
 lt:∀i,i < n->g p i < n
 inj:∀i j,i < n->j < n->g p i=g p j->i=j
 pe:p.Perm (List.range n).toArray
def wV(lt:Nat->Nat->Bool)(p:Array Nat)(m:Nat):Prop:=∀i j,i < j->j < m->lt (g p i) (g p j)=true
def N6(lt:Nat->Nat->Bool)(p:Array Nat)(m:Nat):Prop:=∀i j,i < j->j < m->lt (g p j) (g p i)=true
theorem Bq {p:Array Nat}(h:p.Perm (List.range n).toArray):Pm n p:=by
 have hl:p.toList.Perm (List.range n):=by simpa using Mr.mp h
 have hz:p.size=n:=by rw [<-Qe,hl.length_eq,EU]
 have hnd:p.toList.Nodup:=hl.nodup_iff.mpr List.nodup_range;have hg:∀i (hi:i < p.toList.length),g p i=p.toList[i]:=λi hi=>by
  unfold g;rw [<-IF,dS hi];rfl
 have hlen:p.toList.length=n:=by rw [Qe];exact hz
 refine⟨hz,λi hi=>?_,λi j hi hj e=>?_,h⟩
 . rw [hg i `e]
   have:=hl.mem_iff.mp (AA (l:=p.toList) (n:=i) `e)
   simpa using this
 . rw [hg i `e,hg j `e]at e
   exact(List.getElem_inj hnd).mp e
section
variable {lt:Nat->Nat->Bool} {n:Nat} (O:Ord lt n)
include O
variable {p:Array Nat}
theorem Fk {m:Nat}(h1:1<=m)(a:wV lt p m)(l:lt (g p (m - 1)) (g p m)=true):wV lt p (m+1):=λi j hij hj=>by
 by_cases e:j=m
 . subst e
   by_cases e2:i=j - 1
   . rw [e2];exact l
   . exact O.tr _ _ _ (a i (j - 1) `e `e) l
 . exact a i j hij `e
theorem Fl {m:Nat}(h1:1<=m)(a:N6 lt p m)(l:lt (g p m) (g p (m - 1))=true):N6 lt p (m+1):=λi j hij hj=>by
 by_cases e:j=m
 . subst e
   by_cases e2:i=j - 1
   . rw [e2];exact l
   . exact O.tr _ _ _ l (a i (j - 1) `e `e)
 . exact a i j hij `e
theorem A9(P:Pm n p):∀(f m:Nat),1<=m->m+f=n->wV lt p m->DN lt n (kas_asc p f m) (λr=>m<=r/\r<=n/\wV lt p r/\(r < n->lt (g p r) (g p (r - 1))=true))
 |0,m,h1,hm,a=>⟨Q1 _,by lia,a,λz=>absurd z `e⟩
 |f+1,m,h1,hm,a=>by
  unfold kas_asc;rw [lH,lH];refine⟨P.lt _ `e,P.lt _ `e,?_⟩
  cases c:lt (g p m) (g p (m - 1))with
  |true=>exact⟨Q1 _,by lia,a,λ_=>c⟩
  |false=>
   have l:=O.to _ _ (P.lt m `e) (P.lt (m - 1) `e) (λe=>by have:=P.inj m (m - 1) `e `e e;lia) c
   exact gR (λr q=>⟨by lia,q.2⟩) (A9 P f (m+1) `e `e (Fk O h1 a l))
theorem Br(P:Pm n p):∀(f m:Nat),1<=m->m+f=n->N6 lt p m->DN lt n (kas_desc f p m 0) (λr=>r.1=p/\r.2.2=0/\m<=r.2.1/\r.2.1<=n/\N6 lt p r.2.1)
 |0,m,h1,hm,a=>⟨rfl,rfl,Q1 _,by show m<=n;lia,a⟩
 |f+1,m,h1,hm,a=>by
  unfold kas_desc;rw [lH,lH];refine⟨P.lt _ `e,P.lt _ `e,?_⟩
  cases c:lt (g p m) (g p (m - 1))with
  |true=>exact gR (λr q=>⟨q.1,q.2.1,by lia,q.2.2.2⟩) (Br P f (m+1) `e `e (Fl O h1 a c))
  |false=>
   have l:=O.to _ _ (P.lt m `e) (P.lt (m - 1) `e) (λe=>by have:=P.inj m (m - 1) `e `e e;lia) c
   refine⟨P.lt _ `e,P.lt _ `e,?_⟩
   rw [l];exact⟨rfl,rfl,Q1 _,by show m<=n;lia,a⟩
omit O in
theorem Fm(P:Pm n p)(i j:Nat):Pm n (kas_rev p i j):=Bq ((mirror_perm _ _ _ _).trans P.pe)
omit O in
theorem JF(P:Pm n p){m:Nat}(hm:m<=n)(a:N6 lt p m):wV lt (kas_rev p 0 m) m:=λi j hij hj=>by
 have e:∀k,k < m->g (kas_rev p 0 m) k=g p (m - 1 - k):=λk hk=>by
  unfold g kas_rev;rw [getElem?_mirror_all (by rw [P.sz];exact hm),if_pos ⟨zU _,hk⟩,Nat.zero_add]
 rw [e i `e,e j hj]
 exact a _ _ `e `e
theorem Fn(P:Pm n p)(hn:2<=n):DN lt n (kas_count n p) (λr=>1<=r.1/\r.1<=n/\Pm n r.2/\wV lt r.2 r.1):=by
 unfold kas_count;refine je (gR (λm q_=>?_) (A9 O P (n - 1) 1 (Q1 _) `e (λi j hij hj=>by lia)))
 obtain⟨h1,h2,a,h3⟩:=q_;split
 . exact⟨h1,h2,P,a⟩
 . rename_i ne;have hm:m < n:=by
    have:m≠n:=λz=>ne (by rw [z];exact beq_self_eq_true n)
    lia
   split
   . rename_i g1;rw [lH,lH];refine⟨P.lt _ `e,P.lt _ `e,?_⟩
     rw [a 0 (m - 1) `e `e]
     exact⟨h1,h2,P,a⟩
   . rename_i g1;have m1:m=1:=by lia
     subst m1;unfold kas_descPart;refine je (gR (λr ⟨q1,q2,q3,q4,q5⟩=>?_) (Br O P (n - (1+1)) (1+1) `e `e (λi j hij hj=>?_)))
     . have:i=0:=by lia
       have:j=1:=by lia
       subst i j;exact h3 `e
     . rw [q2,if_neg `e,q1]
       unfold kas_tail3;refine je (gR (λm q_=>?_) (A9 O (Fm P 0 r.2.1) (n - r.2.1) r.2.1 `e `e (JF P q4 q5)))
       obtain⟨h1,h2,a,h3⟩:=q_;exact⟨by show 1<=m;lia,h2,Fm P 0 r.2.1,a⟩
theorem sO(P:Pm n p){k:Nat}(hk:k < n)(a:wV lt p k):∀(f l r:Nat),l<=r->r<=k->r - l<=f->(∀i,i < l->lt (g p i) (g p k)=true)->(∀i,r<=i->i < k->lt (g p k) (g p i)=true)->
 DN lt n (kas_place p k f l r) (λm=>m<=k/\(∀i,i < m->lt (g p i) (g p k)=true)/\∀i,m<=i->i < k->lt (g p k) (g p i)=true)
 |0,l,r,h1,h2,h3,b1,b2=>⟨by lia,b1,λi hi hk=>b2 i `e hk⟩
 |f+1,l,r,h1,h2,h3,b1,b2=>by
  unfold kas_place;split
  . exact⟨by lia,b1,λi hi hk=>b2 i `e hk⟩
  . rename_i hlr;rw [lH,lH];have hmid:(l+r) / 2 < r:=by lia
    refine⟨P.lt _ hk,P.lt _ `e,?_⟩
    cases c:lt (g p k) (g p ((l+r) / 2))with
    |true=>
     refine sO P hk a f l ((l+r) / 2) `e `e `e b1 λi hi hik=>?_
     by_cases e:i=(l+r) / 2
     . rw [e];exact c
     . exact O.tr _ _ _ c (a _ i `e hik)
    |false=>
     have q:=O.to _ _ (P.lt k hk) (P.lt ((l+r) / 2) `e) (λe=>by have:=P.inj _ _ hk `e e;lia) c
     refine sO P hk a f ((l+r) / 2+1) r `e h2 `e (λi hi=>?_) b2
     by_cases e:i=(l+r) / 2
     . rw [e];exact q
     . exact O.tr _ _ _ (a i _ `e `e) q
theorem Fo:∀(f:Nat) {p:Array Nat} (_:Pm n p) (k:Nat),k+f=n->wV lt p k->DN lt n (kas_bin f p k) (λq=>Pm n q/\wV lt q n)
 |0,p,P,k,hk,a=>⟨P,by rw [<-hk];exact a⟩
 |f+1,p,P,k,hk,a=>by
  unfold kas_bin;refine je (gR (λl q_=>?_) (sO O P `e a k 0 k (zU _) (Q1 _) `e (λi hi=>absurd hi (Nat.not_lt_zero _)) (λi hi hk=>by lia)))
  obtain⟨hl,b1,b2⟩:=q_;have e:∀i,i<=k->g (bubble p k (k - l)) i=if i=l then g p k else if l < i then g p (i - 1)else g p i:=λi hi=>by
   unfold g;rw [getElem?_bubble (by rw [P.sz];lia) (k - l) `e]
   by_cases c1:i=l
   . rw [if_pos `e,if_pos c1]
   . rw [if_neg `e,if_neg c1]
     by_cases c2:l < i
     . rw [if_pos `e,if_pos c2]
     . rw [if_neg `e,if_neg c2]
  refine Fo f (Bq ((bubble_perm _ _ _).trans P.pe)) (k+1) `e λi j hij hj=>?_
  rw [e i `e,e j `e]
  by_cases c1:i=l
  . rw [if_pos c1,if_neg `e,if_pos `e]
    exact b2 _ `e `e
  . rw [if_neg c1]
    by_cases c2:j=l
    . rw [if_pos c2,if_neg `e]
      exact b1 _ `e
    . rw [if_neg c2]
      by_cases c3:l < i
      . rw [if_pos c3,if_pos `e]
        exact a _ _ `e `e
      . rw [if_neg c3]
        by_cases c4:l < j
        . rw [if_pos c4];exact a _ _ `e `e
        . rw [if_neg c4];exact a _ _ hij `e
theorem rN(hn:2<=n):DN lt n (kas_sort n) (λq=>Pm n q/\wV lt q n):=by
 unfold kas_sort;refine je (gR (λr q_=>?_) (Fn O (Bq (Array.Perm.refl _)) hn));obtain⟨h1,h2,P,a⟩:=q_;split
 . have:max r.1 1=r.1:=by lia
   rw [this];exact Fo O _ P r.1 `e a
 . have:r.1=n:=by lia
   exact⟨P,by rw [<-this];exact a⟩
end
end SRT
namespace L2
open PySem PySem.Spec PyProof.Rows PySem.W Att
noncomputable def c6:List Int->List Int->Bool
 |[],[]=>false
 |[],_::_=>true
 |_::_,[]=>false
 |a::x,c::y=>if a=c then c6 x y else decide (a < c)
noncomputable def Aa(fin:Bool):List Int->List Int->Bool
 |a::x,c::y=>if a=c then Aa fin x y else decide (a < c)
 |_,_=>fin
theorem Bu:∀(x y:`f),Aa (decide (x.length < y.length)) x y=c6 x y
 |[],[]=>rfl
 |[],_::_=>by simp [Aa,c6]
 |_::_,[]=>by simp [Aa,c6]
 |a::x,c::y=>by
  have e:decide ((a::x).length < (c::y).length)=decide (x.length < y.length):=by simp
  rw [e];unfold Aa c6;rw [Bu x y]
theorem jt:∀(x y z:`f),c6 x y=true->c6 y z=true->c6 x z=true
 |[],[],_,h,_=>by cases h
 |[],_::_,[],_,h=>by cases h
 |[],_::_,_::_,_,_=>rfl
 |_::_,[],_,h,_=>by cases h
 |_::_,_::_,[],_,h=>by cases h
 |a::x,b::y,c::z,h1,h2=>by
  unfold c6 at h1 h2 ⊢
  by_cases e1:a=b
  . rw [if_pos e1]at h1
    by_cases e2:b=c
    . rw [if_pos e2]at h2;rw [if_pos (e1.trans e2)];exact jt x y z h1 h2
    . rw [if_neg e2]at h2;rw [if_neg `e,e1]
      exact h2
  . rw [if_neg e1]at h1;have l1:=of_decide_eq_true h1
    by_cases e2:b=c
    . rw [if_neg `e, <-e2]
      exact h1
    . rw [if_neg e2]at h2;have l2:=of_decide_eq_true h2;rw [if_neg `e]
      exact decide_eq_true `e
theorem oA:∀(x y:`f),x≠y->c6 x y=false->c6 y x=true
 |[],[],h,_=>absurd rfl h
 |[],_::_,_,h=>by cases h
 |_::_,[],_,_=>rfl
 |a::x,c::y,hn,h=>by
  unfold c6 at h ⊢
  by_cases e:a=c
  . rw [if_pos e]at h;rw [if_pos e.symm];exact oA x y (λz=>hn (by rw [e,z])) h
  . rw [if_neg e]at h;rw [if_neg (λz=>e z.symm)];have:=of_decide_eq_false h;exact decide_eq_true `e
section
variable {prog:Program} {w:World} {A:Around} {E:`d} {s:Shared} {b:Bool} {Q:Bool->Shared->Prop}
theorem Ab {p:Bool}{x y:Int}{t u:Tok}(h:Q (decide (x < y)) s):wpAny `m A (oneLt' p (.int x t) (.int y u)) Q E s:=by
 cases p with
 |true=>exact oneLt_int h
 |false=>exact kat_one _ _ (lt_int h)
theorem yD {fin:Bool}{xs ys:List Value}{ns ms:`f}(hx:IntsAre xs ns)(hy:IntsAre ys ms):∀i,Q (Aa fin ns ms) s->KatLex prog w A b fin Q (xs.zip ys) i s:=by
 induction hx generalizing ys ms with
 |nil=>exact λi h=>kat_nil h
 |cons a t hx ih=>
  intro i h;cases hy with
  |nil=>exact kat_nil h
  |cons c u hy=>
   refine kat_cons (wpAny_eqBool_int ?_);unfold Aa at h
   by_cases e:a=c
   . rw [if_pos e]at h;rw [show (a==c)=true from beq_iff_eq.mpr e]
     exact kat_yes (ih hy (i+1) h)
   . rw [if_neg e]at h;rw [show (a==c)=false from beq_eq_false_iff_ne.mpr e]
     exact kat_no (Ab h)
end
def TpI(h:Heap)(v:Value)(k:`f):Prop:=∃a o arr n,v=.ref a/\h.get? a=some o/\o.cls=.type "tuple"/\o.data=.seq arr n/\IntsAre arr.toList k
theorem TpI.firsts {h:Heap}{vs:List Value}{ks:List `f}(p:Paired (TpI h) vs ks)(hp:∀k∈ks,k≠[]):∃fs,KatTups h vs fs/\fs.length=vs.length/\∀f∈fs,∃n t,f=Value.int n t:=by
 induction p with
 |nil=>exact⟨[],KatTups.nil,rfl,λf hf=>nomatch hf⟩
 |cons q r ih=>
  obtain⟨a,o,arr,n,e1,e2,e3,e4,e5⟩:=q;obtain⟨fs,h1,h2,h3⟩:=ih λk hk=>hp k (iJ _ hk);subst e1;have ne:=hp _ gG;generalize hl:arr.toList=l at e5;cases e5 with
  |nil=>exact absurd rfl ne
  |cons x t hx=>
   refine⟨.int x t::fs,KatTups.cons e2 e3 e4 (by rw [<-IF,hl];rfl) h1,by rw [zC,zC,h2],λf hf=>?_⟩
   rcases Q3.mp hf with rfl|hf
   . exact⟨x,t,rfl⟩
   . exact h3 f hf
theorem oB {α β:Type}{R:α->β->Prop}{x:α}{y:β}:∀{l:List α} {m:List β} (i:Nat),Paired R l m->i < l.length->R (l.getD i x) (m.getD i y)
 |_,_,_,.nil,h=>absurd h (Nat.not_lt_zero _)
 |_,_,0,.cons r _,_=>r
 |_::_,_::_,i+1,.cons _ t,h=>oB i t (Nat.lt_of_succ_lt_succ h)
section
variable {prog:Program} {w:World} {A:Around} {E:`d} {s:Shared}
variable {Q:`d}{ks:List `f}{vs:List Value}{c:Nat}{m:`j}{D:Addr}
theorem yE {L:Addr}(hL:s.heap.Ns L m)(hne:D≠L)(hD:s.heap.get? D=some (listOf vs.toArray c))(ht:Paired (TpI s.heap) vs ks)
 (hnd:ks.Nodup) (hpos:∀k∈ks,k≠[]) (h2:2<=vs.length) (h64:vs.length < 64)
 (k : ∀ h' c' (q : Array Nat), (∀ b o, b ≠ L -> b ≠ D -> s.heap.get? b = some o -> h'.get? b = some o) -> h'.Ns L m -> h'.get? D = some (listOf (q.toList.map λ i => vs.getD i .none).toArray c') ->
  SRT.Pm vs.length q->SRT.wV (λi j=>c6 (ks.getD i []) (ks.getD j [])) q vs.length->Q .none {s with heap:=h'}):
 wpAny `m A (call (.builtin "list.sort") [.ref D]) Q E s:=by
 have hlen:vs.length=ks.length:=Paired.length ht;have led:∀p∈jS s.heap L D,p.1≠D:=λ⟨_,_⟩ hp=>(dZ.mp hp).2.1;refine kat_lsort (h₀:=pP s.heap) (L:=L) (m:=m) (news:=(D,listOf vs.toArray c)::jS s.heap L D) (g:=λo=>(D,o)::jS s.heap L D) (its:=vs.toArray) (AS hL) (lE hne hD) (.head led) (by simp) h2 h64 λe1 h' F' N'=>?_
 have keep:∀b o,b≠L->b≠D->s.heap.get? b=some o->h'.get? b=some o:=λb o n1 n2 e=>(N' (b,o) (iJ _ (dZ.mpr ⟨n1,n2,e⟩))).1;obtain⟨oL,esL,epL,hoL,hdL,_⟩:=hL;have tup:∀{v:Value} {kk:`f},TpI s.heap v kk->TpI h' v kk:=λq=>by
  obtain⟨a,o,arr,n,e1,e2,e3,e4,e5⟩:=q;exact⟨a,o,arr,n,e1,keep a o (λz=>by rw [z,hoL]at e2;cases e2;rw [hdL]at e4;cases e4) (λz=>by rw [z,hD]at e2;cases e2;exact absurd (Value.type.inj e3) (by decide)) e2,e3,e4,e5⟩
 have ht':Paired (TpI h') vs ks:=Paired.mapP ht λa b q=>tup q;obtain⟨fs,t1,t2,t3⟩:=TpI.firsts ht' hpos;refine kat_kind (T:=.type "int") t1 `e (λv hv=>by obtain⟨n,t,rfl⟩:=t3 v hv;exact Looks.of_pure rfl) rfl ?_
 have O:SRT.Ord (λi j=>c6 (ks.getD i []) (ks.getD j [])) vs.length:=⟨λa b c=>jt _ _ _,λa b ha hb hab=>oA _ _ λe=>hab (by
  rw [gh,gh,dS `e,dS `e]at e
  exact(List.getElem_inj hnd).mp e)⟩
 refine SRT.A8 (lt:=λi j=>c6 (ks.getD i []) (ks.getD j [])) (n:=vs.length) (J:=λs'=>s'={s with heap:=h'}) (λi j C s' hi hj js hC=>?_) (λp s' hp js=>?_) rfl (SRT.rN O h2)
 . subst js;obtain⟨a1,o1,r1,n1,x1,x2,x3,x4,x5⟩:=oB (x:=Value.none) (y:=[]) i ht' hi;obtain⟨a2,o2,r2,n2,y1,y2,y3,y4,y5⟩:=oB (x:=Value.none) (y:=[]) j ht' hj;unfold kas_ask;rw [x1,y1];refine kat_lt x2 x4 y2 y4 (yD x5 y5 0 ?_);have z1:r1.size=(ks.getD i []).length:=by rw [<-Qe];exact x5.length
   have z2:r2.size=(ks.getD j []).length:=by rw [<-Qe];exact y5.length
   rw [z1,z2,Bu];exact hC _ rfl
 . subst js;refine KasFin.intro F' N' (.head led) λh'' c' F'' N''=>?_;exact k h'' c' p (λb o n1 n2 e=>(N'' (b,o) (iJ _ (dZ.mpr ⟨n1,n2,e⟩))).1) F''.ns (N'' _ gG).1 hp.1 hp.2
theorem qY(hD:s.heap.get? D=some (listOf vs.toArray c))(h2:vs.length < 2)
 (k:∀h' c',(∀b o,b≠D->s.heap.get? b=some o->h'.get? b=some o)->h'.get? D=some (listOf vs.toArray c')->Q .none {s with heap:=h'}):wpAny `m A (call (.builtin "list.sort") [.ref D]) Q E s:=by
 refine wpAny_call_entry slot_list_sort ⟨_,hD,rfl⟩ entry_list_sort ?_ (args_list_sort _);rw [list_sort_plain];have ha:D < `a:=dh hD;refine wB (listItems_at hD rfl ?_);refine wB (listUpdate_at hD rfl ?_ (hsz:=by rw [zM,sizeLine_eq];lia))
 obtain⟨e1,ho1⟩:∃e1,(s.heap.update D (Obj.mapSeq λ_=> #[])).get? D=some (seqObj "list" #[] e1):=⟨_,get?_update_seq hD (λ_=> #[])⟩;have kk:∀b o,b≠D->s.heap.get? b=some o->(s.heap.update D (Obj.mapSeq λ_=> #[])).get? b=some o:=λb o nb e=>(xQ _ _ (Ne.symm nb)).trans e;generalize s.heap.update D (Obj.mapSeq λ_=> #[])=G0 at ho1 kk;refine wB (seqEpoch_at ho1 rfl ?_);refine wB (wpAny_newTuple ?_ (by rw [List.toList_toArray,sizeLine_eq];lia));refine wB (wpAny_newList ?_);refine wpAny_holding ?_
 have ho2:=df (seqObj "list" #[] 0) (df (seqObj "tuple" vs.toArray 0) ho1);have k2:∀b o,b≠D->s.heap.get? b=some o->((G0.push (seqObj "tuple" vs.toArray 0)).push (seqObj "list" #[] 0)).get? b=some o:=λb o nb e=>df _ (df _ (kk b o nb e));show wpAny `m _ _ _ _ {s with heap:=(G0.push (seqObj "tuple" vs.toArray 0)).push (seqObj "list" #[] 0)}
 generalize (G0.push (seqObj "tuple" vs.toArray 0)).push (seqObj "list" #[] 0)=G at ho2 k2;have h2':vs.toArray.size < 2:=by rw [zM];exact h2
 rw [if_pos h2',if_pos h2'];refine wB (wP ?_);dsimp only;rw [StateT.run_pure];refine wB (wP ?_);dsimp only;have out:(arrOf (SortSt.mk' general' (vs.toArray.zip vs.toArray) #[] 7 none)).map (·.2)=vs.toArray:=by
  show (vs.toArray.zip vs.toArray).map (·.2)=vs.toArray
  rcases vs with _|⟨v,_|⟨u,r⟩⟩
  . simp
  . simp
  . exact absurd h2 (Nat.not_lt.mpr (Nat.le_add_left 2 _))
 rw [out];refine wB (seqEpoch_at ho2 rfl ?_);refine wB (listUpdate_at ho2 rfl ?_ (hsz2:=by show vs.toArray.size<=_;rw [sizeLine_eq];lia))
 simp only [bne_self_eq_false,zN,if_false];exact wP ⟨_,rfl,k _ _ (λb o nb e=>(xQ _ _ (Ne.symm nb)).trans (k2 b o nb e)) (get?_update_seq ho2 (λ_=>vs.toArray))⟩
theorem yF {n:Nat}(h:n < 2)(lt:Nat->Nat->Bool):SRT.Pm n (Array.range n)/\SRT.wV lt (Array.range n) n:=by
 refine⟨SRT.Bq (by rw [show Array.range n=(List.range n).toArray by simp]),λi j hij hj=>?_⟩
 lia
theorem vQ(h:vs.length < 2):((Array.range vs.length).toList.map λi=>vs.getD i .none)=vs:=by
 rcases vs with _|⟨v,_|⟨u,r⟩⟩
 . rfl
 . rfl
 . exact absurd h (Nat.not_lt.mpr (Nat.le_add_left 2 _))
theorem Ac {L D:Addr}{m:`j}{c:Nat}(hL:s.heap.Ns L m)(hne:D≠L)(hD:s.heap.get? D=some (listOf vs.toArray c))(ht:Paired (TpI s.heap) vs ks)
 (hnd:ks.Nodup) (hpos:∀k∈ks,k≠[]) (h64:vs.length < 64)
 (k : ∀ h' c' (q : Array Nat), (∀ b o, b ≠ L -> b ≠ D -> s.heap.get? b = some o -> h'.get? b = some o) -> h'.Ns L m -> h'.get? D = some (listOf (q.toList.map λ i => vs.getD i .none).toArray c') ->
  SRT.Pm vs.length q->SRT.wV (λi j=>c6 (ks.getD i []) (ks.getD j [])) q vs.length->Q .none {s with heap:=h'}):
 wpAny `m A (call (.builtin "list.sort") [.ref D]) Q E s:=by
 by_cases h2:2<=vs.length
 . exact yE hL hne hD ht hnd hpos h2 h64 k
 . have h2':vs.length < 2:=by lia
   obtain⟨p1,p2⟩:=yF h2' (λi j=>c6 (ks.getD i []) (ks.getD j []));exact qY hD h2' λh' c' kp hD'=>k h' c' (Array.range vs.length) (λb o _ nb e=>kp b o nb e) (by obtain⟨o,es,ep,e1,e2⟩:=hL;exact⟨o,es,ep,kp _ _ hne.symm e1,e2⟩) (by rw [vQ h2'];exact hD') p1 p2
end
end L2
namespace L2
open PySem PySem.Spec PyProof.Rows PySem.W
def Raw(h:Heap)(d:Addr)(es:Array DictEntry)(ep:Nat):Prop:=∃ob,h.get? d=some ob/\ob.ExactDict/\ob.data=.dict es ep
variable {ep:Nat}{es:Array DictEntry}{d:Addr}
theorem Raw.ty {s:Shared}(x:Raw s.heap d es ep):s.TypeIs (.ref d) "dict":=let ⟨ob,e,c,_⟩:=x;⟨ob,e,c.1⟩
theorem Raw.lt {h:Heap}(x:Raw h d es ep):d < h.objs.size:=let ⟨_,e,_⟩:=x;dh e
theorem Raw.stay {h h':Heap}(x:Raw h d es ep)(k:∀o,h.get? d=some o->h'.get? d=some o):Raw h' d es ep:=let ⟨ob,e,r⟩:=x;⟨ob,k _ e,r⟩
section
variable {prog:Program} {w:World} {A:Around} {E:`d} {s:Shared} {d it:Addr} {es:Array DictEntry} {ep:Nat}
theorem Fq {Q:`d}(nsm:(d==sysModules)=false)(x:Raw s.heap d es ep)
 (q:Q (.ref `a) {s with heap:=s.heap.push {cls:=.type "dict_keyiterator",data:=.fields #[.ref d,.int 0 0,.int es.size 0,.int ep 0]}}):wpAny `m A (pyIter (.ref d)) Q E s:=by
 have ty:=x.ty;obtain⟨ob,at_,ex,dat⟩:=x;refine wpAny_pyIter_slot ty F.slot_dict_iter (wpAny_call_entry F.slot_dict_iter ty F.entry_dict_iter ?_ (F.args_dict_iter_1 _));unfold Builtin.«dict.__iter__»;refine wB ?_;unfold Builtin.Dict.dictSlotNone;refine wB (wpAny_notOrdered_dict ty ?_);show wpAny _ _ (pure (Value.ref d)) _ _ s;refine wP ?_;show wpAny _ _ (Builtin.Dict.showsAll d >>=_) _ _ s;unfold Builtin.Dict.showsAll;rw [if_neg (by rw [nsm];exact Q4)]
 refine wB (wP ?_);refine wB (wpAny_dictEntries at_ dat ?_);refine wB (wpAny_dictEpoch at_ dat ?_);refine wB (wpAny_newObj_type (wP ⟨_,rfl,"dict_keyiterator",_,⟨_,fU _ rfl,rfl⟩,F.slot_dict_keyiterator_next.lookup,?_⟩));simpa [rawInt]using q
variable {Q:Option Value->Shared->Prop}
theorem Fs {i:Nat}(ki:s.heap.IsKeyIter it d i es.size ep)(x:Raw s.heap d es ep)(hi:i < es.size)
 (q:∀h',h'.IsKeyIter it d (i+1) es.size ep->Heap.SameBut it s.heap h'->Q (some es[i].key) {s with heap:=h'}):wpAny `m A (pyNext (.ref it)) Q E s:=by
 obtain⟨oi,ati,ci,di⟩:=id ki;obtain⟨ob,at_,ex,dat⟩:=id x;unfold pyNext;refine wB (wpAny_attempt (wpAny_callSpecial?_slot (name:=Str.ofString "__next__") ki.typeIs F.slot_dict_keyiterator_next (wpAny_call_entry F.slot_dict_keyiterator_next ki.typeIs F.entry_dict_keyiterator_next ?_ (F.args_dict_keyiterator_next_1 _))));refine wB (wP (wB (wB ?_)))
 first|refine wB (wpAny_typeNameOfWhole_keyiter ki.typeIs (wP ?_))|refine wB (wpAny_typeNameOf_keyiter ki.typeIs (wP ?_))
 refine wB (wpAny_fieldsOf ati di ?_);simp only [show Builtin.Dict_items.ownsTuple "dict_keyiterator"=false by decide,zN,if_false]
 show wpAny _ _ (if(Value.ref d==Value.none)=true then _ else _) _ _ s;rw [if_neg (show ¬((Value.ref d==Value.none)=true)from Q4)];refine wB (wP (wB (wpAny_dictEntries at_ dat ?_)))
 rw [if_neg (by simp)]
 refine wB (wP (wB (wpAny_dictEpoch at_ dat ?_)));rw [if_neg (by simp)]
 refine wP ?_;simp only [show ¬((i:Int) < 0)from by lia,if_false,IK,ND hi]
 refine wB ?_
 first|refine wB (wpAny_typeNameOfWhole_keyiter ki.typeIs (wP ?_))|refine wB (wpAny_typeNameOf_keyiter ki.typeIs (wP ?_))
 refine wB (wpAny_isOneOf_keyiter ki.typeIs ?_);show wpAny _ _ (setField (.ref it) 1 (rawInt ((i:Int)+1)) >>=_) _ _ s;refine wB (wpAny_setField ati di (by simp) ?_)
 have k2:(s.heap.update it (Obj.mapFields (·.setIfInBounds 1 (rawInt ((i:Int)+1))))).IsKeyIter it d (i+1) es.size ep:=
  ⟨_,ID _ ati (Obj.isFreed_of_fields (Obj.data_mapFields di _)),(Obj.cls_mapFields ..).trans ci,by rw [Obj.data_mapFields di];simp [rawInt]⟩
 refine wB (wpAny_holding ?_);refine wB (wpAny_isOneOf_keyiter (s:={s with heap:=s.heap.update it (Obj.mapFields (·.setIfInBounds 1 (rawInt ((i:Int)+1))))}) k2.typeIs ?_)
 show wpAny _ _ (pure es[i].key) _ _ _;exact wP (wP ⟨_,rfl,wP (q _ k2 (Heap.SameBut.update ..))⟩)
theorem JG {i:Nat}(hh:A.handled=none)(ki:s.heap.IsKeyIter it d i es.size ep)(x:Raw s.heap d es ep)(hi:es.size<=i)
 (q:∀h',Heap.ExtBut it s.heap h'->Q none {s with heap:=h'}):wpAny `m A (pyNext (.ref it)) Q E s:=by
 obtain⟨oi,ati,ci,di⟩:=id ki;obtain⟨ob,at_,ex,dat⟩:=id x;unfold pyNext;refine wB (wpAny_attempt (wpAny_callSpecial?_slot (name:=Str.ofString "__next__") ki.typeIs F.slot_dict_keyiterator_next (wpAny_call_entry F.slot_dict_keyiterator_next ki.typeIs F.entry_dict_keyiterator_next ?_ (F.args_dict_keyiterator_next_1 _))));refine wB (wP (wB (wB ?_)))
 first|refine wB (wpAny_typeNameOfWhole_keyiter ki.typeIs (wP ?_))|refine wB (wpAny_typeNameOf_keyiter ki.typeIs (wP ?_))
 refine wB (wpAny_fieldsOf ati di ?_);simp only [show Builtin.Dict_items.ownsTuple "dict_keyiterator"=false by decide,zN,if_false]
 show wpAny _ _ (if(Value.ref d==Value.none)=true then _ else _) _ _ s;rw [if_neg (show ¬((Value.ref d==Value.none)=true)from Q4)];refine wB (wP (wB (wpAny_dictEntries at_ dat ?_)))
 rw [if_neg (by simp)]
 refine wB (wP (wB (wpAny_dictEpoch at_ dat ?_)));rw [if_neg (by simp)]
 refine wP ?_;simp only [show ¬((i:Int) < 0)from by lia,if_false,IK,Array.getElem?_eq_none hi]
 refine wB ?_
 first|refine wB (wpAny_typeNameOfWhole_keyiter ki.typeIs (wP ?_))|refine wB (wpAny_typeNameOf_keyiter ki.typeIs (wP ?_))
 show wpAny _ _ (setField (.ref it) 0 .none >>=_) _ _ s;refine wB (wpAny_setField ati di (by simp) ?_)
 show wpAny _ _ (newExc (.type "StopIteration") [] >>=_) _ _ _;refine wB ?_;simp only [newExc,newTuple];refine wB (wpAny_newObj_type ?_ (by size_fits))
 refine wB (m:=firstArgMember _ _) (wpAny_of_eq (a:=Value.none) (by first|rfl|(simp only [firstArgMember];rfl)) ?_);refine wpAny_newObj_type ?_ (by size_fits);simp only [raiseNew];refine wB (wpAny_handled ?_)
 rw [show A.in1.handled=none from hh];refine wB (wP (wpAny_throw (wB ?_)))
 refine wpAny_isInstance (T:="StopIteration") (b:=true) ⟨_,fU _ rfl,rfl⟩ isSubtype_stop ?_;exact wP (q _ (((Heap.SameBut.update ..).extBut.push _).push _))
end
theorem JH {prog:Program}{w:World}{es:Array DictEntry}{ep:Nat}(nsm:(d==sysModules)=false):KdlSrc prog w "dict" d d es.size (λi v=>∃e,es[i]? =some e/\v=e.key) (λh=>Raw h d es ep) where
 type:=λ_ x=>x.ty
 there:=λ_ x=>⟨x.lt,x.lt⟩
 keep:=λ_ _ x k=>x.stay λo e=>k d (.inl rfl) o e
 notList:=by decide
 notTuple:=by decide
 hint:=λ_ _ _ _ x q=>kdl_hint_dict x.ty q
 iter:=λA s hh x=>⟨_,λi h=>h.IsKeyIter `a d i es.size ep/\Raw h d es ep,(λ_ _ q=>Fq nsm x q),{
  sub:=λb hb=>Q3.mpr (.inl (by simpa using hb))
  frame:=λ_ _ _ st k=>⟨st.1.at λo e=>k _ (by simp) o e,st.2.stay λo e=>k d (by simp) o e⟩
  item:=λi s2 Q E hi st q=>Fs st.1 st.2 hi λh' k2 sb=>q es[i].key h' s2.toks ⟨es[i],by simp [hi],rfl⟩ ⟨k2,st.2.stay λo e=>sb.extBut d o (jG x.lt) e⟩ λb o hb e=>sb.extBut b o (λz=>hb (by simp [z])) e
  done:=λs2 Q E st q=>JG hh st.1 st.2 (Q1 _) λh' xb=>q h' s2.toks λb o hb e=>xb b o (λz=>hb (by simp [z])) e
  self:=λ_ _ _ _ st q=>wpAny_pyIter_keyiter st.1 q},
  ⟨⟨_,fU _ rfl,rfl,rfl⟩,x.stay λo e=>df _ e⟩⟩
end L2
namespace L2
open PySem PySem.Spec PyProof.Rows PySem.W Att
theorem vR {h:Heap}{L:Addr}{m m':`j}(a:h.Ns L m)(b:h.Ns L m'):m=m':=by
 obtain⟨o,es,ep,e1,e2,e3,e4⟩:=a;obtain⟨o',es',ep',f1,f2,f3,f4⟩:=b;rw [e1]at f1;cases f1;rw [e2]at f2;cases f2
 funext x
 rw [<-e4 x, <-f4 x]
theorem ju {ks:`f}{us:List Value}(h:Vals (ks.map V.int) us):IntsAre us ks:=by
 induction ks generalizing us with
 |nil=>cases h;exact .nil
 |cons k ks ih=>cases h with
  |cons r t=>
   obtain⟨tk,e⟩:=(show ∃t,_=Value.int k t from r)
   rw [e];exact .cons k tk (ih t)
theorem jf(k:`f):(k.map (Sum.inl:Int->bb)).map kV=k.map V.int:=by
 rw [zO];rfl
theorem vS {α β:Type}{R:α->β->Prop}{x:α}{y:β}:∀{l:List α} {m:List β},l.length=m.length->(∀i,i < l.length->R (l.getD i x) (m.getD i y))->Paired R l m:=by
 intro l
 induction l with
 |nil=>intro m e h;cases m with
  |nil=>exact .nil
  |cons _ _=>cases e
 |cons a l ih=>intro m e h;cases m with
  |nil=>cases e
  |cons b m=>exact .cons (h 0 (Nat.succ_pos _)) (ih (Nat.succ.inj e) λi hi=>h (i+1) (Nat.succ_lt_succ hi))
theorem sQ {α β γ:Type}{R:α×β->α×γ->Prop}(hR:∀p q,R p q->p.1=q.1):∀{l:List (α×β)} {m:List (α×γ)},Paired R l m->l.map (·.1)=m.map (·.1):=by
 intro l m h
 induction h with
 |nil=>rfl
 |cons r t ih=>rw [zI,zI,hR _ _ r,ih]
theorem p8:∀bs:List Addr,Vals (bs.map V.ref) (bs.map Value.ref)
 |[]=>.nil
 |b::bs=>.cons rfl (p8 bs)
theorem ig {α β:Type}(f:α->β)(l:List α)(i:Nat)(x:α):(l.map f).getD i (f x)=f (l.getD i x):=by
 rw [gh,gh,zK];cases l[i]? <;>rfl
def Fu:List V->Hp->VK->Prop:=λxs H Q=>∃a kvs,∃ks:List `f,xs=[.ref a]/\H a=some (.dT kvs)/\kvs.map (·.1)=ks.map (λk=>k.map Sum.inl)/\(∀k∈ks,k≠[])/\ks.length < 64/\
 ∀p (bs:List Addr) (q:Array Nat),H p=none->SRT.Pm ks.length q->SRT.wV (λi j=>c6 (ks.getD i []) (ks.getD j [])) q ks.length->bs.length=ks.length->
  (∀i,i < ks.length->H (bs.getD i 0)=some (.tup ((ks.getD (SRT.g q i) []).map V.int)))->Q (.ref p) (bC H p (.lst (bs.map V.ref)))
theorem Ad {X:Cx}(hc:X.calm=true):dX X (.builtin "sorted") Fu:=by
 intro pins s σ H xs us Q I rv h;obtain⟨a,kvs,ks,rfl,ha,hks,hpos,h64,q⟩:=h;obtain⟨u,rfl,ru⟩:=mG rv;cases (show u=Value.ref a from ru)
 obtain⟨hlen,nsm,ys,rel,ob,es,ep,at_,ex,dat,hes,nd,_⟩:=(show ObjOk X.prog X.w H s.heap a (.dT kvs)from I.hok a _ ha)
 obtain⟨m,hns,_⟩:=id I.loc;have neA:a≠X.env.locals:=λz=>by rw [z,I.free]at ha;cases ha
 have relLen:kvs.length=ys.length:=Paired.length rel;have ksLen:ks.length=kvs.length:=by rw [<-zJ (f:=λk:List Int=>k.map (Sum.inl:Int->bb)), <-hks,zJ]
 have esz:es.size=ys.length:=by rw [<-Qe,hes,zJ]
 have kE:∀i,(kvs.getD i ([],.non)).1=(ks.getD i []).map Sum.inl:=λi=>by
  have e:=congrArg (λl:List (List bb)=>l.getD i []) hks;have e1:=ig (λp:List bb×V=>p.1) kvs i ([],.non);have e2:=ig (λk:List Int=>k.map (Sum.inl:Int->bb)) ks i [];exact e1.symm.trans (e.trans e2)
 have yk:∀i,i < ks.length->H (ys.getD i ([],0,.none)).2.1=some (.tup ((ks.getD i []).map V.int)):=λi hi=>by
  have r:=(oB (x:=(([],V.non):List bb×V)) (y:=(([],0,Value.none):List bb×Addr×Value)) i rel `e).2.1
  rw [kE i,jf]at r;exact r
 have ksnd:ks.Nodup:=by
  have e:=sQ (λp q z=>z.1) rel;rw [<-e,hks]at nd;exact(List.pairwise_map.mp nd).imp λz e=>z (by rw [e])
 refine kdu_sorted (JH (es:=es) (ep:=ep) nsm) (I.ok.hd hc) (AS hns) (lE neA at_) ⟨ob,at_,ex,dat⟩ (by rw [esz, <-relLen];exact hlen) λD h' tk vs F' N' lt hl hP=>?_
 have nD:=N' (D,listOf vs.toArray 0) gG;have inNews:∀b o,b≠X.env.locals->s.heap.get? b=some o->(b,o)∈([]++(a,ob)::jS s.heap X.env.locals a):=λb o nb e=>by
  by_cases z:b=a
  . subst z;rw [at_]at e;cases e;exact gG
  . exact iJ _ (dZ.mpr ⟨nb,z,e⟩)
 have kp:∀b o,b≠X.env.locals->s.heap.get? b=some o->h'.get? b=some o:=λb o nb e=>(N' _ (iJ _ (inNews b o nb e))).1;have Dnew:s.heap.get? D=none:=by
  cases z:s.heap.get? D with
  |none=>rfl
  |some o=>exact absurd (lt _ (inNews D o nD.2.1 z)) (zT _)
 have HD:H D=none:=by
  cases z:H D with
  |none=>rfl
  |some o=>
   obtain⟨_,e⟩:=(I.hok D o z).there;rw [Dnew]at e;cases e
 have vlen:vs.length=ks.length:=by lia
 have vE:∀i,i < ks.length->vs.getD i .none=.ref (ys.getD i ([],0,.none)).2.1:=λi hi=>by
  have hv:i < vs.length:=by lia
  have hy:i < ys.length:=by lia
  obtain⟨e,e1,e2⟩:=hP i vs[i] (dS hv);rw [<-IF,hes,zK,dS hy]at e1;cases e1;rw [gh,dS hv,gh,dS hy];exact e2
 have ht:Paired (TpI h') vs ks:=vS (x:=Value.none) (y:=[]) vlen λi hi=>by
  rw [vE i `e]
  have tr:=yk i `e
  obtain⟨_,its,rl,⟨o,e1,e2,n,e3⟩,_⟩:=(show ObjOk X.prog X.w H s.heap _ (.tup _)from I.hok _ _ tr)
  refine⟨_,o,_,n,rfl,kp _ o (λz=>by rw [z,I.free]at tr;cases tr) e1,e2,e3,?_⟩
  rw [List.toList_toArray];exact ju rl
 refine Ac (s:={s with heap:=h',toks:=tk}) (L:=X.env.locals) (D:=D) (m:=m) (c:=0) F'.ns nD.2.1 nD.1 ht ksnd hpos `e λh2 c2 qq kp2 ns2 hD2 P2 A2=>?_
 rw [vlen]at P2 A2;have hb:∀i,i < ks.length->SRT.g qq i < ks.length:=P2.lt;have outE:(qq.toList.map λi=>vs.getD i .none)=(qq.toList.map λi=>(ys.getD i ([],0,Value.none)).2.1).map Value.ref:=by
  rw [zO];apply B3
  intro i hi;have hl2:qq.toList.Perm (List.range ks.length):=by simpa using Mr.mp P2.pe
  have:i < ks.length:=by simpa using hl2.mem_iff.mp hi
  exact vE i this
 rw [outE]at hD2;have kp3:∀b o,b≠X.env.locals->s.heap.get? b=some o->h2.get? b=some o:=λb o nb e=>kp2 b o nb (λz=>by rw [z,Dnew]at e;cases e) (kp b o nb e)
 have bl:(qq.toList.map λi=>(ys.getD i ([],0,Value.none)).2.1).length=ks.length:=by rw [zJ,Qe,P2.sz]
 have hokN:HOk X.prog X.w (bC H D (.lst ((qq.toList.map λi=>(ys.getD i ([],0,Value.none)).2.1).map V.ref))) h2:=λb u e=>by
  by_cases z:b=D
  . subst z;rw [aR]at e;cases e;exact⟨by rw [zJ,bl];exact jI `e,_,c2,p8 _,hD2⟩
  . rw [aM z]at e;refine(I.hok b u e).stay (λc v hc e1=>kp3 c v (λy=>?_) e1) (λc y=>by rw [aM (aQ y HD)];exact y) (λc xs y=>by rw [aM (aQ y HD)];exact y) λc ob xs y=>by rw [aM (aQ y HD)];exact y
    subst y
    rcases hc with y|y
    . rw [<-y,I.free]at e;cases e
    . rw [I.free]at y;cases y
 have I2:Inv X pins σ (bC H D (.lst ((qq.toList.map λi=>(ys.getD i ([],0,Value.none)).2.1).map V.ref))) {s with heap:=h2,gens:=s.gens,drawn:=s.drawn,toks:=tk}:=
  Inv.step (s:=s) (ch:=[]) I (λ_ z=>nomatch z) (λb o nb _ _ e _=>kp3 b o nb e) (λb o nb _ _ e _=>⟨o.slots,kp3 b o nb e⟩) (λb o _ e n=>by rw [aM (λz=>by rw [z,Dnew]at e;cases e)];exact n)
   (λ b o _ e => by
    by_cases z:b=X.env.locals
    . subst z;obtain⟨o2,_,_,e2,_⟩:=ns2;exact⟨o2,e2⟩
    . exact⟨o,kp3 b o z e⟩)
   (λb xs e=>by rw [aM (aQ e HD)];exact e) (λb o xs e=>by rw [aM (aQ e HD)];exact e) (λb ps e=>⟨#[],by rw [aM (aQ e HD),e];simp⟩) (λm2 hm2=>vR hns hm2▸ns2) hokN I.bare
 refine⟨.ref D,_,I2,rfl,q D _ qq HD P2 A2 bl λi hi=>?_⟩;have e:(qq.toList.map λi=>(ys.getD i ([],0,Value.none)).2.1).getD i 0=(ys.getD (SRT.g qq i) ([],0,Value.none)).2.1:=by
  have hq:i < qq.toList.length:=by rw [Qe,P2.sz];exact hi
  rw [gh,zK,dS hq];show (ys.getD qq.toList[i] ([],0,Value.none)).2.1=_;congr 3
  unfold SRT.g;rw [<-IF,dS hq];rfl
 rw [e];exact yk _ (hb i hi)
end L2
namespace DL
open PySem L2
def ER(a b:`f):Bool:=c6 a b||decide (a=b)
def mJ(ks:List `f):List `f:=ks.mergeSort ER
theorem ii:∀x:List Int,c6 x x=false
 |[]=>rfl
 |a::x=>by unfold c6;rw [if_pos rfl];exact ii x
theorem Lw(a b c:`f)(h1:ER a b=true)(h2:ER b c=true):ER a c=true:=by
 unfold ER at*
 rcases Bool.or_eq_true_iff.mp h1 with h1|h1
 . rcases Bool.or_eq_true_iff.mp h2 with h2|h2
   . rw [jt a b c h1 h2];rfl
   . rw [<-of_decide_eq_true h2,h1];rfl
 . rw [of_decide_eq_true h1];exact h2
theorem Lx(a b:`f):(ER a b||ER b a)=true:=by
 unfold ER
 by_cases e:a=b
 . simp [e]
 . cases h:c6 a b with
   |true=>rfl
   |false=>rw [oA a b e h];simp
theorem mK:∀{l m:List `f},l.Perm m->l.Pairwise (λa b=>c6 a b=true)->m.Pairwise (λa b=>c6 a b=true)->l=m
 |[],m,p,_,_=>by rw [List.nil_perm.mp p]
 |a::x,[],p,_,_=>absurd p.length_eq (by simp)
 |a::x,b::y,p,s1,s2=>by
  have e:a=b:=by
   have ha:a∈b::y:=p.mem_iff.mp gG;have hb:b∈a::x:=p.mem_iff.mpr gG
   rcases Q3.mp ha with ha|ha
   . exact ha
   . rcases Q3.mp hb with hb|hb
     . exact hb.symm
     . have l1:=(ET.mp s1).1 b hb;have l2:=(ET.mp s2).1 a ha;have:=jt a b a l1 l2;rw [ii]at this;cases this
  subst e;rw [mK (List.Perm.cons_inv p) (ET.mp s1).2 (ET.mp s2).2]
variable {ks:List `f}
theorem Fv {l:List `f}(nd:ks.Nodup)(p:l.Perm ks)(s:l.Pairwise λa b=>c6 a b=true):l=mJ ks:=by
 have p2:(mJ ks).Perm ks:=List.mergeSort_perm ks ER;have s2:(mJ ks).Pairwise λa b=>ER a b=true:=List.pairwise_mergeSort Lw Lx ks;have n2:(mJ ks).Nodup:=p2.nodup_iff.mpr nd;refine mK (p.trans p2.symm) s ((s2.and n2).imp λh=>?_)
 rcases Bool.or_eq_true_iff.mp h.1 with z|z
 . exact z
 . exact absurd (of_decide_eq_true z) h.2
theorem JI {q:Array Nat}(nd:ks.Nodup)(P:SRT.Pm ks.length q)(A:SRT.wV (λi j=>c6 (ks.getD i []) (ks.getD j [])) q ks.length):((List.range ks.length).map λi=>ks.getD (SRT.g q i) [])=mJ ks:=by
 have hl2:q.toList.Perm (List.range ks.length):=by simpa using Mr.mp P.pe
 have ql:q.toList=(List.range ks.length).map (SRT.g q):=by
  apply List.ext_getElem
  . rw [Qe,P.sz,zJ,EU]
  . intro i h1 h2;rw [List.getElem_map,IJ];unfold SRT.g;rw [<-IF,dS h1];rfl
 have kr:(List.range ks.length).map (λi=>ks.getD i [])=ks:=by
  apply List.ext_getElem
  . rw [zJ,EU]
  . intro i h1 h2;rw [List.getElem_map,IJ,gh,dS h2];rfl
 refine Fv nd ?_ ?_
 . have:((List.range ks.length).map λi=>ks.getD (SRT.g q i) [])=q.toList.map λi=>ks.getD i []:=by rw [ql,zO];rfl
   rw [this];have p:=hl2.map (λi=>ks.getD i []);rw [kr]at p;exact p
 . rw [List.pairwise_map];refine List.pairwise_iff_getElem.mpr λi j hi hj hij=>?_;rw [IJ,IJ];exact A i j hij (by simpa using hj)
noncomputable def dU:PyData->Option `f
 | .tuple ds=>ee ds
 |_=>none
noncomputable def gU:List (PyData×PyData)->Option (List `f)
 |[]=>some []
 |p::r=>(dU p.1).bind λk=>(gU r).map (k:: ·)
noncomputable def yG:List PyData->Option PyData
 |[.dict kvs]=>(gU kvs).bind λks=>if(ks.all (λk=> !k.isEmpty)&&decide (ks.length < 64)&&decide ks.Nodup)=true then some (.list ((mJ ks).map λk=>.tuple (k.map .int)))else none
 |_=>none
theorem wW:∀{q:List bb} {ns:`f},q.map kD=ns.map PyData.int->q=ns.map Sum.inl
 |[],[],_=>rfl
 |[],_::_,h=>by cases h
 |_::_,[],h=>by cases h
 |k::q,n::ns,h=>by
  rw [zI,zI]at h;injection h with h1 h2
  cases k with
  |inl i=>injection h1 with h1;rw [h1,wW h2];rfl
  |inr x=>cases h1
section
variable {K:Fg}
theorem sR {H:Hp}:∀{m:List (List bb×V)} {kvs:List (PyData×PyData)} {ks:List `f},Kvs K H m kvs->gU kvs=some ks->m.map (·.1)=ks.map λk=>k.map Sum.inl
 |_,[],ks,h,e=>by
  cases e;rw [show _=[]from h]
  rfl
 |_,(k,d)::r,ks,h,e=>by
  obtain⟨q,m',rfl,⟨h1,_⟩,h2⟩:=h;unfold gU at e;obtain⟨k1,e1,e2⟩:=bind_some e;obtain⟨k2,e3,e4⟩:=Q0.mp e2;subst e4;rw [h1]at e1;have e5:=wW (cB e1);rw [zI,zI,e5,sR h2 e3]
theorem yH {F:Hp}:∀{bs:List Addr} {ks:List `f},bs.length=ks.length->(∀i,i < ks.length->F (bs.getD i 0)=some (.tup ((ks.getD i []).map V.int)))->Are K F (bs.map V.ref) (ks.map λk=>.tuple (k.map .int))
 |[],[],_,_=>rfl
 |[],_::_,e,_=>by cases e
 |_::_,[],e,_=>by cases e
 |b::bs,k::ks,e,h=>⟨.ref b,_,rfl,⟨b,_,rfl,h 0 (Nat.succ_pos _),Are.ints.mpr rfl⟩,yH (Nat.succ.inj e) λi hi=>h (i+1) (Nat.succ_lt_succ hi)⟩
theorem Grow.tups {F H:Hp}(s:Same F H)(bs:List Addr)(hb:∀b∈bs,∃xs,H b=some (.tup xs)):∃F',Grow F H F' H/\∀b∈bs,F' b=H b:=by
 refine⟨λb=>if b∈bs then H b else F b,⟨λb u e=>?_,λb u e=>?_,Same.refl _,λb u e t n=>?_⟩,λb hb=>if_pos hb⟩
 . show (if b∈bs then H b else F b)=some u;split
   . exact s b u e
   . exact e
 . have e:(if b∈bs then H b else F b)=some u:=e;split at e
   . exact e
   . exact s b u e
 . show (if b∈bs then H b else F b)=none;split
   . rename_i hm;obtain⟨xs,z⟩:=hb b hm;rw [z]at e;cases e;exact absurd rfl (t xs)
   . exact n
theorem JJ:rp K Fu yG:=λF H xs ds d Q s ar e k=>by
 unfold yG at e;split at e
 . rename_i kvs;obtain⟨ks,e1,e2⟩:=bind_some e;split at e2
   . rename_i c;cases e2;simp only [Q5,decide_eq_true_eq,Q2]at c;obtain⟨⟨c1,c3⟩,c4⟩:=c;obtain⟨x,r,rfl,⟨a,rfl,hx⟩,hr⟩:=ar;rw [show r=[]from hr]
     rcases hx with ⟨ns,z,_⟩|⟨m,z,kv⟩|⟨nm,z,_⟩|⟨m,z,kv⟩
     . subst z;cases e1
     rotate_left
     . subst z;cases e1
     . cases kvs with
       |nil=>exact kv.elim
       |cons p r=>
        obtain⟨rfl,_⟩:=kv;cases e1
     . refine⟨a,m,ks,rfl,s _ _ z,sR kv e1,(λk hk y=>absurd (c1 k hk) (by rw [y];decide)),c3,λp bs q hp P A hbl hbs=>?_⟩
       have allT:∀b∈bs,∃xs,H b=some (.tup xs):=λb hb=>by
        obtain⟨i,hi,rfl⟩:=List.getElem_of_mem hb;have:=hbs i `e
        rw [gh,dS hi]at this;exact⟨_,this⟩
       obtain⟨F1,g1,f1⟩:=Grow.tups s bs allT;have g2:=g1.trans (Grow.new (p:=p) (o:=.lst (bs.map V.ref)) g1.s hp);refine k (.ref p) _ _ g2 ⟨p,_,rfl,aR,?_⟩;have sk:=JI c4 P A;have len:(mJ ks).length=ks.length:=by rw [<-sk,zJ,EU]
       refine(yH (F:=F1) (by rw [len];exact hbl) λi hi=>?_).same (bV (g1.s.free hp) _)
       have hi':i < ks.length:=by lia
       have mem:bs.getD i 0∈bs:=by
        rw [gh,dS `e]
        exact AA _
       rw [f1 _ mem,hbs i hi'];have:(mJ ks).getD i []=ks.getD (SRT.g q i) []:=by
        rw [<-sk,gh,zK,List.getElem?_range hi'];rfl
       rw [this]
   . cases e2
 . cases e
end
end DL
namespace L2
open PySem
section
variable {prog:Program} {w:World} {K:Type} [DecidableEq K] {knd:HeapKind prog w K} {A:Around} {E:`d} {s:Shared} {d a:Addr} {xs:List (K×Addr×Value)} {k:K} {v:Value} {o:Obj} {es:Array DictEntry} {ep:Nat}
theorem Ae {Q:Unit->Shared->Prop}(hu:knd.room A.in1)(hkey:knd.is s.heap k a)(ho:s.heap.get? d=some o)(hc:o.ExactDict)(hd:o.data=.dict es ep)(he:es.toList=xs.map (entryOfKey knd))(his:∀x∈xs,knd.is s.heap x.1 x.2.1)(hn:(xs.map (·.1)).Nodup)(hep:ep=xs.length)
 (hQ:∀h' o' es',h'.get? d=some o'->o'.ExactDict->o'.data=.dict es' (storedH xs k a v).length->es'.toList=(storedH xs k a v).map (entryOfKey knd)->((storedH xs k a v).map (·.1)).Nodup->Heap.SameBut d s.heap h'->Q () {s with heap:=h',toks:=s.toks+knd.draws k}) (hsz:xs.length<=sizeLine):
 wpAny `m A (setItem (.ref d) (.ref a) v) Q E s:=by
 have hm:s.heap.DictOfH knd d xs:=⟨o,es,ep,ho,hc,hd,he,his,hn⟩;unfold setItem;(try with_reducible refine wpAny_holding ?_);refine wB (wpAny_sequenceKey hm.typeIs (by decide) ?_)
 refine wB (wpAny_callSpecial?_slot (name:=Str.ofString "__setitem__") hm.typeIs slot_dict_setitem (wpAny_call_entry slot_dict_setitem hm.typeIs entry_dict_setitem ?_ (args_dict_setitem _ _ _)));show wpAny _ _ (Builtin.Dict.notOrdered "__setitem__" ⟨[.ref d,.ref a,v],[]⟩ >>=_) _ _ s;refine wB (wpAny_notOrdered_dict hm.typeIs ?_);show wpAny _ _ (dictSet d (.ref a) v >>=_) _ _ s;refine wB ?_;unfold dictSet;(try with_reducible refine wpAny_holding ?_);refine wB (knd.pyHash hu hkey ?_);unfold dictSetHashed;(try with_reducible refine wpAny_holding ?_);refine wB (wpAny_dictFind_heap (s:={s with toks:=s.toks+knd.draws k}) hu hkey ho hd he his hn ?_ ?_)
 . intro hno;have hnot:k ∉ xs.map (·.1):=not_mem_keys_of_get hno
   have st:=storedH_new (atKey_none_of_get hno) a v;refine wB (wpAny_rule (wpAny_updateDictKeys (hz:=by have e:=size_of_entries he;lia) (s:={s with toks:=s.toks+knd.draws k}) ho hd ?_))
   refine wP ⟨.none,rfl,wP (hQ _ _ (es.push ⟨knd.hash k,.ref a,v⟩) (ID _ ho (Obj.isFreed_of_dict (Obj.data_mapDictKeys hd _))) (hc.mapDictKeys _) ?_ ?_ ?_ (Heap.SameBut.update ..))⟩
   . rw [st,zQ,Mt, <-hep];exact Obj.data_mapDictKeys hd _
   . rw [st];simp [he,entryOfKey]
   . rw [st,AB,List.nodup_append];refine⟨hn,by simp,λx hx y hy=>?_⟩
     simp only [zI,zL,Q7]at hy;subst hy;exact λe=>hnot (e▸hx)
 . intro j p hj;have st:=storedH_old (atKey_of_get hn hj) a v;refine wB (wpAny_rule (wB (wpAny_updateDict (s:={s with toks:=s.toks+knd.draws k}) ho hd (wpAny_point ?_))))
   refine wP ⟨.none,rfl,wP (hQ _ _ (es.modify j λe=>{e with val:=v}) (ID _ ho (Obj.isFreed_of_dict (Obj.data_mapDict hd _))) (hc.mapDict _) ?_ ?_ ?_ (Heap.SameBut.update ..))⟩
   . rw [st,zJ, <-hep];exact Obj.data_mapDict hd _
   . rw [st];have:=modify_map_putAt (entryOfKey knd) (λe:DictEntry=>{e with val:=v}) k v (λ_ _=>rfl) hn hj
     rw [<-he]at this;obtain⟨l⟩:=es;simpa using this
   . rw [st,keys_map_putAt];exact hn
end
end L2
namespace L2
open PySem PySem.Spec PyProof.Rows
section
variable {κ:Type} [DecidableEq κ]
noncomputable def gw(kvs:List (κ×V))(k:κ):Option V:=(kvs.find? λkv=>decide (kv.1=k)).map (·.2)
noncomputable def lD(kvs:List (κ×V))(k:κ)(v:V):List (κ×V):=
 if(kvs.any λkv=>decide (kv.1=k))=true then kvs.map (λkv=>if kv.1=k then(kv.1,v)else kv)else kvs++[(k,v)]
variable {r:List (κ×V)}
theorem oC {p:κ×V}{k:κ}(e:p.1=k):gw (p::r) k=some p.2:=by simp [gw,List.find?_cons,e]
theorem oE {p:κ×V}{k:κ}(e:¬p.1=k):gw (p::r) k=gw r k:=by simp [gw,List.find?_cons,e]
theorem yI(k:κ):∀kvs:List (κ×V),(kvs.any λkv=>decide (kv.1=k))=(gw kvs k).isSome
 |[]=>rfl
 |p::r=>by
  rw [EV]
  by_cases e:p.1=k
  . simp only [oC e,decide_eq_true e,Bool.true_or,Option.isSome_some]
  . rw [oE e,decide_eq_false e,Bool.false_or];exact yI k r
theorem lI(kvs:List (κ×V))(k:κ)(v:V):(lD kvs k v).length<=kvs.length+1:=by
 unfold lD;split
 . rw [zJ];lia
 . rw [zQ,zC,zH];lia
variable {u:Option Value}{o:Option V}
theorem RelO.isSome_eq(r:RelO o u):o.isSome=u.isSome:=by
 cases o with
 |none=>cases u with
  |none=>rfl
  |some _=>exact(show False from r).elim
 |some _=>cases u with
  |none=>exact(show False from r).elim
  |some _=>rfl
theorem RelO.getD {d:V}{d':Value}(r:RelO o u)(rd:RelV d d'):RelV (o.getD d) (u.getD d'):=by
 cases o with
 |none=>cases u with
  |none=>exact rd
  |some _=>exact(show False from r).elim
 |some _=>cases u with
  |none=>exact(show False from r).elim
  |some _=>exact r
variable {vs:List (κ×Value)}{kvs:List (κ×V)}
theorem KV.val(r:KV kvs vs)(k:κ):RelO (gw kvs k) (valueAt vs k):=by
 unfold KV at r
 induction r with
 |nil=>exact True.intro
 | @cons p q ps qs h t ih=>
  obtain⟨h1,h2⟩:=h
  by_cases e:p.1=k
  . have e':q.1=k:=h1.symm.trans e;have b:valueAt (q::qs) k=some q.2:=by simp [valueAt,List.find?_cons,e']
    rw [oC e,b];exact h2
  . have e':¬q.1=k:=λz=>e (h1.trans z);have b:valueAt (q::qs) k=valueAt qs k:=by simp [valueAt,List.find?_cons,e']
    rw [oE e,b];exact ih
theorem KV.any(r:KV kvs vs)(k:κ):(kvs.any λkv=>decide (kv.1=k))=vs.any λkv=>decide (kv.1=k):=by
 unfold KV at r
 induction r with
 |nil=>rfl
 |cons h t ih=>rw [EV,EV,ih,h.1]
theorem KV.repl(r:KV kvs vs)(k:κ){y:V}{u:Value}(ry:RelV y u):
 KV (kvs.map λkv=>if kv.1=k then(kv.1,y)else kv) (vs.map λkv=>if kv.1=k then(kv.1,u)else kv):=by
 unfold KV at r ⊢
 induction r with
 |nil=>exact .nil
 | @cons p q ps qs h t ih=>
  rw [zI,zI];refine .cons ?_ ih;obtain⟨h1,h2⟩:=h
  by_cases e:p.1=k
  . rw [if_pos e,if_pos (h1.symm.trans e)];exact⟨h1,ry⟩
  . rw [if_neg e,if_neg (λz=>e (h1.trans z))];exact⟨h1,h2⟩
theorem KV.put(r:KV kvs vs)(k:κ){y:V}{u:Value}(ry:RelV y u):KV (lD kvs k y) (stored vs k u):=by
 unfold lD stored;rw [r.any k]
 by_cases e:(vs.any λkv=>decide (kv.1=k))=true
 . rw [if_pos e,if_pos e];exact r.repl k ry
 . rw [if_neg e,if_neg e];exact Paired.snoc r ⟨rfl,ry⟩
theorem KV.length(r:KV kvs vs):kvs.length=vs.length:=Paired.length r
end
variable {w:World}{P:Program}
theorem yJ {k:bb}{u:Value}(r:RelV (kV k) u):(am P w).is k u=true:=by
 cases k with
 |inl i=>obtain⟨t,e⟩:=(show ∃t,u=Value.int i t from r);subst e;exact xR P w i t
 |inr x=>obtain⟨t,e⟩:=(show ∃t,u=Value.str x t from r);subst e;exact xS P w x t
theorem vT:∀{ks:List bb} {us:List Value},Vals (ks.map kV) us->ItemsAre (am P w) ks us
 |[],_,r=>by rw [zL]at r;cases r;exact .nil
 |k::ks,_,r=>by
  rw [zI]at r;cases r with
  |cons h t=>exact .cons (yJ h) (vT t)
abbrev KT(H:Hp):List (List bb×V)->List (List bb×Addr×Value)->Prop:=Paired λp q=>p.1=q.1/\H q.2.1=some (.tup (p.1.map kV))/\RelV p.2 q.2.2
variable {xs:List (List bb×Addr×Value)}{kvs:List (List bb×V)}{H:Hp}
theorem KT.val(r:KT H kvs xs)(k:List bb):RelO (gw kvs k) ((atKey xs k).map (·.2)):=by
 induction r with
 |nil=>exact True.intro
 | @cons p q ps qs h t ih=>
  obtain⟨h1,_,h2⟩:=h
  by_cases e:p.1=k
  . have e':q.1=k:=h1.symm.trans e;have b:atKey (q::qs) k=some q.2:=by simp [atKey,List.find?_cons,e']
    rw [oC e,b];exact h2
  . have e':¬q.1=k:=λz=>e (h1.trans z);have b:atKey (q::qs) k=atKey qs k:=by simp [atKey,List.find?_cons,e']
    rw [oE e,b];exact ih
theorem KT.repl(r:KT H kvs xs)(k:List bb){y:V}{u:Value}(ry:RelV y u):
 KT H (kvs.map λkv=>if kv.1=k then(kv.1,y)else kv) (xs.map (putAt k u)):=by
 induction r with
 |nil=>exact .nil
 | @cons p q ps qs h t ih=>
  rw [zI,zI];refine .cons ?_ ih;obtain⟨h1,h2,h3⟩:=h;unfold putAt
  by_cases e:p.1=k
  . rw [if_pos e,if_pos (h1.symm.trans e)];exact⟨h1,h2,ry⟩
  . rw [if_neg e,if_neg (λz=>e (h1.trans z))];exact⟨h1,h2,h3⟩
theorem KT.put(r:KT H kvs xs)(k:List bb){b:Addr}{y:V}{u:Value}(hb:H b=some (.tup (k.map kV)))(ry:RelV y u):
 KT H (lD kvs k y) (storedH xs k b u):=by
 have e:(kvs.any λkv=>decide (kv.1=k))=(atKey xs k).isSome:=by
  rw [yI,(r.val k).isSome_eq,Option.isSome_map]
 unfold lD storedH;rw [e]
 by_cases q:(atKey xs k).isSome=true
 . rw [if_pos q,if_pos q];exact r.repl k ry
 . rw [if_neg q,if_neg q];exact Paired.snoc r ⟨rfl,hb,ry⟩
theorem KT.keeps {H':Hp}(r:KT H kvs xs)(ht:∀b ys,H b=some (.tup ys)->H' b=some (.tup ys)):KT H' kvs xs:=
 Paired.mapP r λ_ _ z=>⟨z.1,ht _ _ z.2.1,z.2.2⟩
section
variable {P:Program} {w:World} {H:Hp} {h:Heap} {a:Addr}
theorem Kh {u:HO}(ok:HOk P w H h)(e:Rd H a u):ObjOk P w H h a u:=e.ok ok
variable {kvs:List (bb×V)}
theorem yK(ok:HOk P w H h)(e:Rd H a (.dK kvs)):kvs.length<=sizeLine/\(a==sysModules)=false/\∃vs,KV kvs vs/\h.DictOf (am P w) a vs:=
 show ObjOk P w H h a (.dK kvs)from Kh ok e
theorem N7(ok:HOk P w H h)(e:H a=some (.dK kvs)):kvs.length<=sizeLine/\(a==sysModules)=false/\∃vs,KV kvs vs/\h.DictOf (am P w) a vs:=yK ok (.inl e)
theorem mj {ks:List bb}(ok:HOk P w H h)(e:H a=some (.tup (ks.map kV))):(tupleKind (am P w)).is h ks a:=by
 obtain⟨_,its,r,⟨o,h1,h2,n,h3⟩,_⟩:=(show ObjOk P w H h a (.tup (ks.map kV))from ok a _ e)
 exact⟨o,its.toArray,n,h1,h2,h3,by simpa using vT r⟩
variable {kvs:List (List bb×V)}
theorem Fw(ok:HOk P w H h)(r:KT H kvs xs):∀x∈xs,(tupleKind (am P w)).is h x.1 x.2.1:=by
 have all:∀{l:List (List bb×V)} {m:List (List bb×Addr×Value)},KT H l m->∀x∈m,(tupleKind (am P w)).is h x.1 x.2.1:=by
  intro l m q
  induction q with
  |nil=>intro x hx;exact nomatch hx
  | @cons p q ps qs hq t ih=>
   intro x hx
   rcases Q3.mp hx with e|hx
   . subst e;exact mj ok (by rw [<-hq.1];exact hq.2.1)
   . exact ih x hx
 exact all r
theorem Bv(ok:HOk P w H h)(e:Rd H a (.dT kvs)):kvs.length<=sizeLine/\(a==sysModules)=false/\
 ∃xs,KT H kvs xs/\h.DictOfH (tupleKind (am P w)) a xs:=by
 obtain⟨z,y,xs,r,o,es,ep,h1,h2,h3,h4,h5,_⟩:=(show ObjOk P w H h a (.dT kvs)from Kh ok e)
 refine⟨z,y,xs,r,o,es,ep,h1,h2,h3,h4,λx hx=>?_,h5⟩;have all:∀{l:List (List bb×V)} {m:List (List bb×Addr×Value)},KT H l m->∀x∈m,(tupleKind (am P w)).is h x.1 x.2.1:=by
  intro l m q
  induction q with
  |nil=>intro x hx;exact nomatch hx
  | @cons p q ps qs hq t ih=>
   intro x hx
   rcases Q3.mp hx with e|hx
   . subst e;exact mj ok (by rw [<-hq.1];exact hq.2.1)
   . exact ih x hx
 exact all r x hx
end
def DGet(H:Hp)(a:Addr)(y:V)(r:Option V):Prop:=
 (∃kvs k,Rd H a (.dK kvs)/\y=kV k/\r=gw kvs k)\/∃kvs k b,Rd H a (.dT kvs)/\y=.ref b/\H b=some (.tup (k.map kV))/\r=gw kvs k
def DPut(H:Hp)(a:Addr)(y v:V)(H':Hp):Prop:=
 (∃kvs k,H a=some (.dK kvs)/\y=kV k/\kvs.length < sizeLine/\H'=bC H a (.dK (lD kvs k v)))\/
 ∃kvs k b,H a=some (.dT kvs)/\y=.ref b/\H b=some (.tup (k.map kV))/\kvs.length < sizeLine/\H'=bC H a (.dT (lD kvs k v))
variable {a:Addr}
theorem DGet.k {kvs:List (bb×V)}{k:bb}(e:H a=some (.dK kvs)):DGet H a (kV k) (gw kvs k):=.inl ⟨kvs,k,.inl e,rfl,rfl⟩
theorem DGet.t {b:Addr}{k:List bb}(e:H a=some (.dT kvs))(eb:H b=some (.tup (k.map kV))):DGet H a (.ref b) (gw kvs k):=.inr ⟨kvs,k,b,.inl e,rfl,eb,rfl⟩
theorem DPut.t {b:Addr}{k:List bb}{v:V}(e:H a=some (.dT kvs))(eb:H b=some (.tup (k.map kV)))(hl:kvs.length < sizeLine):
 DPut H a (.ref b) v (bC H a (.dT (lD kvs k v))):=.inr ⟨kvs,k,b,e,rfl,eb,hl,rfl⟩
section
variable {X:Cx} {pins:`k} {σ:St} {H:Hp} {s:Shared} {a:Addr} {y v:V} {u r:Value} {o:Option V} {A:Around} {E:`d}
theorem Inv.big(I:`h):sysModules < `a:=by
 have h:mainGlobals < `a:=(I.mod.glob.keeps I.bk).lt;exact Nat.lt_trans (by decide) h
theorem DO {Q:`d}(hu:A.units+1 < cLine)(I:`h)(g:DGet H a y (some v))(ry:RelV y u)(h:∀w' s',Inv X pins σ H s'->RelV v w'->Q w' s'):
 wpAny `i A (getItem (.ref a) u) Q E s:=by
 rcases g with ⟨kvs,k,e,ey,l⟩|⟨kvs,k,b,e,ey,eb,l⟩
 . subst ey;obtain⟨z,hd,vs,rel,dd⟩:=yK I.hok e;obtain⟨w',hw,rw'⟩:=RelO.some_of (v:=v) (o:=valueAt vs k) (by rw [l];exact rel.val k)
   exact wpAny_getItem_of (yJ ry) dd.mapOf hw (h w' _ (I.tok _) rw')
 . subst ey;cases (show u=Value.ref b from ry)
   obtain⟨z,hd,xs,rel,dd⟩:=Bv I.hok e;obtain⟨w',hw,rw'⟩:=RelO.some_of (v:=v) (o:=(atKey xs k).map (·.2)) (by rw [l];exact rel.val k)
   obtain⟨p,hp,hp2⟩:=Q0.mp hw;refine wpAny_getItem_heap (tupleKind_room_in1 hu) (mj I.hok eb) dd hp ?_;rw [hp2];exact h w' _ (I.tok _) rw'
theorem oF {h':Heap}{t':Nat}{ob:HO}(I:`h)(mu:NE (H a))(hs:Heap.SameBut a s.heap h')(he:∃q,h'.get? a=some q)(new:ObjOk X.prog X.w (bC H a ob) h' a ob):
 Inv X pins σ (bC H a ob) {s with heap:=h',toks:=t'}:=
 I.write (x:=a) (e:=a) mu (.inl rfl) (λb q hb z=>(hs.2 b hb).trans z) he new
theorem Ly {H':Hp}{h':Heap}{kvs:List (bb×V)}{vs:List (bb×Value)}(z:kvs.length<=sizeLine)(hd:(a==sysModules)=false)(rel:KV kvs vs)(dd:h'.DictOf (am P w) a vs):
 ObjOk P w H' h' a (.dK kvs):=⟨z,hd,vs,rel,dd⟩
theorem DP {H':Hp}{Q:Unit->Shared->Prop}(hu:A.units+1 < cLine)(I:`h)(g:DPut H a y v H')(ry:RelV y u)(rv:RelV v r)(h:∀s',Inv X pins σ H' s'->Q () s'):
 wpAny `i A (setItem (.ref a) u r) Q E s:=by
 rcases g with ⟨kvs,k,e,ey,l,eH⟩|⟨kvs,k,b,e,ey,eb,l,eH⟩
 . subst ey eH;obtain⟨z,hd,vs,rel,dd⟩:=N7 I.hok e;have hz:vs.length<=sizeLine:=by rw [<-rel.length];exact z
   have hl:(lD kvs k v).length<=sizeLine:=by have:=lI kvs k v;lia
   refine wpAny_setItem_pairs (hsz:=hz) (yJ ry) dd λh' dd' hs=>h _ ?_;have he:∃q,h'.get? a=some q:=let ⟨q,_,_,hq,_⟩:=dd';⟨q,hq⟩;exact oF I (by rw [e];exact True.intro) hs he (Ly hl hd (rel.put k rv) dd')
 . subst ey eH;cases (show u=Value.ref b from ry)
   obtain⟨z,hd,xs,rel,o,es,ep,h1,h2,h3,h4,h5,h6⟩:=(show ObjOk X.prog X.w H s.heap a (.dT kvs)from I.hok a _ e)
   have rel:KT H kvs xs:=rel;have hz:xs.length<=sizeLine:=by rw [<-Paired.length rel];exact z
   have hl:(lD kvs k v).length<=sizeLine:=by have:=lI kvs k v;lia
   refine Ae (tupleKind_room_in1 hu) (mj I.hok eb) h1 h2 h3 h4 (Fw I.hok rel) h5 h6 (λh' q es' hq g2 g3 g4 g5 hs=>h _ ?_) hz;refine oF I (by rw [e];exact True.intro) hs ⟨q,hq⟩ ⟨hl,hd,_,(rel.put k eb rv).keeps λc ys ec=>?_,q,es',_,hq,g2,g3,g4,g5,rfl⟩
   rw [aM (KY ec e (λz=>nomatch z))];exact ec
end
section
variable {X:Cx} {pins:`k} {σ:St} {H:Hp} {s:Shared} {a:Addr} {kvs:List (bb×V)} {k:bb} {u:Value} {A:Around} {E:`d}
end
def JK(i:Expr):Prop:=∀ov iv,subscripted i false ov iv=operate [ov,iv] (getItem ov iv)
variable {s:Shared}
theorem wX {prog:Program}{A:Around}{E:`d}{env:Env}{value slice:Expr}{pos:Pos}{T id:String}{Q:`d}
 (hl:typeLookup (.type T) "__getitem__"=pure (some (.builtin id))) (hs:JK slice)
 (h:wpAny `m A (eval value env) (λo s₁=>wpAny `m A (eval slice env) (λi s₂=>s₂.TypeIs o T/\wpAny `m A (getItem o i) Q E s₂) E s₁) E s):
 wpAny `m A (eval (.Subscript value slice pos) env) Q E s:=by
 refine Subscript_ (wpAny_mono h (λo s₁ h₁=>wpAny_mono h₁ (λi s₂ h₂=>?_) λ_ _ x=>x) λ_ _ x=>x);obtain⟨hT,h₂⟩:=h₂;unfold subscriptTail;refine wB ?_;rw [getitemInPython_of_ne hT.not_modules];refine wB (wpAny_specialOf hT hl ?_);have fin:wpAny `m A (subscripted slice false o i) (λr s₃=>wpAny `m A (letTemporaryGo value o r >>= λ_=>pure r) Q E s₃) E s₂:=by
  rw [hs o i];exact wpAny_operating (wpAny_mono h₂ (λr s₃ h₃=>wB (wpAny_letTemporaryGo (wP h₃))) λ_ _ x=>x)
 first
  |exact wP (wB fin)
  |exact wB (wP (wB fin))
  |exact wB fin
variable {pins:`k}
theorem yL {X:Cx}{σ:St}{y:V}{o:Option V}(I:`h)(g:DGet H a y o):s.TypeIs (.ref a) "dict":=by
 rcases g with ⟨kvs,k,e,_,_⟩|⟨kvs,k,b,e,_,_,_⟩
 . obtain⟨_,_,vs,_,dd⟩:=yK I.hok e;exact dd.typeIs
 . obtain⟨_,_,xs,_,dd⟩:=Bv I.hok e;exact dd.typeIs
def Ki(td ty:TE):TE:=λσ H Q=>td σ H λx H1=>ty σ H1 λy H2=>∃a v,x=.ref a/\DGet H2 a y (some v)/\Q v H2
def Kj(td ty tv:TE):TS:=λD σ H=>tv σ H λv H1=>td σ H1 λx H2=>ty σ H2 λy H3=>∃a H4,x=.ref a/\DPut H3 a y v H4/\D.nx σ H4
section
variable {X:Cx} {o i e value:Expr} {pos pos' tpos:Pos} {td ty tv:TE}
theorem JL(hu:X.A.units+1 < cLine)(ho:PE X o td)(hi:PE X i ty)(hs:JK i):PE X (.Subscript o i pos) (Ki td ty):=by
 intro pins s σ H Q I h;refine wX PySem.F.slot_dict_getitem.lookup hs (bq (ho pins s σ H _ I h) λu s1 ⟨x,H1,I1,rx,q1⟩=>bq (hi pins s1 σ H1 _ I1 q1) λiv s2 q_=>?_);obtain⟨y,H2,I2,ry,a,v,ex,g,q2⟩:=q_;subst ex;obtain rfl:u=Value.ref a:=rx;exact⟨yL I2 g,DO hu I2 g ry λw' s3 I3 rw'=>⟨v,H2,I3,rw',q2⟩⟩
theorem JM(hu:X.A.units+1 < cLine)(ho:PE X o td)(hi:PE X i ty)(hv:PE X value tv)(hs:swapsWith value (some (.Subscript o i pos')) pos.line X.env=pure false):
 PS X (.Assign [.Subscript o i pos'] value pos) (Kj td ty tv):=by
 intro pins s σ H D I h;refine wpAny_Assign_Subscript (bq (hv pins s σ H _ I h) λr s1 ⟨v,H1,I1,rv,q1⟩=>bq (ho pins s1 σ H1 _ I1 q1) λu s2 ⟨x,H2,I2,rx,q2⟩=>bq (hi pins s2 σ H2 _ I2 q2) λiv s3 q_=>?_) hs;obtain⟨y,H3,I3,ry,a,H4,ex,g,q3⟩:=q_;subst ex;obtain rfl:u=Value.ref a:=rx;exact DP hu I3 g ry rv λs4 I4=>⟨σ,H4,I4,q3⟩
end
theorem Fy(h:Heap)(hb:sysModules < h.objs.size):ObjOk P w H (h.push {cls:=.type "dict",data:=.dict #[]}) h.objs.size (.dT []):=
 ⟨zU _,beq_eq_false_iff_ne.mpr (Ne.symm (jG hb)),[],.nil,_, #[],0,fU _ rfl,⟨rfl,rfl,rfl⟩,rfl,rfl,List.nodup_nil,rfl⟩
def Fz:TE:=λ_ H Q=>∀p,H p=none->Q (.ref p) (bC H p (.dT []))
section
variable {X:Cx} {pos:Pos}
theorem yM:PE X (.Dict [] [] pos) Fz:=λpins s σ H Q I h=>
 wpAny_Dict_empty ⟨.ref `a,_,I.laid (a:=`a) (o:=.dT []) (t':=s.toks) (λ_ _ q=>df _ q) (Q1 _) (Fy s.heap I.big),rfl,h _ (I.hok.fresh (Q1 _))⟩
end
structure M1 (X:Cx) (o:Expr) (m:Str) (apos:Pos) (e:Expr) (cpos:Pos):Prop where
 base:attributeBase o m X.env (eval o X.env)=eval o X.env
 few:((backTo cpos (starEach [e] X.env)).all (λx=> !x.1)&&(backToKw cpos (keywordEach [] X.env)).all (λx=>x.1.isSome)
  &&decide (([e]:List Expr).length+([]:List Keyword).length+(if([]:List Keyword).isEmpty then 0 else 1) < 30))=true
 line:(apos.endLine==cpos.line)=true
 trees:backTo cpos (starEach [e] X.env)=[(false,eval e X.env)]
structure M2 (X:Cx) (o:Expr) (m:Str) (apos:Pos) (e f:Expr) (cpos:Pos):Prop where
 base:attributeBase o m X.env (eval o X.env)=eval o X.env
 few:((backTo cpos (starEach [e,f] X.env)).all (λx=> !x.1)&&(backToKw cpos (keywordEach [] X.env)).all (λx=>x.1.isSome)
  &&decide (([e,f]:List Expr).length+([]:List Keyword).length+(if([]:List Keyword).isEmpty then 0 else 1) < 30))=true
 line:(apos.endLine==cpos.line)=true
 trees:backTo cpos (starEach [e,f] X.env)=[(false,eval e X.env),(false,eval f X.env)]
def JN(H:Hp)(a:Addr):Prop:=(∃kvs,Rd H a (.dK kvs))\/∃kvs,Rd H a (.dT kvs)
theorem GA {X:Cx}{σ:St}(I:`h)(d:JN H a):
 s.TypeIs (.ref a) "dict"/\(∀b,Value.ref a=.ref b->∃ob,s.heap.get? b=some ob/\ob.dict=none)/\(a==sysModules)=false:=by
 rcases d with ⟨kvs,e⟩|⟨kvs,e⟩
 . obtain⟨_,hd,vs,_,dd⟩:=yK I.hok e;refine⟨dd.typeIs,λb q=>?_,hd⟩;cases q;obtain⟨ob,_,_,h1,h2,_⟩:=dd;exact⟨ob,h1,h2.2.1⟩
 . obtain⟨_,hd,xs,_,dd⟩:=Bv I.hok e;refine⟨dd.typeIs,λb q=>?_,hd⟩;cases q;obtain⟨ob,_,_,h1,h2,_⟩:=dd;exact⟨ob,h1,h2.2.1⟩
section
variable {X:Cx} {pins:`k} {σ:St} {H:Hp} {s:Shared} {a:Addr} {y d:V} {u r:Value} {o:Option V} {A:Around} {E:`d}
theorem Lz {Q:`d}(hu:A.units+1 < cLine)(I:`h)(g:DGet H a y o)(ry:RelV y u)(rd:RelV d r)(h:∀w' s',Inv X pins σ H s'->RelV (o.getD d) w'->Q w' s'):
 wpAny `i A (call (.builtin "dict.get") [.ref a,u,r]) Q E s:=by
 rcases g with ⟨kvs,k,e,ey,l⟩|⟨kvs,k,b,e,ey,eb,l⟩
 . subst ey;obtain⟨z,hd,vs,rel,dd⟩:=yK I.hok e;refine call_meetsIn PySem.F.slot_dict_get dd.typeIs PySem.F.entry_dict_get (PySem.F.args_dict_get_3 _ _ _) (meets_dict_get_default (am X.prog X.w) a (yJ ry) hd r) ⟨_,dd.mapOf,h _ _ (I.tok _) ?_⟩;rw [l];exact(rel.val k).getD rd
 . subst ey;cases (show u=Value.ref b from ry)
   obtain⟨z,hd,xs,rel,dd⟩:=Bv I.hok e;refine call_meetsIn PySem.F.slot_dict_get dd.typeIs PySem.F.entry_dict_get (PySem.F.args_dict_get_3 _ _ _) (meetsH_dict_get_default (tupleKind (am X.prog X.w)) a b hd r) ⟨tupleKind_room_in1 hu,k,xs,mj I.hok eb,dd,h _ _ (I.tok _) ?_⟩;rw [l];exact(rel.val k).getD rd
end
def GD(td ty tx:TE):TE:=λσ H Q=>td σ H λx H1=>∃a,x=.ref a/\JN H1 a/\ty σ H1 λy H2=>tx σ H2 λz H3=>∃o,DGet H3 a y o/\Q (o.getD z) H3
section
variable {X:Cx} {o e f:Expr} {apos cpos:Pos} {td ty tx:TE}
theorem GE(hu:X.A.units+1 < cLine)(ho:PE X o td)(he:PE X e ty)(hf:PE X f tx)(m:M2 X o "get" apos e f cpos):PE X (.Call (.Attribute o "get" apos) [e,f] [] cpos) (GD td ty tx):=by
 intro pins s σ H Q I h;refine wpAny_Call_method m.base m.few m.line PySem.F.plainAttrs_dict PySem.F.slot_dict_get PySem.F.type_dict_get (bq (ho pins s σ H _ I h) λu s1 q_=>?_);obtain⟨x,H1,I1,rx,a,ex,d,q1⟩:=q_;subst ex;obtain rfl:u=Value.ref a:=rx;obtain⟨t1,t2,_⟩:=GA I1 d;refine⟨t1,t2,?_⟩;rw [m.trees];refine Calls.callWith_builtin rfl (Calls.evalArgs_plain (Calls.spliced_cons (bq (he pins s1 σ H1 _ I1 q1) λiv s2 ⟨y,H2,I2,ry,q2⟩=>
  Calls.spliced_cons (bq (hf pins s2 σ H2 _ I2 q2) λfv s3 ⟨z,H3,I3,rz,ov,g,q3⟩=>Calls.spliced_nil ?_))))
 exact Lz hu I3 g ry rz λw' s4 I4 rw'=>⟨_,H3,I4,rw',q3⟩
end
section
variable {X:Cx} {pins:`k} {σ:St} {H:Hp} {s:Shared} {a:Addr} {kvs:List (bb×V)} {A:Around} {E:`d}
end
section
variable {X:Cx} {pins:`k} {σ:St} {H:Hp} {s:Shared} {a:Addr} {y:V} {u:Value} {A:Around} {E:`d}
end
end L2
namespace DL
open PySem L2
section
variable {K:Fg} {H0 F0 F:Hp} {σ:St} {H:Hp} {δ:aS}
theorem Rep.setD(R:Rep K H0 F0 F σ H δ){i:Nat}{a:Addr}{m:HO}{kvs:List (PyData×PyData)}(ha:H a=some m)(hf:F a=none)(h0:H0 a=none)(h:DcO K F m kvs)
 (hn:∀j es,j≠i->δ[j]? =some (some (.od es))->σ[j]? ≠some (some (.ref a))):Rep K H0 F0 F (σ.set i (some (.ref a))) H (δ.set i (some (.od kvs))) where
 g:=R.g
 len:=by rw [Q9,Q9];exact R.len
 fz:=λj e q=>by
  rcases aa q with ⟨rfl,z⟩|⟨n,q⟩
  . cases z
  . rw [ae n];exact R.fz j e q
 ow:=λj es q=>by
  rcases aa q with ⟨rfl,z⟩|⟨n,q⟩
  . cases z
  . rw [ae n];exact R.ow j es q
 ap:=λj k ds es b q1 q2 q3 q4=>by
  rcases aa q1 with ⟨rfl,z⟩|⟨n1,q1⟩
  . cases z
  . rcases aa q2 with ⟨rfl,z⟩|⟨n2,q2⟩
    . cases z
    . rw [ae n1]at q3;rw [ae n2]at q4;exact R.ap j k ds es b q1 q2 q3 q4
 od:=λj es q=>by
  have hj:=dm q;rw [Q9]at hj
  rcases aa q with ⟨rfl,z⟩|⟨n,q⟩
  . injection z with z
    injection z with z
    subst z;exact⟨a,m,jp (by rw [R.len];exact hj),ha,hf,h0,h⟩
  . rw [ae n];exact R.od j es q
 ad:=λj k ds' es' b q1 q2 q3 q4=>by
  have hj:=dm q1;have hk:=dm q2;rw [Q9]at hj hk
  rcases aa q1 with ⟨ej,z⟩|⟨n1,p1⟩
  . rcases aa q2 with ⟨ek,z2⟩|⟨n2,p2⟩
    . rw [ej,ek]
    . rw [ej,jp (by rw [R.len, <-ej];exact hj)]at q3
      rw [ae n2]at q4;cases q3;exact absurd q4 (hn k es' n2 p2)
  . rcases aa q2 with ⟨ek,z⟩|⟨n2,p2⟩
    . rw [ek,jp (by rw [R.len, <-ek];exact hk)]at q4
      rw [ae n1]at q3;cases q4;exact absurd q3 (hn j ds' n1 p1)
    . rw [ae n1]at q3;rw [ae n2]at q4;exact R.ad j k ds' es' b p1 p2 q3 q4
 tb:=R.tb
theorem Rep.mutD(R:Rep K H0 F0 F σ H δ){i:Nat}{a:Addr}{m:HO}{es ds:List (PyData×PyData)}(e:δ[i]? =some (some (.od es)))(hs:σ[i]? =some (some (.ref a)))(hf:F a=none)(h0:H0 a=none)(h:DcO K F m ds):
 Rep K H0 F0 F σ (bC H a m) (δ.set i (some (.od ds))) where
 g:=⟨R.g.f,λb u q=>by rw [aM (aQ q hf)];exact R.g.s b u q,λb u q=>by rw [aM (aQ q h0)];exact R.g.h b u q,R.g.o⟩
 len:=by rw [Q9];exact R.len
 fz:=λj d q=>by
  rcases aa q with ⟨rfl,z⟩|⟨n,q⟩
  . cases z
  . exact R.fz j d q
 ow:=λj us q=>by
  rcases aa q with ⟨rfl,z⟩|⟨n,q⟩
  . cases z
  . obtain⟨b,m,q1,q2,q3,q4,q5⟩:=R.ow j us q;have nb:b≠a:=λz=>by
     subst z;obtain⟨b2,ys,w1,w2,_,_,w5⟩:=R.od i es e;rw [hs]at w1;cases w1;rw [q2]at w2;exact w5.nlst _ (zV w2).symm
    exact⟨b,m,q1,by rw [aM nb];exact q2,q3,q4,q5⟩
 ap:=λj k ds' es' b q1 q2 q3 q4=>by
  rcases aa q1 with ⟨rfl,z⟩|⟨n1,q1⟩
  . cases z
  . rcases aa q2 with ⟨rfl,z⟩|⟨n2,q2⟩
    . cases z
    . exact R.ap j k ds' es' b q1 q2 q3 q4
 od:=λj us q=>by
  rcases aa q with ⟨rfl,z⟩|⟨n,q⟩
  . injection z with z
    injection z with z
    subst z;exact⟨a,m,hs,aR,hf,h0,h⟩
  . obtain⟨b,ys,q1,q2,q3,q4,q5⟩:=R.od j us q;have nb:b≠a:=λz=>by subst z;exact n (R.ad j i us es b q e q1 hs)
    exact⟨b,ys,q1,by rw [aM nb];exact q2,q3,q4,q5⟩
 ad:=λj k ds' es' b q1 q2 q3 q4=>by
  have f:∀{m:Nat} {us:List (PyData×PyData)},(δ.set i (some (Sl.od ds)))[m]? =some (some (Sl.od us))->∃us':List (PyData×PyData),δ[m]? =some (some (Sl.od us')):=λ{m us} q=>by
   rcases aa q with ⟨em,z⟩|⟨n,q⟩
   . exact⟨es,by rw [em];exact e⟩
   . exact⟨us,q⟩
  obtain⟨u1,p1⟩:=f q1;obtain⟨u2,p2⟩:=f q2;exact R.ad j k u1 u2 b p1 p2 q3 q4
 tb:=R.tb
end
section
variable {K:Fg}
noncomputable def sS(i:Nat)(δ:aS):Option DFlow:=some (.nx (δ.set i (some (.od []))))
theorem Bw(i:Nat):SS K (iW Fz (cV i)) (sS i):=by
 intro H0 F0 F σ H δ r D R e h;cases e;intro p hp;have g1:Grow F H F (bC H p (.dT [])):=Grow.fresh R.g.s hp;refine h F _ _ ((R.grow g1).setD aR (R.g.s.free hp) (R.g.h.free hp) (.inl ⟨[],rfl,rfl⟩) λj es nj ej=>?_) (Same.refl _);obtain⟨b,ys,q1,q2,_⟩:=R.od j es ej;rw [q1];intro z;cases z;rw [q2]at hp;cases hp
def GF(kvs:List (PyData×PyData))(k:`f)(v:PyData):List (PyData×PyData):=
 if(kvs.any λp=>decide (dU p.1=some k))=true then kvs.map λp=>if dU p.1=some k then(p.1,v)else p else kvs++[(.tuple (k.map .int),v)]
end
section
variable {K:Fg}
variable {k:`f}
theorem oG {q:List bb}:dU (.tuple (q.map kD))=some k↔q=k.map Sum.inl:=by
 constructor
 . intro h;exact wW (cB h)
 . intro h;subst h;show ee ((k.map Sum.inl).map kD)=some k;rw [zO];exact bM k
variable {F:Hp}
theorem Bx:∀{m:List (List bb×V)} {kvs:List (PyData×PyData)},Kvs K F m kvs->m.length=kvs.length
 |_,[],h=>by rw [show _=[]from h];rfl
 |_,p::r,h=>by
  obtain⟨q,m',rfl,_,h2⟩:=h;rw [zC,zC,Bx h2]
theorem By:∀{m:List (List bb×V)} {kvs:List (PyData×PyData)},Kvs K F m kvs->(m.any λkv=>decide (kv.1=k.map Sum.inl))=kvs.any λp=>decide (dU p.1=some k)
 |_,[],h=>by rw [show _=[]from h];rfl
 |_,(pk,pd)::r,h=>by
  obtain⟨q,m',rfl,⟨h1,_⟩,h2⟩:=h;rw [EV,EV,By h2,h1];congr 1
  exact decide_eq_decide.mpr oG.symm
variable {d:PyData}
theorem yN {v:V}(hv:Is K F v d):∀{m:List (List bb×V)} {kvs:List (PyData×PyData)},Kvs K F m kvs->Kvs K F (m.map λkv=>if kv.1=k.map Sum.inl then(kv.1,v)else kv) (kvs.map λp=>if dU p.1=some k then(p.1,d)else p)
 |_,[],h=>by rw [show _=[]from h];exact rfl
 |_,(pk,pd)::r,h=>by
  obtain⟨q,m',rfl,⟨h1,h3⟩,h2⟩:=h;refine⟨_,_,rfl,?_,yN hv h2⟩;show Kv K F (if q.1=k.map Sum.inl then(q.1,v)else q) (if dU pk=some k then(pk,d)else(pk,pd))
  by_cases e:q.1=k.map Sum.inl
  . rw [if_pos e,if_pos (by rw [h1];exact oG.mpr e)]
    exact⟨h1,hv⟩
  . rw [if_neg e,if_neg (by rw [h1];exact λz=>e (oG.mp z))]
    exact⟨h1,h3⟩
theorem yO {k:List bb}{v:V}(hv:Is K F v d):∀{m:List (List bb×V)} {kvs:List (PyData×PyData)},Kvs K F m kvs->Kvs K F (m++[(k,v)]) (kvs++[(.tuple (k.map kD),d)])
 |_,[],h=>by rw [show _=[]from h];exact⟨(k,v),[],rfl,⟨rfl,hv⟩,rfl⟩
 |_,p::r,h=>by
  obtain⟨q,m',rfl,h1,h2⟩:=h;exact⟨q,_,rfl,h1,yO hv h2⟩
theorem JO {v:V}(hv:Is K F v d){m:List (List bb×V)}{kvs:List (PyData×PyData)}(h:Kvs K F m kvs):Kvs K F (lD m (k.map Sum.inl) v) (GF kvs k d):=by
 unfold lD GF;rw [By h];split
 . exact yN hv h
 . have:=yO (k:=k.map Sum.inl) hv h;rw [zO]at this;exact this
noncomputable def Kk:List (PyData×PyData)->Bool
 |(.none,_)::_=>false
 |_=>true
theorem GG {m:List (bb×V)}{kvs:List (PyData×PyData)}(h:KvsS K F m kvs):Kk kvs=false:=by
 cases kvs with
 |nil=>exact h.elim
 |cons p r=>
  obtain⟨rfl,_⟩:=h;rfl
def GH(i:Nat)(fk fv:aS->Option PyData)(δ:aS):Option DFlow:=(fv δ).bind λv=>(fk δ).bind λk=>match δ[i]? with
 |some (some (.od kvs))=>(dU k).bind λks=>if kvs.length < fD then if Kk kvs=true then some (.nx (δ.set i (some (.od (GF kvs ks v)))))else none else none
 |_=>none
theorem JQ(i:Nat){tv ty:TE}{fk fv:aS->Option PyData}(b:SE K ty fk)(a:SE K tv fv):SS K (Kj (bJ i) ty tv) (GH i fk fv):=by
 intro H0 F0 F σ H δ r D R e h;obtain⟨v,e1,e⟩:=bind_some e;obtain⟨kk,e2,e⟩:=bind_some e;split at e
 . rename_i kvs q;obtain⟨ks,e3,e⟩:=bind_some e;split at e
   . rename_i hl;split at e
     rotate_left
     . cases e
     rename_i ht;cases e;obtain⟨p,o,q1,q2,q3,q4,q5⟩:=R.od i kvs q;refine a H0 F0 F σ H δ v _ R e1 λx H1 F1 g1 i1=>⟨.ref p,q1,b H0 F0 F1 σ H1 δ kk _ (R.grow g1) e2 λy H2 F2 g2 i2=>?_⟩;unfold dU at e3;split at e3
     . rename_i ds;obtain⟨c,xs,rfl,w1,w2⟩:=i2;rw [cB e3]at w2;have w3:=Are.ints.mp w2;subst w3;have hm:H2 p=some o:=g2.h _ _ (g1.h _ _ q2);have hc:H2 c=some (.tup ((ks.map (Sum.inl:Int->bb)).map kV)):=by
        rw [jf];exact g2.s _ _ w1
       have g:=g1.trans g2
       rcases q5 with ⟨m,rfl,q5⟩|⟨m,rfl,q5⟩
       . refine⟨p,_,rfl,DPut.t hm hc (by rw [Bx q5];exact lF (AF hl)),?_⟩
         exact h F2 σ _ ((R.grow g).mutD q q1 (g.o _ _ q2 (λ_ z=>nomatch z) q3) q4 (.inl ⟨_,rfl,JO (i1.same g2.f) (Kvs.same g.f _ q5)⟩)) g.f
       . rw [GG q5]at ht;cases ht
     . cases e3
   . cases e
 . cases e
end
end DL
namespace L2
open PySem PySem.Spec PyProof.Rows
mutual
noncomputable def pI:PyData->PyData->Option Bool
 | .int i,.int j=>some (decide (i < j))
 | .bool p,.bool q=>some (decide (b2i p < b2i q))
 | .tuple xs,.tuple ys=>ltL xs ys
 |_,_=>none
noncomputable def ltL:List PyData->List PyData->Option Bool
 |[],[]=>some false
 |[],_::_=>some true
 |_::_,[]=>some false
 |x::xs,y::ys=>if PyData.eqv x y=true then ltL xs ys else pI x y
end
def DQ(A:Around)(s:Shared)(a b:Value)(r:Bool):Prop:=
 ∀(prog:Program) (w:World) (E:`d) (Q:`d),Q (.bool r) s->wpAny `m A (richCompare .Lt a b) Q E s
noncomputable def yP(A:Around)(s:Shared)(fin:Bool):List Value->List Value->Bool->Prop
 |v::vs,w::ws,r=>(SeqAt.EqAt A s v w true/\yP A s fin vs ws r)\/(SeqAt.EqAt A s v w false/\DQ A s v w r)
 |_,_,r=>r=fin
section
open PySem.SeqAt
open PySem.AutoSeq1 (wpAny_loadPart')
open PySem.MeetsSeq PySem.MeetsSeq2 PySem.MeetsSeq3
theorem wY(l b:Addr)(items items2:Array Value)(n n2:Nat)(dd dd2:Option Addr)(sl sl2:Array (Option Value))(r:Bool):
 Meets (Builtin.«tuple.__lt__» ⟨[.ref l,.ref b],[]⟩)
  (λ A R s => s.heap.get? l = some { cls := .type "tuple", dict := dd, data := .seq items n, slots := sl } /\ s.heap.get? b = some { cls := .type "tuple", dict := dd2, data := .seq items2 n2, slots := sl2 } /\
   yP A.in1 s (decide (items.size < items2.size)) items.toList items2.toList r/\R (.ok (.ret (.bool r))) s):=
 .of_wp λprog w A R s h=>by
  obtain⟨hp,g,d,tk,os⟩:=s;obtain⟨hl,hb,hx,h⟩:=h;have f2:=AutoSeq1.sub_tuple_tuple
  wp_walk using wpAny_loadPart' hl,wpAny_loadPart' hb,wpAny_forIn_list _ (λcI b s'=>b.1=none/\s'=⟨hp,g,d,tk,os⟩/\∃(vs ws:List Value),cI=vs.zip ws/\
   yP A.in1 ⟨hp,g,d,tk,os⟩ (decide (items.size < items2.size)) vs ws r) _
  case turn=>
   rintro⟨y,x⟩ cI b s' ⟨hb',rfl,vs,ws,hz,hL⟩;cases vs with
   |nil=>rw [List.zip_nil_left]at hz;cases hz
   |cons v vs=>
    cases ws with
    |nil=>rw [List.zip_nil_right]at hz;cases hz
    |cons u ws=>
     rw [List.zip_cons_cons]at hz;injection hz with hyx hrest
     injection hyx with hy hx
     subst hy hx
     rcases hL with ⟨he,hL⟩|⟨he,hlt⟩
     . refine wB (he prog w _ _ ?_)
       wp_walk
       exact⟨rfl,rfl,_,_,hrest,hL⟩
     . refine wB (he prog w _ _ ?_);have hri:=hlt prog w
       wp_walk using hri
       exact⟨_,rfl,by simpa using h⟩
  case fin=>
   rintro⟨b1,b2⟩ s' ⟨hb',rfl,vs,ws,hz,hL⟩;simp only at hb';subst hb';have hv:r=decide (items.size < items2.size):=by
    cases vs with
    |nil=>cases ws<;>exact hL
    |cons v vs=>
     cases ws with
     |nil=>exact hL
     |cons u ws=>rw [List.zip_cons_cons]at hz;cases hz
   subst hv
   wp_walk
   exact⟨_,rfl,by simpa [Builtin.Tuple.tupleCompareSizes]using h⟩
  case h=>
   exact⟨rfl,rfl,items.toList,items2.toList,rfl,hx⟩
end
theorem GI {A:Around}{s:Shared}{l b:Addr}{items items2:Array Value}{r:Bool}(hl:s.heap.IsTuple l items)(hb:s.heap.IsTuple b items2)(hu:A.units < cLine)(hx:yP A.in1 s (decide (items.size < items2.size)) items.toList items2.toList r):
 DQ A s (.ref l) (.ref b) r:=by
 intro prog w E Q h;obtain⟨⟨cls,dd,data,sl⟩,ho,hc,n,hd⟩:=id hl;obtain⟨⟨cls2,dd2,data2,sl2⟩,ho2,hc2,n2,hd2⟩:=id hb;simp only at hc hd hc2 hd2;subst hc hd hc2 hd2;exact richCompare_meets_room (op:=.Lt) ⟨_,ho,rfl⟩ ⟨_,ho2,rfl⟩ PySem.F.slot_tuple_lt PySem.F.entry_tuple_lt (PySem.F.args_tuple_lt_2 _ _) (wY l b items items2 n n2 dd dd2 sl sl2 r)
  ⟨ho,ho2,hx,show Value.bool r≠Value.notImplemented/\Q (.bool r) s from ⟨(λx=>nomatch x),h⟩⟩ hu
open PySem.SeqAt (room_here room_in room_head room_tail)
theorem Bz {xs ys:`g}{r:Bool}(h:ltL xs ys=some r)(e:xs=[]\/ys=[]):r=decide (xs.length < ys.length):=by
 cases xs with
 |nil=>
  cases ys with
  |nil=>cases h;rfl
  |cons y ys=>cases h;simp
 |cons x xs=>
  cases ys with
  |nil=>cases h;simp
  |cons y ys=>rcases e with e|e<;>cases e
mutual
theorem jv:∀(da db:PyData) (A:Around) (s:Shared) (a b:Value) (as bs:List Addr) (r:Bool),Reads s.heap a da as->Reads s.heap b db bs->da.canLay0=true->db.canLay0=true->
 A.units+min da.depth db.depth < cLine->pI da db=some r->DQ A s a b r
 | .int x,db,A,s,_,_,_,_,r,ra,rb,_,hb,hu,e=>by
  cases ra with
  |int _ t=>
   cases rb with
   |int y u=>
    cases e;exact λprog w E Q h=>(PyProof.Rows.lt_int h:wpAny `m A (compareOp .Lt _ _) Q E s)
   |_=>cases e
 | .bool x,db,A,s,_,_,_,_,r,ra,rb,_,hb,hu,e=>by
  cases ra;cases rb with
  |bool y=>
   cases e;exact λprog w E Q h=>(PyProof.Rows.lt_bool h:wpAny `m A (compareOp .Lt _ _) Q E s)
  |_=>cases e
 | .tuple xs,db,A,s,_,_,_,_,r,ra,rb,ha,hb,hu,e=>by
  cases ra with
  | @tuple l o vs n _ as₁ h1 h2 h3 h4=>
   cases rb with
   | @tuple l' o' vs' n' ys bs₁ k1 k2 k3 k4=>
    have hl:s.heap.IsTuple l vs:=⟨_,h1,h2,_,h3⟩;have hl':s.heap.IsTuple l' vs':=⟨_,k1,k2,_,k3⟩;have n1:vs.size=xs.length:=by simpa using SeqAt.ReadsAll.length _ _ _ h4
    have n2:vs'.size=ys.length:=by simpa using SeqAt.ReadsAll.length _ _ _ k4
    refine GI hl hl' (room_here hu) ?_;have e2:ltL xs ys=some r:=by rw [pI]at e;exact e
    exact lexAt_reads xs ys A.in1 s vs.toList vs'.toList _ _ r _ h4 k4 ha hb (room_in hu) e2 ⟨0,by rw [n1,n2];rfl⟩
   |_=>simp [pI]at e
 | .none,_,_,_,_,_,_,_,_,_,_,_,_,_,e=>by simp [pI]at e
 | .str _,_,_,_,_,_,_,_,_,_,_,_,_,_,e=>by simp [pI]at e
 | .list _,_,_,_,_,_,_,_,_,_,_,_,_,_,e=>by simp [pI]at e
 | .dict _,_,_,_,_,_,_,_,_,_,_,_,_,_,e=>by simp [pI]at e
theorem lexAt_reads:∀(xs ys:`g) (A:Around) (s:Shared) (vs ws:List Value) (as bs:List Addr) (r fin:Bool),ReadsAll s.heap vs xs as->ReadsAll s.heap ws ys bs->PyData.canLayAll0 xs=true->PyData.canLayAll0 ys=true->
 A.units+min (PyData.depthAll xs) (PyData.depthAll ys) < cLine->ltL xs ys=some r->(∃k,fin=decide (xs.length+k < ys.length+k))->yP A s fin vs ws r
 |[],ys,A,s,_,ws,_,_,r,fin,ra,rb,_,_,_,e,⟨k,hf⟩=>by
  cases ra;have q:=Bz e (.inl rfl);rw [hf,q];show decide _=decide _;exact decide_eq_decide.mpr `e
 |x::xs,[],A,s,_,_,_,_,r,fin,ra,rb,_,_,_,e,⟨k,hf⟩=>by
  cases rb;have q:=Bz e (.inr rfl);cases ra;rw [hf,q];show decide _=decide _;exact decide_eq_decide.mpr `e
 |x::xs,y::ys,A,s,_,_,_,_,r,fin,ra,rb,ha,hb,hu,e,⟨k,hf⟩=>by
  have ha':x.canLay0=true/\PyData.canLayAll0 xs=true:=by simpa [PyData.canLayAll0]using ha
  have hb':y.canLay0=true/\PyData.canLayAll0 ys=true:=by simpa [PyData.canLayAll0]using hb
  cases ra with
  |cons r1 rs=>
   cases rb with
   |cons r1' rs'=>
    have eq:=SeqAt.eqAt_reads x y A s _ _ _ _ r1 r1' ha'.1 hb'.1 (room_head hu);rw [ltL]at e
    by_cases c:PyData.eqv x y=true
    . rw [if_pos c]at e;rw [c]at eq;exact .inl ⟨eq,lexAt_reads xs ys A s _ _ _ _ r fin rs rs' ha'.2 hb'.2 (room_tail hu) e ⟨k+1,by rw [hf];exact decide_eq_decide.mpr (by simp only [zC];lia)⟩⟩
    . rw [if_neg c]at e;have c':PyData.eqv x y=false:=by simpa using c
      rw [c']at eq;exact .inr ⟨eq,jv x y A s _ _ _ _ r r1 r1' ha'.1 hb'.1 (room_head hu) e⟩
end
end L2
namespace DL
open PySem L2
section
variable {K:Fg}
noncomputable def Kl(n:Int):PyData->Bool
 | .int i=>decide (i=n)
 |_=>false
theorem MA {n:Int}(q:bb):Kl n (kD q)=decide (q=Sum.inl n):=by
 cases q with
 |inl i=>exact decide_eq_decide.mpr ⟨λe=>by rw [e],λe=>Sum.inl.inj e⟩
 |inr x=>exact(decide_eq_false (λe=>nomatch e)).symm
def QE(kvs:List (PyData×PyData))(k:Int)(v:PyData):List (PyData×PyData):=
 if(kvs.any λp=>Kl k p.1)=true then kvs.map λp=>if Kl k p.1=true then(p.1,v)else p else kvs++[(.int k,v)]
noncomputable def MB(K:Fg)(F:Hp)(ov:Option V):Option PyData->Prop
 |none=>ov=none
 |some d=>∃v,ov=some v/\Is K F v d
noncomputable def Af(n:Int):List (PyData×PyData)->Option (Option PyData)
 |(.none,.none)::r=>some ((r.find? λp=>Kl n p.1).map (·.2))
 |_=>none
noncomputable def sU(kvs:List (PyData×PyData)):PyData->Option (Option PyData)
 | .int n=>Af n kvs
 | .tuple ds=>(ee ds).bind λks=>if Kk kvs=true then some ((kvs.find? λp=>decide (dU p.1=some ks)).map (·.2))else none
 |_=>none
variable {F:Hp}
theorem yQ {k:`f}:∀{m:List (List bb×V)} {kvs:List (PyData×PyData)},Kvs K F m kvs->MB K F (gw m (k.map Sum.inl)) ((kvs.find? λp=>decide (dU p.1=some k)).map (·.2))
 |_,[],h=>by rw [show _=[]from h];rfl
 |_,(pk,pd)::r,h=>by
  obtain⟨q,m',rfl,⟨h1,h3⟩,h2⟩:=h;have ih:=yQ (k:=k) h2;unfold gw at ih ⊢
  by_cases e:q.1=k.map Sum.inl
  . rw [C7 (by exact decide_eq_true e),C7 (by show decide _=true;rw [h1];exact decide_eq_true (oG.mpr e))]
    exact⟨_,rfl,h3⟩
  . rw [B2 (by exact λz=>e (of_decide_eq_true z)),B2 (by show ¬decide _=true;rw [h1];exact λz=>e (oG.mp (of_decide_eq_true z)))]
    exact ih
theorem vU {k:Int}:∀{m:List (bb×V)} {kvs:List (PyData×PyData)},KvsI K F m kvs->MB K F (gw m (Sum.inl k)) ((kvs.find? λp=>Kl k p.1).map (·.2))
 |_,[],h=>by rw [show _=[]from h];rfl
 |_,(pk,pd)::r,h=>by
  obtain⟨q,m',rfl,⟨h1,h3⟩,h2⟩:=h;have ih:=vU (k:=k) h2;have e0:Kl k pk=decide (q.1=Sum.inl k):=by rw [h1];exact MA q.1
  unfold gw at ih ⊢
  by_cases e:q.1=Sum.inl k
  . rw [C7 (by exact decide_eq_true e),C7 (by show Kl k pk=true;rw [e0];exact decide_eq_true e)]
    exact⟨_,rfl,h3⟩
  . rw [B2 (by exact λz=>e (of_decide_eq_true z)),B2 (by show ¬Kl k pk=true;rw [e0,decide_eq_false e];decide)]
    exact ih
variable {kvs:List (PyData×PyData)}{H:Hp}
theorem CA {a:Addr}{o:HO}{y:V}{k:PyData}{r:Option PyData}(s:Same F H)(ha:H a=some o)(hd:DcO K F o kvs)(hy:Is K F y k)(e:sU kvs k=some r):
 ∃ov,DGet H a y ov/\MB K F ov r:=by
 cases k with
 |int n=>
  cases (show y=V.int n from hy)
  have e:Af n kvs=some r:=e;unfold Af at e;split at e
  . rename_i kr;cases e
    rcases hd with ⟨m,rfl,q⟩|⟨m,rfl,q⟩
    . obtain⟨z,m',_,q6,_⟩:=q;cases q6.1
    . exact⟨_,DGet.k (k:=Sum.inl n) ha,vU q.2⟩
  . cases e
 |tuple ds=>
  obtain⟨ks,e1,e2⟩:=bind_some (show ((ee ds).bind λks=>if Kk kvs=true then some ((kvs.find? λp=>decide (dU p.1=some ks)).map (·.2))else none)=some r from e)
  split at e2
  . rename_i ht;cases e2;obtain⟨c,xs,rfl,w1,w2⟩:=hy;rw [cB e1]at w2;have w3:=Are.ints.mp w2;subst w3;have hc:H c=some (.tup ((ks.map (Sum.inl:Int->bb)).map kV)):=by
     rw [jf];exact s _ _ w1
    rcases hd with ⟨m,rfl,q⟩|⟨m,rfl,q⟩
    . exact⟨_,DGet.t ha hc,yQ q⟩
    . rw [GG q]at ht;cases ht
  . cases e2
 |none=>cases e
 |bool b=>cases e
 |str x=>cases e
 |list ds=>cases e
 |dict ds=>cases e
noncomputable def CB(i:Nat)(δ:aS):Option (List (PyData×PyData)):=match δ[i]? with
 |some (some (.od kvs))=>some kvs
 |_=>none
theorem GJ {H0 F0:Hp}{σ:St}{δ:aS}{i:Nat}(R:Rep K H0 F0 F σ H δ)(e:CB i δ=some kvs):∃a o,σ[i]? =some (some (.ref a))/\H a=some o/\DcO K F o kvs:=by
 unfold CB at e;split at e
 . rename_i kv q;cases e;obtain⟨p,o,q1,q2,q3,q4,q5⟩:=R.od i _ q;exact⟨p,o,q1,q2,q5⟩
 . cases e
theorem JR {a:Addr}{o:HO}(ha:H a=some o)(hd:DcO K F o kvs):JN H a:=by
 rcases hd with ⟨m,rfl,_⟩|⟨m,rfl,_⟩
 . exact .inr ⟨m,.inl ha⟩
 . exact .inl ⟨m,.inl ha⟩
def sV(i:Nat)(fk fz:aS->Option PyData)(δ:aS):Option PyData:=(CB i δ).bind λkvs=>(fk δ).bind λk=>(fz δ).bind λz=>(sU kvs k).map λr=>r.getD z
theorem DR {ty tz:TE}{fk fz:aS->Option PyData}(i:Nat)(b:SE K ty fk)(c:SE K tz fz):SE K (GD (bJ i) ty tz) (sV i fk fz):=by
 intro H0 F0 F σ H δ d Q R e h;obtain⟨kvs,e1,e⟩:=bind_some e;obtain⟨k,e2,e⟩:=bind_some e;obtain⟨z,e4,e⟩:=bind_some e;obtain⟨r,e3,e⟩:=Q0.mp e;subst e;obtain⟨a,o,q1,q2,q3⟩:=GJ R e1;refine⟨.ref a,q1,a,rfl,JR q2 q3,b H0 F0 F σ H δ k _ R e2 λy H1 F1 g1 i1=>c H0 F0 F1 σ H1 δ z _ (R.grow g1) e4 λzv H2 F2 g2 i2=>?_⟩;have g:=g1.trans g2;obtain⟨ov,dg,iv⟩:=CA g2.s (g.h _ _ q2) (q3.same g.f) (i1.same g2.f) e3;refine⟨ov,dg,h _ H2 F2 g ?_⟩;cases r with
 |none=>rw [show ov=none from iv];exact i2
 |some d=>
  obtain⟨v,rfl,iv⟩:=iv;exact iv
end
end DL
namespace L2
open PySem PySem.Spec PyProof.Rows
noncomputable def j7(lt:Nat->Nat->Bool):Nat->Nat
 |0=>0
 |n+1=>if lt (n+1) (j7 lt n)=true then n+1 else j7 lt n
theorem wZ(lt:Nat->Nat->Bool):∀n,j7 lt n<=n
 |0=>Q1 _
 |n+1=>by
  unfold j7;split
  . exact Q1 _
  . exact Nat.le_succ_of_le (wZ lt n)
theorem jg {xs:List V}{us:List Value}(r:Vals xs us){i:Nat}{u:Value}(e:us[i]? =some u):∃x,xs[i]? =some x/\RelV x u:=by
 induction r generalizing i with
 |nil=>simp at e
 |cons h _ ih=>
  cases i with
  |zero=>
   simp at e;subst e;exact⟨_,rfl,h⟩
  |succ i=>exact ih (by simpa using e)
section
variable {X:Cx} {pins:`k} {σ:St} {S I l:Addr} {xs:List V} {F H0:Hp} {lt:Nat->Nat->Bool} {R:Result->Shared->Prop}
end
end L2
namespace DL
open PySem L2
section
variable {K:Fg}
noncomputable def N8:List PyData->Option PyData
 |[.list ds]=>if(!ds.isEmpty&&ds.all uW&&ds.all (λa=>ds.all λb=>(L2.pI a b).isSome))=true then ds[j7 (λi j=>(L2.pI (ds.getD i .none) (ds.getD j .none)).getD false) (ds.length - 1)]? else none
 |_=>none
end
end DL
namespace L2
open PySem PySem.Spec PyProof.Rows
section
variable {X:Cx}
end
section
variable {prog:Program} {w:World} {A:Around} {E:`d} {s:Shared}
end
section
variable {X:Cx}
theorem oH:∀{us:List Value} {ns:`f},IntsAre us ns->Vals (ns.map V.int) us
 |_,_,.nil=>.nil
 |_,_,.cons n t h=>.cons ⟨t,rfl⟩ (oH h)
end
end L2
namespace DL
open PySem L2
section
variable {K:Fg}
end
section
variable {X:Cx}
end
end DL
namespace L2
open PySem PySem.Spec PyProof.Rows PySem.W PySem.Calls PySem.Builtin PySem.Builtin.ObjectAttr PySem.Builtin.Getset_descriptor
section
variable {pr:Program} {wd:World} {Ar:Around} {Ex:`d} {t:Shared} {K:Frag} {x C:Addr}
end
end L2
namespace DL
open PySem L2 PyProof.Rows
section
variable {X:Cx}
end
section
variable {K:Fg} {E:XK} {C:XI}
end
section
variable {K:Fg} {E:XK} {C:Addr}
end
end DL
namespace L2
open PySem PySem.Spec PyProof.Rows
def N9(A:Around)(s:Shared)(a b:Value)(r:Bool):Prop:=
 ∀(prog:Program) (w:World) (E:`d) (Q:`d),Q (.bool r) s->wpAny `m A (richCompare .Gt a b) Q E s
noncomputable def GK:PyData->PyData->Bool
 | .int i,.int j=>decide (i > j)
 |_,_=>false
theorem CC(a:Value):argsOk "max" ⟨[a],[]⟩:=by unfold argsOk;kernel_rfl
section
variable {X:Cx} {pins:`k} {σ:St} {S I l:Addr} {xs:List V} {F H0:Hp} {lt:Nat->Nat->Bool} {R:Result->Shared->Prop}
theorem JS(hcm:X.calm=true)(hFl:F l=some (.lst xs))(hFS:F S=none)(hSI:S≠I)
 (hc:∀(i j:Nat) (x y:V) (u v:Value) (H:Hp) (s:Shared),xs[i]? =some x->xs[j]? =some y->Inv X pins σ H s->Same F H->RelV x u->RelV y v->N9 X.A.in1 s u v (lt i j))
 (hR:∀(v:V) (u:Value) (H':Hp) (s':Shared),xs[j7 lt (xs.length - 1)]? =some v->RelV v u->Inv X pins σ H' s'->Same F H'->(∀b,b≠S->H' b=H0 b)->R (.ok (.ret u)) s'):
 ∀(r j:Nat) (H:Hp) (s:Shared) (vb:V),xs.length - (j+1)=r->j+1<=xs.length->Inv X pins σ H s->Same F H->(∀b,b≠S->H b=H0 b)->H S=some (.lst [vb,vb])->xs[j7 lt j]? =some vb->j8 X pins H I->s.heap.IsListIter I l (j+1)->
  codeAny `i X.A (.builtin "max.loop" ⟨[.ref I,.none,.ref S],[]⟩) R s:=by
 have hname:(toString "max"++toString ".loop":String)="max.loop":=by decide
 intro r
 induction r with
 |zero=>
  intro j H s vb hr hj J sF hb hS hvb hI hit;have hin:j+1=xs.length:=by lia
  have hl:=sF _ _ hFl;have hlI:l≠I:=λz=>by rw [z,hI.1]at hl;cases hl
  obtain⟨zl,its,n,rl,ll,el⟩:=J.lstM hl;obtain⟨zS,itS,nS,rS,lS,eS⟩:=J.lstM hS;obtain⟨u1,u2,rfl,r1,r2⟩:=rS.two;have W:=Walks.list (prog:=X.prog) (w:=X.w) (A:=X.A.in1) (J.ok.hd hcm) I l hlI its.toArray;have hsz:its.toArray.size=its.length:=zM ..;refine codeAny_builtin PySem.F.entry_max_loop ?_;rw [Around.under_plainId PySem.F.plain_max_loop _];show wpAny _ X.A.in1 (seqItems? (.ref S) >>=_) _ _ _;refine wB (wpAny_seqItems eS rfl ?_);show wpAny _ X.A.in1 (tryCatch (pyNext (.ref I)) _ >>=_) _ _ _;refine wB (wpAny_tryCatch (W.done _ _ _ ⟨by rw [hsz, <-ll, <-hin];exact hit,⟨_,el,rfl,_,rfl⟩⟩ λh' tk' hk'=>?_))
  have J1:Inv X pins σ H {s with heap:=h',toks:=tk'}:=J.turned (it:=I) (λb o hb e=>hk' b o (by simpa using hb) e) hI.1 hI.2.1 hI.2.2.2.1 hI.2.2.2.2.1 hI.2.2.2.2.2
  have eS1:h'.get? S=some {cls:=.type "list",data:=.seq [u1,u2].toArray nS}:=hk' S _ (by simpa using hSI) eS
  show wpAny _ X.A.in1 (updateSeq S (λ_=> #[]) >>=_) _ _ _;refine wB ?_;refine wpAny_updateSeq eS1 rfl (wB (wpAny_letGo (wP ?_)));have J2:=J1.lset (l:=S) (ys:=[]) (its':=[]) (f:=λ_=> #[]) (t':=tk') hS eS1 rfl .nil (zU _);refine hR vb u1 _ _ (by rw [<-hin];exact hvb) r1 J2 (λb o e=>?_) λb n=>by rw [aM n];exact hb b n
  rw [aM (λz=>by rw [z,hFS]at e;cases e)]
  exact sF b o e
 |succ r ih=>
  intro j H s vb hr hj J sF hb hS hvb hI hit;have hlt:j+1 < xs.length:=by lia
  have hl:=sF _ _ hFl;have hlI:l≠I:=λz=>by rw [z,hI.1]at hl;cases hl
  obtain⟨zl,its,n,rl,ll,el⟩:=J.lstM hl;obtain⟨zS,itS,nS,rS,lS,eS⟩:=J.lstM hS;obtain⟨u1,u2,rfl,r1,r2⟩:=rS.two;have W:=Walks.list (prog:=X.prog) (w:=X.w) (A:=X.A.in1) (J.ok.hd hcm) I l hlI its.toArray;have hsz:its.toArray.size=its.length:=zM ..;refine codeAny_builtin PySem.F.entry_max_loop ?_;rw [Around.under_plainId PySem.F.plain_max_loop _];show wpAny _ X.A.in1 (seqItems? (.ref S) >>=_) _ _ _;refine wB (wpAny_seqItems eS rfl ?_);show wpAny _ X.A.in1 (tryCatch (pyNext (.ref I)) _ >>=_) _ _ _;refine wB (wpAny_tryCatch (W.item (j+1) _ _ _ (by rw [hsz, <-ll];exact hlt) ⟨hit,⟨_,el,rfl,_,rfl⟩⟩ λu h' tk' hP hst' hk'=>?_))
  have hv:its[j+1]? =some u:=by simpa using hP
  obtain⟨x,hx,rx⟩:=jg rl hv;have J1:Inv X pins σ H {s with heap:=h',toks:=tk'}:=J.turned (it:=I) (λb o hb e=>hk' b o (by simpa using hb) e) hI.1 hI.2.1 hI.2.2.2.1 hI.2.2.2.2.1 hI.2.2.2.2.2
  have eS1:h'.get? S=some {cls:=.type "list",data:=.seq [u1,u2].toArray nS}:=hk' S _ (by simpa using hSI) eS
  have cm:=hc (j+1) (j7 lt j) x vb u u2 H _ hx hvb J1 sF rx r2;show wpAny _ X.A.in1 (pure u >>=_) _ _ _;refine wB (wP ?_);show wpAny _ X.A.in1 (tryCatch (holding [u,u] (richCompare .Gt u u2 >>=_)) _ >>=_) _ _ _;refine wB (wpAny_tryCatch (wpAny_holding (wB (cm _ _ _ _ ?_))));refine wB (wpAny_holding (wpAny_truthy_bool ?_));refine wB (wpAny_letGo (wP ?_))
  by_cases c:lt (j+1) (j7 lt j)=true
  . rw [c];simp only [if_true];refine wB ?_;refine wpAny_updateSeq eS1 rfl (wB (wpAny_letGo ?_));rw [hname];have J2:=J1.lset (l:=S) (ys:=[x,x]) (its':=[u,u]) (f:=λ_=> #[u,u]) (t':=tk') hS eS1 rfl (.cons rx (.cons rx .nil)) (jI (show 2<=1000 by decide))
    obtain⟨oI,hoI,hoc,hod⟩:=id hst'.1;refine wP ⟨plainId_quiet PySem.F.plain_max_loop _,ih (j+1) _ _ x `e hlt J2 (λb o e=>?_) (λb n=>by rw [aM n];exact hb b n) aR (by rw [j7,if_pos c];exact hx) ⟨by rw [aM hSI.symm];exact hI.1,hI.2⟩ ⟨oI,?_,hoc,hod⟩⟩
    . rw [aM (λz=>by rw [z,hFS]at e;cases e)]
      exact sF b o e
    . exact(xQ h' _ hSI).trans hoI
  . have c':lt (j+1) (j7 lt j)=false:=by simpa using c
    rw [c'];simp only [zN,if_false];refine wB (wpAny_letGo ?_);rw [hname];exact wP ⟨plainId_quiet PySem.F.plain_max_loop _,ih (j+1) H _ vb `e hlt J1 sF hb hS (by rw [j7,if_neg c];exact hvb) hI hst'.1⟩
end
def MC(K:Fg):List V->Hp->VK->Prop:=λas H Q=>∃(l:Addr) (xs:List V) (F:Hp) (ds:`g),as=[.ref l]/\F l=some (.lst xs)/\Same F H/\DL.Are K F xs ds/\xs≠[]/\(∀d∈ds,∃n,d=PyData.int n)/\
 ∀(v:V) (H':Hp),xs[j7 (λi j=>GK (ds.getD i .none) (ds.getD j .none)) (xs.length - 1)]? =some v->Same F H'->Same H H'->Q v H'
theorem GL {X:Cx}(hcm:X.calm=true)(hu:X.A.units+64 < cLine):dX X (.builtin "max") (MC X.K):=by
 intro pins s σ H as us Q J rv h;obtain⟨l,xs,F,ds,rfl,hFl,sF,ar,hne,hok,q⟩:=h;obtain⟨u,rfl,ru⟩:=mG rv;cases (show u=Value.ref l from ru)
 have hname:(toString "max"++toString ".loop":String)="max.loop":=by decide
 have hl:=sF _ _ hFl;obtain⟨zl,its,n,rl,ll,el⟩:=J.lstM hl;have xr:=ar.length;have hc:∀(i j:Nat) (x y:V) (u v:Value) (H:Hp) (s:Shared),xs[i]? =some x->xs[j]? =some y->Inv X pins σ H s->Same F H->RelV x u->RelV y v->N9 X.A.in1 s u v (GK (ds.getD i .none) (ds.getD j .none)):=by
  intro i j x y u v H1 s1 hx hy J1 s1F rx ry;obtain⟨dx,ex,ix⟩:=ar.get' hx;obtain⟨dy,ey,iy⟩:=ar.get' hy;have gx:ds.getD i .none=dx:=by rw [gh,ex];rfl
  have gy:ds.getD j .none=dy:=by rw [gh,ey];rfl
  have mx:=ES ex;have my:=ES ey;obtain⟨n,rfl⟩:=hok dx mx;obtain⟨m,rfl⟩:=hok dy my;cases (show x=V.int n from ix)
  cases (show y=V.int m from iy)
  obtain⟨t1,rfl⟩:=rx;obtain⟨t2,rfl⟩:=ry;rw [gx,gy];exact λprog w E Q h=>(PyProof.Rows.gt_int h:wpAny `m X.A.in1 (compareOp .Gt _ _) Q E s1)
 refine kmk_tree PySem.F.kind_max PySem.F.plain_max PySem.F.entry_max (CC _) ?_;show wpAny _ X.A.in1 (Builtin.Builtins.bindParams "max" ["key","default"] 0 ⟨[],[]⟩ >>=_) _ _ s;refine wB (wpAny_of_eq (show Builtin.Builtins.bindParams "max" ["key","default"] 0 ⟨[],[]⟩=pure [none,none]from rfl) ?_)
 refine wB (wP ?_);refine wB (wpAny_pyIter_list ⟨_,el,rfl,_,rfl⟩ ?_);refine wB (wpAny_newList ?_ (zU _));rw [hname];have hlt:l < `a:=dh el;have hS:(s.heap.push `c).objs.size=`a+1:=size_push' ..;have hSI:(s.heap.push `c).objs.size≠`a:=by rw [hS];exact uL (C8 _)
 have hlI:l≠`a:=jG hlt;refine wP ⟨plainId_quiet PySem.F.plain_max_loop _,?_⟩;have J0:Inv X pins σ H {s with heap:=s.heap.push `c}:=J.kept (t':=s.toks) λb o e=>df _ e
 have HS0:H (s.heap.push `c).objs.size=none:=J0.fresh;have FS0:F (s.heap.push `c).objs.size=none:=by
  cases e:F (s.heap.push `c).objs.size with
  |none=>rfl
  |some o=>rw [sF _ _ e]at HS0;cases HS0
 have J1:=J0.lnew (ys:=[]) (its:=[]) (t':=s.toks) .nil (zU _);have gI:((s.heap.push `c).push {cls:=.type "list",data:=.seq #[] 0}).get? `a=some `c:=df _ (fU _ rfl);have gS:((s.heap.push `c).push {cls:=.type "list",data:=.seq #[] 0}).get? (s.heap.push `c).objs.size=some {cls:=.type "list",data:=.seq #[] 0}:=fU _ rfl;have fI:j8 X pins (bC H (s.heap.push `c).objs.size (.lst [])) `a:=J.fpOk (Q1 _) (by rw [aM hSI.symm];exact J.fresh)
 have sF1:Same F (bC H (s.heap.push `c).objs.size (.lst [])):=λb o e=>by
  rw [aM (λz=>by rw [z,FS0]at e;cases e)]
  exact sF b o e
 have el1:((s.heap.push `c).push {cls:=.type "list",data:=.seq #[] 0}).get? l=some {cls:=.type "list",data:=.seq its.toArray n}:=df _ (df _ el);have W:=Walks.list (prog:=X.prog) (w:=X.w) (A:=X.A.in1) (J.ok.hd hcm) `a l hlI its.toArray;have hsz:its.toArray.size=its.length:=zM ..;have pos:0 < xs.length:=by
  cases xs with
  |nil=>exact absurd rfl hne
  |cons _ _=>exact Nat.succ_pos _
 refine codeAny_builtin PySem.F.entry_max_loop ?_;rw [Around.under_plainId PySem.F.plain_max_loop _];show wpAny _ X.A.in1 (seqItems? (.ref _) >>=_) _ _ _;refine wB (wpAny_seqItems gS rfl ?_);show wpAny _ X.A.in1 (tryCatch (pyNext (.ref `a)) _ >>=_) _ _ _;refine wB (wpAny_tryCatch (W.item 0 _ _ _ (by rw [hsz, <-ll];exact pos) ⟨⟨_,gI,rfl,rfl⟩,⟨_,el1,rfl,_,rfl⟩⟩ λu h' tk' hP hst' hk'=>?_))
 have hv:its[0]? =some u:=by simpa using hP
 obtain⟨x,hx,rx⟩:=jg rl hv;have J2:=J1.turned (h':=h') (t':=tk') (it:=`a) (λb o hb e=>hk' b o (by simpa using hb) e) fI.1 fI.2.1 fI.2.2.2.1 fI.2.2.2.2.1 fI.2.2.2.2.2
 have eS1:=hk' _ _ (by simpa using hSI) gS
 show wpAny _ X.A.in1 (pure u >>=_) _ _ _;refine wB (wP ?_);show wpAny _ X.A.in1 (updateSeq (s.heap.push `c).objs.size (λ_=> #[u,u]) >>=_) _ _ _;refine wB ?_;refine wpAny_updateSeq eS1 rfl ?_;rw [hname];have J3:=J2.lset (ys:=[x,x]) (its:=[]) (its':=[u,u]) (f:=λ_=> #[u,u]) (t':=tk') aR eS1 rfl (.cons rx (.cons rx .nil)) (jI (show 2<=1000 by decide))
 obtain⟨oI,hoI,hoc,hod⟩:=id hst'.1;refine wP ⟨plainId_quiet PySem.F.plain_max_loop _,JS (S:=(s.heap.push `c).objs.size) (I:=`a) (H0:=H) hcm hFl FS0 hSI hc (λv u' H' s' e1 e2 e3 e4 e5=>?_) _ 0 _ _ x rfl pos J3 (λb o e=>?_) (λb nb=>by rw [aM nb,aM nb]) aR hx ⟨by rw [aM hSI.symm];exact fI.1,fI.2⟩ ⟨oI,?_,hoc,hod⟩⟩
 . refine⟨v,H',e3,e2,q v H' e1 e4 λb o e=>?_⟩;rw [e5 b (λz=>by rw [z,HS0]at e;cases e)]
   exact e
 . rw [aM (λz=>by rw [z,FS0]at e;cases e)]
   exact sF1 b o e
 . exact(xQ h' _ hSI).trans hoI
end L2
namespace DL
open PySem L2
section
variable {K:Fg}
noncomputable def uZ:List PyData->Option PyData
 |[.list ds]=>if(!ds.isEmpty&&(ee ds).isSome)=true then ds[j7 (λi j=>GK (ds.getD i .none) (ds.getD j .none)) (ds.length - 1)]? else none
 |_=>none
theorem GM:rp K (MC K) uZ:=λF H xs ds d Q s ar e k=>by
 unfold uZ at e;split at e
 . rename_i es;split at e
   . rename_i c;simp only [Q5,Bool.not_eq_true',List.isEmpty_eq_false_iff]at c;obtain⟨c1,c2⟩:=c;obtain⟨ns,c2⟩:=Ms.mp c2;obtain⟨x,r,rfl,⟨a,ys,rfl,h1,h2⟩,hr⟩:=ar;rw [show r=[]from hr]
     refine⟨a,ys,F,es,rfl,h1,s,h2,λz=>c1 ?_,λd hd=>?_,λv H' e1 e2 e3=>?_⟩
     . have:=h2.length;rw [z]at this;exact List.length_eq_zero_iff.mp this.symm
     . rw [cB c2]at hd;obtain⟨n,_,rfl⟩:=Q6.mp hd;exact⟨n,rfl⟩
     . rw [h2.length]at e1;obtain⟨v',e4,iv⟩:=h2.get e;rw [e4]at e1;cases e1;exact k _ H' F ⟨Same.refl _,e2,e3,λ_ _ _ _ n=>n⟩ iv
   . cases e
 . cases e
theorem GN {X:Cx}(K:Fg)(hc:X.calm=true)(hu:X.A.units+64 < cLine)(h:X.K=K:=by rfl):dX X (.builtin "max") (MC K):=h▸GL hc hu
end
section
variable {K:Fg}
def GO(i:Nat)(fk fv:aS->Option PyData)(δ:aS):Option DFlow:=(fv δ).bind λv=>(fk δ).bind λk=>match δ[i]?,k with
 |some (some (.ow ds)),.int n=>(I0 ds.length n).map λj=>.nx (δ.set i (some (.ow (ds.set j v))))
 |_,_=>none
theorem CD {F:Hp}{x:V}{d:PyData}(h:Is K F x d):∀{xs:List V} {ds:`g} (j:Nat),Are K F xs ds->Are K F (xs.set j x) (ds.set j d)
 |_,[],j,a=>by rw [show _=[]from a];exact rfl
 |_,e::ds,0,a=>by
  obtain⟨y,r,rfl,_,t⟩:=a;exact⟨x,r,rfl,h,t⟩
 |_,e::ds,j+1,a=>by
  obtain⟨y,r,rfl,q,t⟩:=a;exact⟨y,_,rfl,q,CD h j t⟩
theorem GP(i:Nat){te ti:TE}{fk fv:aS->Option PyData}(b:SE K ti fk)(a:SE K te fv):SS K (iW te (NK (bJ i) ti Ka)) (GO i fk fv):=by
 intro H0 F0 F σ H δ r D R e h;obtain⟨v,e1,e⟩:=bind_some e;obtain⟨kk,e2,e⟩:=bind_some e;split at e
 . rename_i ds n q;obtain⟨j,e3,e4⟩:=Q0.mp e;subst e4;obtain⟨p,xs,q1,q2,q3,q4,q5⟩:=R.ow i ds q;refine a H0 F0 F σ H δ v _ R e1 λx H1 F1 g1 i1=>⟨.ref p,q1,b H0 F0 F1 σ H1 δ _ _ (R.grow g1) e2 λy H2 F2 g2 i2=>?_⟩;have g:=g1.trans g2;refine⟨p,xs,n,j,rfl,i2,g.h _ _ q2,by rw [q5.length];exact e3,?_⟩
   exact h F2 σ _ ((R.grow g).mut q q1 (g.o _ _ q2 (λ_ z=>nomatch z) q3) q4 (CD (i1.same g2.f) j (q5.same g.f))) g.f
 . cases e
end
end DL
namespace L2
open PySem PySem.Spec PyProof.Rows PySem.W
end L2
namespace DL
open PySem L2
section
variable {K:Fg}
end
end DL
namespace L2
open PySem PySem.Spec PyProof.Rows PySem.W
noncomputable def qZ(X:Cx)(N:List Str)(qual:Str)(sc:Scope)(f:Addr)(cd:Value)(cl:List (Str×Addr))(s:Shared)(H:Hp):Cx where
 prog:=X.prog
 w:=X.w
 K:=X.K
 mg:=X.mg
 base:=X.base
 A:=X.A.in1.deeper (envX qual sc `a f cd cl)
 N:=N
 s₀:=s
 H₀:=H
 env:=envX qual sc `a f cd cl
 outer:=X.stack
 stack:=envX qual sc `a f cd cl::X.stack
 ex:=[]
 fn:=λ_=>false
 calm:=true
 pn:=[]
 xe:=λ_ _=>False
section
variable {X:Cx} {pins:`k} {σ:St} {H:Hp} {s:Shared}
variable {sc:Scope}{qual:Str}
theorem MD {N:List Str}{f:Addr}{cd:Value}(I:`h)(hh:X.A.handled=none)(hk:sc.kind=.function)(hcell:∀y∈sc.names,y.2≠ .cell)
 (hfree:∀y∈sc.names,y.2=.free->X.env.kindOf y.1=some .cell\/X.env.kindOf y.1=some .free):(qZ X N qual sc f cd (cN X.env sc.names []) s H).Ok:=by
 have hcl:∀y∈sc.names,y.2=.free->∃c,X.env.cells.lookup y.1=some c:=λy hy e=>I.ok.has _ (hfree y hy e);have look:∀x c,(cN X.env sc.names []).lookup x=some c->X.env.cells.lookup x=some c:=λx c e=>by
  rcases iX hcl (PySem.mem_of_lookup e)with q|q
  . simp at q
  . exact q
 have noA:∀b:Addr,b ∉ (qZ X N qual sc f cd (cN X.env sc.names []) s H).ex:=λb z=>absurd (show b∈([]:List Addr)from z) (by simp)
 exact {
  mod:=I.ok.mod
  kind:=hk
  glob:=rfl
  blt:=rfl
  above:=Q1 _
  inj:=λx y c h1 h2=>I.ok.inj x y c (look x c h1) (look y c h2)
  has:=λx h=>by
   have h':sc.names.lookup x=some .cell\/sc.names.lookup x=some .free:=h
   rcases h' with q|q
   . exact absurd rfl (hcell _ (PySem.mem_of_lookup q))
   . obtain⟨c,hc⟩:=j9 (env:=X.env) (acc:=[]) (.inl (PySem.mem_of_lookup q));exact eJ hc
  cab:=λx c h=>by cases h
  hd:=λ_=>hh
  frames:=Around.frames_deeper I.ok.frames
  stk:=.inr ⟨rfl,rfl⟩
  exf:=λb z=>absurd z (noA b)
  bs:=I.bs
  bsz:=Qc I.ok.bsz I.sz
  noex:=λb _ _=>noA b
  exfs:=λb z=>absurd z (noA b)
  funs:=I.stack
  frf:=I.stkFree}
variable {params:Arguments}
theorem GQ {body:Expr}{f c':Addr}{pm ctv u:Value}{v:V}{te:TE}{Q:VK}{p:Str}{fr:List (Str×Nat)}{E:`d}
 (I:`h) (hh:X.A.handled=none) (hk:sc.kind=.function) (hco:sc.isCoroutine=false) (hgen:sc.isGenerator=false) (hcell:∀y∈sc.names,y.2≠ .cell)
 (hfree:∀y∈sc.names,y.2=.free->X.env.kindOf y.1=some .cell\/X.env.kindOf y.1=some .free) (hp:sc.names.lookup p=some .local) (hfr:∀q∈fr,X.N[q.2]? =some q.1/\sc.names.lookup q.1=some .free)
 (ho:s.heap.get? f=some (kla_obj "<lambda>" qual params body sc (cN X.env sc.names []) pm c' ctv)) (hcd:s.heap.CodeRec (.ref c') qual)
 (hb:bindArgs (kla_fn "<lambda>" qual params body sc (cN X.env sc.names []) pm (.ref c') ctv) ⟨[u],[]⟩=pure [(p,u)]) (ru:RelV v u) (hd:X.A.in1.depth < recursionLimit)
 (he:PE (qZ X (p::fr.map (·.1)) qual sc f (.ref c') (cN X.env sc.names []) s H) body te) (h:te (some v::fr.map λq=>(σ[q.2]?).join) H Q):
 wpAny `i X.A.in1 (call (.ref f) [u]) (EP X pins σ Q) E s:=by
 have hcl:∀y∈sc.names,y.2=.free->∃c,X.env.cells.lookup y.1=some c:=λy hy e=>I.ok.has _ (hfree y hy e);have look:∀x c,(cN X.env sc.names []).lookup x=some c->X.env.cells.lookup x=some c:=λx c e=>by
  rcases iX hcl (PySem.mem_of_lookup e)with q|q
  . simp at q
  . exact q
 refine wpAny_call (kla_callFunE hd ho rfl hco hgen rfl hcd ?_);rw [hb];refine wP (wpAny_newFunctionEnv hcell (λy hy=>?_) (λh₁ hns hsb=>⟨I.nolimit.fresh _ hsb,?_⟩) hk)
 . have e:y=(p,u):=by simpa using hy
   rw [e];exact hp
 show codeAny _ _ (.expr body (envX qual sc `a f (.ref c') (cN X.env sc.names []))) _ _;have old:∀b o,s.heap.get? b=some o->h₁.get? b=some o:=λb o e=>hsb.extBut b o (jG (dh e)) (df _ e);have cellK:∀{c v},s.heap.IsCell c v->h₁.IsCell c v:=λ{c v} q=>by
  obtain⟨o,ho,r⟩:=q;exact⟨o,old _ _ ho,r⟩
 have J:Inv (qZ X (p::fr.map (·.1)) qual sc f (.ref c') (cN X.env sc.names []) s H) [] (some v::fr.map λq=>(σ[q.2]?).join) H {s with heap:=h₁,toks:=s.toks+1}:=by
  refine⟨MD I hh hk hcell hfree,rfl,I.bare,Un.kept old,⟨_,hns,λi x v' h1 h2 h3=>?_⟩,λx c e=>?_,I.hok.fresh (Q1 _),λx c e=>I.freeC x c (look x c e),λq hq=>absurd (show q∈([]:`k)from hq) (by simp),I.hok.kept old,?_⟩
  . cases i with
    |zero=>
     have e1:p=x:=by simpa [qZ]using h1
     have e2:v=v':=by simpa using h2
     subst e1 e2;exact⟨u,ru,.inl ⟨hp,by simp⟩⟩
    |succ i=>
     have h1':(fr.map (·.1))[i]? =some x:=by simpa [qZ]using h1
     have h2':(fr.map λq=>(σ[q.2]?).join)[i]? =some (some v'):=by simpa using h2
     rw [zK]at h1' h2';obtain⟨q,e1,e2⟩:=Q0.mp h1';rw [e1]at h2';subst e2;have h3':(σ[q.2]?).join=some v':=zV h2';have hσ:σ[q.2]? =some (some v'):=by
      cases z:σ[q.2]? with
      |none=>rw [z]at h3';cases h3'
      |some y=>rw [z]at h3';exact congrArg some h3'
     obtain⟨hN,hl⟩:=hfr q (ES e1);obtain⟨m0,_,q0⟩:=I.loc;have kk:=hfree (q.1,.free) (PySem.mem_of_lookup hl) rfl;obtain⟨u',ru',lk⟩:=q0 q.2 q.1 v' hN hσ (.inr kk);refine⟨u',ru',.inr ⟨.inr hl,?_⟩⟩
     rcases lk with ⟨k1,_⟩|⟨_,c,e3,e4⟩
     . rcases kk with kk|kk
       . have kk':X.env.kindOf q.1=some .cell:=kk;rw [k1]at kk';cases kk'
       . have kk':X.env.kindOf q.1=some .free:=kk;rw [k1]at kk';cases kk'
     . obtain⟨d,hd⟩:=j9 (env:=X.env) (acc:=[]) (.inl (PySem.mem_of_lookup hl));obtain⟨d',hd'⟩:=eJ hd;have e5:=look _ _ hd';rw [e3]at e5;cases e5;exact⟨c,hd',cellK e4⟩
  . obtain⟨w',hw⟩:=I.cell x c (look x c e);exact⟨w',cellK hw⟩
  . show (some v::fr.map λq=>(σ[q.2]?).join).length=(p::fr.map (·.1)).length
    simp
 refine kla_codeExpr (wpAny_mono (he [] _ _ H Q J h) (λv' s' h'=>?_) λ_ _ z=>z.elim);obtain⟨v2,H2,J2,r2,q2⟩:=h';exact I.after ⟨v2,H2,J2.os,J2.bare,J2.base,J2.hok,r2,q2⟩
structure BMd (X:Cx):Prop where
 ex:∃(bm:Addr) (o:Obj),X.mg "__builtins__"=some (.ref bm)/\bm≠builtinsNs/\bm≠mainGlobals/\X.base.get? bm=some o/\o.cls=.type "module"/\o.dict=some builtinsNs/\o.data=.plain
variable {E:`d}
theorem GR {P c:Addr}{body:Expr}{pos:Pos}{Q:`d}(I:`h)
 (hP:H P=some (.tbl #[rawInt pos.line,rawInt pos.col,.str qual 0])) (hC:codeHdIn X.K c P=true) (hcode:X.env.code=.ref c) (hq:X.env.qual++ "<lambda>"=qual)
 (hfree:∀y∈sc.names,y.2=.free->X.env.kindOf y.1=some .cell\/X.env.kindOf y.1=some .free) (hdef:defaultsOf params X.env=([],[])) (Bm:BMd X)
 (h : ∀ f c' pm ctv h' tk H', Inv X pins σ H' { s with heap := h', toks := tk } -> H' f = some (.frz (kla_obj "<lambda>" qual params body sc (cN X.env sc.names []) pm c' ctv) (.own f)) ->
  (∃o u vs t,H' c'=some (.frz o u)/\o.data=.fields vs/\vs[1]? =some (.str qual t))->Same H H'->Q (.ref f) {s with heap:=h',toks:=tk}):
 wpAny `i X.A (eval (.Lambda params body sc pos) X.env) Q E s:=by
 have hcl:∀y∈sc.names,y.2=.free->∃c,X.env.cells.lookup y.1=some c:=λy hy e=>I.ok.has _ (hfree y hy e);obtain⟨bm,ob,b1,b2,b3,b4,b5⟩:=Bm.ex;have nP:∀b o,X.base.get? b=some o->b≠P:=λb o e z=>by
  have:=(I.bs b o e).2;rw [z,hP]at this;cases this
 have hg0:=I.ok.mod.glob;have hgP:mainGlobals≠P:=by
  obtain⟨o,es,ep,e,_⟩:=id hg0;exact nP _ _ e
 have hgs:s.heap.Ns mainGlobals X.mg:=hg0.keeps I.bk;have hbb:s.heap.BuiltinsAt X.mg P:=⟨bm,ob,b1,b2,b3,nP _ _ b4,I.bk _ _ b4,b5⟩;have C:=codeHd_of_K I.kIn hC;refine kla_eval hdef ?_;rw [hq];have hLP:X.env.locals≠P:=λz=>by
  have:=I.free;rw [z,hP]at this;cases this
 rcases(show ObjOk X.prog X.w H s.heap P (.tbl _)from I.hok P _ hP)with e0|⟨c',oc,u,l,cc,q0,t0,t2,vs,e1,e2,e3,e4,e5⟩
 . refine kla_makeFunction (mg:=X.mg) (gH hcl) I.ok.glob hgs hcode C e0 (by simp [TriplesOk]) rfl hgP hbb λc' ctv h' tk hx hge hlt hrec htb=>?_
   obtain⟨c2,oc,vs,t,ec,hoc,hd,hv⟩:=hrec;cases ec;generalize hfo:kla_obj "<lambda>" qual params body sc (cN X.env sc.names []) ((X.mg "__name__").getD .none) c' ctv=fo;have Hc:H c'=none:=I.hok.fresh hge;have Hf:H h'.objs.size=none:=I.hok.fresh (AF (IG hge hlt));have ncf:c'≠h'.objs.size:=jG hlt;have old:∀b o,b≠P->s.heap.get? b=some o->(h'.push fo).get? b=some o:=λb o nb e=>df _ (hx b o nb e);have lt1:∀b o,s.heap.get? b=some o->b≠c'/\b≠h'.objs.size:=λb o e=>⟨jG (kZ (dh e) hge),jG (kZ (dh e) (AF (IG hge hlt)))⟩;have up:∀b o,H b=some o->bC (bC H c' (.frz oc (.own c'))) h'.objs.size (.frz fo (.own h'.objs.size)) b=some o:=λb o e=>by
    rw [aM (aQ e Hf),aM (aQ e Hc)];exact e
   have gf:(h'.push fo).get? h'.objs.size=some fo:=fU _ (by rw [<-hfo];rfl)
   have gc:(h'.push fo).get? c'=some oc:=df _ hoc;have uc:bC (bC H c' (.frz oc (.own c'))) h'.objs.size (.frz fo (.own h'.objs.size)) c'=some (.frz oc (.own c')):=by rw [aM ncf,aR]
   refine h _ c' ((X.mg "__name__").getD .none) ctv _ tk (bC (bC H c' (.frz oc (.own c'))) h'.objs.size (.frz fo (.own h'.objs.size))) ?_ (by rw [aR,hfo]) ⟨oc,_,vs,t,uc,hd,hv⟩ up
   refine I.step (g':=s.gens) (d':=s.drawn) (ch:=[]) (λ_ z=>nomatch z) (λb o _ _ _ e n=>old b o (λz=>by rw [z,hP]at n;cases n) e) (λb o _ _ _ e n=>⟨o.slots,old b o (λz=>by rw [z,hP]at n;cases n) e⟩)
    (λb o _ e n=>by rw [aM (lt1 b o e).2,aM (lt1 b o e).1];exact n) (λb o _ e=>?_) (λb xs e=>up b _ e) (λb o u e=>up b _ e) (λb ps e=>⟨#[],by rw [up b _ e];simp⟩)
    (λm hm=>(hm.extBut hx hLP).push _) (λb u e=>?_) I.bare
   . by_cases nb:b=P
     . subst nb;exact⟨_,df _ htb⟩
     . exact⟨o,old b o nb e⟩
   . by_cases hbf:b=h'.objs.size
     . subst hbf;rw [aR]at e;cases e;exact⟨gf,_,gf⟩
     . rw [aM hbf]at e
       by_cases hbc:b=c'
       . subst hbc;rw [aR]at e;cases e;exact⟨gc,_,gc⟩
       . rw [aM hbc]at e
         by_cases nb:b=P
         . subst nb;rw [hP]at e;cases e;exact Or.inr ⟨c',oc,_,_,_,_,_,_,vs,rfl,by simpa using df _ htb,uc,hd,hv⟩
         . refine(I.hok b u e).stay (λd v hd q=>old d v (λz=>?_) q) (λd q=>up d _ q) (λd xs q=>up d _ q) λd ob xs q=>up d _ q
           rcases hd with z2|z2
           . exact nb (z2.symm.trans z)
           . rw [z,hP]at z2;cases z2
 . have e1':=(Array.mk.inj e1);simp only [List.cons.injEq,Value.str.injEq,and_true]at e1';obtain⟨rfl,rfl,rfl,_⟩:=e1';refine kla_makeFunctionHit (mg:=X.mg) (cv:=.ref c') (gH hcl) I.ok.glob hgs hcode C e2 (by simp [TriplesOk,rawInt]) (by simp [codeAmong,rawInt]) hbb λctv h' tk hk hsz=>?_
   show Q (.ref h'.objs.size) {s with heap:=h'.push (kla_obj "<lambda>" qual params body sc (cN X.env sc.names []) ((X.mg "__name__").getD .none) c' ctv),toks:=tk}
   generalize hfo:kla_obj "<lambda>" qual params body sc (cN X.env sc.names []) ((X.mg "__name__").getD .none) c' ctv=fo;have Hf:H h'.objs.size=none:=I.hok.fresh hsz;have gf:(h'.push fo).get? h'.objs.size=some fo:=fU _ (by rw [<-hfo];rfl)
   refine h _ c' ((X.mg "__name__").getD .none) ctv (h'.push fo) tk (bC H h'.objs.size (.frz fo (.own h'.objs.size))) (I.laid (λb o e=>df _ (hk b o e)) hsz ⟨gf,_,gf⟩) (by rw [aR,hfo]) ⟨oc,u,vs,t2,by rw [aM (aQ e3 Hf)];exact e3,e4,e5⟩ λb o e=>?_
   rw [aM (aQ e Hf)];exact e
end
end L2
namespace DL
open PySem PySem.Spec PyProof.Rows L2 PySem.W
section
variable {K:Fg}
def Na(K:Fg)(f:aS->Option PyData):TE:=λσ H Q=>∃H0 F0 F δ d,Rep K H0 F0 F σ H δ/\f δ=some d/\∀v H' F',Grow F H F' H'->Is K F' v d->Q v H'
theorem GT {f:aS->Option PyData}:SE K (Na K f) f:=λH0 F0 F σ H δ d Q R e k=>⟨H0,F0,F,δ,d,R,e,k⟩
end
noncomputable def GU(fk:PyData->Option PyData):List PyData->Option `g
 |[]=>some []
 |d::r=>(fk d).bind λk=>(GU fk r).bind λks=>some (k::ks)
theorem yR {fk:PyData->Option PyData}:∀{ds ks:`g},GU fk ds=some ks->ks.length=ds.length/\∀(i:Nat) (d:PyData),ds[i]? =some d->∃k,fk d=some k/\ks[i]? =some k
 |[],ks,h=>by cases h;exact⟨rfl,λi d e=>by simp at e⟩
 |d::r,ks,h=>by
  obtain⟨k,e1,h⟩:=bind_some h;obtain⟨ks',e2,h⟩:=bind_some h;cases h;obtain⟨l,q⟩:=yR e2;refine⟨by rw [zC,zC,l],λi d' e=>?_⟩
  cases i with
  |zero=>simp at e;subst e;exact⟨k,e1,rfl⟩
  |succ i=>exact q i d' (by simpa using e)
def yS(ks:`g)(i j:Nat):Bool:=(L2.pI (ks.getD i .none) (ks.getD j .none)).getD false
def GV(fk:PyData->Option PyData)(ds:`g):Option PyData:=(GU fk ds).bind λks=>
 if(!ds.isEmpty&&ks.all uW&&ks.all (λa=>ks.all λb=>(L2.pI a b).isSome))=true then ds[j7 (yS ks) (ds.length - 1)]? else none
section
variable {X:Cx} {pins:`k} {σ:St} {S I l f:Addr} {xs:List V} {ds ks:`g} {Fa Ha:Hp} {R:Result->Shared->Prop}
theorem JT {F H:Hp}{s:Shared}{i j:Nat}{x y:V}{u v:Value}(hu:X.A.units+64 < cLine)(hok:∀d∈ks,uW d=true)(hcmp:∀a∈ks,∀b∈ks,(L2.pI a b).isSome=true)(hi:i < ks.length)(hj:j < ks.length)
 (J:`h) (sF:Same F H) (ix:Is X.K F x (ks.getD i .none)) (iy:Is X.K F y (ks.getD j .none)) (rx:RelV x u) (ry:RelV y v):DQ X.A.in1 s u v (yS ks i j):=by
 have mx:ks.getD i .none∈ks:=by rw [gh,dS hi];exact AA hi
 have my:ks.getD j .none∈ks:=by rw [gh,dS hj];exact AA hj
 have cx:=cP (hok _ mx);have cy:=cP (hok _ my);obtain⟨as,ra⟩:=(FP _ cx.1 (ix.same sF)).reads J _ rx;obtain⟨bs,rb⟩:=(FP _ cy.1 (iy.same sF)).reads J _ ry;obtain⟨b,hb⟩:=Ms.mp (hcmp _ mx _ my);unfold yS;rw [hb];exact jv _ _ X.A.in1 s u v as bs b ra rb cx.1 cy.1 (by have:=cx.2;show X.A.units+1+_ < cLine;lia) hb
def Turn(X:Cx)(σ:St)(f:Addr)(xs:List V)(ks:`g)(Fa Ha:Hp):Prop:=∀(i:Nat) (x:V),xs[i]? =some x->∀(pins':`k) (F H:Hp) (s:Shared) (u:Value),Inv X pins' σ H s->Grow Fa Ha F H->RelV x u->
 wpAny `i X.A.in1 (call (.ref f) [u]) (λr s'=>∃v H' F',Inv X pins' σ H' s'/\RelV v r/\Grow F H F' H'/\Is X.K F' v (ks.getD i .none)) (λ_ _=>False) s
theorem GY(hcm:X.calm=true)(hu:X.A.units+64 < cLine)(hFl:Fa l=some (.lst xs))(hHS:Ha S=none)(hSI:S≠I)(hlen:ks.length=xs.length)(turn:Turn X σ f xs ks Fa Ha)
 (hok:∀d∈ks,uW d=true) (hcmp:∀a∈ks,∀b∈ks,(L2.pI a b).isSome=true)
 (hR:∀(v:V) (u:Value) (F' H':Hp) (s':Shared),xs[j7 (yS ks) (xs.length - 1)]? =some v->RelV v u->Inv X pins σ H' s'->Grow Fa Ha F' H'->R (.ok (.ret u)) s'):
 ∀(r j:Nat) (F H:Hp) (s:Shared) (vb kb:V),xs.length - (j+1)=r->j+1<=xs.length->Inv X pins σ H s->Grow Fa Ha F H->F S=none->H S=some (.lst [vb,kb])->xs[j7 (yS ks) j]? =some vb->Is X.K F kb (ks.getD (j7 (yS ks) j) .none)->
  j8 X pins H I->s.heap.IsListIter I l (j+1)->codeAny `i X.A (.builtin "min.loop" ⟨[.ref I,.ref f,.ref S],[]⟩) R s:=by
 have hname:(toString "min"++toString ".loop":String)="min.loop":=by decide
 intro r
 induction r with
 |zero=>
  intro j F H s vb kb hr hj J G hFS hS hvb ikb hI hit;have hin:j+1=xs.length:=by lia
  have hl:=G.s _ _ (G.f _ _ hFl);have hlI:l≠I:=λz=>by rw [z,hI.1]at hl;cases hl
  obtain⟨zl,its,n,rl,ll,el⟩:=J.lstM hl;obtain⟨zS,itS,nS,rS,lS,eS⟩:=J.lstM hS;obtain⟨u1,u2,rfl,r1,r2⟩:=rS.two;have W:=Walks.list (prog:=X.prog) (w:=X.w) (A:=X.A.in1) (J.ok.hd hcm) I l hlI its.toArray;have hsz:its.toArray.size=its.length:=zM ..;refine codeAny_builtin PySem.F.entry_min_loop ?_;rw [Around.under_plainId PySem.F.plain_min_loop _];show wpAny _ X.A.in1 (seqItems? (.ref S) >>=_) _ _ _;refine wB (wpAny_seqItems eS rfl ?_);show wpAny _ X.A.in1 (tryCatch (pyNext (.ref I)) _ >>=_) _ _ _;refine wB (wpAny_tryCatch (W.done _ _ _ ⟨by rw [hsz, <-ll, <-hin];exact hit,⟨_,el,rfl,_,rfl⟩⟩ λh' tk' hk'=>?_))
  have J1:Inv X pins σ H {s with heap:=h',toks:=tk'}:=J.turned (it:=I) (λb o hb e=>hk' b o (by simpa using hb) e) hI.1 hI.2.1 hI.2.2.2.1 hI.2.2.2.2.1 hI.2.2.2.2.2
  have eS1:h'.get? S=some {cls:=.type "list",data:=.seq [u1,u2].toArray nS}:=hk' S _ (by simpa using hSI) eS
  show wpAny _ X.A.in1 (updateSeq S (λ_=> #[]) >>=_) _ _ _;refine wB ?_;refine wpAny_updateSeq eS1 rfl (wB (wpAny_letGo (wP ?_)));have J2:=J1.lset (l:=S) (ys:=[]) (its':=[]) (f:=λ_=> #[]) (t':=tk') hS eS1 rfl .nil (zU _);exact hR vb u1 F _ _ (by rw [<-hin];exact hvb) r1 J2 ⟨G.f,λb o e=>by rw [aM (aQ e hFS)];exact G.s b o e,λb o e=>by rw [aM (aQ e hHS)];exact G.h b o e,G.o⟩
 |succ r ih=>
  intro j F H s vb kb hr hj J G hFS hS hvb ikb hI hit;have hlt:j+1 < xs.length:=by lia
  have hl:=G.s _ _ (G.f _ _ hFl);have hlI:l≠I:=λz=>by rw [z,hI.1]at hl;cases hl
  obtain⟨zl,its,n,rl,ll,el⟩:=J.lstM hl;obtain⟨zS,itS,nS,rS,lS,eS⟩:=J.lstM hS;have W:=Walks.list (prog:=X.prog) (w:=X.w) (A:=X.A.in1) (J.ok.hd hcm) I l hlI its.toArray;have hsz:its.toArray.size=its.length:=zM ..;obtain⟨u1,u2,rfl,r1,r2⟩:=rS.two;refine codeAny_builtin PySem.F.entry_min_loop ?_;rw [Around.under_plainId PySem.F.plain_min_loop _];show wpAny _ X.A.in1 (seqItems? (.ref S) >>=_) _ _ _;refine wB (wpAny_seqItems eS rfl ?_);show wpAny _ X.A.in1 (tryCatch (pyNext (.ref I)) _ >>=_) _ _ _;refine wB (wpAny_tryCatch (W.item (j+1) _ _ _ (by rw [hsz, <-ll];exact hlt) ⟨hit,⟨_,el,rfl,_,rfl⟩⟩ λu h' tk' hP hst' hk'=>?_))
  have hv:its[j+1]? =some u:=by simpa using hP
  obtain⟨x,hx,rx⟩:=jg rl hv;have J1:Inv X pins σ H {s with heap:=h',toks:=tk'}:=J.turned (it:=I) (λb o hb e=>hk' b o (by simpa using hb) e) hI.1 hI.2.1 hI.2.2.2.1 hI.2.2.2.2.1 hI.2.2.2.2.2
  obtain⟨oI,hoI,hoc,hod⟩:=id hst'.1;have JP:=J1.pinned (fp:=[I]) (λb hb=>by rw [Q7.mp hb];exact hI) (λb hb=>by rw [Q7.mp hb];exact⟨oI,hoI,λv z=>by rw [hod]at z;cases z⟩)
  show wpAny _ X.A.in1 (tryCatch (holding [u] (call (.ref f) [u])) _ >>=_) _ _ _;refine wB (wpAny_tryCatch (wpAny_holding (wpAny_mono (turn (j+1) x hx _ F H _ u JP G rx) (λkv s2 he=>?_) λ_ _ hF=>hF.elim)));obtain⟨kx,H2,F2,J2P,rk,g2,ik⟩:=he;have J2:=J2P.unpinned;obtain⟨hoI2,HI2,_⟩:=J2P.pin (I,oI) (Qb _ (Qb _ (fV (Q7.mpr rfl) hoI)));have hI2:j8 X pins H2 I:=⟨HI2,hI.2⟩;have hS2:=g2.h _ _ hS;have hFS2:F2 S=none:=g2.o _ _ hS (λ_ z=>nomatch z) hFS;have G2:=G.trans g2;obtain⟨zS2,itS2,nS2,rS2,lS2,eS2⟩:=J2.lstM hS2;have bnd:j7 (yS ks) j<=j:=wZ _ j;have cm:=JT (i:=j+1) (j:=j7 (yS ks) j) hu hok hcmp `e `e J2 g2.s ik (ikb.same g2.f) rk r2
  show wpAny _ X.A.in1 (tryCatch (holding [u,kv] (richCompare .Lt kv u2 >>=_)) _ >>=_) _ _ _;refine wB (wpAny_tryCatch (wpAny_holding (wB (cm _ _ _ _ ?_))));refine wB (wpAny_holding (wpAny_truthy_bool ?_));refine wB (wpAny_letGo (wP ?_))
  by_cases c:yS ks (j+1) (j7 (yS ks) j)=true
  . rw [c];simp only [if_true];refine wB ?_;refine wpAny_updateSeq eS2 rfl (wB (wpAny_letGo ?_));rw [hname];have J3:=J2.lset (l:=S) (ys:=[x,kx]) (its':=[u,kv]) (f:=λ_=> #[u,kv]) (t':=s2.toks) hS2 eS2 rfl (.cons rx (.cons rk .nil)) (jI (show 2<=1000 by decide))
    refine wP ⟨plainId_quiet PySem.F.plain_min_loop _,ih (j+1) F2 _ _ x kx `e hlt J3 ⟨G2.f,λb o e=>by rw [aM (aQ e hFS2)];exact G2.s b o e,λb o e=>by rw [aM (aQ e hHS)];exact G2.h b o e,G2.o⟩ hFS2 aR (by rw [j7,if_pos c];exact hx) (by rw [j7,if_pos c];exact ik) ⟨by rw [aM hSI.symm];exact hI2.1,hI2.2⟩ ⟨oI,?_,hoc,hod⟩⟩
    exact(xQ s2.heap _ hSI).trans hoI2
  . have c':yS ks (j+1) (j7 (yS ks) j)=false:=by simpa using c
    rw [c'];simp only [zN,if_false];refine wB (wpAny_letGo ?_);rw [hname];exact wP ⟨plainId_quiet PySem.F.plain_min_loop _,ih (j+1) F2 H2 _ vb kb `e hlt J2 G2 hFS2 hS2 (by rw [j7,if_neg c];exact hvb) (by rw [j7,if_neg c];exact ikb.same g2.f) hI2 ⟨oI,hoI2,hoc,hod⟩⟩
end
noncomputable def Pd:List (Str×Nat)->aS->Option `g
 |[],_=>some []
 |q::r,δ=>(aF q.2 δ).bind λd=>(Pd r δ).bind λds=>some (d::ds)
def CF(fa:aS->Option PyData)(fr:List (Str×Nat))(fk:aS->Option PyData)(δ:aS):Option PyData:=(fa δ).bind λd=>match d with
 | .list ds=>(Pd fr δ).bind λes=>GV (λx=>fk (iQ (fr.length+1) (x::es))) ds
 |_=>none
theorem yT {K:Fg}{H0 F0 F H:Hp}{σ:St}{δ:aS}(R:Rep K H0 F0 F σ H δ):∀{fr:List (Str×Nat)} {es:`g},Pd fr δ=some es->∃evs:List V,(fr.map λq=>(σ[q.2]?).join)=evs.map some/\Are K F evs es/\es.length=fr.length
 |[],es,h=>by cases h;exact⟨[],rfl,rfl,rfl⟩
 |q::r,es,h=>by
  obtain⟨d,e1,h⟩:=bind_some h;obtain⟨ds,e2,h⟩:=bind_some h;cases h;obtain⟨evs,q1,q2,q3⟩:=yT R e2;unfold aF at e1;split at e1
  . rename_i d' z;cases e1;obtain⟨v,hv,is⟩:=R.fz _ _ z;refine⟨v::evs,?_,⟨v,evs,rfl,is,q2⟩,by rw [zC,zC,q3]⟩
    rw [zI,zI,q1,hv];rfl
  . cases e1
section
variable {X:Cx}
theorem CG {arg body:Expr}{params:Arguments}{sc:Scope}{lpos kpos p1 pos:Pos}{ta te:TE}{fa fk:aS->Option PyData}{x qual:Str}{P c:Addr}{k:Nat}(pn:Str)(fr:List (Str×Nat))(hcm:X.calm=true)(hr:Room (k+2) X.A)
 (hg:Gl X x) (hm:X.mg x=none) (hv:bootBuiltins x=some (.builtin "min")) (ha:PE X arg ta) (sa:SE X.K ta fa)
 (tbl:DC X.K P #[rawInt lpos.line,rawInt lpos.col,.str qual 0]) (hC:codeHdIn X.K c P=true) (hcode:X.env.code=.ref c) (hq:X.env.qual++ "<lambda>"=qual) (Bm:BMd X)
 (hk:sc.kind=.function) (hco:sc.isCoroutine=false) (hgen:sc.isGenerator=false) (hcell:∀y∈sc.names,y.2≠ .cell)
 (hfree:∀y∈sc.names,y.2=.free->X.env.kindOf y.1=some .cell\/X.env.kindOf y.1=some .free) (hp:sc.names.lookup pn=some .local) (hfr:∀q∈fr,X.N[q.2]? =some q.1/\sc.names.lookup q.1=some .free)
 (hdef:defaultsOf params X.env=([],[])) (hb:∀pm c' ctv u,bindArgs (kla_fn "<lambda>" qual params body sc (cN X.env sc.names []) pm (.ref c') ctv) ⟨[u],[]⟩=pure [(pn,u)])
 (he:∀f c' s H,Room k (qZ X (pn::fr.map (·.1)) qual sc f (.ref c') (cN X.env sc.names []) s H).A->PE (qZ X (pn::fr.map (·.1)) qual sc f (.ref c') (cN X.env sc.names []) s H) body te) (se:SE X.K te fk)
 (hn:x≠ "__name__":=by decide) (hdb:(x==("__debug__":Str))=false:=by decide)
 (hkn:(backToKw pos (keywordEach [⟨some "key",.Lambda params body sc lpos,kpos⟩] X.env)).filterMap (·.1)=[Str.ofString "key"]:=by rfl)
 (hea:backTo pos (starEach [arg] X.env)=(false,eval arg X.env)::backTo pos (starEach [] X.env):=by rfl) (hpl:(backTo pos (starEach [arg] X.env)).any (·.1)=false:=by rfl)
 (hst:starEach [arg] X.env=(false,eval arg X.env)::starEach [] X.env:=by rfl)
 (hall:(backToKw pos (keywordEach [⟨some "key",.Lambda params body sc lpos,kpos⟩] X.env)).all (·.1.isSome)=true:=by rfl) (hkw:(backToKw pos (keywordEach [⟨some "key",.Lambda params body sc lpos,kpos⟩] X.env)).any (·.1.isNone)=false:=by rfl):
 PE X (.Call (.Name x p1) [arg] [⟨some "key",.Lambda params body sc lpos,kpos⟩] pos) (Na X.K (CF fa fr fk)):=by
 intro pins s σ H Q I hh;obtain⟨H0,F0,F,δ,d,R,e,kq⟩:=hh;obtain⟨d1,e1,e⟩:=bind_some e;split at e
 rotate_left
 . cases e
 rename_i ds;obtain⟨es,e2,e⟩:=bind_some e;obtain⟨ks,e3,e⟩:=bind_some e;split at e
 rotate_left
 . cases e
 rename_i cc;simp only [Q5,Q2,Bool.not_eq_true',List.isEmpty_eq_false_iff]at cc;obtain⟨⟨c1,c2⟩,c3⟩:=cc;obtain⟨kl,kg⟩:=yR e3;obtain⟨evs,v1,v2,v3⟩:=yT R e2;refine wpAny_Call_Name_kw (jn I hg hm hv ?_ hn hdb);refine PyProof.Rows.callWith_kw (bq (aA ha aI hst pos pins s σ H (λvs H1=>∃v F1,vs=[v]/\Grow F H F1 H1/\Is X.K F1 v (.list ds)) I (sa H0 F0 F σ H δ _ _ R e1 λv H1 F1 g1 i1=>⟨v,F1,rfl,g1,i1⟩)) λus s1 h1=>?_) hea hpl hall hkw;obtain⟨vs,H1,I1,r1,v,F1,rfl,g1,i1⟩:=h1;obtain⟨l,xs,rfl,hFl,ar⟩:=i1;obtain⟨u,rfl,ru⟩:=mG r1;cases (show u=Value.ref l from ru)
 have tb1:Tb X.K F1:=R.tb.same g1.f;refine PyProof.Rows.kws_cons (GR I1 (g1.s _ _ (tb1 _ _ tbl)) hC hcode hq hfree hdef Bm λf c' pm ctv h2 tk2 Ha I2 hf hc sm=>PyProof.Rows.kws_nil ?_);rw [hkn];show wpAny _ X.A (call (.builtin "min") [.ref l] [(Str.ofString "key",.ref f)]) _ _ _;have g2:Grow F1 H1 F1 Ha:=⟨Same.refl _,g1.s.trans sm,sm,λ_ _ _ _ n=>n⟩;have hlen:ks.length=xs.length:=by rw [kl,ar.length]
 have turn:Turn X σ f xs ks F1 Ha:=λi x hx pins' F' H' s' u J G ru=>by
  obtain⟨dx,ex,ix⟩:=ar.get' hx;obtain⟨kd,ek,ek2⟩:=kg i dx ex;have gk:ks.getD i .none=kd:=by rw [gh,ek2];rfl
  obtain⟨fo1,_⟩:=J.hok f _ (G.h _ _ hf);obtain⟨oc,uu,vs',t',hc1,hc2,hc3⟩:=hc;obtain⟨co1,_⟩:=J.hok c' _ (G.h _ _ hc1);have hrm:=hr.in1;refine wpAny_mono (GQ (v:=x) (te:=te) (E:=λ_ _=>False) (Q:=λv H2=>∃F2,Grow F' H' F2 H2/\Is X.K F2 v kd) J hr.hd hk hco hgen hcell hfree hp hfr fo1 ⟨c',oc,vs',t',rfl,co1,hc2,hc3⟩ (hb _ _ _ _) ru hrm.depth (he f c' s' H' (hrm.deeper _)) ?_) (λr s2 q=>?_) λ_ _ z=>z
  . have ar2:Are X.K F' (x::evs) (dx::es):=⟨x,evs,rfl,ix.same G.f,(v2.same g1.f).same G.f⟩;have RR:=nr (K:=X.K) (N:=pn::fr.map (·.1)) (F:=F') (H:=H') ⟨G.s,tb1.same G.f⟩ ar2
    have eσ:L2.dY (pn::fr.map (·.1)) (x::evs)=some x::fr.map λq=>(σ[q.2]?).join:=by
     unfold L2.dY;rw [v1];have:(pn::fr.map (·.1)).length - (x::evs).length=0:=by
      have:=v2.length;rw [zC,zC,zJ];lia
     rw [this]
     simp
    rw [eσ]at RR;refine se H' F' F' _ H' _ kd _ RR ?_ λv H2 F2 g i=>⟨F2,g,i⟩;rw [show (pn::fr.map (·.1)).length=fr.length+1 by simp]
    exact ek
  . obtain⟨v,H2,J2,rv,F2,gg,iv⟩:=q;exact⟨v,H2,F2,J2,rv,gg,by rw [gk];exact iv⟩
 have hname:(toString "min"++toString ".loop":String)="min.loop":=by decide
 have hl:=g2.s _ _ hFl;obtain⟨zl,its,n,rl,ll,el⟩:=I2.lstM hl;have pos:0 < xs.length:=by
  rw [ar.length];cases ds with
  |nil=>exact absurd rfl c1
  |cons _ _=>exact Nat.succ_pos _
 refine kmk_tree PySem.F.kind_min PySem.F.plain_min PySem.F.entry_min (kmk_min_key _ _) ?_;show wpAny _ X.A.in1 (Builtin.Builtins.bindParams "min" ["key","default"] 0 ⟨[],[(Str.ofString "key",.ref f)]⟩ >>=_) _ _ _;refine wB (wpAny_of_eq (show Builtin.Builtins.bindParams "min" ["key","default"] 0 ⟨[],[(Str.ofString "key",.ref f)]⟩=pure [some (.ref f),none]from rfl) ?_)
 refine wB (wP ?_);refine wB (wpAny_pyIter_list ⟨_,el,rfl,_,rfl⟩ ?_);refine wB (wpAny_newList ?_ (zU _));rw [hname];have hlt:l < h2.objs.size:=dh el;generalize hG:h2.push `c=G1;have hS:G1.objs.size=h2.objs.size+1:=by rw [<-hG];exact size_push' ..
 have hSI:G1.objs.size≠h2.objs.size:=by rw [hS];exact uL (C8 _)
 have hlI:l≠h2.objs.size:=jG hlt;refine wP ⟨plainId_quiet PySem.F.plain_min_loop _,?_⟩;have J0:Inv X pins σ Ha {s1 with heap:=G1,toks:=tk2}:=I2.kept (t':=tk2) λb o e=>by rw [<-hG];exact df _ e
 have HS0:Ha G1.objs.size=none:=J0.fresh;have FS0:F1 G1.objs.size=none:=g2.s.free HS0;have J1:=J0.lnew (ys:=[]) (its:=[]) (t':=tk2) .nil (zU _);have gI:(G1.push {cls:=.type "list",data:=.seq #[] 0}).get? h2.objs.size=some `c:=df _ (by rw [<-hG];exact fU _ rfl)
 have gS:(G1.push {cls:=.type "list",data:=.seq #[] 0}).get? G1.objs.size=some {cls:=.type "list",data:=.seq #[] 0}:=fU _ rfl;have fI:j8 X pins (bC Ha G1.objs.size (.lst [])) h2.objs.size:=I2.fpOk (Q1 _) (by rw [aM hSI.symm];exact I2.fresh)
 have gSa:Grow F1 Ha F1 (bC Ha G1.objs.size (.lst [])):=⟨Same.refl _,g2.s.trans (bV HS0 _),bV HS0 _,λ_ _ _ _ n=>n⟩;have el1:(G1.push {cls:=.type "list",data:=.seq #[] 0}).get? l=some {cls:=.type "list",data:=.seq its.toArray n}:=df _ (by rw [<-hG];exact df _ el)
 have W:=Walks.list (prog:=X.prog) (w:=X.w) (A:=X.A.in1) hr.hd h2.objs.size l hlI its.toArray;have hsz:its.toArray.size=its.length:=zM ..;refine codeAny_builtin PySem.F.entry_min_loop ?_;rw [Around.under_plainId PySem.F.plain_min_loop _];show wpAny _ X.A.in1 (seqItems? (.ref _) >>=_) _ _ _;refine wB (wpAny_seqItems gS rfl ?_);show wpAny _ X.A.in1 (tryCatch (pyNext (.ref h2.objs.size)) _ >>=_) _ _ _;refine wB (wpAny_tryCatch (W.item 0 _ _ _ (by rw [hsz, <-ll];exact pos) ⟨⟨_,gI,rfl,rfl⟩,⟨_,el1,rfl,_,rfl⟩⟩ λu h' tk' hP hst' hk'=>?_))
 have hv:its[0]? =some u:=by simpa using hP
 obtain⟨x0,hx,rx⟩:=jg rl hv;have J2:=J1.turned (h':=h') (t':=tk') (it:=h2.objs.size) (λb o hb e=>hk' b o (by simpa using hb) e) fI.1 fI.2.1 fI.2.2.2.1 fI.2.2.2.2.1 fI.2.2.2.2.2
 obtain⟨oI,hoI,hoc,hod⟩:=id hst'.1;have JP:=J2.pinned (fp:=[h2.objs.size]) (λb hb=>by rw [Q7.mp hb];exact fI) (λb hb=>by rw [Q7.mp hb];exact⟨oI,hoI,λv z=>by rw [hod]at z;cases z⟩)
 show wpAny _ X.A.in1 (tryCatch (holding [u] (call (.ref f) [u])) _ >>=_) _ _ _;refine wB (wpAny_tryCatch (wpAny_holding (wpAny_mono (turn 0 x0 hx _ F1 _ _ u JP gSa rx) (λkv s3 he=>?_) λ_ _ hF=>hF.elim)));obtain⟨kx,H3,F3,J3P,rk,g3,ik⟩:=he;have J3:=J3P.unpinned;obtain⟨hoI3,HI3,_⟩:=J3P.pin (h2.objs.size,oI) (Qb _ (Qb _ (fV (Q7.mpr rfl) hoI)));have hS3:=g3.h _ _ (aR (H:=Ha) (a:=G1.objs.size) (o:=.lst []));have hFS3:F3 G1.objs.size=none:=g3.o _ _ aR (λ_ z=>nomatch z) FS0;obtain⟨zS3,itS3,nS3,rS3,lS3,eS3⟩:=J3.lstM hS3;show wpAny _ X.A.in1 (updateSeq G1.objs.size (λ_=> #[u,kv]) >>=_) _ _ _;refine wB ?_;refine wpAny_updateSeq eS3 rfl ?_;rw [hname];have J4:=J3.lset (ys:=[x0,kx]) (its':=[u,kv]) (f:=λ_=> #[u,kv]) (t':=s3.toks) hS3 eS3 rfl (.cons rx (.cons rk .nil)) (jI (show 2<=1000 by decide))
 have G3:=gSa.trans g3;refine wP ⟨plainId_quiet PySem.F.plain_min_loop _,GY (S:=G1.objs.size) (I:=h2.objs.size) (Fa:=F1) (Ha:=Ha) hcm hr.units hFl HS0 hSI hlen turn c2 c3 (λv u' F' H' s' a1 a2 a3 a4=>?_) _ 0 F3 _ _ x0 kx rfl pos J4
  ⟨G3.f,λb o e=>by rw [aM (aQ e hFS3)];exact G3.s b o e,λb o e=>by rw [aM (aQ e HS0)];exact G3.h b o e,G3.o⟩ hFS3 aR hx ik ⟨by rw [aM hSI.symm];exact HI3,fI.2⟩ ⟨oI,?_,hoc,hod⟩⟩
 . obtain⟨v',b1,b2⟩:=ar.get e;rw [ar.length,b1]at a1;cases a1;exact⟨v,H',a3,a2,kq v H' F' (g1.trans (g2.trans a4)) (b2.same a4.f)⟩
 . exact(xQ s3.heap _ hSI).trans hoI3
end
end DL
namespace L2
open PySem PySem.Spec PyProof.Rows PySem.W
section
variable {prog:Program} {w:World} {A:Around} {E:`d} {s:Shared} {d it r:Addr} {es:Array DictEntry} {ep:Nat}
variable {Q:`d}
theorem Ag(nsm:(d==sysModules)=false)(x:Raw s.heap d es ep)(q:Q (.ref `a) {s with heap:=s.heap.push {cls:=.type "dict_values",data:=.fields #[.ref d]}}):
 wpAny `m A (call (.builtin "dict.values") [.ref d]) Q E s:=by
 have ty:=x.ty;refine wpAny_call_entry F.slot_dict_values ty F.entry_dict_values ?_ (F.args_dict_values_1 _);refine wB ?_;unfold Builtin.Dict.noArgs;refine wB (wpAny_notOrdered_dict ty ?_);show wpAny _ _ (pure d) _ _ s;refine wP ?_;show wpAny _ _ (Builtin.Dict.showsAll d >>=_) _ _ s;unfold Builtin.Dict.showsAll;rw [if_neg (by rw [nsm];exact Q4)];refine wB (wP ?_)
 exact wB (wpAny_newObj_type (wP ⟨_,rfl,q⟩))
theorem DS(hv:s.heap.IsValuesView r d)(x:Raw s.heap d es ep)
 (q:Q (.ref `a) {s with heap:=s.heap.push {cls:=.type "dict_valueiterator",data:=.fields #[.ref d,.int 0 0,.int es.size 0,.int ep 0]}}):wpAny `m A (pyIter (.ref r)) Q E s:=by
 obtain⟨ov,hov,hcv,hdv⟩:=id hv;obtain⟨ob,at_,ex,dat⟩:=x;refine wpAny_pyIter_slot hv.typeIs F.slot_dict_values_iter (wpAny_call_entry F.slot_dict_values_iter hv.typeIs F.entry_dict_values_iter ?_ (F.args_dict_values_iter_1 _));unfold Builtin.«dict_values.__iter__»;refine wB (wP ?_);refine wB ?_;unfold Builtin.Dict_items.dictOf;refine wB (wpAny_field hov hdv (x:=.ref d) rfl (wP ?_));refine wB ?_;unfold Builtin.Dict_items.newIterator;refine wB (wpAny_dictEntries at_ dat ?_);refine wB (wpAny_dictEpoch at_ dat ?_);simp only [show Builtin.Dict_items.ownsTuple "dict_valueiterator"=false by decide,zN,if_false]
 refine wpAny_newObj_type (wP ⟨_,rfl,"dict_valueiterator",_,⟨_,fU _ rfl,rfl⟩,F.slot_dict_valueiterator_next.lookup,?_⟩);simpa [rawInt]using q
variable {Q:Option Value->Shared->Prop}
theorem vV {i:Nat}(ki:s.heap.IsValIter it d i es.size ep)(x:Raw s.heap d es ep)(hi:i < es.size)
 (q:∀h',h'.IsValIter it d (i+1) es.size ep->Heap.SameBut it s.heap h'->Q (some es[i].val) {s with heap:=h'}):wpAny `m A (pyNext (.ref it)) Q E s:=by
 obtain⟨oi,ati,ci,di⟩:=id ki;obtain⟨ob,at_,ex,dat⟩:=id x;unfold pyNext;refine wB (wpAny_attempt (wpAny_callSpecial?_slot (name:=Str.ofString "__next__") ki.typeIs F.slot_dict_valueiterator_next (wpAny_call_entry F.slot_dict_valueiterator_next ki.typeIs F.entry_dict_valueiterator_next ?_ (F.args_dict_valueiterator_next_1 _))));refine wB (wP (wB (wB ?_)))
 first|refine wB (wpAny_typeNameOfWhole_valiter ki.typeIs (wP ?_))|refine wB (wpAny_typeNameOf_valiter ki.typeIs (wP ?_))
 refine wB (wpAny_fieldsOf ati di ?_);simp only [show Builtin.Dict_items.ownsTuple "dict_valueiterator"=false by decide,zN,if_false]
 show wpAny _ _ (if(Value.ref d==Value.none)=true then _ else _) _ _ s;rw [if_neg (show ¬((Value.ref d==Value.none)=true)from Q4)];refine wB (wP (wB (wpAny_dictEntries at_ dat ?_)))
 rw [if_neg (by simp)];refine wB (wP (wB (wpAny_dictEpoch at_ dat ?_)))
 rw [if_neg (by simp)];refine wP ?_
 simp only [show ¬((i:Int) < 0)from by lia,if_false,IK,ND hi];refine wB ?_
 first|refine wB (wpAny_typeNameOfWhole_valiter ki.typeIs (wP ?_))|refine wB (wpAny_typeNameOf_valiter ki.typeIs (wP ?_))
 refine wB (wpAny_isOneOf_valiter ki.typeIs ?_);show wpAny _ _ (setField (.ref it) 1 (rawInt ((i:Int)+1)) >>=_) _ _ s;refine wB (wpAny_setField ati di (by simp) ?_)
 have k2:(s.heap.update it (Obj.mapFields (·.setIfInBounds 1 (rawInt ((i:Int)+1))))).IsValIter it d (i+1) es.size ep:=
  ⟨_,ID _ ati (Obj.isFreed_of_fields (Obj.data_mapFields di _)),(Obj.cls_mapFields ..).trans ci,by rw [Obj.data_mapFields di];simp [rawInt]⟩
 refine wB (wpAny_holding ?_);refine wB (wpAny_isOneOf_valiter (s:={s with heap:=s.heap.update it (Obj.mapFields (·.setIfInBounds 1 (rawInt ((i:Int)+1))))}) k2.typeIs ?_)
 refine wB (wpAny_isOneOf_valiter (s:={s with heap:=s.heap.update it (Obj.mapFields (·.setIfInBounds 1 (rawInt ((i:Int)+1))))}) k2.typeIs ?_);show wpAny _ _ (pure es[i].val) _ _ _
 exact wP (wP ⟨_,rfl,wP (q _ k2 (Heap.SameBut.update ..))⟩)
theorem GZ {i:Nat}(hh:A.handled=none)(ki:s.heap.IsValIter it d i es.size ep)(x:Raw s.heap d es ep)(hi:es.size<=i)
 (q:∀h',Heap.ExtBut it s.heap h'->Q none {s with heap:=h'}):wpAny `m A (pyNext (.ref it)) Q E s:=by
 obtain⟨oi,ati,ci,di⟩:=id ki;obtain⟨ob,at_,ex,dat⟩:=id x;unfold pyNext;refine wB (wpAny_attempt (wpAny_callSpecial?_slot (name:=Str.ofString "__next__") ki.typeIs F.slot_dict_valueiterator_next (wpAny_call_entry F.slot_dict_valueiterator_next ki.typeIs F.entry_dict_valueiterator_next ?_ (F.args_dict_valueiterator_next_1 _))));refine wB (wP (wB (wB ?_)))
 first|refine wB (wpAny_typeNameOfWhole_valiter ki.typeIs (wP ?_))|refine wB (wpAny_typeNameOf_valiter ki.typeIs (wP ?_))
 refine wB (wpAny_fieldsOf ati di ?_);simp only [show Builtin.Dict_items.ownsTuple "dict_valueiterator"=false by decide,zN,if_false]
 show wpAny _ _ (if(Value.ref d==Value.none)=true then _ else _) _ _ s;rw [if_neg (show ¬((Value.ref d==Value.none)=true)from Q4)];refine wB (wP (wB (wpAny_dictEntries at_ dat ?_)))
 rw [if_neg (by simp)];refine wB (wP (wB (wpAny_dictEpoch at_ dat ?_)))
 rw [if_neg (by simp)];refine wP ?_
 simp only [show ¬((i:Int) < 0)from by lia,if_false,IK,Array.getElem?_eq_none hi];refine wB ?_
 first|refine wB (wpAny_typeNameOfWhole_valiter ki.typeIs (wP ?_))|refine wB (wpAny_typeNameOf_valiter ki.typeIs (wP ?_))
 show wpAny _ _ (setField (.ref it) 0 .none >>=_) _ _ s;refine wB (wpAny_setField ati di (by simp) ?_)
 show wpAny _ _ (newExc (.type "StopIteration") [] >>=_) _ _ _;refine wB ?_;simp only [newExc,newTuple];refine wB (wpAny_newObj_type ?_ (by size_fits))
 refine wB (m:=firstArgMember _ _) (wpAny_of_eq (a:=Value.none) (by first|rfl|(simp only [firstArgMember];rfl)) ?_);refine wpAny_newObj_type ?_ (by size_fits);simp only [raiseNew];refine wB (wpAny_handled ?_)
 rw [show A.in1.handled=none from hh];refine wB (wP (wpAny_throw (wB ?_)))
 refine wpAny_isInstance (T:="StopIteration") (b:=true) ⟨_,fU _ rfl,rfl⟩ isSubtype_stop ?_;exact wP (q _ (((Heap.SameBut.update ..).extBut.push _).push _))
end
noncomputable def pJ(ns:`f):Nat->Int
 |0=>ns.getD 0 0
 |j+1=>if decide (ns.getD (j+1) 0 > pJ ns j)=true then ns.getD (j+1) 0 else pJ ns j
section
variable {X:Cx} {pins:`k} {σ:St} {S I d:Addr} {ns:`f} {es:Array DictEntry} {ep:Nat} {H0:Hp} {R:Result->Shared->Prop}
theorem Pe(hcm:X.calm=true)(hSI:S≠I)(hdI:d≠I)(hdS:d≠S)(hlen:es.size=ns.length)(hes:∀(i:Nat) (h:i < es.size),∃t,es[i].val=.int (ns.getD i 0) t)
 (hR:∀(t:Tok) (H':Hp) (s':Shared),Inv X pins σ H' s'->(∀b,b≠S->H' b=H0 b)->R (.ok (.ret (.int (pJ ns (ns.length - 1)) t))) s'):
 ∀(r j:Nat) (H:Hp) (s:Shared),ns.length - (j+1)=r->j+1<=ns.length->Inv X pins σ H s->(∀b,b≠S->H b=H0 b)->H S=some (.lst [.int (pJ ns j),.int (pJ ns j)])->j8 X pins H I->s.heap.IsValIter I d (j+1) es.size ep->Raw s.heap d es ep->
  codeAny `i X.A (.builtin "max.loop" ⟨[.ref I,.none,.ref S],[]⟩) R s:=by
 have hname:(toString "max"++toString ".loop":String)="max.loop":=by decide
 intro r
 induction r with
 |zero=>
  intro j H s hr hj J hb hS hI hit hraw;have hin:j+1=ns.length:=by lia
  obtain⟨zS,itS,nS,rS,lS,eS⟩:=J.lstM hS;obtain⟨u1,u2,rfl,⟨t1,rfl⟩,r2⟩:=rS.two;refine codeAny_builtin PySem.F.entry_max_loop ?_;rw [Around.under_plainId PySem.F.plain_max_loop _];show wpAny _ X.A.in1 (seqItems? (.ref S) >>=_) _ _ _;refine wB (wpAny_seqItems eS rfl ?_);show wpAny _ X.A.in1 (tryCatch (pyNext (.ref I)) _ >>=_) _ _ _;refine wB (wpAny_tryCatch (GZ (J.ok.hd hcm) hit hraw `e λh' xb=>?_))
  have J1:Inv X pins σ H {s with heap:=h',toks:=s.toks}:=J.turned (it:=I) (λb o hb e=>xb b o hb e) hI.1 hI.2.1 hI.2.2.2.1 hI.2.2.2.2.1 hI.2.2.2.2.2
  have eS1:=xb S _ hSI eS;show wpAny _ X.A.in1 (updateSeq S (λ_=> #[]) >>=_) _ _ _;refine wB ?_;refine wpAny_updateSeq eS1 rfl (wB (wpAny_letGo (wP ?_)));have J2:=J1.lset (l:=S) (ys:=[]) (its':=[]) (f:=λ_=> #[]) (t':=s.toks) hS eS1 rfl .nil (zU _);rw [show j=ns.length - 1 by lia]
  exact hR t1 _ _ J2 λb n=>by rw [aM n];exact hb b n
 |succ r ih=>
  intro j H s hr hj J hb hS hI hit hraw;have hlt:j+1 < es.size:=by lia
  obtain⟨zS,itS,nS,rS,lS,eS⟩:=J.lstM hS;obtain⟨u1,u2,rfl,r1,⟨t2,rfl⟩⟩:=rS.two;refine codeAny_builtin PySem.F.entry_max_loop ?_;rw [Around.under_plainId PySem.F.plain_max_loop _];show wpAny _ X.A.in1 (seqItems? (.ref S) >>=_) _ _ _;refine wB (wpAny_seqItems eS rfl ?_);show wpAny _ X.A.in1 (tryCatch (pyNext (.ref I)) _ >>=_) _ _ _;refine wB (wpAny_tryCatch (vV hit hraw hlt λh' hit' sb=>?_));have J1:Inv X pins σ H {s with heap:=h',toks:=s.toks}:=J.turned (it:=I) (λb o hb e=>sb.extBut b o hb e) hI.1 hI.2.1 hI.2.2.2.1 hI.2.2.2.2.1 hI.2.2.2.2.2
  have eS1:=sb.extBut S _ hSI eS;have hraw':Raw h' d es ep:=hraw.stay λo e=>sb.extBut d o hdI e;obtain⟨tv,ev⟩:=hes (j+1) hlt;rw [ev];show wpAny _ X.A.in1 (pure (Value.int _ tv) >>=_) _ _ _;refine wB (wP ?_);show wpAny _ X.A.in1 (tryCatch (holding [.int _ tv,.int _ tv] (richCompare .Gt (.int _ tv) (.int _ t2) >>=_)) _ >>=_) _ _ _;refine wB (wpAny_tryCatch (wpAny_holding (wB ((PyProof.Rows.gt_int ?_ :wpAny `i X.A.in1 (compareOp .Gt (.int (ns.getD (j+1) 0) tv) (.int (pJ ns j) t2)) _ _ _)))));refine wB (wpAny_holding (wpAny_truthy_bool ?_));refine wB (wpAny_letGo (wP ?_))
  by_cases c:decide (ns.getD (j+1) 0 > pJ ns j)=true
  . rw [c];simp only [if_true];refine wB ?_;refine wpAny_updateSeq eS1 rfl (wB (wpAny_letGo ?_));rw [hname];have J2:=J1.lset (l:=S) (ys:=[.int (ns.getD (j+1) 0),.int (ns.getD (j+1) 0)]) (its':=[.int (ns.getD (j+1) 0) tv,.int (ns.getD (j+1) 0) tv]) (f:=λ_=> #[.int (ns.getD (j+1) 0) tv,.int (ns.getD (j+1) 0) tv]) (t':=s.toks) hS eS1 rfl (.cons ⟨tv,rfl⟩ (.cons ⟨tv,rfl⟩ .nil)) (jI (show 2<=1000 by decide))
    obtain⟨oI,hoI,hoc,hod⟩:=id hit';refine wP ⟨plainId_quiet PySem.F.plain_max_loop _,ih (j+1) _ _ `e `e J2 (λb n=>by rw [aM n];exact hb b n) (by rw [aR,pJ,if_pos c]) ⟨by rw [aM hSI.symm];exact hI.1,hI.2⟩ ⟨oI,?_,hoc,hod⟩ (hraw'.stay λo e=>?_)⟩
    . exact(xQ h' _ hSI).trans hoI
    . exact(xQ h' _ hdS.symm).trans e
  . have c':decide (ns.getD (j+1) 0 > pJ ns j)=false:=by simpa using c
    rw [c'];simp only [zN,if_false];refine wB (wpAny_letGo ?_);rw [hname];exact wP ⟨plainId_quiet PySem.F.plain_max_loop _,ih (j+1) H _ `e `e J1 hb (by rw [pJ,if_neg c];exact hS) hI hit' hraw'⟩
end
def Mw(T:String)(p a:Addr):HO:=.ext λh=>h.get? p=some {cls:=.type T,data:=.fields #[.ref a]}
def CH(T:String):V->List V->Hp->VK->Prop:=λx xs H Q=>xs=[]/\∃a kvs,x=.ref a/\H a=some (.dT kvs)/\∀p,H p=none->Q (.ref p) (bC H p (Mw T p a))
section
variable {X:Cx} {pins:`k} {σ:St} {H:Hp} {s:Shared}
theorem Inv.raw {a:Addr}{kvs:List (List bb×V)}(I:`h)(ha:H a=some (.dT kvs)):(a==sysModules)=false/\∃(ys:List (List bb×Addr×Value)) (es:Array DictEntry) (ep:Nat),Raw s.heap a es ep/\
 Paired (λ(p:List bb×V) (q:List bb×Addr×Value)=>p.1=q.1/\H q.2.1=some (.tup (p.1.map kV))/\RelV p.2 q.2.2) kvs ys/\es.toList=ys.map (entryOfKey (tupleKind (am X.prog X.w)))/\(ys.map (·.1)).Nodup/\kvs.length<=sizeLine:=by
 obtain⟨hlen,nsm,ys,rel,ob,es,ep,at_,ex,dat,hes,nd,_⟩:=(show ObjOk X.prog X.w H s.heap a (.dT kvs)from I.hok a _ ha)
 exact⟨nsm,ys,es,ep,⟨ob,at_,ex,dat⟩,rel,hes,nd,hlen⟩
theorem DT:Ou X "dict.values" (CH "dict_values"):=by
 intro pins s σ H x xs v us Q I rx rs h;obtain⟨rfl,a,kvs,rfl,ha,q⟩:=h;cases rs;cases (show v=Value.ref a from rx)
 obtain⟨nsm,ys,es,ep,raw,_⟩:=I.raw ha;refine Ag nsm raw ?_;have gf:(s.heap.push {cls:=.type "dict_values",data:=.fields #[.ref a]}).get? `a=some {cls:=.type "dict_values",data:=.fields #[.ref a]}:=fU _ rfl;exact⟨.ref `a,_,I.laid (t':=s.toks) (o:=Mw "dict_values" `a a) (λb o e=>df _ e) (Q1 _) ⟨gf,⟨_,gf⟩,λh1 h2 e k=>k _ e⟩,rfl,q _ I.fresh⟩
def Kn:List V->Hp->VK->Prop:=λas H Q=>∃(p a:Addr) (kvs:List (List bb×V)) (ns:`f),as=[.ref p]/\H p=some (Mw "dict_values" p a)/\H a=some (.dT kvs)/\kvs.map (·.2)=ns.map V.int/\ns≠[]/\
 ∀H',Same H H'->Q (.int (pJ ns (ns.length - 1))) H'
theorem DU(hcm:X.calm=true):dX X (.builtin "max") Kn:=by
 intro pins s σ H as us Q J rv h;obtain⟨p,a,kvs,ns,rfl,hp,ha,hkv,hne,q⟩:=h;obtain⟨u,rfl,ru⟩:=mG rv;cases (show u=Value.ref p from ru)
 have hname:(toString "max"++toString ".loop":String)="max.loop":=by decide
 obtain⟨nsm,ys,es,ep,raw,rel,hes,_⟩:=J.raw ha;obtain⟨gp,_⟩:=(show ObjOk X.prog X.w H s.heap p (.ext _)from J.hok p _ hp)
 have view:s.heap.IsValuesView p a:=⟨_,gp,rfl,rfl⟩;have kl:kvs.length=ns.length:=by rw [<-zJ (f:=λz:List bb×V=>z.2),hkv,zJ]
 have yl:kvs.length=ys.length:=Paired.length rel;have esz:es.size=ns.length:=by rw [<-Qe,hes,zJ, <-yl,kl]
 have vE:∀(i:Nat) (h:i < es.size),∃t,es[i].val=.int (ns.getD i 0) t:=λi h=>by
  have hy:i < ys.length:=by lia
  have r:=(oB (x:=(([],V.non):List bb×V)) (y:=(([],0,Value.none):List bb×Addr×Value)) i rel `e).2.2
  have e1:=congrArg (λl:List V=>l.getD i .non) hkv;have e2:=ig (λz:List bb×V=>z.2) kvs i ([],.non);have e3:(ns.map V.int).getD i .non=.int (ns.getD i 0):=by
   rw [gh,zK,dS (show i < ns.length by lia),gh,dS (show i < ns.length by lia)]
   rfl
  have e4:(kvs.getD i ([],.non)).2=.int (ns.getD i 0):=e2.symm.trans (e1.trans e3);rw [e4]at r;obtain⟨t,r⟩:=r;refine⟨t,?_⟩;have e5:es[i]? =some (entryOfKey (tupleKind (am X.prog X.w)) ys[i]):=by rw [<-IF,hes,zK,dS hy];rfl
  rw [ND h]at e5;rw [zV e5];rw [gh,dS hy]at r;exact r
 have pos:0 < ns.length:=by
  cases ns with
  |nil=>exact absurd rfl hne
  |cons _ _=>exact Nat.succ_pos _
 refine kmk_tree PySem.F.kind_max PySem.F.plain_max PySem.F.entry_max (CC _) ?_;show wpAny _ X.A.in1 (Builtin.Builtins.bindParams "max" ["key","default"] 0 ⟨[],[]⟩ >>=_) _ _ s;refine wB (wpAny_of_eq (show Builtin.Builtins.bindParams "max" ["key","default"] 0 ⟨[],[]⟩=pure [none,none]from rfl) ?_)
 refine wB (wP ?_);refine wB (DS view raw ?_);refine wB (wpAny_newList ?_ (zU _));rw [hname];generalize hG:s.heap.push {cls:=.type "dict_valueiterator",data:=.fields #[.ref a,.int 0 0,.int es.size 0,.int ep 0]}=G1;have hS:G1.objs.size=`a+1:=by rw [<-hG];exact size_push' ..
 have hSI:G1.objs.size≠`a:=by rw [hS];exact uL (C8 _)
 have haI:a≠`a:=jG raw.lt;have haS:a≠G1.objs.size:=by rw [hS];exact jG (KW raw.lt)
 refine wP ⟨plainId_quiet PySem.F.plain_max_loop _,?_⟩;have old:∀b o,s.heap.get? b=some o->G1.get? b=some o:=λb o e=>by rw [<-hG];exact df _ e
 have J0:Inv X pins σ H {s with heap:=G1,toks:=s.toks}:=J.kept (t':=s.toks) old
 have HS0:H G1.objs.size=none:=J0.fresh;have J1:=J0.lnew (ys:=[]) (its:=[]) (t':=s.toks) .nil (zU _);have gI:(G1.push {cls:=.type "list",data:=.seq #[] 0}).IsValIter `a a 0 es.size ep:=⟨_,df _ (by rw [<-hG];exact fU _ rfl),rfl,rfl⟩
 have gS:(G1.push {cls:=.type "list",data:=.seq #[] 0}).get? G1.objs.size=some {cls:=.type "list",data:=.seq #[] 0}:=fU _ rfl;have fI:j8 X pins (bC H G1.objs.size (.lst [])) `a:=J.fpOk (Q1 _) (by rw [aM hSI.symm];exact J.fresh)
 have raw1:Raw (G1.push {cls:=.type "list",data:=.seq #[] 0}) a es ep:=raw.stay λo e=>df _ (old _ _ e);refine codeAny_builtin PySem.F.entry_max_loop ?_;rw [Around.under_plainId PySem.F.plain_max_loop _];show wpAny _ X.A.in1 (seqItems? (.ref _) >>=_) _ _ _;refine wB (wpAny_seqItems gS rfl ?_);show wpAny _ X.A.in1 (tryCatch (pyNext (.ref `a)) _ >>=_) _ _ _;refine wB (wpAny_tryCatch (vV gI raw1 `e λh' hit' sb=>?_))
 obtain⟨tv,ev⟩:=vE 0 `e
 rw [ev];have J2:=J1.turned (h':=h') (t':=s.toks) (it:=`a) (λb o hb e=>sb.extBut b o hb e) fI.1 fI.2.1 fI.2.2.2.1 fI.2.2.2.2.1 fI.2.2.2.2.2;have eS1:=sb.extBut _ _ hSI gS;show wpAny _ X.A.in1 (pure (Value.int _ tv) >>=_) _ _ _;refine wB (wP ?_);show wpAny _ X.A.in1 (updateSeq G1.objs.size (λ_=> #[.int _ tv,.int _ tv]) >>=_) _ _ _;refine wB ?_;refine wpAny_updateSeq eS1 rfl ?_;rw [hname];have J3:=J2.lset (ys:=[.int (ns.getD 0 0),.int (ns.getD 0 0)]) (its:=[]) (its':=[.int (ns.getD 0 0) tv,.int (ns.getD 0 0) tv]) (f:=λ_=> #[.int (ns.getD 0 0) tv,.int (ns.getD 0 0) tv]) (t':=s.toks) aR eS1 rfl (.cons ⟨tv,rfl⟩ (.cons ⟨tv,rfl⟩ .nil)) (jI (show 2<=1000 by decide))
 obtain⟨oI,hoI,hoc,hod⟩:=id hit';refine wP ⟨plainId_quiet PySem.F.plain_max_loop _,Pe (S:=G1.objs.size) (I:=`a) (H0:=H) hcm hSI haI haS esz vE (λt H' s' a1 a2=>?_) _ 0 _ _ rfl pos J3 (λb nb=>by rw [aM nb,aM nb]) aR ⟨by rw [aM hSI.symm];exact fI.1,fI.2⟩ ⟨oI,?_,hoc,hod⟩ ((raw1.stay λo e=>sb.extBut a o haI e).stay λo e=>?_)⟩
 . exact⟨.int (pJ ns (ns.length - 1)),H',a1,⟨t,rfl⟩,q H' λb o e=>by rw [a2 b (aQ e HS0)];exact e⟩
 . exact(xQ h' _ hSI).trans hoI
 . exact(xQ h' _ haS.symm).trans e
end
end L2
namespace DL
open PySem L2
noncomputable def jT:List (PyData×PyData)->Option `f
 |[]=>some []
 |(_,.int n)::r=>(jT r).map (n:: ·)
 |_::_=>none
noncomputable def Ko:PyData->Option PyData
 | .dict kvs=>(jT kvs).bind λns=>if ns.isEmpty=true then none else some (.int (pJ ns (ns.length - 1)))
 |_=>none
def Kp(fe:aS->Option PyData)(δ:aS):Option PyData:=(fe δ).bind Ko
theorem lJ {K:Fg}{F:Hp}:∀{kvs:List (PyData×PyData)} {m:List (List bb×V)} {ns:`f},jT kvs=some ns->Kvs K F m kvs->m.map (·.2)=ns.map V.int
 |[],m,ns,h,k=>by cases h;rw [show m=[]from k];rfl
 |(k,d)::r,m,ns,h,kv=>by
  cases d with
  |int n=>
   obtain⟨ns',e1,rfl⟩:=Q0.mp (show (jT r).map (n:: ·)=some ns from h)
   obtain⟨q,m',rfl,h1,h2⟩:=kv;rw [zI,zI,lJ e1 h2,show q.2=V.int n from h1.2]
  |_=>cases h
section
variable {X:Cx} {K:Fg}
def Kq(K:Fg)(te:TE):TE:=IX Kn (bU (Lb K "dict" (CH "dict_values") te) dJ)
theorem JU {te:TE}{fe:aS->Option PyData}(a:SE K te fe):SE K (Kq K te) (Kp fe):=by
 intro H0 F0 F σ H δ d Q R e h;obtain⟨d1,e1,e2⟩:=bind_some e;unfold Ko at e2;split at e2
 . rename_i kvs;obtain⟨ns,e3,e4⟩:=bind_some e2;split at e4
   . cases e4
   . rename_i hne;cases e4;refine a H0 F0 F σ H δ _ _ R e1 λv H1 F1 g1 i1=>?_;obtain⟨p,rfl,hh⟩:=i1;have hd:∃m,F1 p=some (.dT m)/\Kvs K F1 m kvs:=by
      rcases hh with ⟨ms,rfl,_⟩|⟨m,z,kv⟩|⟨nm,rfl,_⟩|⟨m,z,kv⟩
      . cases e3
      . exact⟨m,z,kv⟩
      . cases e3
      . cases kvs with
        |nil=>exact kv.elim
        |cons q r=>rw [kv.1]at e3;cases e3
     obtain⟨m,hm,kv⟩:=hd;have hmH:=g1.s _ _ hm;refine⟨.inr (.inr (.inl ⟨rfl,.inr ⟨m,hmH⟩⟩)),rfl,p,m,rfl,hmH,λq hq=>?_⟩;refine⟨q,p,m,ns,rfl,aR,by rw [aM (aQ hmH hq)];exact hmH,lJ e3 kv,λz=>hne (by rw [z];rfl),λH' sm=>?_⟩
     have sm1:Same H1 H':=(bV hq _).trans sm;exact h _ H' F1 ⟨g1.f,g1.s.trans sm1,g1.h.trans sm1,g1.o⟩ rfl
 . cases e2
theorem JV(K:Fg){x:Str}{E:Expr}{ap cp p1 pos:Pos}{te:TE}(hc:X.calm=true)(hg:Gl X x)(hm:X.mg x=none)(hv:bootBuiltins x=some (.builtin "max"))(ha:PE X E te)(h:X.K=K:=by rfl)(hn:x≠ "__name__":=by decide)(hdb:(x==("__debug__":Str))=false:=by decide)
 (hbase:attributeBase E "values" X.env (eval E X.env)=eval E X.env:=by rfl) (hline:(ap.endLine==cp.line)=true:=by rfl)
 (he:starEach [.Call (.Attribute E "values" ap) [] [] cp] X.env=(false,eval (.Call (.Attribute E "values" ap) [] [] cp) X.env)::starEach [] X.env:=by rfl) (hpl:(backTo pos (starEach [] X.env)).any (·.1)=false:=by rfl):
 PE X (.Call (.Name x p1) [.Call (.Attribute E "values" ap) [] [] cp] [] pos) (Kq K te):=by
 subst h;exact bD (DU hc) hg hm hv (aA (En PySem.F.plainAttrs_dict PySem.F.slot_dict_values PySem.F.type_dict_values DT ha hbase hline) aI he) hn hdb he hpl
end
end DL
namespace L2
open PySem PySem.Spec PyProof.Rows PySem.W Att
def ItSt(h:Heap)(it d S:Addr)(i n ep:Nat):Prop:=∃x0 f ok ov,h.get? it=some {cls:=.type "dict_itemiterator",dict:=none,data:=.fields #[x0,.bool f,.ref d,.int i 0,.int n 0,.int ep 0,ok,ov],slots:= #[]}/\
 (x0=.none\/∃(a:Addr) (oa:Obj),x0=rawInt a/\h.get? a=some oa/\a≠it/\a≠S)
variable {h:Heap}
theorem ItSt.keep {h':Heap}{it d S:Addr}{i n ep:Nat}(x:ItSt h it d S i n ep)(k:∀b o,b≠S->h.get? b=some o->h'.get? b=some o)(n1:it≠S):ItSt h' it d S i n ep:=by
 obtain⟨x0,f,ok,ov,e,r⟩:=x;refine⟨x0,f,ok,ov,k _ _ n1 e,r.imp id λ⟨a,oa,r1,r2,r3,r4⟩=>⟨a,oa,r1,k _ _ r4 r2,r3,r4⟩⟩
section
variable {prog:Program} {w:World} {A:Around} {E:`d} {s:Shared} {d it r S:Addr} {es:Array DictEntry} {ep:Nat}
variable {Q:`d}
theorem DV(nsm:(d==sysModules)=false)(x:Raw s.heap d es ep)(q:Q (.ref `a) {s with heap:=s.heap.push {cls:=.type "dict_items",data:=.fields #[.ref d]}}):
 wpAny `m A (call (.builtin "dict.items") [.ref d]) Q E s:=by
 have ty:=x.ty;refine wpAny_call_entry F.slot_dict_items ty F.entry_dict_items ?_ (F.args_dict_items_1 _);unfold Builtin.«dict.items»;refine wB ?_;unfold Builtin.Dict.noArgs;refine wB (wpAny_notOrdered_dict ty ?_);show wpAny _ _ (pure d) _ _ s;refine wP ?_;show wpAny _ _ (Builtin.Dict.showsAll d >>=_) _ _ s;unfold Builtin.Dict.showsAll;rw [if_neg (by rw [nsm];exact Q4)];refine wB (wP ?_)
 exact wB (wpAny_newObj_type (wP ⟨_,rfl,q⟩))
theorem DW(hv:s.heap.IsItemsView r d)(x:Raw s.heap d es ep)
 (q:Q (.ref `a) {s with heap:=s.heap.push {cls:=.type "dict_itemiterator",data:=.fields #[.none,.bool false,.ref d,.int 0 0,.int es.size 0,.int ep 0,.none,.none]}}):wpAny `m A (pyIter (.ref r)) Q E s:=by
 obtain⟨ov,hov,hcv,hdv⟩:=id hv;obtain⟨ob,at_,ex,dat⟩:=x;refine wpAny_pyIter_slot hv.typeIs F.slot_dict_items_iter (wpAny_call_entry F.slot_dict_items_iter hv.typeIs F.entry_dict_items_iter ?_ (F.args_dict_items_iter_1 _));unfold Builtin.«dict_items.__iter__»;refine wB (wP ?_);refine wB ?_;unfold Builtin.Dict_items.dictOf;refine wB (wpAny_field hov hdv (x:=.ref d) rfl (wP ?_));refine wB ?_;unfold Builtin.Dict_items.newIterator;refine wB (wpAny_dictEntries at_ dat ?_);refine wB (wpAny_dictEpoch at_ dat ?_);simp only [show Builtin.Dict_items.ownsTuple "dict_itemiterator"=true by decide,if_true]
 refine wpAny_newObj_type (wP ⟨_,rfl,"dict_itemiterator",_,⟨_,fU _ rfl,rfl⟩,F.slot_dict_itemiterator_next.lookup,?_⟩) (by simp only [sizeOk,Builtin.Dict_items.ownedTupleFields,zM,zQ,zC,zH,sizeLine_eq];lia);simpa [rawInt,Builtin.Dict_items.ownedTupleFields]using q
variable {Q:Option Value->Shared->Prop}
theorem DX {i:Nat}(st:ItSt s.heap it d S i es.size ep)(hS:S < `a)(x:Raw s.heap d es ep)(hi:i < es.size)
 (q : ∀ h', ItSt h' it d S (i + 1) es.size ep -> h'.get? `a = some { cls := .type "tuple", data := .seq #[es[i].key, es[i].val] } -> h'.objs.size = `a + 1 ->
  (∀b o,b≠it->s.heap.get? b=some o->h'.get? b=some o)->Q (some (.ref `a)) {s with heap:=h'}):wpAny `m A (pyNext (.ref it)) Q E s:=by
 obtain⟨hp,g,dr,tk,os⟩:=s;obtain⟨x0,f,ok,ov,hit,own⟩:=st;obtain⟨ob,at_,ex,dat⟩:=id x;have hT:Shared.TypeIs ⟨hp,g,dr,tk,os⟩ (.ref it) "dict_itemiterator":=⟨_,hit,rfl⟩;unfold pyNext;refine wB (wpAny_attempt (wpAny_callSpecial?_slot (name:=Str.ofString "__next__") hT F.slot_dict_itemiterator_next (wpAny_call_entry F.slot_dict_itemiterator_next hT F.entry_dict_itemiterator_next ?_ (F.args_dict_itemiterator_next_1 _))));refine wB (wP (wB (wB ?_)))
 first|refine wB (wpAny_typeNameOfWhole_itemiter hT (wP ?_));skip|refine wB (wpAny_typeNameOf_itemiter hT (wP ?_));skip
 refine wB (wpAny_fieldsOf hit rfl ?_);simp only [show Builtin.Dict_items.ownsTuple "dict_itemiterator"=true by decide,if_true]
 show wpAny _ _ (if(Value.ref d==Value.none)=true then _ else _) _ _ _;rw [if_neg (show ¬((Value.ref d==Value.none)=true)from Q4)];refine wB (wP (wB (wpAny_dictEntries at_ dat ?_)))
 rw [if_neg (by simp)];refine wB (wP (wB (wpAny_dictEpoch at_ dat ?_)))
 rw [if_neg (by simp)];refine wP ?_
 simp only [show ¬((i:Int) < 0)from by lia,if_false,IK,ND hi];refine wB ?_
 first|refine wB (wpAny_typeNameOfWhole_itemiter hT (wP ?_));skip|refine wB (wpAny_typeNameOf_itemiter hT (wP ?_));skip
 refine wB (wpAny_isOneOf_itemiter hT ?_);show wpAny _ _ (setField (.ref it) 3 (rawInt ((i:Int)+1)) >>=_) _ _ ⟨hp,g,dr,tk,os⟩;refine wB (wpAny_setField_rec hit (by simp) λh1 e1 s1=>?_)
 replace s1:Heap.SameBut it hp h1:=s1
 replace e1:h1.get? it=some {cls:=.type "dict_itemiterator",dict:=none,data:=.fields #[x0,.bool f,.ref d,.int ((i+1:Nat):Int) 0,.int es.size 0,.int ep 0,ok,ov],slots:= #[]}:=by
  rw [show ((i+1:Nat):Int)=(i:Int)+1 by lia];simpa [rawInt]using e1
 have hT1:Shared.TypeIs ⟨h1,g,dr,tk,os⟩ (.ref it) "dict_itemiterator":=⟨_,e1,rfl⟩;refine wB (wpAny_holding ?_);refine wB (wpAny_isOneOf_itemiter hT1 ?_);refine wB (wpAny_isOneOf_itemiter hT1 ?_);show wpAny _ _ (Builtin.Dict_items.pairFromOwner (.ref it) 6 es[i].key es[i].val) _ _ ⟨h1,g,dr,tk,os⟩;unfold Builtin.Dict_items.pairFromOwner;refine wB (wpAny_newTuple ?_);have e2:=df {cls:=.type "tuple",data:=.seq #[es[i].key,es[i].val]} e1;generalize hh2:h1.push {cls:=.type "tuple",data:=.seq #[es[i].key,es[i].val]}=h2 at e2;have z1:h1.objs.size=hp.objs.size:=s1.1;have lt0:it < hp.objs.size:=dh hit;have t2:h2.get? hp.objs.size=some {cls:=.type "tuple",data:=.seq #[es[i].key,es[i].val]}:=by rw [<-hh2, <-z1];exact fU _ rfl
 have z2:h2.objs.size=hp.objs.size+1:=by rw [<-hh2,AC,z1]
 have k2:∀b o,b≠it->hp.get? b=some o->h2.get? b=some o:=λb o nb e=>by rw [<-hh2];exact df _ (s1.extBut b o nb e)
 show wpAny _ _ (Builtin.Dict_items.ownedTupleIsFree (.ref it) >>=_) _ _ ⟨h2,g,dr,tk,os⟩;rw [z1];clear hh2 e1 s1 hT1 z1 h1;have ni:=uL lt0;refine wB ?_;unfold Builtin.Dict_items.ownedTupleIsFree
 rcases own with rfl|⟨a,oa,rfl,ha,hai,haS⟩
 . refine wB (wpAny_field e2 rfl (x:=.none) rfl (wP ?_));simp only [if_true];refine wB (wpAny_field e2 rfl (x:=ok) rfl ?_);refine wB (wpAny_field e2 rfl (x:=ov) rfl ?_);refine wB (wpAny_setField_rec e2 (by simp) λh3 e3 s3=>?_);refine wB (wpAny_setField_rec e3 (by simp) λh4 e4 s4=>?_)
   refine wB (wpAny_setField_rec e4 (by simp) λh5 e5 s5=>?_);refine wB (wpAny_setField_rec e5 (by simp) λh6 e6 s6=>?_)
   have kk:∀b o,b≠it->h2.get? b=some o->h6.get? b=some o:=λb o nb e=>s6.extBut b o nb (s5.extBut b o nb (s4.extBut b o nb (s3.extBut b o nb e)));refine wB (wpAny_letGo (wP (wP ⟨_,rfl,wP (q h6 ?_ (kk _ _ ni t2) ?_ λb o nb e=>kk b o nb (k2 b o nb e))⟩)))
   . exact⟨_,_,_,_,e6,.inr ⟨hp.objs.size,_,rfl,kk _ _ ni t2,ni,uL hS⟩⟩
   . show h6.objs.size=hp.objs.size+1;rw [s6.1,s5.1,s4.1,s3.1,z2]
 . have ha2:h2.get? a=some oa:=k2 a oa hai ha;refine wB (wpAny_field e2 rfl (x:=rawInt a) rfl ?_);show wpAny _ _ (loadIfAlive ((a:Int).toNat) >>=_) _ _ _;rw [IK];refine wB (kdx_alive ha2 ?_);simp only [Option.isNone_some,zN,if_false];refine wB (wpAny_field e2 rfl (x:=.bool f) rfl ?_);cases f with
   |true=>
    rw [if_neg (show ¬((Value.bool true != Value.bool true)=true)from Q4)];refine wP ?_;simp only [zN,if_false]
    exact wP (wP ⟨_,rfl,wP (q h2 ⟨_,_,_,_,e2,.inr ⟨a,oa,rfl,ha2,hai,haS⟩⟩ t2 z2 k2)⟩)
   |false=>
    rw [if_pos (show (Value.bool false != Value.bool true)=true from rfl)];refine wB (wpAny_setField_rec e2 (by simp) λh3 e3 s3=>?_);refine wP ?_;simp only [zN,if_false]
    exact wP (wP ⟨_,rfl,wP (q h3 ⟨_,_,_,_,e3,.inr ⟨a,oa,rfl,s3.extBut a oa hai ha2,hai,haS⟩⟩ (s3.extBut _ _ ni t2) (by show h3.objs.size=hp.objs.size+1;rw [s3.1,z2]) λb o nb e=>s3.extBut b o nb (k2 b o nb e))⟩)
theorem G4 {i:Nat}(hh:A.handled=none)(st:ItSt s.heap it d S i es.size ep)(x:Raw s.heap d es ep)(hi:es.size<=i)
 (q:∀h',Heap.ExtBut it s.heap h'->Q none {s with heap:=h'}):wpAny `m A (pyNext (.ref it)) Q E s:=by
 obtain⟨x0,f,ok,ov,hit,own⟩:=st;obtain⟨ob,at_,ex,dat⟩:=id x;have hT:s.TypeIs (.ref it) "dict_itemiterator":=⟨_,hit,rfl⟩;unfold pyNext;refine wB (wpAny_attempt (wpAny_callSpecial?_slot (name:=Str.ofString "__next__") hT F.slot_dict_itemiterator_next (wpAny_call_entry F.slot_dict_itemiterator_next hT F.entry_dict_itemiterator_next ?_ (F.args_dict_itemiterator_next_1 _))));refine wB (wP (wB (wB ?_)))
 first|refine wB (wpAny_typeNameOfWhole_itemiter hT (wP ?_));skip|refine wB (wpAny_typeNameOf_itemiter hT (wP ?_));skip
 refine wB (wpAny_fieldsOf hit rfl ?_);simp only [show Builtin.Dict_items.ownsTuple "dict_itemiterator"=true by decide,if_true]
 show wpAny _ _ (if(Value.ref d==Value.none)=true then _ else _) _ _ s;rw [if_neg (show ¬((Value.ref d==Value.none)=true)from Q4)];refine wB (wP (wB (wpAny_dictEntries at_ dat ?_)))
 rw [if_neg (by simp)];refine wB (wP (wB (wpAny_dictEpoch at_ dat ?_)))
 rw [if_neg (by simp)];refine wP ?_
 simp only [show ¬((i:Int) < 0)from by lia,if_false,IK,Array.getElem?_eq_none hi];refine wB ?_
 first|refine wB (wpAny_typeNameOfWhole_itemiter hT (wP ?_));skip|refine wB (wpAny_typeNameOf_itemiter hT (wP ?_));skip
 show wpAny _ _ (setField (.ref it) 2 .none >>=_) _ _ s;refine wB (wpAny_setField hit rfl (by simp) ?_)
 show wpAny _ _ (newExc (.type "StopIteration") [] >>=_) _ _ _;refine wB ?_;simp only [newExc,newTuple];refine wB (wpAny_newObj_type ?_ (by size_fits))
 refine wB (m:=firstArgMember _ _) (wpAny_of_eq (a:=Value.none) (by first|rfl|(simp only [firstArgMember];rfl)) ?_);refine wpAny_newObj_type ?_ (by size_fits);simp only [raiseNew];refine wB (wpAny_handled ?_)
 rw [show A.in1.handled=none from hh];refine wB (wP (wpAny_throw (wB ?_)))
 refine wpAny_isInstance (T:="StopIteration") (b:=true) ⟨_,fU _ rfl,rfl⟩ isSubtype_stop ?_;exact wP (q _ (((Heap.SameBut.update ..).extBut.push _).push _))
end
structure ItG (es:Array DictEntry) (lo:Addr) (h:Heap) (as:List Addr):Prop where
 nd:as.Nodup
 up:∀a∈as,lo < a/\a < h.objs.size
 prs:∀(j:Nat) (a:Addr),as[j]? =some a->∃e,es[j]? =some e/\h.get? a=some {cls:=.type "tuple",data:=.seq #[e.key,e.val]}
section
variable {prog:Program} {w:World} {A:Around} {s:Shared} {R:Result->Shared->Prop} {es:Array DictEntry} {ep:Nat}
theorem JW {S I d:Addr}(hh:A.handled=none)(hSI:S < I)(hSd:d≠S)(hId:d≠I)(hn:es.size<=sizeLine)(res:Value){h0:Heap}
 (hR:∀h' tk acc c as,(∀b o,b≠S->b≠I->h0.get? b=some o->h'.get? b=some o)->h'.get? S=some {cls:=.type "list",dict:=none,data:=.seq acc c,slots:= #[]}->as.length=es.size->ItG es I h' as->acc.toList=as.map Value.ref->R (.ok (.ret res)) {s with heap:=h',toks:=tk}):
 ∀(k i:Nat) (h:Heap) (tk c:Nat) (acc:Array Value) (as:List Addr),es.size - i=k->i<=es.size->ItSt h I d S i es.size ep->Raw h d es ep->(∀b o,b≠S->b≠I->h0.get? b=some o->h.get? b=some o)->
  h.get? S=some {cls:=.type "list",dict:=none,data:=.seq acc c,slots:= #[]}->acc.toList=as.map Value.ref->as.length=i->ItG es I h as->I < h.objs.size->
  codeAny `m A (.builtin "list.extend.loop" ⟨[.ref S,.ref I,res],[]⟩) R {s with heap:=h,toks:=tk}:=by
 have hne:S≠I:=jG hSI;intro k
 induction k with
 |zero=>
  intro i h tk c acc as hk hi st hD keep hS hacc hal G hIs;refine codeAny_builtin PySem.F.entry_extend_loop ?_;rw [Around.under_plainId PySem.F.plain_extend_loop _];show wpAny _ A.in1 (pyNext (.ref I) >>=_) _ _ _;refine wB (G4 (s:={s with heap:=h,toks:=tk}) (A:=A.in1) hh st hD `e λh' he=>?_)
  refine wP (hR h' tk acc c as (λb o n1 n2 e=>he b o n2 (keep b o n1 n2 e)) (he S _ hne hS) `e ⟨G.nd,λa ha=>?_,λj a hj=>?_⟩ hacc)
  . obtain⟨j,hj⟩:=List.mem_iff_getElem?.mp ha;obtain⟨e,q1,q2⟩:=G.prs j a hj;exact⟨(G.up a ha).1,dh (he a _ (uL (G.up a ha).1) q2)⟩
  . obtain⟨e,q1,q2⟩:=G.prs j a hj;exact⟨e,q1,he a _ (uL (G.up a (ES hj)).1) q2⟩
 |succ k ih=>
  intro i h tk c acc as hk hi st hD keep hS hacc hal G hIs;have hlt:i < es.size:=by lia
  have hsz:acc.size=i:=by rw [<-Qe,hacc,zJ,hal]
  refine codeAny_builtin PySem.F.entry_extend_loop ?_;rw [Around.under_plainId PySem.F.plain_extend_loop _];show wpAny _ A.in1 (pyNext (.ref I) >>=_) _ _ _;refine wB (DX (s:={s with heap:=h,toks:=tk}) (S:=S) st (dh hS) hD hlt λh' st' ht hz kp=>?_)
  dsimp only at ht hz kp ⊢
  have hS':=kp S _ hne hS;have up:∀b o,b≠S->h'.get? b=some o->(h'.update S (Obj.mapSeq (·.push (Value.ref h.objs.size)))).get? b=some o:=λb o nb e=>(xQ _ _ (Ne.symm nb)).trans e
  have hSl:S < h.objs.size:=dh hS;have hsz2:(h'.update S (Obj.mapSeq (·.push (Value.ref h.objs.size)))).objs.size=h.objs.size+1:=by rw [Heap.size_update,hz]
  show wpAny _ A.in1 (updateSeq S (·.push (Value.ref h.objs.size)) >>=_) _ _ _;refine wB ?_
  refine wpAny_updateSeq hS' rfl (wP ⟨plainId_quiet PySem.F.plain_extend_loop _,ih (i+1) _ tk _ (acc.push (Value.ref h.objs.size)) (as++[h.objs.size]) `e hlt (st'.keep up (Ne.symm hne)) (hD.stay λo e=>up d o hSd (kp d o hId e))
   (λb o n1 n2 e=>up b o n1 (kp b o n2 (keep b o n1 n2 e))) (ID _ hS' rfl) (by rw [Array.toList_push,hacc,AB];rfl) (by rw [zQ,hal];rfl) ⟨?_,?_,?_⟩ (by rw [hsz2];exact KW hIs)⟩) (by rw [hsz];lia) (by show (acc.push (Value.ref h.objs.size)).size<=sizeLine+1;rw [Array.size_push,hsz];lia)
  . refine List.nodup_append.mpr ⟨G.nd,List.pairwise_singleton _ _,λa ha b hb=>?_⟩;rw [Q7.mp hb];exact jG (G.up a ha).2
  . intro a ha;rw [hsz2]
    rcases Ca.mp ha with ha|ha
    . exact⟨(G.up a ha).1,KW (G.up a ha).2⟩
    . rw [Q7.mp ha];exact⟨hIs,C8 _⟩
  . intro j b hj
    rcases Nat.lt_trichotomy j as.length with h1|h1|h1
    . rw [Qa h1]at hj;obtain⟨e,q1,q2⟩:=G.prs j b hj;have hb:=(G.up b (ES hj)).1;exact⟨e,q1,up b _ (uL (Nat.lt_trans hSI hb)) (kp b _ (uL hb) q2)⟩
    . subst h1;have hb:h.objs.size=b:=by simpa using hj
      subst hb;exact⟨es[as.length],by rw [ND],up _ _ (uL hSl) (by subst hal;exact ht)⟩
    . rw [List.getElem?_eq_none (by rw [zQ,Mt];lia)]at hj;cases hj
end
section
variable {prog:Program} {w:World} {A:Around} {E:`d} {s:Shared} {r d:Addr} {es:Array DictEntry} {ep:Nat}
theorem DY {R:Result->Shared->Prop}(hh:A.handled=none)(hv:s.heap.IsItemsView r d)(x:Raw s.heap d es ep)(S:Addr)(hSr:S≠r)(hSd:d≠S)(res:Value)(c0:Nat)(hS:s.heap.get? S=some {cls:=.type "list",data:=.seq #[] c0})
 (hR : ∀ h' tk acc c as, (∀ b o, b ≠ S -> s.heap.get? b = some o -> h'.get? b = some o) -> h'.get? S = some { cls := .type "list", dict := none, data := .seq acc c, slots := #[] } -> as.length = es.size -> ItG es `a h' as ->
  acc.toList=as.map Value.ref->R (.ok (.ret res)) {s with heap:=h',toks:=tk}) (hn:es.size<=sizeLine):
 wpAny `m A.in1 (Builtin.List.listExtendWith (.ref S) (.ref r) res)
  (λfin s'=>match fin with| .done f=>R (.ok f) s'| .again c'=>c'.quiet=true/\codeAny `m A c' R s') (λe s'=>R (.error e) s') s:=by
 have hSI:S < `a:=dh hS;have go:∀(h:Heap) (c1 tk:Nat),(∀b o,b≠S->(s.heap.push {cls:=.type "dict_itemiterator",data:=.fields #[.none,.bool false,.ref d,.int 0 0,.int es.size 0,.int ep 0,.none,.none]}).get? b=some o->h.get? b=some o)->
  h.get? S=some {cls:=.type "list",data:=.seq #[] c1}->codeAny `m A (.builtin "list.extend.loop" ⟨[.ref S,.ref `a,res],[]⟩) R {s with heap:=h,toks:=tk}:=by
  intro h c1 tk hk hS1;have hI:=hk `a _ (uL hSI) (fU _ rfl);exact JW (es:=es) (ep:=ep) (s:=s) (h0:=s.heap) hh hSI hSd (jG x.lt) hn res (λh' tk' acc c as hk' hS' hl G hacc=>hR h' tk' acc c as (λb o nb e=>hk' b o nb (jG (dh e)) e) hS' hl G hacc)
   es.size 0 h tk c1 #[] [] (Nat.sub_zero _) (zU _) ⟨_,_,_,_,hI,.inl rfl⟩ (x.stay λo e=>hk d o hSd (df _ e)) (λb o nb _ e=>hk b o nb (df _ e)) hS1 rfl rfl
   ⟨List.nodup_nil,(λ_ ha=>nomatch ha),(λj a hj=>by simp at hj)⟩ (dh hI)
 unfold Builtin.List.listExtendWith;refine wB (wpAny_typeOf (T:="dict_items") hv.typeIs ?_);simp only [show Builtin.List.listSameRef (.ref S) (.ref r)=false by simp [Builtin.List.listSameRef,hSr],show (Value.type "dict_items"==Value.type "list")=false by decide,show (Value.type "dict_items"==Value.type "tuple")=false by decide,Bool.or_false,zN,if_false]
 refine wB (DW hv x ?_);have hS1:=df {cls:=.type "dict_itemiterator",data:=.fields #[.none,.bool false,.ref d,.int 0 0,.int es.size 0,.int ep 0,.none,.none]} hS;refine wB (wpAny_holding (kdx_hint (let ⟨o,ho,hc,_⟩:=hv;⟨o,df _ ho,hc⟩) ?_));refine wpAny_ite_split (λ_=>?_) (λ_=>wP ⟨plainId_quiet PySem.F.plain_extend_loop _,go _ c0 _ (λb o _ e=>e) hS1⟩);refine wB (wpAny_rule ?_);refine wB ?_;show wpAny _ _ (updateSeq S (·.push .none) >>= λ_=>updateSeq S (·.pop)) _ _ _
 refine wB (wpAny_updateSeq hS1 rfl ?_);have hS2:=ID (Obj.mapSeq (·.push Value.none)) hS1 rfl
 refine wpAny_updateSeq (hz:=by seq_fits) hS2 rfl ?_
 have hS3:=ID (Obj.mapSeq (·.pop)) hS2 rfl
 exact wP ⟨plainId_quiet PySem.F.plain_extend_loop _,go _ _ _ (λb o nb e=>(xQ _ _ (Ne.symm nb)).trans ((xQ _ _ (Ne.symm nb)).trans e)) hS3⟩
theorem Ah {R:List Value->Shared->Prop}(hh:A.handled=none)(hv:s.heap.IsItemsView r d)(x:Raw s.heap d es ep)(hn:es.size<=sizeLine)
 (h:∀(h':Heap) (tk:Nat) (as:List Addr),(∀b o,s.heap.get? b=some o->h'.get? b=some o)->as.length=es.size->ItG es `a h' as->`a < h'.objs.size->R (as.map Value.ref) {s with heap:=h',toks:=tk}):
 wpAny `m A (collect (.ref r)) R E s:=by
 have hr:r < `a:=let ⟨_,ho,_⟩:=hv;dh ho;unfold collect;refine wB (wpAny_runValue (codeAny_builtin entry_proto_collect' ?_));rw [Around.under_plainId PySem.F.plain_proto_collect _];show wpAny _ A.in1 (newList [] >>= λl=>again (.builtin "list.__iadd__" ⟨[l,.ref r],[]⟩)) _ _ s;refine wB (wpAny_newObj_type ?_);refine wP ⟨plainId_quiet PySem.F.plain_list_iadd _,codeAny_builtin entry_list_iadd' ?_⟩;rw [Around.under_plainId PySem.F.plain_list_iadd _];have hS1:(s.heap.push {cls:=.type "list",data:=.seq ([]:List Value).toArray}).get? `a=some {cls:=.type "list",data:=.seq #[]}:=fU _ rfl;have main:=DY (prog:=prog) (w:=w) (A:=A) (s:={s with heap:=s.heap.push {cls:=.type "list",data:=.seq ([]:List Value).toArray}}) (es:=es) (ep:=ep)
  (R := λ (q : Result) (s' : Shared) => ∃ (h' : Heap) (tk : Nat) (acc : Array Value) (c' : Nat) (as : List Addr), q = .ok (.ret (.ref `a)) /\ s' = { s with heap := h', toks := tk } /\
   (∀b o,s.heap.get? b=some o->h'.get? b=some o)/\h'.get? `a=some {cls:=.type "list",dict:=none,data:=.seq acc c',slots:= #[]}/\as.length=es.size/\ItG es `a h' as/\acc.toList=as.map Value.ref)
  hh (let ⟨o,ho,z⟩:=hv;⟨o,df _ ho,z⟩) (x.stay λo e=>df _ e) `a (uL hr) (jG x.lt) (.ref `a) 0 hS1
  (λh' tk acc c' as hk hS' hl G hacc=>⟨h',tk,acc,c',as,rfl,rfl,λb o e=>hk b o (jG (dh e)) (df _ e),hS',hl,⟨G.nd,λa ha=>⟨IG (by show `a<=(s.heap.push _).objs.size;rw [AC];exact Nat.le_succ _) (G.up a ha).1,(G.up a ha).2⟩,G.prs⟩,hacc⟩) hn
 refine wpAny_mono main (λfin s' y=>?_) λe s' y=>?_
 . cases fin with
   |done f=>
    obtain⟨h',tk,acc,c',as,e,rfl,hk,hS',hl,G,hacc⟩:=y;cases e;show wpAny _ A (load `a >>=_) _ _ _;refine wB (wpAny_load hS' (wP ?_));show R acc.toList _;rw [hacc];exact h h' tk as hk hl G (dh hS')
   |again c1=>
    refine⟨y.1,codeAny_mono y.2 λq s2 y=>?_⟩;obtain⟨h',tk,acc,c',as,rfl,rfl,hk,hS',hl,G,hacc⟩:=y;show wpAny _ A (load `a >>=_) _ _ _;refine wB (wpAny_load hS' (wP ?_));show R acc.toList _;rw [hacc];exact h h' tk as hk hl G (dh hS')
 . obtain⟨_,_,_,_,_,e',_⟩:=y;cases e'
end
theorem ii:∀x:List Int,c6 x x=false
 |[]=>rfl
 |a::x=>by unfold c6;rw [if_pos rfl];exact ii x
theorem G5(x y:`f):ltL (x.map PyData.int) (y.map PyData.int)=some (c6 x y):=by
 induction x generalizing y with
 |nil=>cases y<;>rfl
 |cons a x ih=>cases y with
  |nil=>rfl
  |cons c y=>
   rw [zI,zI,ltL,c6,DL.rL]
   by_cases e:a=c
   . rw [if_pos e,if_pos (decide_eq_true e),ih y]
   . rw [if_neg e,if_neg (by simpa using e),pI]
theorem yU(x y:`f):pI (DL.aH x) (DL.aH y)=some (c6 x y):=by
 rw [DL.aH,DL.aH,pI];exact G5 x y
variable {k:`f}{vs:List Value}
theorem u0(r:IntsAre vs k):ReadsAll h vs (k.map PyData.int) []:=by
 induction r with
 |nil=>exact .nil
 |cons a t r ih=>exact ReadsAll.cons (as:=[]) (bs:=[]) (.int a t) ih
theorem yV {v:Value}(t:TpI h v k):Reads h v (DL.aH k) []:=by
 obtain⟨a,o,arr,n,rfl,e2,e3,e4,e5⟩:=t;exact .tuple e2 e3 e4 (u0 e5)
theorem sW:∀k:List Int,PyData.depthAll (k.map PyData.int)=0
 |[]=>rfl
 |a::k=>by rw [zI,PyData.depthAll,sW k];rfl
theorem yW:∀k:List Int,PyData.canLayAll0 (k.map PyData.int)=true
 |[]=>rfl
 |a::k=>by rw [zI,PyData.canLayAll0,yW k];rfl
theorem sX(k:`f):(DL.aH k).depth=1:=by rw [DL.aH,PyData.depth,sW]
theorem oJ(k:`f):(DL.aH k).canLay0=true:=by rw [DL.aH,PyData.canLay0];exact yW k
def TpP(h:Heap)(v:Value)(k:`f):Prop:=∃a o n x y,v=.ref a/\h.get? a=some o/\o.cls=.type "tuple"/\o.data=.seq #[x,y] n/\TpI h x k/\∃m t,y=Value.int m t
theorem TpP.firsts {ks:List `f}(p:Paired (TpP h) vs ks):∃fs,KatTups h vs fs/\fs.length=vs.length/\∀f∈fs,∃k,TpI h f k:=by
 induction p with
 |nil=>exact⟨[],KatTups.nil,rfl,λf hf=>nomatch hf⟩
 |cons q r ih=>
  obtain⟨a,o,n,x,y,e1,e2,e3,e4,e5,e6⟩:=q;obtain⟨fs,h1,h2,h3⟩:=ih;subst e1;refine⟨x::fs,KatTups.cons e2 e3 e4 rfl h1,by rw [zC,zC,h2],λf hf=>?_⟩
  rcases Q3.mp hf with rfl|hf
  . exact⟨_,e5⟩
  . exact h3 f hf
section
variable {prog:Program} {w:World} {A:Around} {E:`d} {s:Shared}
variable {Q:`d}{ks:List `f}{m:`j}
theorem Ai {L D:Addr}{c:Nat}(hu:A.units+2 < cLine)(hL:s.heap.Ns L m)(hne:D≠L)(hD:s.heap.get? D=some (listOf vs.toArray c))(ht:Paired (TpP s.heap) vs ks)
 (hnd:ks.Nodup) (h2:2<=vs.length) (h64:vs.length < 64)
 (k : ∀ h' c' (q : Array Nat), (∀ b o, b ≠ L -> b ≠ D -> s.heap.get? b = some o -> h'.get? b = some o) -> h'.Ns L m -> h'.get? D = some (listOf (q.toList.map λ i => vs.getD i .none).toArray c') ->
  SRT.Pm vs.length q->SRT.wV (λi j=>c6 (ks.getD i []) (ks.getD j [])) q vs.length->Q .none {s with heap:=h'}):
 wpAny `m A (call (.builtin "list.sort") [.ref D]) Q E s:=by
 have hlen:vs.length=ks.length:=Paired.length ht;have led:∀p∈jS s.heap L D,p.1≠D:=λ⟨_,_⟩ hp=>(dZ.mp hp).2.1;refine kat_lsort (h₀:=pP s.heap) (L:=L) (m:=m) (news:=(D,listOf vs.toArray c)::jS s.heap L D) (g:=λo=>(D,o)::jS s.heap L D) (its:=vs.toArray) (AS hL) (lE hne hD) (.head led) (by simp) h2 h64 λe1 h' F' N'=>?_
 have keep:∀b o,b≠L->b≠D->s.heap.get? b=some o->h'.get? b=some o:=λb o n1 n2 e=>(N' (b,o) (iJ _ (dZ.mpr ⟨n1,n2,e⟩))).1;obtain⟨oL,esL,epL,hoL,hdL,_⟩:=hL;have keepT:∀{a:Addr} {o:Obj} {arr:Array Value} {n:Nat},s.heap.get? a=some o->o.cls=.type "tuple"->o.data=.seq arr n->h'.get? a=some o:=λ{a o arr n} e2 e3 e4=>
  keep a o (λz=>by rw [z,hoL]at e2;cases e2;rw [hdL]at e4;cases e4) (λz=>by rw [z,hD]at e2;cases e2;exact absurd (Value.type.inj e3) (by decide)) e2
 have tup:∀{v:Value} {kk:`f},TpI s.heap v kk->TpI h' v kk:=λq=>by
  obtain⟨a,o,arr,n,e1,e2,e3,e4,e5⟩:=q;exact⟨a,o,arr,n,e1,keepT e2 e3 e4,e3,e4,e5⟩
 have ht':Paired (TpP h') vs ks:=Paired.mapP ht λa b q=>by
  obtain⟨a1,o,n,x,y,e1,e2,e3,e4,e5,e6⟩:=q;exact⟨a1,o,n,x,y,e1,keepT e2 e3 e4,e3,e4,tup e5,e6⟩
 obtain⟨fs,t1,t2,t3⟩:=TpP.firsts ht';refine kat_kind (T:=.type "tuple") t1 `e (λv hv=>by
  obtain⟨kk,a,o,arr,n,rfl,e2,e3,_⟩:=t3 v hv;rw [<-e3];exact(Looks.ld e2).andThen .now) rfl ?_
 rw [show (Value.type "tuple" != Value.type "tuple")=false from rfl]
 have O:SRT.Ord (λi j=>c6 (ks.getD i []) (ks.getD j [])) vs.length:=⟨λa b c=>jt _ _ _,λa b ha hb hab=>oA _ _ λe=>hab (by
  rw [gh,gh,dS `e,dS `e]at e
  exact(List.getElem_inj hnd).mp e)⟩
 refine SRT.A8 (lt:=λi j=>c6 (ks.getD i []) (ks.getD j [])) (n:=vs.length) (J:=λs'=>s'={s with heap:=h'}) (λi j C s' hi hj js hC=>?_) (λp s' hp js=>?_) rfl (SRT.rN O h2)
 . subst js;have Pi:=oB (x:=Value.none) (y:=[]) i ht' hi;have Pj:=oB (x:=Value.none) (y:=[]) j ht' hj;obtain⟨a1,o1,n1,x1,y1,v1,g1,c1,d1,T1,m1,q1,f1⟩:=id Pi;obtain⟨a2,o2,n2,x2,y2,v2,g2,c2,d2,T2,m2,q2,f2⟩:=id Pj;unfold kas_ask;rw [v1,v2];refine kat_lt g1 d1 g2 d2 ?_;have R1:=yV T1;have R2:=yV T2;have dp:=λ(z:Nat)=>show min (DL.aH (ks.getD i [])).depth (DL.aH (ks.getD j [])).depth=1 by rw [sX,sX];rfl
   have un:A.in1.units+min (DL.aH (ks.getD i [])).depth (DL.aH (ks.getD j [])).depth < cLine:=by rw [dp 0];show A.units+1+1 < cLine;lia
   have eq:=SeqAt.eqAt_reads _ _ A.in1 {s with heap:=h'} _ _ _ _ R1 R2 (oJ _) (oJ _) un
   rw [DL.sJ]at eq;show KatLex prog w A.in1 false (decide (2 < 2)) _ [(x1,x2),(y1,y2)] 0 _;refine kat_cons (eq prog w _ _ ?_)
   by_cases e:ks.getD i []=ks.getD j []
   . have ij:i=j:=by
      rw [gh,gh,dS `e,dS `e]at e
      exact(List.getElem_inj hnd).mp e
     subst ij;rw [v1]at v2;cases v2;rw [g1]at g2;cases g2;rw [d1]at d2;cases d2;rw [decide_eq_true e];refine kat_yes (kat_cons ?_);subst f1;refine wpAny_eqBool_int ?_;rw [show (m1==m1)=true from beq_self_eq_true _]
     refine kat_yes (kat_nil ?_);have hq:=hC _ rfl;rw [ii]at hq;exact hq
   . rw [decide_eq_false e];refine kat_no ?_;have lt:=jv _ _ A.in1 {s with heap:=h'} _ _ _ _ _ R1 R2 (oJ _) (oJ _) un (yU _ _)
     exact kat_one _ _ (lt prog w _ _ (hC _ rfl))
 . subst js;refine KasFin.intro F' N' (.head led) λh'' c' F'' N''=>?_;exact k h'' c' p (λb o n1 n2 e=>(N'' (b,o) (iJ _ (dZ.mpr ⟨n1,n2,e⟩))).1) F''.ns (N'' _ gG).1 hp.1 hp.2
theorem DZ {L D:Addr}{m:`j}{c:Nat}(hu:A.units+2 < cLine)(hL:s.heap.Ns L m)(hne:D≠L)(hD:s.heap.get? D=some (listOf vs.toArray c))(ht:Paired (TpP s.heap) vs ks)
 (hnd:ks.Nodup) (h64:vs.length < 64)
 (k : ∀ h' c' (q : Array Nat), (∀ b o, b ≠ L -> b ≠ D -> s.heap.get? b = some o -> h'.get? b = some o) -> h'.Ns L m -> h'.get? D = some (listOf (q.toList.map λ i => vs.getD i .none).toArray c') ->
  SRT.Pm vs.length q->SRT.wV (λi j=>c6 (ks.getD i []) (ks.getD j [])) q vs.length->Q .none {s with heap:=h'}):
 wpAny `m A (call (.builtin "list.sort") [.ref D]) Q E s:=by
 by_cases h2:2<=vs.length
 . exact Ai hu hL hne hD ht hnd h2 h64 k
 . have h2':vs.length < 2:=by lia
   obtain⟨p1,p2⟩:=yF h2' (λi j=>c6 (ks.getD i []) (ks.getD j []));exact qY hD h2' λh' c' kp hD'=>k h' c' (Array.range vs.length) (λb o _ nb e=>kp b o nb e) (by obtain⟨o,es,ep,e1,e2⟩:=hL;exact⟨o,es,ep,kp _ _ hne.symm e1,e2⟩) (by rw [vQ h2'];exact hD') p1 p2
end
end L2
namespace L2
open PySem PySem.Spec PyProof.Rows PySem.W
theorem G6 {X:Cx}:Ou X "dict.items" (CH "dict_items"):=by
 intro pins s σ H x xs v us Q I rx rs h;obtain⟨rfl,a,kvs,rfl,ha,q⟩:=h;cases rs;cases (show v=Value.ref a from rx)
 obtain⟨nsm,ys,es,ep,raw,_⟩:=I.raw ha;refine DV nsm raw ?_;have gf:(s.heap.push {cls:=.type "dict_items",data:=.fields #[.ref a]}).get? `a=some {cls:=.type "dict_items",data:=.fields #[.ref a]}:=fU _ rfl;exact⟨.ref `a,_,I.laid (t':=s.toks) (o:=Mw "dict_items" `a a) (λb o e=>df _ e) (Q1 _) ⟨gf,⟨_,gf⟩,λh1 h2 e k=>k _ e⟩,rfl,q _ I.fresh⟩
def ME(H:Hp)(as:List Addr)(o:Nat->HO):Hp:=λb=>match as.findIdx? (λa=>a==b)with
 |some j=>some (o j)
 |none=>H b
variable {as:List Addr}
theorem G7 {H:Hp}{o:Nat->HO}(nd:as.Nodup){j:Nat}{a:Addr}(e:as[j]? =some a):ME H as o a=some (o j):=by
 have:as.findIdx? (λx=>x==a)=some j:=by
  obtain⟨hj,e⟩:=C6.mp e;refine List.findIdx?_eq_some_iff_getElem.mpr ⟨hj,by rw [e];exact beq_self_eq_true _,λi hi z=>?_⟩
  have:=(List.getElem_inj nd (h₀:=Nat.lt_trans hi hj) (h₁:=hj)).mp ((beq_iff_eq.mp z).trans e.symm);lia
 unfold ME;rw [this]
theorem w8 {H:Hp}{o:Nat->HO}{b:Addr}(n:b ∉ as):ME H as o b=H b:=by
 have:as.findIdx? (λx=>x==b)=none:=List.findIdx?_eq_none_iff.mpr λx hx=>beq_eq_false_iff_ne.mpr λz=>n (z▸hx);unfold ME;rw [this]
def G8:List V->Hp->VK->Prop:=λxs H Q=>∃(p a:Addr) (kvs:List (List bb×V)) (ks:List `f) (ns:`f),xs=[.ref p]/\H p=some (Mw "dict_items" p a)/\H a=some (.dT kvs)/\kvs.map (·.1)=ks.map (λk=>k.map Sum.inl)/\kvs.map (·.2)=ns.map V.int/\ks.length < 64/\
 ∀(H':Hp) (D:Addr) (bs ts:List Addr) (q:Array Nat),Same H H'->H D=none->ks.Nodup->SRT.Pm ks.length q->SRT.wV (λi j=>c6 (ks.getD i []) (ks.getD j [])) q ks.length->bs.length=ks.length->H' D=some (.lst (bs.map V.ref))->
  (∀i,i < ks.length->H (bs.getD i 0)=none/\H' (bs.getD i 0)=some (.tup [.ref (ts.getD (SRT.g q i) 0),.int (ns.getD (SRT.g q i) 0)]))->(∀i,i < ks.length->H (ts.getD i 0)=some (.tup ((ks.getD i []).map V.int)))->ts.length=ks.length->Q (.ref D) H'
theorem Aj {X:Cx}(hcm:X.calm=true)(hu:X.A.units+64 < cLine):dX X (.builtin "sorted") G8:=by
 intro pins s σ H xs us Q I rv h;obtain⟨p,a,kvs,ks,ns,rfl,hp,ha,hks,hkv,h64,q⟩:=h;obtain⟨u,rfl,ru⟩:=mG rv;cases (show u=Value.ref p from ru)
 obtain⟨nsm,ys,es,ep,raw,rel,hes,nd,hlen⟩:=I.raw ha;obtain⟨gp,_⟩:=(show ObjOk X.prog X.w H s.heap p (.ext _)from I.hok p _ hp)
 have view:s.heap.IsItemsView p a:=⟨_,gp,rfl,rfl⟩;obtain⟨m,hns,_⟩:=id I.loc;have Llt:=I.lt;have relLen:kvs.length=ys.length:=Paired.length rel;have ksLen:ks.length=kvs.length:=by rw [<-zJ (f:=λk:List Int=>k.map (Sum.inl:Int->bb)), <-hks,zJ]
 have nsLen:ns.length=kvs.length:=by rw [<-zJ (f:=V.int), <-hkv,zJ]
 have esz:es.size=ks.length:=by rw [<-Qe,hes,zJ];lia
 have kE:∀i,(kvs.getD i ([],.non)).1=(ks.getD i []).map Sum.inl:=λi=>by
  have e:=congrArg (λl:List (List bb)=>l.getD i []) hks;exact(ig (λp:List bb×V=>p.1) kvs i ([],.non)).symm.trans (e.trans (ig (λk:List Int=>k.map (Sum.inl:Int->bb)) ks i []))
 have yk:∀i,i < ks.length->H (ys.getD i ([],0,.none)).2.1=some (.tup ((ks.getD i []).map V.int)):=λi hi=>by
  have r:=(oB (x:=(([],V.non):List bb×V)) (y:=(([],0,Value.none):List bb×Addr×Value)) i rel `e).2.1
  rw [kE i,jf]at r;exact r
 have yv:∀i,i < ks.length->∃t,(ys.getD i ([],0,.none)).2.2=.int (ns.getD i 0) t:=λi hi=>by
  have r:=(oB (x:=(([],V.non):List bb×V)) (y:=(([],0,Value.none):List bb×Addr×Value)) i rel `e).2.2
  have e1:=congrArg (λl:List V=>l.getD i .non) hkv;have e2:=ig (λz:List bb×V=>z.2) kvs i ([],.non);have e3:(ns.map V.int).getD i .non=.int (ns.getD i 0):=by
   rw [gh,zK,dS (show i < ns.length by lia),gh,dS (show i < ns.length by lia)]
   rfl
  rw [e2.symm.trans (e1.trans e3)]at r;exact r
 have ksnd:ks.Nodup:=by
  have e:=sQ (λp q z=>z.1) rel;rw [<-e,hks]at nd;exact(List.pairwise_map.mp nd).imp λz e=>z (by rw [e])
 have esE:∀i,i < ks.length->es[i]? =some (entryOfKey (tupleKind (am X.prog X.w)) (ys.getD i ([],0,.none))):=λi hi=>by
  rw [<-IF,hes,zK,gh,dS (show i < ys.length by lia)]
  rfl
 refine Calls.call_function_entry kind_sorted plain_sorted entry_sorted (args_sorted1 _) ?_;unfold Builtin.«sorted»;refine wB (m:=checkCount "sorted" 1 1 _) (wP ?_);refine wB (Ah (I.ok.hd hcm) view raw `e λtp tk as kT hal G Dgt=>?_)
 refine wB (wpAny_newList ?_ (by rw [zJ];lia))
 have hal':as.length=ks.length:=by lia
 have kN:∀b o,s.heap.get? b=some o->(tp.push (seqObj "list" (as.map Value.ref).toArray 0)).get? b=some o:=λb o e=>df _ (kT b o e);have nD:(tp.push (seqObj "list" (as.map Value.ref).toArray 0)).get? tp.objs.size=some (listOf (as.map Value.ref).toArray 0):=fU _ rfl;have asT:∀i,i < ks.length->∃t,as[i]? =some (as.getD i 0)/\(tp.push (seqObj "list" (as.map Value.ref).toArray 0)).get? (as.getD i 0)=some {cls:=.type "tuple",data:=.seq #[.ref (ys.getD i ([],0,.none)).2.1,.int (ns.getD i 0) t]}:=λi hi=>by
  have ia:i < as.length:=by lia
  have eA:as[i]? =some (as.getD i 0):=by rw [gh,dS ia];rfl
  obtain⟨e,q1,q2⟩:=G.prs i _ eA;rw [esE i hi]at q1;cases q1;obtain⟨t,et⟩:=yv i hi;refine⟨t,eA,df _ ?_⟩;rw [q2];show some ({cls:=.type "tuple",data:=.seq #[.ref (ys.getD i ([],0,.none)).2.1,(ys.getD i ([],0,.none)).2.2]}:Obj)=_;rw [et]
 have asN:∀b∈as,s.heap.get? b=none:=λb hb=>Heap.get?_none_of_le (AF (G.up b hb).1);have asD:∀b∈as,b≠tp.objs.size:=λb hb=>jG (G.up b hb).2;have und:=G.nd;clear G;generalize hDv:tp.objs.size=D at nD Dgt asD;generalize hh':tp.push (seqObj "list" (as.map Value.ref).toArray 0)=h' at kN nD asT;have Dnew:s.heap.get? D=none:=Heap.get?_none_of_le (AF Dgt);have DL':D≠X.env.locals:=uL (Nat.lt_trans Llt Dgt);have HN:∀b,s.heap.get? b=none->H b=none:=λb e=>by
  cases z:H b with
  |none=>rfl
  |some o=>
   obtain⟨_,e'⟩:=(I.hok b o z).there;rw [e]at e';cases e'
 have HD:H D=none:=HN D Dnew;have hns':h'.Ns X.env.locals m:=by
  obtain⟨o,es,ep,e1,e2⟩:=hns;exact⟨o,es,ep,kN _ _ e1,e2⟩
 have ge:∀i,i < ks.length->(as.map Value.ref).getD i .none=.ref (as.getD i 0):=λi hi=>by
  have ia:i < as.length:=by lia
  rw [gh,zK,dS ia,gh,dS ia];rfl
 have ht:Paired (TpP h') (as.map Value.ref) ks:=vS (x:=Value.none) (y:=[]) (by rw [zJ];lia) λi hi=>by
  have hi':i < ks.length:=by rw [zJ]at hi;lia
  obtain⟨t,_,gt⟩:=asT i hi';obtain⟨_,it2,r2,⟨o,e1,e2,n2,e3⟩,_⟩:=(show ObjOk X.prog X.w H s.heap _ (.tup _)from I.hok _ _ (yk i hi'))
  rw [ge i hi'];refine⟨_,_,0,_,_,rfl,gt,rfl,rfl,⟨_,o,_,n2,rfl,kN _ o e1,e2,e3,?_⟩,_,t,rfl⟩;rw [List.toList_toArray];exact ju r2
 refine wB (wpAny_holding ?_);refine DZ (s:={s with heap:=h',toks:=tk}) (L:=X.env.locals) (D:=D) (m:=m) (c:=0) (by show X.A.units+1+2 < cLine;lia) hns' DL' nD ht ksnd (by rw [zJ];lia) λh2' c2 qq kp2 ns2 hD2 P2 A2=>wP ?_
 rw [zJ,hal']at P2 A2;have hb:∀i,i < ks.length->SRT.g qq i < ks.length:=P2.lt;have hl2:qq.toList.Perm (List.range ks.length):=by simpa using Mr.mp P2.pe
 have outE:(qq.toList.map λi=>(as.map Value.ref).getD i .none)=(qq.toList.map λi=>as.getD i 0).map Value.ref:=by
  rw [zO];apply B3
  intro i hi;exact ge i (by simpa using hl2.mem_iff.mp hi)
 rw [outE]at hD2;have kp3:∀b o,b≠X.env.locals->s.heap.get? b=some o->h2'.get? b=some o:=λb o nb e=>kp2 b o nb (λy=>by rw [y,Dnew]at e;cases e) (kN b o e)
 have bl:(qq.toList.map λi=>as.getD i 0).length=ks.length:=by rw [zJ,Qe,P2.sz]
 let oo:Nat->HO:=λj=>.tup [.ref (ys.getD j ([],0,.none)).2.1,.int (ns.getD j 0)]
 have memA:∀i,i < ks.length->as.getD i 0∈as:=λi hi=>by
  rw [gh,dS `e]
  exact AA _
 have nin:∀{b u},H b=some u->b ∉ as:=λ{b u} e hb=>by rw [HN b (asN b hb)]at e;cases e
 have sm:Same H (bC (ME H as oo) D (.lst ((qq.toList.map λi=>as.getD i 0).map V.ref))):=λb u e=>by
  rw [aM (aQ e HD),w8 (nin e)];exact e
 have hokN:HOk X.prog X.w (bC (ME H as oo) D (.lst ((qq.toList.map λi=>as.getD i 0).map V.ref))) h2':=λb u e=>by
  by_cases y:b=D
  . subst y;rw [aR]at e;cases e;exact⟨by rw [zJ,bl];exact jI `e,_,c2,p8 _,hD2⟩
  . rw [aM y]at e
    by_cases yb:b∈as
    . obtain⟨j,hj⟩:=List.mem_iff_getElem?.mp yb;have hjl:j < ks.length:=by
       have:=(C6.mp hj).1;lia
      rw [G7 und hj]at e;cases e;obtain⟨t,e1,gt⟩:=asT j hjl;rw [hj]at e1;cases e1;have g2:=kp2 _ _ (λz=>by
       have:=asN _ yb;rw [z]at this;obtain⟨oL,_,_,hoL,_⟩:=hns;rw [this]at hoL;cases hoL) y gt
      exact⟨jI (show 2<=1000 by decide),[.ref (ys.getD j ([],0,.none)).2.1,.int (ns.getD j 0) t],.cons rfl (.cons ⟨t,rfl⟩ .nil),⟨_,g2,rfl,_,rfl⟩,_,g2,rfl⟩
    . rw [w8 yb]at e;refine(I.hok b u e).stay (λc v hc e1=>kp3 c v (λy=>?_) e1) (λc y=>sm _ _ y) (λc xs y=>sm _ _ y) λc ob xs y=>sm _ _ y;subst y
      rcases hc with y|y
      . rw [<-y,I.free]at e;cases e
      . rw [I.free]at y;cases y
 have I2:Inv X pins σ (bC (ME H as oo) D (.lst ((qq.toList.map λi=>as.getD i 0).map V.ref))) {s with heap:=h2',gens:=s.gens,drawn:=s.drawn,toks:=tk}:=
  Inv.step (s:=s) (ch:=[]) I (λ_ y=>nomatch y) (λb o nb _ _ e _=>kp3 b o nb e) (λb o nb _ _ e _=>⟨o.slots,kp3 b o nb e⟩) (λb o _ e n=>by rw [aM (λy=>by rw [y,Dnew]at e;cases e),w8 (λy=>by rw [asN b y]at e;cases e)];exact n)
   (λ b o _ e => by
    by_cases y:b=X.env.locals
    . subst y;obtain⟨o2,_,_,e2,_⟩:=ns2;exact⟨o2,e2⟩
    . exact⟨o,kp3 b o y e⟩)
   (λb xs e=>sm _ _ e) (λb o xs e=>sm _ _ e) (λb ps e=>⟨#[],by rw [sm _ _ e];simp⟩) (λm2 hm2=>vR hns hm2▸ns2) hokN I.bare
 have tsE:∀i,i < ks.length->(ys.map λy=>y.2.1).getD i 0=(ys.getD i ([],0,Value.none)).2.1:=λi hi=>ig (λy:List bb×Addr×Value=>y.2.1) ys i ([],0,Value.none);refine⟨_,rfl,.ref D,_,I2,rfl,q _ D _ (ys.map λy=>y.2.1) qq sm HD ksnd P2 A2 bl aR (λi hi=>?_) (λi hi=>by rw [tsE i hi];exact yk i hi) (by rw [zJ];lia)⟩
 have e:(qq.toList.map λi=>as.getD i 0).getD i 0=as.getD (SRT.g qq i) 0:=by
  have hq:i < qq.toList.length:=by rw [Qe,P2.sz];exact hi
  rw [gh,zK,dS hq];show as.getD qq.toList[i] 0=_;congr 1
  unfold SRT.g;rw [<-IF,dS hq];rfl
 have hg:=hb i hi;have mg:=memA _ hg;obtain⟨t,eA,_⟩:=asT _ hg;rw [e,tsE _ hg];refine⟨HN _ (asN _ mg),?_⟩;rw [aM (asD _ mg),G7 und eA]
end L2
namespace DL
open PySem L2
noncomputable abbrev KN:=List Int×Int
noncomputable def D0(x:KN):List KN->List KN
 |[]=>[x]
 |y::r=>if c6 x.1 y.1=true then x::y::r else y::D0 x r
noncomputable def lK:List KN->List KN
 |[]=>[]
 |x::r=>D0 x (lK r)
def Nb(a b:KN):Prop:=c6 a.1 b.1=true
theorem p9(x:KN):∀l,(D0 x l).Perm (x::l)
 |[]=>.refl _
 |y::r=>by
  unfold D0;split
  . exact .refl _
  . exact((p9 x r).cons y).trans (.swap x y r)
theorem f8:∀l,(lK l).Perm l
 |[]=>.refl _
 |x::r=>(p9 x _).trans ((f8 r).cons x)
theorem CI(x:KN):∀{l:List KN},l.Pairwise Nb->(∀y∈l,x.1≠y.1)->(D0 x l).Pairwise Nb
 |[],_,_=>List.pairwise_singleton _ _
 |y::r,h,n=>by
  obtain⟨h1,h2⟩:=ET.mp h;unfold D0;split
  . rename_i c;refine ET.mpr ⟨λz hz=>?_,h⟩
    rcases Q3.mp hz with rfl|hz
    . exact c
    . exact jt _ _ _ c (h1 z hz)
  . rename_i c;refine ET.mpr ⟨λz hz=>?_,CI x h2 λz hz=>n z (iJ _ hz)⟩
    rcases Q3.mp ((p9 x r).mem_iff.mp hz)with rfl|hz
    . exact oA _ _ (n y gG) (by simpa using c)
    . exact h1 z hz
theorem CJ:∀{l:List KN},(l.map (·.1)).Nodup->(lK l).Pairwise Nb
 |[],_=>.nil
 |x::r,h=>by
  rw [zI]at h;obtain⟨h1,h2⟩:=xP.mp h;exact CI x (CJ h2) λy hy e=>h1 (e▸zP ((f8 r).mem_iff.mp hy))
theorem Kr:∀{l m:List KN},l.Perm m->l.Pairwise Nb->m.Pairwise Nb->l=m
 |[],m,p,_,_=>by rw [List.nil_perm.mp p]
 |a::x,[],p,_,_=>absurd p.length_eq (by simp)
 |a::x,b::y,p,s1,s2=>by
  have e:a=b:=by
   have ha:a∈b::y:=p.mem_iff.mp gG;have hb:b∈a::x:=p.mem_iff.mpr gG
   rcases Q3.mp ha with ha|ha
   . exact ha
   . rcases Q3.mp hb with hb|hb
     . exact hb.symm
     . have:=jt a.1 b.1 a.1 ((ET.mp s1).1 b hb) ((ET.mp s2).1 a ha);rw [ii]at this;cases this
  subst e;rw [Kr (List.Perm.cons_inv p) (ET.mp s1).2 (ET.mp s2).2]
theorem MF {ks:List `f}{ns:`f}{q:Array Nat}(nl:ns.length=ks.length)(nd:ks.Nodup)(P:SRT.Pm ks.length q)(A:SRT.wV (λi j=>c6 (ks.getD i []) (ks.getD j [])) q ks.length):
 ((List.range ks.length).map λi=>((ks.getD (SRT.g q i) [],ns.getD (SRT.g q i) 0):KN))=lK (ks.zip ns):=by
 have hl2:q.toList.Perm (List.range ks.length):=by simpa using Mr.mp P.pe
 have ql:q.toList=(List.range ks.length).map (SRT.g q):=by
  apply List.ext_getElem
  . rw [Qe,P.sz,zJ,EU]
  . intro i h1 h2;rw [List.getElem_map,IJ];unfold SRT.g;rw [<-IF,dS h1];rfl
 have kr:(List.range ks.length).map (λi=>((ks.getD i [],ns.getD i 0):KN))=ks.zip ns:=by
  apply List.ext_getElem
  . rw [zJ,EU,List.length_zip,nl,Nat.min_self]
  . intro i h1 h2;have hk:i < ks.length:=by simpa using h1
    rw [List.getElem_map,IJ,List.getElem_zip,gh,dS hk,gh,dS `e]
    rfl
 have zf:(ks.zip ns).map (·.1)=ks:=by
  rw [<-kr,zO];apply List.ext_getElem
  . rw [zJ,EU]
  . intro i h1 h2;rw [List.getElem_map,IJ];show ks.getD i []=_;rw [gh,dS h2];rfl
 refine Kr ?_ ?_ (CJ (by rw [zf];exact nd))
 . refine List.Perm.trans ?_ (f8 _).symm;have:((List.range ks.length).map λi=>((ks.getD (SRT.g q i) [],ns.getD (SRT.g q i) 0):KN))=q.toList.map λi=>(ks.getD i [],ns.getD i 0):=by rw [ql,zO];rfl
   rw [this];have p:=hl2.map (λi=>((ks.getD i [],ns.getD i 0):KN));rw [kr]at p;exact p
 . rw [List.pairwise_map];refine List.pairwise_iff_getElem.mpr λi j hi hj hij=>?_;rw [IJ,IJ];exact A i j hij (by simpa using hj)
def d6(p:KN):PyData:=.tuple [aH p.1,.int p.2]
noncomputable def Ak:PyData->Option PyData
 | .dict kvs=>(gU kvs).bind λks=>(jT kvs).bind λns=>if decide (ks.length < 64)=true then some (.list ((lK (ks.zip ns)).map d6))else none
 |_=>none
def Al(fe:aS->Option PyData)(δ:aS):Option PyData:=(fe δ).bind Ak
section
variable {X:Cx} {K:Fg}
theorem Grow.more {F H H':Hp}(s:Same F H)(hh:Same H H')(T:List Addr)(hT:∀b∈T,H b=none\/∃xs,H b=some (.tup xs)):Grow F H (λb=>if b∈T then H' b else F b) H':=by
 refine⟨λb u e=>?_,λb u e=>?_,hh,λb u e t n=>?_⟩
 . show (if b∈T then H' b else F b)=some u;split
   . exact hh _ _ (s b u e)
   . exact e
 . have e:(if b∈T then H' b else F b)=some u:=e;split at e
   . exact e
   . exact hh _ _ (s b u e)
 . show (if b∈T then H' b else F b)=none;split
   . rename_i hm
     rcases hT b hm with z|⟨xs,z⟩
     . rw [z]at e;cases e
     . rw [z]at e;cases e;exact absurd rfl (t xs)
   . exact n
theorem CK {F:Hp}:∀{bs:List Addr} {ps:List KN},bs.length=ps.length->(∀i,i < ps.length->∃t,F (bs.getD i 0)=some (.tup [.ref t,.int (ps.getD i ([],0)).2])/\F t=some (.tup ((ps.getD i ([],0)).1.map V.int)))->Are K F (bs.map V.ref) (ps.map d6)
 |[],[],_,_=>rfl
 |[],_::_,e,_=>by cases e
 |_::_,[],e,_=>by cases e
 |b::bs,p::ps,e,h=>by
  obtain⟨t,h1,h2⟩:=h 0 (Nat.succ_pos _);exact⟨.ref b,_,rfl,⟨b,_,rfl,h1,⟨.ref t,_,rfl,⟨t,_,rfl,h2,Are.ints.mpr rfl⟩,⟨.int p.2,_,rfl,rfl,rfl⟩⟩⟩,CK (Nat.succ.inj e) λi hi=>h (i+1) (Nat.succ_lt_succ hi)⟩
theorem vW:∀{kvs:List (PyData×PyData)} {ks:List `f},gU kvs=some ks->ks.length=kvs.length
 |[],_,h=>by cases h;rfl
 |p::r,_,h=>by
  obtain⟨k,_,e2⟩:=bind_some h;obtain⟨us,e3,rfl⟩:=Q0.mp e2;simp [vW e3]
theorem sY:∀{kvs:List (PyData×PyData)} {ns:`f},jT kvs=some ns->ns.length=kvs.length
 |[],_,h=>by cases h;rfl
 |(k,d)::r,ns,h=>by
  cases d with
  |int n=>
   obtain⟨us,e3,rfl⟩:=Q0.mp (show (jT r).map (n:: ·)=some ns from h)
   simp [sY e3]
  |_=>cases h
def G9(K:Fg)(te:TE):TE:=IX G8 (bU (Lb K "dict" (CH "dict_items") te) dJ)
theorem Ga {te:TE}{fe:aS->Option PyData}(a:SE K te fe):SE K (G9 K te) (Al fe):=by
 intro H0 F0 F σ H δ d Q R e h;obtain⟨d1,e1,e2⟩:=bind_some e;unfold Ak at e2;split at e2
 . rename_i kvs;obtain⟨ks,e3,e4⟩:=bind_some e2;obtain⟨ns,e5,e6⟩:=bind_some e4;split at e6
   . rename_i c;cases e6;simp only [decide_eq_true_eq]at c;have kl:=vW e3;have nl:=sY e5;refine a H0 F0 F σ H δ _ _ R e1 λv H1 F1 g1 i1=>?_;obtain⟨p,rfl,hh⟩:=i1;have hd:∃m,F1 p=some (.dT m)/\Kvs K F1 m kvs:=by
      rcases hh with ⟨ms,rfl,_⟩|⟨m,z,kv⟩|⟨nm,rfl,_⟩|⟨m,z,kv⟩
      . cases e5
      . exact⟨m,z,kv⟩
      . cases e5
      . cases kvs with
        |nil=>exact kv.elim
        |cons q r=>rw [kv.1]at e5;cases e5
     obtain⟨m,hm,kv⟩:=hd;have hmH:=g1.s _ _ hm;refine⟨.inr (.inr (.inl ⟨rfl,.inr ⟨m,hmH⟩⟩)),rfl,p,m,rfl,hmH,λq hq=>?_⟩;refine⟨q,p,m,ks,ns,rfl,aR,by rw [aM (aQ hmH hq)];exact hmH,sR kv e3,lJ e5 kv,c,λH' D bs ts qq sm hD nd P A hbl hDl hbs hts htl=>?_⟩
     have sm1:Same H1 H':=(bV hq _).trans sm;have old:∀{b},bC H1 q (Mw "dict_items" q p) b=none->H1 b=none:=λ{b} z=>by
      by_cases y:b=q
      . rw [y];exact hq
      . rw [aM y]at z;exact z
     have tOld:∀i,i < ks.length->H1 (ts.getD i 0)=some (.tup ((ks.getD i []).map V.int)):=λi hi=>by
      have z:=hts i hi;rw [aM (λy=>by rw [y,aR]at z;cases z)]at z
      exact z
     have mem:∀{l:List Addr} {i:Nat},i < l.length->l.getD i 0∈l:=λ{l i} hi=>by
      rw [gh,dS hi];exact AA _
     have gr:=Grow.more g1.s sm1 (D::(bs++ts)) λb hb=>by
      rcases Q3.mp hb with rfl|hb
      . exact .inl (old hD)
      . rcases Ca.mp hb with hb|hb
        . obtain⟨i,hi,rfl⟩:=List.getElem_of_mem hb;have:=(hbs i `e).1
          rw [gh,dS hi]at this;exact .inl (old this)
        . obtain⟨i,hi,rfl⟩:=List.getElem_of_mem hb;have:=tOld i `e
          rw [gh,dS hi]at this;exact .inr ⟨_,this⟩
     refine h (.ref D) H' _ (g1.trans gr) ⟨D,_,rfl,(if_pos gG).trans hDl,?_⟩;have sk:=MF (ns:=ns) `e nd P A
     rw [<-sk];refine CK (by rw [zJ,EU];exact hbl) λi hi=>?_
     have hi':i < ks.length:=by simpa using hi
     have ge:((List.range ks.length).map λi=>((ks.getD (SRT.g qq i) [],ns.getD (SRT.g qq i) 0):KN)).getD i ([],0)=(ks.getD (SRT.g qq i) [],ns.getD (SRT.g qq i) 0):=by
      rw [gh,zK,List.getElem?_range hi'];rfl
     rw [ge];have hg:=P.lt i hi';refine⟨ts.getD (SRT.g qq i) 0,(if_pos (iJ _ (Mu _ (mem (l:=bs) (i:=i) `e)))).trans (hbs i hi').2,(if_pos (iJ _ (Qb _ (mem (l:=ts) (i:=SRT.g qq i) `e)))).trans ?_⟩
     exact sm1 _ _ (tOld _ hg)
   . cases e6
 . cases e2
theorem Gb(K:Fg){x:Str}{E:Expr}{ap cp p1 pos:Pos}{te:TE}(hc:X.calm=true)(hu:X.A.units+64 < cLine)(hg:Gl X x)(hm:X.mg x=none)(hv:bootBuiltins x=some (.builtin "sorted"))(ha:PE X E te)(h:X.K=K:=by rfl)(hn:x≠ "__name__":=by decide)(hdb:(x==("__debug__":Str))=false:=by decide)
 (hbase:attributeBase E "items" X.env (eval E X.env)=eval E X.env:=by rfl) (hline:(ap.endLine==cp.line)=true:=by rfl)
 (he:starEach [.Call (.Attribute E "items" ap) [] [] cp] X.env=(false,eval (.Call (.Attribute E "items" ap) [] [] cp) X.env)::starEach [] X.env:=by rfl) (hpl:(backTo pos (starEach [] X.env)).any (·.1)=false:=by rfl):
 PE X (.Call (.Name x p1) [.Call (.Attribute E "items" ap) [] [] cp] [] pos) (G9 K te):=by
 subst h;exact bD (Aj hc hu) hg hm hv (aA (En PySem.F.plainAttrs_dict PySem.F.slot_dict_items PySem.F.type_dict_items G6 ha hbase hline) aI he) hn hdb he hpl
end
end DL
namespace DL
open PySem PySem.Spec PyProof.Rows L2 PySem.W
def Gc(K:Frag)(q:Addr×Obj):Option (Addr×Array Value):=match q.2.data with
 | .func fd=>(FF fd).bind λps=>match fd.code with
  | .ref c=>match K.lookup c with
   |some ⟨_,_,.fields vs,_⟩=>match (vs[11]? :Option Value)with
    |some (.ref P)=>if codeHdIn K c P=true then some (P,ps)else none
    |_=>none
   |_=>none
  |_=>none
 |_=>none
def cf(K:Frag):List (Addr×Array Value):=K.filterMap (Gc K)
variable {K:Frag}
theorem yX {c P:Addr}(h:codeHdIn K c P=true):∃a b d vs,K.lookup c=some ⟨a,b,.fields vs,d⟩/\vs[11]? =some (Value.ref P):=by
 unfold codeHdIn at h;split at h
 . rename_i b vs d hk;simp only [Q5]at h;have e1:=h.1.1.1.1.1;split at e1
   . rename_i P' h11;exact⟨_,b,d,vs,hk,by rw [h11,beq_iff_eq.mp e1]⟩
   . cases e1
 . cases h
theorem Gd {α:Type}:∀{l:List (Addr×α)} {a:Addr} {o:α},l.lookup a=some o->(a,o)∈l
 |[],_,_,h=>by cases h
 |(b,u)::r,a,o,h=>by
  rw [uM]at h;split at h
  . rename_i z;cases h;rw [eq_of_beq z];exact gG
  . exact iJ _ (Gd h)
theorem Ge {P:Addr}{ps:Array Value}(t:DC K P ps):(P,ps)∈cf K:=by
 obtain⟨f,oc,od,fd,sl,c,h1,h2,h3,h4⟩:=t;obtain⟨a,b,d,vs,k1,k2⟩:=yX h3;refine List.mem_filterMap.mpr ⟨(f,⟨oc,od,.func fd,sl⟩),Gd h1,?_⟩;unfold Gc;simp only [h4,zD,h2,k1,k2,h3,if_true]
theorem JX {q:Addr×Array Value}(m:q∈cf K):∃c,codeHdIn K c q.1=true:=by
 obtain⟨⟨f,o⟩,_,e⟩:=List.mem_filterMap.mp m;unfold Gc at e;split at e
 . obtain⟨ps,_,e⟩:=bind_some e;split at e
   . split at e
     . split at e
       . split at e
         . rename_i hc;cases e;exact⟨_,hc⟩
         . cases e
       . cases e
     . cases e
   . cases e
 . cases e
structure Tabs (K:Frag) (h:Heap):Prop where
 one:∀x∈cf K,∀y∈cf K,x.1=y.1->x=y
 out:(cf K).all (λq=>(K.lookup q.1).isNone)=true
 at_:∀q∈cf K,h.get? q.1=some (tabObj #[])
theorem Gf {α:Type}{l:List α}(h:l.length<=1){x y:α}(hx:x∈l)(hy:y∈l):x=y:=by
 match l,h with
 |[],_=>cases hx
 |[z],_=>rw [Q7.mp hx,Q7.mp hy]
def Gg(K:Frag):Hp:=λb=>((cf K).find? λq=>q.1==b).map λq=>.tbl q.2
theorem D3 {b:Addr}{o:HO}(e:Gg K b=some o):∃ps,(b,ps)∈cf K/\o=.tbl ps:=by
 unfold Gg at e;obtain⟨q,e1,e2⟩:=Q0.mp e;have m:=zR e1;have z:q.1=b:=by
  have y:=List.find?_some e1;exact beq_iff_eq.mp y
 exact⟨q.2,by rw [<-z];exact m,e2.symm⟩
theorem JY(h1:∀x∈cf K,∀y∈cf K,x.1=y.1->x=y){b:Addr}{ps:Array Value}(m:(b,ps)∈cf K):Gg K b=some (.tbl ps):=by
 unfold Gg;cases z:(cf K).find? λq=>q.1==b with
 |none=>exact absurd (beq_self_eq_true b) (by have:=List.find?_eq_none.mp z _ m;simpa using this)
 |some q=>rw [h1 q (zR z) (b,ps) m (beq_iff_eq.mp (List.find?_some (p:=λq:Addr×Array Value=>q.1==b) z))];rfl
structure BMdB (base:Heap) (mg:`j):Prop where
 ex:∃(bm:Addr) (o:Obj),mg "__builtins__"=some (.ref bm)/\bm≠builtinsNs/\bm≠mainGlobals/\base.get? bm=some o/\o.cls=.type "module"/\o.dict=some builtinsNs/\o.data=.plain
noncomputable def Gh(K:Frag)(c:Addr):Addr:=match K.lookup c with
 |some ⟨_,_,.fields vs,_⟩=>match (vs[11]? :Option Value)with
  |some (.ref P)=>P
  |_=>0
 |_=>0
def jw(K:Frag)(a:Addr)(o:Option HO):Hp:=λb=>if b=a then o else Gg K b
theorem D4 {P:Program}{w:World}{mg mb:`j}{CX:Ef}{k:Nat}{fa a:Addr}{fd:FuncData}{x:Str}{sp:Sp}{s₁:Shared}{vs:List Value}{ns:`f}
 (KX:K.In s₁.heap) (TB:Tabs K s₁.heap) (hns:s₁.heap.Ns mainGlobals mg) (hb:s₁.heap.Ns builtinsNs mb) (hbb:∀x:Str,x≠ "__name__"->mb x=bootBuiltins x) (hlim:s₁.heap.NoLimit) (hbm:∃bm ob,mg "__builtins__"=some (.ref bm)/\bm≠builtinsNs/\s₁.heap.get? bm=some ob/\ob.cls=.type "module"/\ob.dict=some builtinsNs/\ob.data=.plain) (hg:s₁.gens= #[])
 (ha:s₁.heap.get? a=some {cls:=.type "list",data:=.seq vs.toArray}) (hi:IntsAre vs ns) (hl:ns.length<=sizeLine) (hr:Room k callerA)
 (F:∀base:Heap,K.In base->base.Ns mainGlobals mg->BMdB base mg->FnOk P w K mg base CX k fa fd [x] sp) (hbind:∀(s:Shared) (u:Value),BindsTo s fd ⟨[u],[]⟩ [(x,u)])
 (hsp:∀H:Hp,Tb K H->SqL K H a (ns.map V.int)->sp [.ref a] H (λv _=>v=.bl true) λ_ _ _=>False)
 (hCX:∀H e s',CX [] H s₁ (λ_ _ _=>False) e s'->False):
 codeAny (model P w) callerA (.call (.ref fa) ⟨[.ref a],[]⟩) (λr s'=>r=.ok (.ret (.bool true))/\OldK s₁.heap s'.heap/\s'.os=s₁.os/\AllBare s'.gens) s₁:=by
 have rv:=Cr hi;have lenV:=hi.length;have atT:∀{b ps},(b,ps)∈cf K->s₁.heap.get? b=some (tabObj #[]):=λ{b ps} m=>TB.at_ _ m;have naT:∀{ps},(a,ps) ∉ cf K:=λ{ps} m=>by
  have e:=atT m;rw [ha]at e;cases e
 have core:∀o:Option HO,(o=none\/∃ob xs,o=some (.frz ob (.lst xs)))->SqL K (jw K a o) a (ns.map V.int)->(∀u,o=some u->ObjOk P w (jw K a o) s₁.heap a u)->(o≠none->K.lookup a=none)->
  codeAny (model P w) callerA (.call (.ref fa) ⟨[.ref a],[]⟩) (λr s'=>r=.ok (.ret (.bool true))/\OldK s₁.heap s'.heap/\s'.os=s₁.os/\AllBare s'.gens) s₁:=by
  intro o hO hS hok0 hK;have cases3:∀b u,jw K a o b=some u->(b=a/\o=some u)\/∃ps,(b,ps)∈cf K/\u=.tbl ps:=λb u e=>by
   unfold jw at e;split at e
   . exact .inl ⟨by assumption,e⟩
   . exact .inr (D3 e)
  have hok:HOk P w (jw K a o) s₁.heap:=λb u e=>by
   rcases cases3 b u e with ⟨rfl,z⟩|⟨ps,m,rfl⟩
   . exact hok0 u z
   . exact Or.inl (atT m)
  have noA:∀{b:Addr} {ob:Obj} {es:Array DictEntry} {ep:Nat},s₁.heap.get? b=some ob->ob.data=.dict es ep->jw K a o b=none:=λ{b ob es ep} e d=>by
   cases q:jw K a o b with
   |none=>rfl
   |some u=>
    rcases cases3 b u q with ⟨rfl,z⟩|⟨ps,m,rfl⟩
    . rw [ha]at e;cases e;cases d
    . rw [atT m]at e;cases e;cases d
  have nsK:∀{b:Addr} {m:`j},s₁.heap.Ns b m->(wA s₁.heap (jw K a o)).Ns b m:=λ{b m} ⟨ob,es,ep,e,d,r⟩=>⟨ob,es,ep,rT e (noA e d),d,r⟩;have hKb:K.In (wA s₁.heap (jw K a o)):=λb ob e=>rT (KX b ob e) (by
   cases q:jw K a o b with
   |none=>rfl
   |some u=>
    rcases cases3 b u q with ⟨rfl,z⟩|⟨ps,m,rfl⟩
    . rw [hK (by rw [z];exact λy=>nomatch y)]at e;cases e
    . have z:=Q2.mp TB.out _ m;rw [e]at z;cases z)
  have hB:BMdB (wA s₁.heap (jw K a o)) mg:=by
   obtain⟨bm,ob,m1,m2,m3,m4,m5,m6⟩:=hbm;refine⟨bm,ob,m1,m2,λz=>?_,rT m3 ?_,m4,m5,m6⟩
   . obtain⟨og,es,ep,g1,g2,_⟩:=hns;rw [<-z,m3]at g1;cases g1;rw [m6]at g2;cases g2
   . cases q:jw K a o bm with
     |none=>rfl
     |some u=>
      rcases cases3 bm u q with ⟨rfl,z⟩|⟨ps,m,rfl⟩
      . rw [ha]at m3;cases m3;cases m6
      . rw [atT m]at m3;cases m3;cases m6
  have hM:Mod K mg (wA s₁.heap (jw K a o)):=⟨hKb,nsK hns,⟨mb,nsK hb,hbb⟩,let ⟨mc,h1,h2⟩:=hlim;⟨mc,nsK h1,h2⟩⟩;have e0:Env0 P w K mg (wA s₁.heap (jw K a o)) callerA [] s₁ (jw K a o):=⟨rfl,hM,λb o e=>IM e,Nat.le_of_eq (Cd _ _),trivial,(λb hb=>absurd (show b∈([]:List Addr)from hb) (by simp)),hok,.of_eq hg⟩
  have tb:Tb K (jw K a o):=λb ps t=>by
   have m:=Ge t;unfold jw;rw [if_neg (λz=>naT (z▸m))];exact JY TB.one m
  refine codeAny_mono ((F _ hKb (nsK hns) hB).run callerA [] s₁ (jw K a o) ⟨[.ref a],[]⟩ [.ref a] [.ref a] _ _ hr e0 (hbind s₁ (.ref a)) (.cons rfl .nil) (hsp _ tb hS)) λr s' h=>?_;cases r with
  |error e=>exact(hCX _ e s' h).elim
  |ok fl=>
   cases fl with
   |next=>exact False.elim h
   |brk=>exact False.elim h
   |cont=>exact False.elim h
   |ret u=>
    obtain⟨v,H',os,bare,un,hok',r',q⟩:=h;have q':v=.bl true:=q;subst q';obtain rfl:u=Value.bool true:=r';have key:∀b ob,s₁.heap.get? b=some ob->s'.heap.get? b=some ob\/(∃arr,isCodeTable s₁.heap b/\ob=tabObj #[]/\s'.heap.get? b=some (tabObj arr)):=λb ob e=>by
     cases q:jw K a o b with
     |none=>exact .inl (un.keep b ob e q (by intro z;exact absurd (show b∈([]:List Addr)from z) (by simp)) (by simp))
     |some u=>
      rcases cases3 b u q with ⟨rfl,z⟩|⟨ps,m,rfl⟩
      . rcases hO with y|⟨oo,xs,y⟩
        . rw [y]at z;cases z
        . rw [y]at z;cases z;have z2:=un.frzs b oo _ q;obtain⟨e1,_⟩:=hok b _ q;obtain⟨e2,_⟩:=hok' b _ z2;rw [e]at e1;cases e1;exact .inl e2
      . obtain⟨more,z2⟩:=un.tbls b _ q;obtain⟨c,hc⟩:=JX m;have ct:=((codeHd_of_K KX hc).tab (atT m)).isCodeTable;have eo:=atT m;rw [e]at eo;cases eo
        rcases(show ObjOk P w H' s'.heap b (.tbl _)from hok' b _ z2)with y|⟨c',oo,uu,l,cc,q0,t0,t2,vs',_,y,_⟩
        . exact .inr ⟨#[],ct,rfl,y⟩
        . exact .inr ⟨_,ct,rfl,y⟩
    refine⟨rfl,⟨λb ob e=>?_,λb ob e=>?_⟩,os,bare⟩
    . rcases key b ob e with z|⟨arr,z1,z2,z3⟩
      . exact .inl z
      . subst z2;exact .inr (.inl ⟨z1,rfl, #[],arr,rfl,by rw [Array.empty_append];exact z3⟩)
    . rcases key b ob e with z|⟨arr,_,_,z3⟩
      . exact⟨_,z⟩
      . exact⟨_,z3⟩
 cases hk:K.lookup a with
 |some o=>
  have e:=KX a o hk;rw [ha]at e;cases e;exact core none (.inl rfl) (.inr ⟨_,vs.toArray,_,hk,rfl,rfl,rfl,by rw [zM,lenV];exact hl,by simpa using rv⟩) (λu z=>nomatch z) λz=>absurd rfl z
 |none=>
  refine core (some (.frz {cls:=.type "list",data:=.seq vs.toArray} (.lst (ns.map V.int)))) (.inr ⟨_,_,rfl⟩) (.inl (.inr ⟨{cls:=.type "list",data:=.seq vs.toArray},if_pos rfl⟩)) (λu z=>?_) λ_=>hk;cases z;exact⟨ha,by rw [zJ];exact hl,vs,_,rv,ha⟩
theorem Gi {l:OpenLaw}{n k:Nat}{q:Program}{loose:List Str}{XP:`j->Heap->Prop}{YP:World->Heap->Prop}{d:DefRec}{K:Params->Frag}{CX:World->Ef}{sp:World->Sp}{x:Str}
 (hn:l.most=some n) (hn2:n<=sizeLine) (hdf:d.params.defaults=[]) (hr:Room k callerA)
 (hY:∀(w:World) (h:Heap),YP w h->(K w.params).In h/\Tabs (K w.params) h)
 (F : ∀ (w : World) (mg : Str -> Option Value) (fa : Addr) (h : Heap), (K w.params).In h -> h.Ns mainGlobals mg -> mg d.name = some (.ref fa) ->
  ∃fd:FuncData,(∀(s:Shared) (u:Value),BindsTo s fd ⟨[u],[]⟩ [(x,u)])/\∀base:Heap,(K w.params).In base->base.Ns mainGlobals mg->BMdB base mg->FnOk l.prog w (K w.params) mg base (CX w) k fa fd [x] (sp w))
 (hsp:∀(w:World) (H:Hp) (a:Addr) (ns:`f),ns.length<=n->Tb (K w.params) H->SqL (K w.params) H a (ns.map V.int)->sp w [.ref a] H (λv _=>v=.bl true) λ_ _ _=>False)
 (hCX:∀(w:World) (H:Hp) (s:Shared) (e:Value) (s':Shared),CX w [] H s (λ_ _ _=>False) e s'->False):
 WalkO q loose XP YP l.row.toRowW d [] (λf vs=>PySem.call f vs):=by
 refine Att.x6 hn hdf λw s₀ s₁ mg mb fa o pm cd doc a vs ns G Y ho hd hcd hmg hobj hints hlen hg=>?_;obtain⟨KX,TB⟩:=hY w _ Y;obtain⟨fd,hb,hF⟩:=F w mg fa _ KX G.T.g hmg;exact D4 KX TB G.T.g G.T.b G.T.builtins G.T.nolimit G.T.bmain hg hobj hints (Qc hlen hn2) hr hF hb (λH hO hS=>hsp w H a ns hlen hO hS) λH e s'=>hCX w H s₁ e s'
theorem JZ {h:Heap}{ts:List Addr}(hT:∀P∈ts,h.get? P=some (tabObj #[]))(e:(cf K).map (·.1)=ts)(h1:ts.length<=1)(h2:(cf K).all (λq=>(K.lookup q.1).isNone)=true):Tabs K h:=
 ⟨λx hx y hy _=>Gf (by rw [<-zJ (f:=λq:Addr×Array Value=>q.1),e];exact h1) hx hy,h2,λq m=>hT _ (e▸zP m)⟩
noncomputable def PD:List Addr->Bool
 |[]=>true
 |x::r=> !r.contains x&&PD r
theorem CL {β:Type}:∀{l:List (Addr×β)},PD (l.map (·.1))=true->∀x∈l,∀y∈l,x.1=y.1->x=y
 |[],_,x,hx,_,_,_=>nomatch hx
 |a::r,h,x,hx,y,hy,e=>by
  have h':(!(r.map (·.1)).contains a.1&&PD (r.map (·.1)))=true:=h
  rw [Q5,Bool.not_eq_true']at h';have no:∀z∈r,z.1≠a.1:=λz hz q=>by
   have c:(r.map (·.1)).contains a.1=true:=List.contains_iff_mem.mpr (q▸zP hz)
   rw [h'.1]at c;cases c
  rcases Q3.mp hx with z1|z1
  . rcases Q3.mp hy with z2|z2
    . rw [z1,z2]
    . exact absurd (e.symm.trans (congrArg (·.1) z1)) (no y z2)
  . rcases Q3.mp hy with z2|z2
    . exact absurd (e.trans (congrArg (·.1) z2)) (no x z1)
    . exact CL h'.2 x z1 y z2 e
variable {ts:List Addr}
theorem Gj {h:Heap}(hT:∀P∈ts,h.get? P=some (tabObj #[]))(e:(cf K).all (λq=>ts.contains q.1)=true)(h1:PD ((cf K).map (·.1))=true)(h2:(cf K).all (λq=>(K.lookup q.1).isNone)=true):Tabs K h:=
 ⟨CL h1,h2,λq m=>hT _ (List.contains_iff_mem.mp (Q2.mp e q m))⟩
noncomputable def Gk:Expr->Option Scope
 | .Call _ _ [⟨_,.Lambda _ _ sc _,_⟩] _=>some sc
 |_=>none
noncomputable def MG:Stmt->Option Scope
 | .Return (some e) _=>Gk e
 | .Assign _ e _=>Gk e
 |_=>none
def Ks(st:Stmt):Scope:=((bx st).findSome? MG).getD (aO st)
def w9(st:Stmt):Pos:=((bx st).findSome? NY).getD ⟨0,0,0,0⟩
structure FunC (K:Frag) (x qual:Str) (st:Stmt) (f:Addr) (fd:FuncData) (c:Addr):Prop where
 ex:∃(oc:Value) (od:Option Addr) (kV doc pm:Value) (an:Option Addr) (ct:Value) (osl:Array (Option Value)),fd=fnOf x qual (eT st) (bx st) (aO st) .none kV doc pm an (.ref c) ct/\K.lookup f=some ⟨oc,od,.func fd,osl⟩/\codeIn K (.ref c) qual=true
section
variable {P:Program} {w:World} {K:Frag} {mg:`j} {base:Heap}
variable {f c:Addr}{st:Stmt}{x qual:Str}
theorem J5 {oc:Value}{od an:Option Addr}{osl:Array (Option Value)}{kV doc pm ct:Value}(l:K.lookup f=some ⟨oc,od,.func (fnOf x qual (eT st) (bx st) (aO st) .none kV doc pm an (.ref c) ct),osl⟩)
 (h:codeIn K (.ref c) qual=true):FunC K x qual st f (fnOf x qual (eT st) (bx st) (aO st) .none kV doc pm an (.ref c) ct) c:=⟨oc,od,kV,doc,pm,an,ct,osl,rfl,l,h⟩
variable {fd:FuncData}
theorem J6 {N ps:List Str}{k n m:Nat}{fb:aS->Option DFlow}(F:FunC K x qual st f fd c)(S:FnScope N ps (aO st))(hN:N.length=n)(hm:ps.length=m)
 (hbody : ∀ (A : Around) (outer : List Env) (s : Shared) (H : Hp) (E : XK), Room k (A.deeper (envOfC qual (aO st) `a f (.ref c))) ->
  ∃t,PSs (rj pH P w K mg base N qual (aO st) f (.ref c) A outer s H E).nox (bx st) t/\SS K t fb):FnOk P w K mg base pH (k+1) f fd ps (f7 K m (bF n fb)):=by
 subst hN hm;obtain⟨oc,od,kV,doc,pm,an,ct,osl,rfl,lk,hcd⟩:=F.ex;refine K9 lk hcd S (λvs H Q E h=>?_) λA outer s H vs Q E hr h=>?_
 . obtain⟨F',ds,d,_,hl,_⟩:=h;exact hl
 . obtain⟨F',ds,d,sF,hl,ar,e,q⟩:=h;obtain⟨t,ht,hs⟩:=hbody A outer s H E hr;obtain⟨r,e1,e2⟩:=bind_some e;refine⟨t,ht.nox,hs H F' F' (L2.dY N vs) H (iQ N.length ds) r _ (nr sF ar) e1 ?_⟩;cases r with
   |nx δ=>cases e2;exact λF2 σ2 H2 R2 _=>q .non H2 F2 R2.g rfl
   |rt d'=>cases e2;exact λF2 v H2 g2 i2=>q v H2 F2 g2 i2
   |ro es=>
    cases e2;exact λF2 a xs H2 g2 h0 hf ha ar2=>q (.ref a) H2 _ (g2.frz h0 hf ha) ⟨a,xs,rfl,aR,ar2.same (bV hf _)⟩
   |bk _=>cases e2
   |ct _=>cases e2
theorem CM {T:Addr}{ps:Array Value}(F:FunC K x qual st f fd c)(hC:codeHdIn K c T=true)(hp:∀kV doc pm an ct,FF (fnOf x qual (eT st) (bx st) (aO st) .none kV doc pm an (.ref c) ct)=some ps):DC K T ps:=by
 obtain⟨oc,od,kV,doc,pm,an,ct,osl,rfl,lk,hcd⟩:=F.ex;exact⟨f,oc,od,_,osl,c,lk,rfl,hC,hp _ _ _ _ _⟩
end
end DL
namespace DL
open PySem L2
noncomputable abbrev Cl:=List (List Int×List PyData)
noncomputable abbrev Es:=List (List Int×Addr×List V)
noncomputable def cJ:Cl->List Int->PyData->Cl
 |[],k,d=>[(k,[d])]
 |p::r,k,d=>if p.1=k then(p.1,p.2++[d])::r else p::cJ r k d
def lL(c:Cl):List (PyData×PyData):=c.map λp=>(aH p.1,.list p.2)
noncomputable def yY(es:Es):List (List bb×V):=es.map λe=>(e.1.map Sum.inl,V.ref e.2.1)
noncomputable def vX(es:Es):List Addr:=es.map λe=>e.2.1
noncomputable def fG(δ:aS):Bool:=δ.all λs=>match s with
 |some (.ow _)=>false
 |some (.od _)=>false
 |_=>true
theorem bX {δ:aS}(h:fG δ=true){j:Nat}{s:Sl}(e:δ[j]? =some (some s)):∃d,s=.fz d:=by
 have:=Q2.mp h _ (ES e);cases s with
 |fz d=>exact⟨d,rfl⟩
 |ow _=>cases this
 |od _=>cases this
theorem sZ {δ:aS}(h:fG δ=true)(j:Nat)(d:PyData):fG (δ.set j (some (.fz d)))=true:=by
 unfold fG;rw [Q2];intro s hs
 rcases List.mem_or_eq_of_mem_set hs with z|z
 . exact Q2.mp h s z
 . rw [z]
section
variable {K:Fg} {H0 F0 F F':Hp} {σ:St} {H H':Hp} {δ:aS}
noncomputable def Ent(K:Fg)(H0 F H:Hp):Es->Cl->Prop
 |[],[]=>True
 |e::es,p::ps=>(e.1=p.1/\H e.2.1=some (.lst e.2.2)/\F e.2.1=none/\H0 e.2.1=none/\Are K F e.2.2 p.2)/\Ent K H0 F H es ps
 |_,_=>False
variable {ps:Cl}{es:Es}
theorem Ent.len(h:Ent K H0 F H es ps):es.length=ps.length:=by
 induction es generalizing ps with
 |nil=>
  cases ps with
  |nil=>rfl
  |cons _ _=>exact h.elim
 |cons e es ih=>
  cases ps with
  |nil=>exact h.elim
  |cons p ps=>
   rw [zC,zC,ih h.2]
theorem Ent.grow(g:Grow F H F' H'){es:Es}{ps:Cl}(h:Ent K H0 F H es ps):Ent K H0 F' H' es ps:=by
 induction es generalizing ps with
 |nil=>
  cases ps with
  |nil=>exact True.intro
  |cons _ _=>exact h.elim
 |cons e es ih=>
  cases ps with
  |nil=>exact h.elim
  |cons p ps=>
   obtain⟨⟨h1,h2,h3,h4,h5⟩,r⟩:=h;exact⟨⟨h1,g.h _ _ h2,g.o _ _ h2 (λ_ z=>nomatch z) h3,h4,h5.same g.f⟩,ih r⟩
variable {o:HO}
theorem Ent.updH {c:Addr}(h:Ent K H0 F H es ps)(n:c ∉ vX es):Ent K H0 F (bC H c o) es ps:=by
 induction es generalizing ps with
 |nil=>
  cases ps with
  |nil=>exact True.intro
  |cons _ _=>exact h.elim
 |cons e es ih=>
  cases ps with
  |nil=>exact h.elim
  |cons p ps=>
   obtain⟨⟨h1,h2,h3,h4,h5⟩,r⟩:=h;exact⟨⟨h1,by rw [aM (λz=>n (by rw [<-z];exact gG))];exact h2,h3,h4,h5⟩,ih r λz=>n (iJ _ z)⟩
variable {k:`f}
theorem Ent.snoc {b:Addr}(hb:H b=some (.lst []))(fb:F b=none)(h0:H0 b=none){es:Es}{ps:Cl}(h:Ent K H0 F H es ps):Ent K H0 F H (es++[(k,b,[])]) (ps++[(k,[])]):=by
 induction es generalizing ps with
 |nil=>
  cases ps with
  |nil=>exact⟨⟨rfl,hb,fb,h0,rfl⟩,True.intro⟩
  |cons _ _=>exact h.elim
 |cons e es ih=>
  cases ps with
  |nil=>exact h.elim
  |cons p ps=>
   exact⟨h.1,ih h.2⟩
theorem Ent.at_(h:Ent K H0 F H es ps):∀e∈es,H e.2.1=some (.lst e.2.2)/\F e.2.1=none/\H0 e.2.1=none/\∃p∈ps,Are K F e.2.2 p.2:=by
 induction es generalizing ps with
 |nil=>
  cases ps with
  |nil=>exact λe he=>nomatch he
  |cons _ _=>exact h.elim
 |cons e es ih=>
  cases ps with
  |nil=>exact h.elim
  |cons p ps=>
   obtain⟨⟨h1,h2,h3,h4,h5⟩,r⟩:=h;intro x hx
   rcases Q3.mp hx with rfl|hx
   . exact⟨h2,h3,h4,p,gG,h5⟩
   . obtain⟨a,b,c,q,hq,d⟩:=ih r x hx;exact⟨a,b,c,q,iJ _ hq,d⟩
theorem rO:∀{a b:`f},a.map (Sum.inl:Int->bb)=b.map Sum.inl->a=b
 |[],[],_=>rfl
 |[],_::_,h=>by cases h
 |_::_,[],h=>by cases h
 |x::a,y::b,h=>by
  rw [zI,zI]at h;injection h with h1 h2
  injection h1 with h1
  rw [h1,rO h2]
theorem yZ(k:`f):∀es:Es,gw (yY es) (k.map Sum.inl)=(es.find? λe=>decide (e.1=k)).map λe=>V.ref e.2.1
 |[]=>rfl
 |e::es=>by
  show gw ((e.1.map Sum.inl,V.ref e.2.1)::yY es) (k.map Sum.inl)=_
  by_cases h:e.1=k
  . rw [oC (by rw [h]),C7 (by simpa using h)]
    rfl
  . rw [oE (λz=>h (rO z)),B2 (by simpa using h)]
    exact yZ k es
theorem Gm {b:Addr}(h:es.find? (λe=>decide (e.1=k))=none):lD (yY es) (k.map Sum.inl) (.ref b)=yY (es++[(k,b,[])]):=by
 have any:((yY es).any λkv=>decide (kv.1=k.map (Sum.inl:Int->bb)))=false:=by
  rw [List.any_eq_false];intro q hq;obtain⟨e,he,rfl⟩:=Q6.mp hq;have:=List.find?_eq_none.mp h e he;intro z;exact this (decide_eq_true (rO (of_decide_eq_true z)))
 unfold lD;rw [any,if_neg Q4];simp [yY]
theorem Ent.find {k:`f}(h:Ent K H0 F H es ps):(es.find? λe=>decide (e.1=k)).isSome=(ps.find? λp=>decide (p.1=k)).isSome:=by
 induction es generalizing ps with
 |nil=>
  cases ps with
  |nil=>rfl
  |cons _ _=>exact h.elim
 |cons e es ih=>
  cases ps with
  |nil=>exact h.elim
  |cons p ps=>
   obtain⟨⟨h1,_⟩,r⟩:=h
   by_cases h:p.1=k
   . rw [C7 (by simpa using h1.trans h),C7 (by simpa using h)]
     rfl
   . rw [B2 (by rw [h1];simpa using h),B2 (by simpa using h)]
     exact ih r
variable {d:PyData}
theorem Ent.app {x:V}(ix:Is K F x d):∀{es:Es} {ps:Cl} {e:List Int×Addr×List V},Ent K H0 F H es ps->(vX es).Nodup->es.find? (λe=>decide (e.1=k))=some e->
 ∃es',yY es'=yY es/\vX es'=vX es/\Ent K H0 F (bC H e.2.1 (.lst (e.2.2++[x]))) es' (cJ ps k d)
 |[],[],_,_,_,h=>by cases h
 |a::es,p::ps,e,⟨⟨h1,h2,h3,h4,h5⟩,r⟩,nd,hf=>by
  obtain⟨n1,n2⟩:=xP.mp (show (a.2.1::vX es).Nodup from nd)
  by_cases h:a.1=k
  . rw [C7 (by simpa using h)]at hf
    cases hf;refine⟨(a.1,a.2.1,a.2.2++[x])::es,rfl,rfl,?_⟩;unfold cJ;rw [if_pos (h1.symm.trans h)];exact⟨⟨h1,aR,h3,h4,h5.append (Are.one ix)⟩,r.updH n1⟩
  . rw [B2 (by simpa using h)]at hf
    obtain⟨es',q1,q2,q3⟩:=Ent.app ix r n2 hf;have ne:a.2.1≠e.2.1:=λz=>n1 (by rw [z];exact zP (zR hf))
    refine⟨a::es',by show _::yY es'=_::yY es;rw [q1],by show _::vX es'=_::vX es;rw [q2],?_⟩
    unfold cJ;rw [if_neg (λz=>h (h1.trans z))];exact⟨⟨h1,by rw [aM ne];exact h2,h3,h4,h5⟩,q3⟩
 |[],_::_,_,h,_,_=>h.elim
 |_::_,[],_,h,_,_=>h.elim
theorem vY:∀{ps:Cl},ps.find? (λp=>decide (p.1=k))=none->cJ (ps++[(k,[])]) k d=cJ ps k d
 |[],_=>by
  show (if k=k then(k,([]:`g)++[d])::[]else _)=_;rw [if_pos rfl];rfl
 |p::ps,h=>by
  have h1:¬p.1=k:=λz=>by rw [C7 (by simpa using z)]at h;cases h
  rw [B2 (by simpa using h1)]at h
  show cJ (p::(ps++[(k,[])])) k d=_;rw [cJ,cJ,if_neg h1,if_neg h1,vY h]
theorem Ent.kvs(h:Ent K H0 F H es ps)(s:Same F F')(q:∀e∈es,F' e.2.1=H e.2.1):Kvs K F' (yY es) (lL ps):=by
 induction es generalizing ps with
 |nil=>
  cases ps with
  |nil=>rfl
  |cons _ _=>exact h.elim
 |cons e es ih=>
  cases ps with
  |nil=>exact h.elim
  |cons p ps=>
   obtain⟨⟨h1,h2,h3,h4,h5⟩,r⟩:=h;refine⟨(e.1.map Sum.inl,V.ref e.2.1),yY es,rfl,⟨?_,?_⟩,ih r λx hx=>q x (iJ _ hx)⟩
   . rw [h1];show aH p.1=.tuple ((p.1.map Sum.inl).map kD);unfold aH;rw [zO];rfl
   . exact⟨e.2.1,e.2.2,rfl,(q e gG).trans h2,h5.same s⟩
theorem Rep.hide(R:Rep K H0 F0 F σ H δ)(i:Nat):Rep K H0 F0 F σ H (δ.set i none):=by
 have old:∀{j:Nat} {s:Sl},(δ.set i none)[j]? =some (some s)->δ[j]? =some (some s):=λ{j s} e=>by
  rcases aa e with ⟨_,z⟩|⟨_,z⟩
  . cases z
  . exact z
 exact⟨R.g,by rw [Q9];exact R.len,λj d e=>R.fz j d (old e),λj ds e=>R.ow j ds (old e),λj l ds es a e1 e2=>R.ap j l ds es a (old e1) (old e2),λj ds e=>R.od j ds (old e),λj l ds es a e1 e2=>R.ad j l ds es a (old e1) (old e2),R.tb⟩
theorem Rep.upd_ {c:Addr}(R:Rep K H0 F0 F σ H δ)(z:fG δ=true)(fc:F c=none)(hc:H0 c=none):Rep K H0 F0 F σ (bC H c o) δ:=by
 refine⟨⟨R.g.f,λb u e=>by rw [aM (aQ e fc)];exact R.g.s b u e,λb u e=>by rw [aM (aQ e hc)];exact R.g.h b u e,R.g.o⟩,R.len,R.fz,λj ds e=>?_,R.ap,λj ds e=>?_,R.ad,R.tb⟩
 . obtain⟨d,y⟩:=bX z e;cases y
 . obtain⟨d,y⟩:=bX z e;cases y
theorem Rep.frzE(R:Rep K H0 F0 F σ H δ)(z:fG δ=true)(E:Ent K H0 F H es ps):∃F',Same F F'/\Rep K H0 F0 F' σ H δ/\Kvs K F' (yY es) (lL ps)/\∀b,b ∉ vX es->F' b=F b:=by
 have inA:∀{b},b∈vX es->∃e∈es,e.2.1=b:=λhb=>Q6.mp hb;have s1:Same F (λb=>if b∈vX es then H b else F b):=λb u e=>by
  show (if b∈vX es then H b else F b)=some u;split
  . exact R.g.s b u e
  . exact e
 refine⟨λb=>if b∈vX es then H b else F b,s1,⟨⟨R.g.f.trans s1,λb u e=>?_,R.g.h,λb u e t n=>?_⟩,R.len,λj d e=>let ⟨v,h1,h2⟩:=R.fz j d e;⟨v,h1,h2.same s1⟩,λj ds e=>?_,R.ap,λj ds e=>?_,R.ad,R.tb.same s1⟩,E.kvs s1 λe he=>if_pos (zP he),λb hb=>if_neg hb⟩
 . have e:(if b∈vX es then H b else F b)=some u:=e;split at e
   . exact e
   . exact R.g.s b u e
 . show (if b∈vX es then H b else F b)=none;split
   . rename_i hm;obtain⟨e',he,rfl⟩:=inA hm;rw [(E.at_ e' he).2.2.1]at e;cases e
   . exact R.g.o b u e t n
 . obtain⟨d,y⟩:=bX z e;cases y
 . obtain⟨d,y⟩:=bX z e;cases y
variable {i:Nat}
theorem Rep.putD {a:Addr}{kvs:List (PyData×PyData)}(R:Rep K H0 F0 F σ H δ)(z:fG δ=true)(hs:σ[i]? =some (some (.ref a)))(ha:H a=some o)(fa:F a=none)(h0:H0 a=none)(hd:DcO K F o kvs):Rep K H0 F0 F σ H (δ.set i (some (.od kvs))):=by
 have no:∀{j:Nat} {s:Sl},(δ.set i (some (.od kvs)))[j]? =some (some s)->(j=i/\s=.od kvs)\/δ[j]? =some (some s):=λ{j s} e=>by
  rcases aa e with ⟨y,w⟩|⟨_,w⟩
  . exact .inl ⟨y,zV w⟩
  . exact .inr w
 refine⟨R.g,by rw [Q9];exact R.len,λj d e=>?_,λj ds e=>?_,λj l ds es c e1 e2=>?_,λj ds e=>?_,λj l ds es c e1 e2=>?_,R.tb⟩
 . rcases no e with ⟨_,y⟩|y
   . cases y
   . exact R.fz j d y
 . rcases no e with ⟨_,y⟩|y
   . cases y
   . obtain⟨_,w⟩:=bX z y;cases w
 . rcases no e1 with ⟨_,y⟩|y
   . cases y
   . obtain⟨_,w⟩:=bX z y;cases w
 . rcases no e with ⟨rfl,y⟩|y
   . cases y;exact⟨a,o,hs,ha,fa,h0,hd⟩
   . obtain⟨_,w⟩:=bX z y;cases w
 . rcases no e1 with ⟨rfl,_⟩|y
   . rcases no e2 with ⟨rfl,_⟩|y
     . exact λ_ _=>rfl
     . obtain⟨_,w⟩:=bX z y;cases w
   . obtain⟨_,w⟩:=bX z y;cases w
structure PI (K:Fg) (H0 F0 F:Hp) (σ:St) (H:Hp) (δ:aS) (i N:Nat) (kls:Cl):Prop where
 R:Rep K H0 F0 F σ H δ
 z:fG δ=true
 ln:δ.length=N
 ex:∃a es,σ[i]? =some (some (.ref a))/\H a=some (.dT (yY es))/\F a=none/\H0 a=none/\Ent K H0 F H es kls/\(a::vX es).Nodup
theorem PI.grow {N:Nat}{kls:Cl}(P:PI K H0 F0 F σ H δ i N kls)(g:Grow F H F' H'):PI K H0 F0 F' σ H' δ i N kls:=by
 obtain⟨a,es,h1,h2,h3,h4,h5,h6⟩:=P.ex;exact⟨P.R.grow g,P.z,P.ln,a,es,h1,g.h _ _ h2,g.o _ _ h2 (λ_ z=>nomatch z) h3,h4,h5.grow g,h6⟩
theorem PI.set {i j N:Nat}{kls:Cl}{v:V}{d:PyData}(P:PI K H0 F0 F σ H δ i N kls)(n:j≠i)(h:Is K F v d):PI K H0 F0 F (σ.set j (some v)) H (δ.set j (some (.fz d))) i N kls:=by
 obtain⟨a,es,h1,r⟩:=P.ex;exact⟨P.R.set h,sZ P.z j d,by rw [Q9];exact P.ln,a,es,by rw [KU n];exact h1,r⟩
end
section
variable {K:Fg}
end
end DL
namespace L2
open PySem PySem.Spec PyProof.Rows PySem.W
end L2
namespace DL
open PySem L2
section
variable {K:Fg}
theorem Nc {F:Hp}{v:V}{kvs:List (PyData×PyData)}{ks:List `f}(e:gU kvs=some ks)(h:Is K F v (.dict kvs)):∃p m,v=.ref p/\F p=some (.dT m)/\Kvs K F m kvs:=by
 obtain⟨p,rfl,hh⟩:=h
 rcases hh with ⟨ms,rfl,_⟩|⟨m,z,kv⟩|⟨nm,rfl,_⟩|⟨m,z,kv⟩
 . cases e
 . exact⟨p,m,rfl,z,kv⟩
 . cases e
 . cases kvs with
   |nil=>exact kv.elim
   |cons q r=>rw [kv.1]at e;cases e
noncomputable def PF:PyData->Option `g
 | .dict kvs=>(gU kvs).map λks=>ks.map aH
 |_=>none
def CN(d k:PyData):Option PyData:=match d with
 | .dict kvs=>(gU kvs).bind λ_=>(sU kvs k).bind λr=>r
 |_=>none
theorem Gn {td ty:TE}{fd fk:aS->Option PyData}(a:SE K td fd)(b:SE K ty fk):SE K (Ki td ty) (d2 CN fd fk):=by
 intro H0 F0 F σ H δ d Q R e h;obtain⟨x,e1,e⟩:=bind_some e;obtain⟨y,e2,e⟩:=bind_some e;unfold CN at e;split at e
 . rename_i kvs;obtain⟨ks,e3,e⟩:=bind_some e;obtain⟨r,e4,e⟩:=bind_some e;subst e;refine a H0 F0 F σ H δ _ _ R e1 λv H1 F1 g1 i1=>?_;obtain⟨p,m,rfl,hm,kv⟩:=Nc e3 i1;refine b H0 F0 F1 σ H1 δ _ _ (R.grow g1) e2 λv2 H2 F2 g2 i2=>?_;obtain⟨ov,g,v3,rfl,iv⟩:=CA g2.s (g2.h _ _ (g1.s _ _ hm)) (DcO.same g2.f (.inl ⟨m,rfl,kv⟩)) i2 e4;exact⟨p,v3,rfl,g,h v3 H2 F2 (g1.trans g2) iv⟩
 . cases e
end
end DL
namespace L2
open PySem PySem.Spec PyProof.Rows PySem.W
section
variable {prog:Program} {w:World} {A:Around} {E:`d} {s:Shared} {a b:Addr} {es:Array DictEntry} {ep ep2:Nat}
end
end L2
namespace DL
open PySem L2
section
variable {K:Fg}
end
theorem PH {P:List Value->Prop}(h:∀a,P [a]):∀us:List Value,us.length=1->P us:=λus e=>by
 rcases us with _|⟨a,_|⟨b,r⟩⟩
 . cases e
 . exact h a
 . exact absurd e (by simp)
theorem Mx {P:List Value->Prop}(h:∀a b,P [a,b]):∀us:List Value,us.length=2->P us:=λus e=>by
 rcases us with _|⟨a,r⟩
 . cases e
 . exact PH (P:=λr=>P (a::r)) (h a) r (Nat.succ.inj e)
theorem MH {P:List Value->Prop}(h:∀a b c,P [a,b,c]):∀us:List Value,us.length=3->P us:=λus e=>by
 rcases us with _|⟨a,r⟩
 . cases e
 . exact Mx (P:=λr=>P (a::r)) (h a) r (Nat.succ.inj e)
variable {P:List Value->Prop}
theorem PJ(h:∀a b c d,P [a,b,c,d]):∀us:List Value,us.length=4->P us:=λus e=>by
 rcases us with _|⟨a,r⟩
 . cases e
 . exact MH (P:=λr=>P (a::r)) (h a) r (Nat.succ.inj e)
end DL
namespace L2
open PySem
theorem a7 {X:Cx}{pos:Pos}{i:Nat}{x:Str}{e:Expr}{te:TE}{pos':Pos}(hN:X.N.Nodup)(he:PE X e te)(hi:X.N[i]? =some x:=by rfl)(hx:KZ X.env.scope x:=by first|exact Or.inl rfl|exact Or.inr rfl)(hs:swapsWith e (some (.Name x pos')) pos.line X.env=pure false:=by rfl)
 (hf:X.fn x=true\/X.env.scope.names.lookup x=some .local:=by first|exact .inl rfl|exact .inr rfl|assumption):PS X (.Assign [.Name x pos'] e pos) (iW te (cV i)):=E2 hN hi hx he hs hf
theorem il {N P:List Str}{sc:Scope}(a:sc.kind=.function:=by rfl)(b:sc.isCoroutine=false:=by rfl)(c:sc.isGenerator=false:=by rfl)(d:N.Nodup:=by decide+kernel)(e:N.take P.length=P:=by rfl)
 (f:∀x∈P,sc.names.lookup x=some .local\/sc.names.lookup x=some .cell:=by decide+kernel) (g:∀y∈sc.names,y.2≠ .free:=by decide+kernel):FnScope N P sc:=⟨a,b,c,d,e,f,g⟩
end L2
namespace L2
open PySem PySem.Spec PyProof.Rows PySem.W
section
variable {X:Cx}
end
end L2
namespace DL
open PySem PySem.Spec PyProof.Rows L2
section
variable {K:Fg}
theorem pb:∀(l:List Str) (acc:Str),(l.foldl (· ++ ·) acc).length=acc.length+(l.map (·.length)).sum:=by
 intro l
 induction l with
 |nil=>intro acc;rfl
 |cons z r ih=>
  intro acc;rw [List.foldl_cons,ih,zI,List.sum_cons,show (acc++z).length=acc.length+z.length from strLen_append acc z]
  lia
end
end DL
namespace L2
open PySem PySem.Spec PyProof.Rows PySem.W
section
variable {prog:Program} {w:World} {A:Around} {E:`d} {hp:Heap} {gs:Array GenState} {dr:Drawn} {tk:Nat} {ost:OsState}
variable {n1 n2:Str} {C NS:Addr} {b1 b2 b3:List Value} {f1:Bool} {ss:List Str} {vs:List Value} {f2:Bool} {f3:Option Bool} {od:Option Addr} {z0 z1 z2 z3 z5:Option Value} {B nid iid:String}
end
theorem OwnTail.kept {h h':Heap}{bl tl:List Value}(T:OwnTail h bl tl)(k:∀b o,h.get? b=some o->h'.get? b=some o):OwnTail h' bl tl:=T.keeps k
def XE(e C:Addr)(d:Option Addr):HO:=.ext λh=>∃(ob:Obj) (us:Array Value),h.get? e=some ob/\ob.cls=.ref C/\ob.dict=d/\ob.data=.fields us/\us[1]? =some .none/\0 < us.size
theorem Inv.xe {X:Cx}{pins:`k}{σ:St}{H:Hp}{s:Shared}{e C:Addr}{d:Option Addr}(I:`h)(h:H e=some (XE e C d)):∃(ob:Obj) (us:Array Value),s.heap.get? e=some ob/\ob.cls=.ref C/\ob.dict=d/\ob.data=.fields us/\us[1]? =some .none/\0 < us.size:=(I.hok e _ h).1
section
variable {X:Cx}
end
section
variable {X:Cx} {pins:`k} {σ:St} {H:Hp} {s:Shared}
end
section
variable {P:Program} {w:World} {K:Frag} {mg:`j} {base:Heap} {N:List Str} {qual:Str} {scope:Scope} {f:Addr} {cd:Value} {A:Around} {outer:List Env} {s₀:Shared} {H₀:Hp} {E:XK}
end
end L2
namespace DL
open PySem L2 PyProof.Rows
section
variable {K:Fg} {E:XK} {C:Addr}
end
end DL
namespace L2
open PySem PySem.Spec PyProof.Rows PySem.W
section
variable {M:Model} {A:Around} {E:`d} {s:Shared}
end
section
variable {X:Cx} {pins:`k} {σ:St} {H:Hp} {s:Shared}
end
section
variable {prog:Program} {w:World} {A:Around} {R:Result->Shared->Prop} {s:Shared}
end
section
variable {X:Cx}
section
variable {N:List Str} {sc:Scope} {C:Addr} {fp:List Addr} {s0:Shared} {H0:Hp} {E:XK} {pins:`k} {σ:St} {H:Hp} {s:Shared}
end
end
end L2
namespace DL
open PySem L2 PyProof.Rows
section
variable {K:Fg} {E:XK} {C:XI}
end
end DL
namespace L2
open PySem PySem.Spec PyProof.Rows PySem.W
section
variable {X:Cx} {pins:`k} {σ:St} {H:Hp} {s:Shared}
end
end L2
namespace DL
open PySem L2 PyProof.Rows
section
variable {K:Fg} {E:XK} {C:Addr}
end
end DL
namespace L2
open PySem PySem.Spec PyProof.Rows PySem.W
section
variable {prog:Program} {w:World} {A:Around} {E:`d} {hp:Heap} {gs:Array GenState} {dr:Drawn} {tk:Nat} {ost:OsState}
variable {n1 n2:Str} {C NS:Addr} {b1 b2 b3:List Value} {f1:Bool} {ss:List Str} {vs:List Value} {f2:Bool} {f3:Option Bool} {od:Option Addr} {z0 z1 z2 z3 z5:Option Value} {B nid iid:String}
end
section
variable {X:Cx} {pins:`k} {σ:St} {H:Hp} {s:Shared}
end
end L2
namespace DL
open PySem L2 PyProof.Rows
section
variable {K:Fg} {E:XK} {C:XI}
end
section
variable {K:Fg} {E:XK} {C:Addr}
end
end DL
namespace L2
open PySem
section
variable {prog:Program} {w:World} {K:Type} [DecidableEq K] (hk:HeapKind prog w K)
inductive RefsAre (h:Heap):List K->List Value->Prop
 |nil:RefsAre h [] []
 |cons {k:K} {b:Addr} {ks:List K} {vs:List Value}:hk.is h k b->RefsAre h ks vs->RefsAre h (k::ks) (.ref b::vs)
def IsTupH(h:Heap)(ks:List K)(a:Addr):Prop:=∃o items n,h.get? a=some o/\o.cls=.type "tuple"/\o.data=.seq items n/\RefsAre hk h ks items.toList
variable {hk}
theorem RefsAre.inj {h:Heap}{x:List K}{vs:List Value}(hx:RefsAre hk h x vs):∀{y:List K},RefsAre hk h y vs->x=y:=by
 induction hx with
 |nil=>intro y hy;cases hy;rfl
 |cons h1 _ ih=>
  intro y hy;cases hy with
  |cons h2 t2=>rw [hk.inj h1 h2,ih t2]
theorem RefsAre.keeps {h h':Heap}{d:Addr}{o:Obj}{es ep}{x:List K}{vs:List Value}(hx:RefsAre hk h x vs)(ho:h.get? d=some o)(hd:o.data=.dict es ep)(hs:Heap.SameBut d h h'):RefsAre hk h' x vs:=by
 induction hx with
 |nil=>exact .nil
 |cons h1 _ ih=>exact .cons (hk.keeps h1 ho hd hs) ih
variable {a:Addr}{ks:List K}
theorem IsTupH.typeIs {s:Shared}(x:IsTupH hk s.heap ks a):s.TypeIs (.ref a) "tuple":=let ⟨o,_,_,ho,hc,_⟩:=x;⟨o,ho,hc⟩
theorem IsTupH.inj {h:Heap}{a:Addr}{x y:List K}(hx:IsTupH hk h x a)(hy:IsTupH hk h y a):x=y:=by
 obtain⟨o,items,n,ho,_,hd,hi⟩:=hx;obtain⟨o',items',n',ho',_,hd',hi'⟩:=hy;rw [ho]at ho';cases ho';rw [hd]at hd';cases hd';exact hi.inj hi'
theorem IsTupH.keeps {h h':Heap}{d:Addr}{o:Obj}{es ep}(x:IsTupH hk h ks a)(ho:h.get? d=some o)(hd:o.data=.dict es ep)(hs:Heap.SameBut d h h'):IsTupH hk h' ks a:=by
 obtain⟨o',items,n,ho',hc,hd',hi⟩:=x;have hne:a≠d:=λe=>by
  subst e;rw [ho]at ho';cases ho';rw [hd]at hd';cases hd'
 exact⟨o',items,n,(hs.2 a hne).trans ho',hc,hd',hi.keeps ho hd hs⟩
noncomputable def bw(hk:HeapKind prog w K)(ks:List K):Int:=reduceHash (Builtin.Tuple.tupleHashOf (ks.map hk.hash))
noncomputable def cF(hk:HeapKind prog w K)(ks:List K):Nat:=(ks.map hk.draws).sum+1
variable {A:Around} {E:`d} {s:Shared}
theorem vZ {Q:Int->Shared->Prop}(hr:hk.room A.in1)(hu:A.units < cLine)(hkk:IsTupH hk s.heap ks a)(h:Q (bw hk ks) {s with toks:=s.toks+cF hk ks}):
 wpAny `m A (pyHash (.ref a)) Q E s:=by
 have hT:=hkk.typeIs;obtain⟨o,items,n,ho,_,hd,hi⟩:=hkk;unfold pyHash
 first|unfold pyHashByItsType|skip
 first|refine wB (wpAny_cRoomFor_or (.inr hu) ?_)|skip
 refine wB (wpAny_specialOf hT F.slot_tuple_hash.lookup ?_);show wpAny _ _ (if(some (Value.builtin "tuple.__hash__")==some Value.none)=true then _ else _) Q E s;rw [if_neg (by rw [beq_builtin_none];exact Q4)]
 refine wB (wpAny_specialOf hT F.slot_tuple_hash.lookup ?_);show wpAny _ _ (callSpecialIfBoundUnlessNone? (.ref a) "__hash__" _ >>=_) Q E s;refine wB (wpAny_callSpecialIfBoundUnlessNone?_slot hT F.slot_tuple_hash (wpAny_call_entry F.slot_tuple_hash hT F.entry_tuple_hash ?_ (F.args_tuple_hash_1 _)));show wpAny _ _ (Builtin.Tuple.tupleItemsOf (.ref a) >>=_) _ _ s;refine wB (wpAny_tupleItemsOf ho hd ?_);refine wB ?_;rw [<-Array.forIn_toList];refine wpAny_forIn_list _
  (λcI (b:Array Int) s'=>∃done left,ks=done++left/\RefsAre hk s.heap left cI/\b.toList=done.map hk.hash/\s'={s with toks:=s.toks+(done.map hk.draws).sum})
  _ ?_ ?_ _ _ ⟨[],ks,rfl,hi,rfl,rfl⟩
 . rintro x cI b s' ⟨done,left,rfl,hl,hb,rfl⟩;cases hl with
   | @cons k _ ks' _ h1 hl'=>
    refine wB (hk.pyHash hr h1 ?_);have fin:∃done' left',done++k::ks'=done'++left'/\RefsAre hk s.heap left' cI/\(b.push (hk.hash k)).toList=done'.map hk.hash/\
     ({s with toks:=s.toks+(done.map hk.draws).sum+hk.draws k}:Shared)={s with toks:=s.toks+(done'.map hk.draws).sum}:=
     ⟨done++[k],ks',by simp,hl',by simp [hb],by simp [Nat.add_assoc]⟩
    first
     |exact wP fin
     |exact wB (wP (wP fin))
 . rintro b s' ⟨done,left,rfl,hl,hb,rfl⟩;cases hl;rw [Q8]at h;show wpAny _ _ (retInt (Builtin.Tuple.tupleHashOf b.toList)) _ _ _;rw [hb];refine wpAny_ret_mkInt ?_;show wpAny _ _ (if(decide (-(2:Int) ^ 63<=Builtin.Tuple.tupleHashOf (done.map hk.hash))&&decide (Builtin.Tuple.tupleHashOf (done.map hk.hash) < 2 ^ 63))=true then _ else _) Q E _;unfold bw reduceHash cF at h
   by_cases hr:(decide (-(2:Int) ^ 63<=Builtin.Tuple.tupleHashOf (done.map hk.hash))&&decide (Builtin.Tuple.tupleHashOf (done.map hk.hash) < 2 ^ 63))=true
   . rw [if_pos hr];rw [if_pos hr]at h;exact wP (by simpa [Nat.add_assoc]using h)
   . rw [if_neg hr];rw [if_neg hr]at h;exact wB (wpAny_rule (wP (by simpa [Nat.add_assoc]using h)))
theorem Go {x y:List K}{b:Addr}{P:PySem.Fin->Shared->Prop}(hr:hk.room A)(hx:IsTupH hk s.heap x a)(hy:IsTupH hk s.heap y b)(h:P (.done (.ret (.bool (decide (x=y))))) s):
 wpAny `m A (Builtin.«tuple.__eq__» ⟨[.ref a,.ref b],[]⟩) P E s:=by
 have hTb:=hy.typeIs;obtain⟨oa,xs,na,hoa,_,hda,hia⟩:=hx;obtain⟨ob,ys,nb,hob,_,hdb,hib⟩:=hy;show wpAny _ _ (isInstance (.ref b) (.type "tuple") >>=_) _ _ s;refine wB (wpAny_isInstance hTb isSubtype_tuple_tuple ?_);simp only [rR,zN,if_false];refine wB (wpAny_tupleItemsOf hoa hda ?_);refine wB (wpAny_tupleItemsOf hob hdb ?_);refine wB ?_;refine wpAny_forIn_list _
  (λcI r s'=>r.1=none/\s'=s/\∃x' y' xs' ys',cI=List.zip xs' ys'/\RefsAre hk s.heap x' xs'/\RefsAre hk s.heap y' ys'/\decide (x'=y')=decide (x=y)/\(xs'.length==ys'.length)=(xs.size==ys.size))
  _ ?_ ?_ _ _ ⟨rfl,rfl,x,y,xs.toList,ys.toList,rfl,hia,hib,rfl,by simp⟩
 . rintro⟨u,v⟩ cI r s' ⟨hrr,rfl,x',y',xs',ys',hz,hx',hy',hdec,hlen⟩;cases hx' with
   |nil=>simp at hz
   | @cons k1 u' x'' xs'' h1 hx''=>
    cases hy' with
    |nil=>simp at hz
    | @cons k2 v' y'' ys'' h2 hy''=>
     simp only [List.zip_cons_cons,List.cons.injEq,Prod.mk.injEq]at hz;obtain⟨⟨rfl,rfl⟩,rfl⟩:=hz;refine wB (hk.eqBool hr (x:=k1) (y:=k2) h1 h2 ?_)
     by_cases hkk:k1=k2
     . subst hkk;rw [decide_eq_true rfl];simp only [rR,zN,if_false];refine wP ⟨rfl,rfl,x'',y'',xs'',ys'',rfl,hx'',hy'',?_,by simpa using hlen⟩
       rw [<-hdec]
       by_cases hxy:x''=y''
       . simp [hxy]
       . simp [hxy]
     . rw [decide_eq_false hkk];simp only [Bool.not_false,if_true];have hf:decide (x=y)=false:=by rw [<-hdec];simp [hkk]
       rw [hf]at h;exact wB (wP (wP (wP h)))
 . rintro⟨r1,r2⟩ s' ⟨hrr,rfl,x',y',xs',ys',hz,hx',hy',hdec,hlen⟩;simp only at hrr;subst hrr;refine wP ?_;have hfin:(xs.size==ys.size)=decide (x=y):=by
    rw [<-hdec, <-hlen];cases hx' with
    |nil=>
     cases hy' with
     |nil=>simp
     |cons _ _=>simp
    |cons _ _=>
     cases hy' with
     |nil=>simp
     |cons _ _=>simp at hz
   show P (.done (.ret (.bool (xs.size==ys.size)))) s';rw [hfin];exact h
theorem CO {x y:List K}{b:Addr}{Q:Bool->Shared->Prop}(hr:hk.room A.in1)(hu:A.units < cLine)(hx:IsTupH hk s.heap x a)(hy:IsTupH hk s.heap y b)(h:Q (decide (x=y)) s):
 wpAny `m A (eqBool (.ref a) (.ref b)) Q E s:=by
 unfold eqBool
 try with_reducible refine wpAny_holding ?_
 show wpAny _ _ (if(Value.ref a==Value.ref b)=true then _ else _) Q E s
 by_cases hab:(Value.ref a==Value.ref b)=true
 . rw [if_pos hab];have e:a=b:=by have:=eq_of_beq hab;injection this
   subst e;obtain rfl:=hx.inj hy;exact wB (wpAny_rule (wP (by simpa using h)))
 . rw [if_neg hab];refine wB (wpAny_richCompare_same_room (op:=.Eq) hx.typeIs hy.typeIs F.slot_tuple_eq (wpAny_call_entry F.slot_tuple_eq hx.typeIs F.entry_tuple_eq ?_ (F.args_tuple_eq_2 _ _)) hu);exact Go hr hx hy ⟨_,rfl,(λe=>nomatch e),wpAny_truthy_bool h⟩
end
section
variable {prog:Program} {w:World} {K:Type} [DecidableEq K] {knd:KeyKind prog w K} {A:Around} {E:`d} {s:Shared}
variable {Q:Bool->Shared->Prop}
theorem va {n:Nat}{ks:List K}{a:Addr}(hk:IsTupleKey knd s.heap ks a)(h:Q true s):wpAny `m A (eqIsQuiet (n+1) (.ref a)) Q E s:=by
 have hT:=hk.typeIs;obtain⟨o,items,m,ho,_,hd,hi⟩:=hk;unfold eqIsQuiet;refine wB (wpAny_specialOf hT F.slot_tuple_eq.lookup ?_);show wpAny _ _ (isInstance (.ref a) (.type "tuple") >>=_) _ _ s;refine wB (wpAny_isInstance hT isSubtype_tuple_tuple ?_);simp only [rR,zN,if_false];refine wB (wpAny_seqItems ho hd ?_);refine wB ?_;show wpAny _ _ (forIn items _ _) _ _ s;rw [<-Array.forIn_toList];refine wpAny_forIn_list _ (λcI r s'=>r.1=none/\s'=s/\∀v∈cI,carriedByValue v=true) _ ?_ ?_ _ _ ⟨rfl,rfl,hi.byValue⟩
 . rintro v cI r s' ⟨hr,rfl,hall⟩;rw [eqIsQuiet_byValue _ (hall v gG)];refine wB (wP ?_);simp only [rR,zN,if_false];exact wP ⟨rfl,rfl,λu hu'=>hall u (iJ _ hu')⟩
 . rintro⟨r1,r2⟩ s' ⟨hr,rfl,_⟩;simp only at hr;subst hr;exact wP h
theorem Am {ks:List (List K)}{a:Addr}(hk:IsTupH (tupleKind knd) s.heap ks a)(h:Q true s):wpAny `m A (eqIsQuiet 8 (.ref a)) Q E s:=by
 have hT:=hk.typeIs;obtain⟨o,items,m,ho,_,hd,hi⟩:=hk;unfold eqIsQuiet;refine wB (wpAny_specialOf hT F.slot_tuple_eq.lookup ?_);show wpAny _ _ (isInstance (.ref a) (.type "tuple") >>=_) _ _ s;refine wB (wpAny_isInstance hT isSubtype_tuple_tuple ?_);simp only [rR,zN,if_false];refine wB (wpAny_seqItems ho hd ?_);refine wB ?_;show wpAny _ _ (forIn items _ _) _ _ s;rw [<-Array.forIn_toList];refine wpAny_forIn_list _ (λcI r s'=>r.1=none/\s'=s/\∃left,RefsAre (tupleKind knd) s.heap left cI) _ ?_ ?_ _ _ ⟨rfl,rfl,ks,hi⟩
 . rintro v cI r s' ⟨hr,rfl,left,hl⟩;cases hl with
   | @cons k b ks' _ h1 hl'=>
    refine wB (va (n:=6) (knd:=knd) h1 ?_);simp only [rR,zN,if_false];exact wP ⟨rfl,rfl,ks',hl'⟩
 . rintro⟨r1,r2⟩ s' ⟨hr,rfl,_⟩;simp only at hr;subst hr;exact wP h
def gW {prog:Program}{w:World}{K:Type}[DecidableEq K](knd:KeyKind prog w K):HeapKind prog w (List (List K)) where
 is:=IsTupH (tupleKind knd)
 hash:=bw (tupleKind knd)
 draws:=cF (tupleKind knd)
 room:=λA=>A.units+1 < cLine
 inj:=λhx hy=>hx.inj hy
 keeps:=λx ho hd hs=>x.keeps ho hd hs
 pyHash:=λhu hk h=>vZ (tupleKind_room_in1 hu) (Nat.lt_of_succ_lt hu) hk h
 eqBool:=λhu hx hy h=>CO (tupleKind_room_in1 hu) (Nat.lt_of_succ_lt hu) hx hy h
 quiet:=λhk h=>Am hk h
end
abbrev Ek:=List (List bb)×Addr×Value
def uK(P:Program)(w:World)(a:Addr)(xs:List Ek):HO:=.ext λh=>∃(o:Obj) (es:Array DictEntry) (ep:Nat),h.get? a=some o/\o.ExactDict/\o.data=.dict es ep/\es.toList=xs.map (entryOfKey (gW (am P w)))/\(xs.map (·.1)).Nodup/\xs.length<=sizeLine/\(a==sysModules)=false
def KeyAt(H:Hp)(b:Addr)(k:List (List bb)):Prop:=∃bs:List Addr,H b=some (.tup (bs.map .ref))/\Paired (λ(ks:List bb) (c:Addr)=>H c=some (.tup (ks.map kV))) k bs
def jx(H:Hp)(xs:List Ek):Prop:=∀x∈xs,KeyAt H x.2.1 x.1
section
variable {P:Program} {w:World} {H:Hp} {h:Heap}
theorem oK {b:Addr}{k:List (List bb)}(ok:HOk P w H h)(e:KeyAt H b k):(gW (am P w)).is h k b:=by
 obtain⟨bs,e1,e2⟩:=e;obtain⟨zz,its,r,⟨o,h1,h2,n,h3⟩,zz2⟩:=(show ObjOk P w H h b (.tup (bs.map .ref))from ok b _ e1)
 refine⟨o,its.toArray,n,h1,h2,h3,?_⟩;rw [List.toList_toArray];clear e1 h1 h2 h3 zz zz2
 induction e2 generalizing its with
 |nil=>cases r;exact .nil
 | @cons ks c k' bs' hc _ ih=>
  cases r with
  |cons r1 r2=>
   cases (show _=Value.ref c from r1)
   exact .cons (mj ok hc) (ih _ r2)
variable {xs:List Ek}
theorem MI {a:Addr}{H':Hp}(hk:∀x∈xs,(gW (am P w)).is h x.1 x.2.1)(d:h.DictOfH (gW (am P w)) a xs)(z:xs.length<=sizeLine)(m:(a==sysModules)=false):ObjOk P w H' h a (uK P w a xs):=by
 obtain⟨o,es,ep,h1,h2,h3,h4,_,h5⟩:=d;refine⟨⟨o,es,ep,h1,h2,h3,h4,h5,z,m⟩,⟨o,h1⟩,λg1 g2 p q=>?_⟩;obtain⟨o',es',ep',e1,r⟩:=p;exact⟨o',es',ep',q o' e1,r⟩
theorem An {a:Addr}(ok:HOk P w H h)(e:H a=some (uK P w a xs))(ks:jx H xs):h.DictOfH (gW (am P w)) a xs/\xs.length<=sizeLine/\(a==sysModules)=false:=by
 obtain⟨⟨o,es,ep,h1,h2,h3,h4,h5,z,m⟩,_⟩:=(show ObjOk P w H h a (uK P w a xs)from ok a _ e)
 exact⟨⟨o,es,ep,h1,h2,h3,h4,λx hx=>oK ok (ks x hx),h5⟩,z,m⟩
end
section
variable {X:Cx} {pins:`k} {σ:St} {H:Hp} {s:Shared} {a b:Addr} {xs:List Ek} {k:List (List bb)} {A:Around} {E:`d}
variable {Q:`d}
theorem Nd {p:Addr×Value}(hu:A.units+2 < cLine)(I:`h)(e:H a=some (uK X.prog X.w a xs))(ks:jx H xs)(kb:KeyAt H b k)(hp:atKey xs k=some p)(h:∀s',Inv X pins σ H s'->Q p.2 s'):
 wpAny `i A (getItem (.ref a) (.ref b)) Q E s:=by
 obtain⟨d,z,m⟩:=An I.hok e ks;exact wpAny_getItem_heap (knd:=gW (am X.prog X.w)) (show A.units+1+1 < cLine by lia) (oK I.hok kb) d hp (h _ (I.tok _))
theorem Pf(hu:A.units+2 < cLine)(I:`h)(e:H a=some (uK X.prog X.w a xs))(ks:jx H xs)(kb:KeyAt H b k)(h:∀s',Inv X pins σ H s'->Q (.bool (atKey xs k).isSome) s'):
 wpAny `i A (compareOp .In (.ref b) (.ref a)) Q E s:=by
 obtain⟨d,z,m⟩:=An I.hok e ks;exact wpAny_in_heap (knd:=gW (am X.prog X.w)) (show A.units+1+1 < cLine by lia) (oK I.hok kb) m d (h _ (I.tok _))
theorem Ao(xs:List Ek)(k:List (List bb))(b:Addr)(v:Value):(storedH xs k b v).length<=xs.length+1:=by
 unfold storedH;split
 . rw [zJ];lia
 . rw [zQ];exact Q1 _
theorem Nf {r:Value}{Q:Unit->Shared->Prop}(hu:A.units+2 < cLine)(I:`h)(e:H a=some (uK X.prog X.w a xs))(ks:jx H xs)(kb:KeyAt H b k)(hl:xs.length < sizeLine)(h:∀s',Inv X pins σ (bC H a (uK X.prog X.w a (storedH xs k b r))) s'->Q () s'):
 wpAny `i A (setItem (.ref a) (.ref b) r) Q E s:=by
 obtain⟨d,z,m⟩:=An I.hok e ks;refine wpAny_setItem_heap (knd:=gW (am X.prog X.w)) (show A.units+1+1 < cLine by lia) (oK I.hok kb) d (λh' d' hs=>h _ ?_) z
 have all:=d';obtain⟨q,es,ep,hq,_,_,_,hk,_⟩:=d';exact oF I (by rw [e];exact True.intro) hs ⟨q,hq⟩ (MI hk all (by have:=Ao xs k b r;lia) m)
end
def Kt(P:Program)(w:World):TE:=λ_ H Q=>∀p,H p=none->Q (.ref p) (bC H p (uK P w p []))
def MJ(P:Program)(w:World)(ty td:TE):TE:=λσ H Q=>ty σ H λy H1=>td σ H1 λx H2=>∃a b xs k,x=.ref a/\y=.ref b/\H2 a=some (uK P w a xs)/\jx H2 xs/\KeyAt H2 b k/\Q (.bl (atKey xs k).isSome) H2
def Gp(P:Program)(w:World)(td ty:TE):TE:=λσ H Q=>td σ H λx H1=>ty σ H1 λy H2=>∃a b xs k c d,x=.ref a/\y=.ref b/\H2 a=some (uK P w a xs)/\jx H2 xs/\KeyAt H2 b k/\atKey xs k=some (c,Value.ref d)/\Q (.ref d) H2
def Gq(P:Program)(w:World)(td ty tv:TE):TS:=λD σ H=>tv σ H λv H1=>td σ H1 λx H2=>ty σ H2 λy H3=>∃a b xs k d,x=.ref a/\y=.ref b/\v=.ref d/\H3 a=some (uK P w a xs)/\jx H3 xs/\KeyAt H3 b k/\xs.length < sizeLine/\
 D.nx σ (bC H3 a (uK P w a (storedH xs k b (.ref d))))
section
variable {X:Cx} {o i e value:Expr} {pos pos' tpos:Pos} {td ty tv:TE}
theorem J7:PE X (.Dict [] [] pos) (Kt X.prog X.w):=λpins s σ H Q I h=>by
 refine wpAny_Dict_empty ⟨.ref `a,_,I.laid (a:=`a) (o:=uK X.prog X.w `a []) (t':=s.toks) (λ_ _ q=>df _ q) (Q1 _) ⟨⟨_, #[],0,fU _ rfl,⟨rfl,rfl,rfl⟩,rfl,rfl,List.nodup_nil,zU _,beq_eq_false_iff_ne.mpr (Ne.symm (jG I.big))⟩,⟨_,fU _ rfl⟩,λg1 g2 p q=>?_⟩,rfl,h _ (I.hok.fresh (Q1 _))⟩;obtain⟨o',es',ep',e1,r⟩:=p;exact⟨o',es',ep',q o' e1,r⟩
theorem MK(hu:X.A.units+2 < cLine)(hi:PE X i ty)(ho:PE X o td):PC X .In i o (MJ X.prog X.w ty td):=by
 intro pins s σ H Q I h;refine bq (hi pins s σ H _ I h) λiv s1 q_=>?_;obtain⟨y,H1,I1,ry,q1⟩:=q_;refine bq (ho pins s1 σ H1 _ I1 q1) λu s2 q_=>?_;obtain⟨x,H2,I2,rx,a,b,xs,k,rfl,rfl,e1,e2,e3,q2⟩:=q_;obtain rfl:u=Value.ref a:=rx;obtain rfl:iv=Value.ref b:=ry;exact Pf hu I2 e1 e2 e3 λs3 I3=>⟨.bl _,H2,I3,rfl,q2⟩
theorem J8(hu:X.A.units+2 < cLine)(ho:PE X o td)(hi:PE X i ty)(hs:JK i):PE X (.Subscript o i pos) (Gp X.prog X.w td ty):=by
 intro pins s σ H Q I h;refine wX PySem.F.slot_dict_getitem.lookup hs (bq (ho pins s σ H _ I h) λu s1 q_=>?_);obtain⟨x,H1,I1,rx,q1⟩:=q_;refine bq (hi pins s1 σ H1 _ I1 q1) λiv s2 q_=>?_;obtain⟨y,H2,I2,ry,a,b,xs,k,c,d,rfl,rfl,e1,e2,e3,e4,q2⟩:=q_;obtain rfl:u=Value.ref a:=rx;obtain rfl:iv=Value.ref b:=ry;obtain⟨⟨o1,es,ep,h1,h2,_⟩,_⟩:=(show ObjOk X.prog X.w H2 s2.heap a (uK X.prog X.w a xs)from I2.hok a _ e1)
 exact⟨⟨o1,h1,h2.1⟩,Nd hu I2 e1 e2 e3 e4 λs3 I3=>⟨.ref d,H2,I3,rfl,q2⟩⟩
theorem J9(hu:X.A.units+2 < cLine)(ho:PE X o td)(hi:PE X i ty)(hv:PE X value tv)(hs:swapsWith value (some (.Subscript o i pos')) pos.line X.env=pure false:=by rfl):
 PS X (.Assign [.Subscript o i pos'] value pos) (Gq X.prog X.w td ty tv):=by
 intro pins s σ H D I h;refine wpAny_Assign_Subscript (bq (hv pins s σ H _ I h) λr s1 q_=>?_) hs;obtain⟨v,H1,I1,rv,q1⟩:=q_;refine bq (ho pins s1 σ H1 _ I1 q1) λu s2 q_=>?_;obtain⟨x,H2,I2,rx,q2⟩:=q_;refine bq (hi pins s2 σ H2 _ I2 q2) λiv s3 q_=>?_;obtain⟨y,H3,I3,ry,a,b,xs,k,d,rfl,rfl,rfl,e1,e2,e3,e4,q3⟩:=q_;obtain rfl:u=Value.ref a:=rx;obtain rfl:iv=Value.ref b:=ry;obtain rfl:r=Value.ref d:=rv;exact Nf hu I3 e1 e2 e3 e4 λs4 I4=>⟨σ,_,I4,q3⟩
end
end L2
namespace DL
open PySem L2
noncomputable abbrev Cn:=List (List `f×PyData)
variable {xs:List Ek}
theorem CQ {P:Program}{w:World}{a:Addr}(ys:List V)(h:uK P w a xs=.tup ys):False:=by unfold uK at h;cases h
theorem CS {P:Program}{w:World}{a:Addr}{ys:List V}(h:some (uK P w a xs)=some (.lst ys)):False:=by unfold uK at h;cases h
noncomputable def lM:List PyData->Option (List `f)
 |[]=>some []
 |d::r=>(dU d).bind λk=>(lM r).map (k:: ·)
noncomputable def Ku:PyData->Option (List `f)
 | .tuple ds=>lM ds
 |_=>none
noncomputable def k2(k:List `f):List (List bb):=k.map λr=>r.map Sum.inl
theorem Ap {a b:List `f}(h:k2 a=k2 b):a=b:=by
 unfold k2 at h;exact(List.map_inj_right λx y z=>rO z).mp h
noncomputable def Ng:PyData->Bool
 | .tuple _=>true
 |_=>false
section
variable {K:Fg} {H0 F0 F F':Hp} {σ:St} {H H':Hp} {δ:aS}
variable {k:List `f}{ds:`g}
theorem y6 {c:Addr}{xs:List V}(e:lM ds=some k)(hc:F c=some (.tup xs))(ar:Are K F xs ds):KeyAt F c (k2 k):=by
 have:∃bs:List Addr,xs=bs.map V.ref/\Paired (λ(ks:List bb) (c:Addr)=>F c=some (.tup (ks.map kV))) (k2 k) bs:=by
  clear hc
  induction ds generalizing k xs with
  |nil=>cases e;cases (show xs=[]from ar);exact⟨[],rfl,.nil⟩
  |cons d ds ih=>
   obtain⟨k1,e1,e2⟩:=bind_some (show (dU d).bind (λk=>(lM ds).map (k:: ·))=some k from e)
   obtain⟨kr,e3,rfl⟩:=Q0.mp e2;obtain⟨x,r,rfl,ix,ir⟩:=ar;obtain⟨bs,rfl,pr⟩:=ih e3 ir;unfold dU at e1;split at e1
   rotate_left
   . cases e1
   obtain⟨b,ys,rfl,hb,ay⟩:=ix;rw [cB e1]at ay;rw [Are.ints.mp ay, <-jf]at hb;exact⟨b::bs,rfl,.cons hb pr⟩
 obtain⟨bs,rfl,pr⟩:=this;exact⟨bs,hc,pr⟩
variable {b:Addr}
theorem KeyAt.same {k:List (List bb)}(h:KeyAt F b k)(s:Same F F'):KeyAt F' b k:=by
 obtain⟨bs,e1,e2⟩:=h;refine⟨bs,s _ _ e1,?_⟩;clear e1
 induction e2 with
 |nil=>exact .nil
 |cons h1 _ ih=>exact .cons (s _ _ h1) ih
noncomputable def EntN(K:Fg)(F:Hp):List Ek->Cn->Prop
 |[],[]=>True
 |x::xs,e::es=>(x.1=k2 e.1/\KeyAt F x.2.1 x.1/\∃c,x.2.2=Value.ref c/\Is K F (.ref c) e.2)/\EntN K F xs es
 |_,_=>False
variable {es:Cn}
theorem EntN.same(h:EntN K F xs es)(s:Same F F'):EntN K F' xs es:=by
 induction xs generalizing es with
 |nil=>
  cases es with
  |nil=>exact True.intro
  |cons _ _=>exact h.elim
 |cons x xs ih=>
  cases es with
  |nil=>exact h.elim
  |cons e es=>
   obtain⟨⟨h1,h2,c,h3,h4⟩,r⟩:=h;exact⟨⟨h1,KeyAt.same h2 s,c,h3,h4.same s⟩,ih r⟩
theorem EntN.keys(h:EntN K F xs es)(s:Same F H):jx H xs:=by
 induction xs generalizing es with
 |nil=>exact λx hx=>nomatch hx
 |cons y xs ih=>
  cases es with
  |nil=>exact h.elim
  |cons e es=>
   obtain⟨⟨h1,h2,_⟩,r⟩:=h;intro x hx
   rcases Q3.mp hx with rfl|hx
   . exact KeyAt.same h2 s
   . exact ih r x hx
theorem EntN.len(h:EntN K F xs es):xs.length=es.length:=by
 induction xs generalizing es with
 |nil=>
  cases es with
  |nil=>rfl
  |cons _ _=>exact h.elim
 |cons y xs ih=>
  cases es with
  |nil=>exact h.elim
  |cons e es=>rw [zC,zC,ih h.2]
theorem EntN.snoc {c:Addr}{d:PyData}(h:EntN K F xs es)(hb:KeyAt F b (k2 k))(hc:Is K F (.ref c) d):EntN K F (xs++[(k2 k,b,Value.ref c)]) (es++[(k,d)]):=by
 induction xs generalizing es with
 |nil=>
  cases es with
  |nil=>exact⟨⟨rfl,hb,c,rfl,hc⟩,True.intro⟩
  |cons _ _=>exact h.elim
 |cons y xs ih=>
  cases es with
  |nil=>exact h.elim
  |cons e es=>exact⟨h.1,ih h.2⟩
theorem EntN.none_(h:EntN K F xs es)(e:es.find? (λe=>decide (e.1=k))=none):atKey xs (k2 k)=none:=by
 induction xs generalizing es with
 |nil=>rfl
 |cons y xs ih=>
  cases es with
  |nil=>exact h.elim
  |cons p es=>
   obtain⟨⟨h1,_⟩,r⟩:=h
   by_cases hk:p.1=k
   . rw [C7 (by simpa using hk)]at e;cases e
   . rw [B2 (by simpa using hk)]at e
     unfold atKey;rw [B2 (by rw [h1];simpa using λz=>hk (Ap z))]
     exact ih r e
theorem EntN.some_ {p:List `f×PyData}(h:EntN K F xs es)(e:es.find? (λe=>decide (e.1=k))=some p):∃b c,atKey xs (k2 k)=some (b,Value.ref c)/\Is K F (.ref c) p.2:=by
 induction xs generalizing es with
 |nil=>
  cases es with
  |nil=>cases e
  |cons _ _=>exact h.elim
 |cons y xs ih=>
  cases es with
  |nil=>exact h.elim
  |cons q es=>
   obtain⟨⟨h1,_,c,h3,h4⟩,r⟩:=h
   by_cases hk:q.1=k
   . rw [C7 (by simpa using hk)]at e
     cases e;unfold atKey;rw [C7 (by rw [h1,hk];simp)]
     exact⟨y.2.1,c,by rw [<-h3];rfl,h4⟩
   . rw [B2 (by simpa using hk)]at e
     unfold atKey;rw [B2 (by rw [h1];simpa using λz=>hk (Ap z))]
     exact ih r e
variable {j:Nat}
theorem Rep.putO {vs:List V}(R:Rep K H0 F0 F σ H δ)(z:fG δ=true)(hs:σ[j]? =some (some (.ref b)))(hb:H b=some (.lst vs))(fb:F b=none)(h0:H0 b=none)(ar:Are K F vs ds):Rep K H0 F0 F σ H (δ.set j (some (.ow ds))):=by
 have no:∀{i:Nat} {s:Sl},(δ.set j (some (.ow ds)))[i]? =some (some s)->(i=j/\s=.ow ds)\/δ[i]? =some (some s):=λ{i s} e=>by
  rcases aa e with ⟨y,w⟩|⟨_,w⟩
  . exact .inl ⟨y,zV w⟩
  . exact .inr w
 refine⟨R.g,by rw [Q9];exact R.len,λi d e=>?_,λi ds e=>?_,λi l ds es c e1 e2=>?_,λi ds e=>?_,λi l ds es c e1 e2=>?_,R.tb⟩
 . rcases no e with ⟨_,y⟩|y
   . cases y
   . exact R.fz i d y
 . rcases no e with ⟨rfl,y⟩|y
   . cases y;exact⟨b,vs,hs,hb,fb,h0,ar⟩
   . obtain⟨_,w⟩:=bX z y;cases w
 . rcases no e1 with ⟨rfl,_⟩|y
   . rcases no e2 with ⟨rfl,_⟩|y
     . exact λ_ _=>rfl
     . obtain⟨_,w⟩:=bX z y;cases w
   . obtain⟨_,w⟩:=bX z y;cases w
 . rcases no e with ⟨_,y⟩|y
   . cases y
   . obtain⟨_,w⟩:=bX z y;cases w
 . rcases no e1 with ⟨_,y⟩|y
   . cases y
   . obtain⟨_,w⟩:=bX z y;cases w
theorem Rep.any(R:Rep K H0 F0 F σ H δ)(i:Nat)(v:V):Rep K H0 F0 F (σ.set i (some v)) H (δ.set i none):=by
 have old:∀{j:Nat} {s:Sl},(δ.set i none)[j]? =some (some s)->j≠i/\δ[j]? =some (some s):=λ{j s} e=>by
  rcases aa e with ⟨_,z⟩|⟨n,z⟩
  . cases z
  . exact⟨n,z⟩
 have ps:∀{j:Nat},j≠i->(σ.set i (some v))[j]? =σ[j]? :=λn=>KU (Ne.symm n);refine⟨R.g,by rw [Q9,Q9];exact R.len,λj d e=>?_,λj ds e=>?_,λj l ds es a e1 e2 e3 e4=>?_,λj ds e=>?_,λj l ds es a e1 e2 e3 e4=>?_,R.tb⟩
 . rw [ps (old e).1];exact R.fz j d (old e).2
 . rw [ps (old e).1];exact R.ow j ds (old e).2
 . rw [ps (old e1).1]at e3;rw [ps (old e2).1]at e4;exact R.ap j l ds es a (old e1).2 (old e2).2 e3 e4
 . rw [ps (old e).1];exact R.od j ds (old e).2
 . rw [ps (old e1).1]at e3;rw [ps (old e2).1]at e4;exact R.ad j l ds es a (old e1).2 (old e2).2 e3 e4
noncomputable def y7(fy:aS->Option PyData)(jc jo j:Nat):List PyData->aS->Cn->List PyData->Option aS
 |[],δ,_,ps=>some (δ.set j (some (.ow ps)))
 |d::r,δ,es,ps=>(fy (δ.set jc (some (.fz d)))).bind λo=>(Ku o).bind λk=>if(decide (es.length < fD)&&decide (ps.length < fD)&&Ng d)=true then
  match es.find? λe=>decide (e.1=k)with
  |some e=>y7 fy jc jo j r ((δ.set jc (some (.fz d))).set jo (some (.fz o))) es (ps++[.tuple [e.2,d]])
  |none=>y7 fy jc jo j r ((δ.set jc (some (.fz d))).set jo (some (.fz o))) (es++[(k,d)]) ps
  else none
def wa(fi:aS->Option `g)(jc jo i j:Nat)(fy:aS->Option PyData)(fr:aS->Option DFlow)(δ:aS):Option DFlow:=
 if(fG ((δ.set i none).set j none)&&decide (jc < δ.length)&&decide (jo < δ.length)&&decide (i < δ.length)&&decide (j < δ.length))=true then(fi ((δ.set i none).set j none)).bind λds=>(y7 fy jc jo j ds ((δ.set i none).set j none) [] []).bind fr else none
structure QI (P:Program) (w:World) (K:Fg) (H0 F0 F:Hp) (σ:St) (H:Hp) (δ:aS) (i j N:Nat) (es:Cn) (ps:`g):Prop where
 R:Rep K H0 F0 F σ H δ
 z:fG δ=true
 ln:δ.length=N
 ex:∃a b xs vs,σ[i]? =some (some (.ref a))/\H a=some (uK P w a xs)/\F a=none/\H0 a=none/\EntN K F xs es/\σ[j]? =some (some (.ref b))/\H b=some (.lst vs)/\F b=none/\H0 b=none/\Are K F vs ps
variable {P:Program} {w:World}
variable {ps:`g}
theorem QI.grow {i N:Nat}(I:QI P w K H0 F0 F σ H δ i j N es ps)(g:Grow F H F' H'):QI P w K H0 F0 F' σ H' δ i j N es ps:=by
 obtain⟨a,b,xs,vs,h1,h2,h3,h4,h5,h6,h7,h8,h9,hA⟩:=I.ex;exact⟨I.R.grow g,I.z,I.ln,a,b,xs,vs,h1,g.h _ _ h2,g.o _ _ h2 CQ h3,h4,h5.same g.f,h6,g.h _ _ h7,g.o _ _ h7 (λ_ z=>nomatch z) h8,h9,hA.same g.f⟩
theorem QI.set {i l N:Nat}{v:V}{d:PyData}(I:QI P w K H0 F0 F σ H δ i j N es ps)(n1:l≠i)(n2:l≠j)(h:Is K F v d):QI P w K H0 F0 F (σ.set l (some v)) H (δ.set l (some (.fz d))) i j N es ps:=by
 obtain⟨a,b,xs,vs,h1,h2,h3,h4,h5,h6,r⟩:=I.ex;exact⟨I.R.set h,sZ I.z l d,by rw [Q9];exact I.ln,a,b,xs,vs,by rw [KU n1];exact h1,h2,h3,h4,h5,by rw [KU n2];exact h6,r⟩
theorem D6 {wi:TI}{ty:TE}{tr:TS}{fi:aS->Option `g}{fy:aS->Option PyData}{fr:aS->Option DFlow}(jc jo i j:Nat)(hi:SI K wi fi)(hy:SE K ty fy)(hr:SS K tr fr)
 (n1:jc≠i:=by decide) (n2:jo≠i:=by decide) (n3:jo≠jc:=by decide) (n4:jc≠j:=by decide) (n5:jo≠j:=by decide) (n6:j≠i:=by decide):
 SS K (gM (iW (Kt P w) (cV i)) (gM (iW (uR dJ) (cV j)) (gM (xW wi (cV jc) (gM (iW ty (cV jo)) (uP (xX (MJ P w (bJ jo) (bJ i))) (k7 (IH K "list" iK (bJ j) (bU (Cj (bU (Gp P w (bJ i) (bJ jo)) (bU (bJ jc) dJ))) dJ))) (Gq P w (bJ i) (bJ jo) (bJ jc))))) tr))) (wa fi jc jo i j fy fr):=by
 intro H0 F0 F σ H δ r D R e h;unfold wa at e;split at e
 rotate_left
 . cases e
 rename_i c;simp only [Q5,decide_eq_true_eq]at c;obtain⟨⟨⟨⟨z,lc⟩,lo⟩,li⟩,lj⟩:=c;obtain⟨ds,e1,e2⟩:=bind_some e;obtain⟨δ9,e3,e4⟩:=bind_some e2;clear e e2;intro a ha;refine⟨zU _,λb hb=>?_⟩;have Fa:F a=none:=R.g.s.free ha;have H0a:H0 a=none:=R.g.h.free ha;have g1:Grow F H F (bC H a (uK P w a [])):=⟨Same.refl _,λx o e=>by rw [aM (aQ e Fa)];exact R.g.s x o e,λx o e=>by rw [aM (aQ e ha)];exact e,λ_ _ _ _ q=>q⟩
 have R1:=(R.grow g1).any i (.ref a);have Fb:F b=none:=R1.g.s.free hb;have H0b:H0 b=none:=R1.g.h.free hb;have ab:a≠b:=λy=>by rw [<-y,aR]at hb;cases hb
 have g2:Grow F (bC H a (uK P w a [])) F (bC (bC H a (uK P w a [])) b (.lst [])):=⟨Same.refl _,λx o e=>by rw [aM (aQ e Fb)];exact R1.g.s x o e,λx o e=>by rw [aM (aQ e hb)];exact e,λ_ _ _ _ q=>q⟩
 have R2:=(R1.grow g2).any j (.ref b);have sl:σ.length=δ.length:=R.len;refine hi H0 F0 F _ _ _ ds _ R2 e1 λJ H1 F1 g3 it=>?_;have P0:QI P w K H0 F0 F1 ((σ.set i (some (.ref a))).set j (some (.ref b))) H1 ((δ.set i none).set j none) i j δ.length [] []:=by
  refine⟨R2.grow g3,z,by rw [Q9,Q9],a,b,[],[],?_,g3.h _ _ ?_,?_,H0a,True.intro,?_,g3.h _ _ aR,g3.o _ _ aR (λ_ y=>nomatch y) Fb,H0b,rfl⟩
  . rw [KU n6,LJ `e]
  . rw [aM ab,aR]
  . exact g3.o _ _ (by rw [aM ab,aR]) CQ Fa
  . rw [LJ (by rw [Q9];lia)]
 refine⟨λq m σ H=>m=ds.length - q/\q<=ds.length/\∃F' δ' es ps,QI P w K H0 F0 F' σ H δ' i j δ.length es ps/\Same F1 F'/\y7 fy jc jo j (ds.drop q) δ' es ps=some δ9,⟨ds.length,by simp,zU _,F1,_,[],[],P0,Same.refl _,e3⟩,?_⟩
 rintro q m σ' H' ⟨rfl,hle,F',δ',es,ps,I,s',e'⟩
 by_cases hlt:q < ds.length
 . refine .inr ⟨it.go q F' H' hlt s' I.R.g.s,λσ H=>q+1<=ds.length/\∃F' δ' es ps,QI P w K H0 F0 F' σ H δ' i j δ.length es ps/\Same F1 F'/\y7 fy jc jo j (ds.drop (q+1)) δ' es ps=some δ9,λσ2 H2 y=>⟨ds.length - (q+1),by lia,rfl,y⟩,λx H2 y=>?_⟩
   have hd:ds[q]? =some ds[q]:=dS hlt;obtain⟨F2,g2',is⟩:=it.yld q _ F' H' x H2 hd s' I.R.g.s y;rw [NC hlt]at e';obtain⟨o,w1,e5⟩:=bind_some e';obtain⟨k,w2,e6⟩:=bind_some e5;clear e' e5;split at e6
   rotate_left
   . cases e6
   rename_i lims;simp only [Q5,decide_eq_true_eq]at lims;obtain⟨⟨lim1,lim2⟩,tp⟩:=lims;have I2:=(I.grow g2').set n1 n4 is;refine hy H0 F0 F2 _ H2 _ o _ I2.R w1 λv H3 F3 g4 i3=>?_;have I3:=(I2.grow g4).set n2 n5 i3;have sF3:Same F1 F3:=s'.trans (g2'.f.trans g4.f);have ix:Is K F3 x ds[q]:=is.same g4.f;have sl':σ'.length=δ.length:=I.R.len.trans I.ln;generalize hσ4:(σ'.set jc (some x)).set jo (some v)=σ4 at I3;have hjc:σ4[jc]? =some (some x):=by rw [<-hσ4,KU n3,LJ `e]
   have hjo:σ4[jo]? =some (some v):=by rw [<-hσ4,LJ (by rw [Q9];lia)]
   generalize hδ4:(δ'.set jc (some (.fz ds[q]))).set jo (some (.fz o))=δ4 at I3 e6;show uP (xX (MJ P w (bJ jo) (bJ i))) (k7 (IH K "list" iK (bJ j) (bU (Cj (bU (Gp P w (bJ i) (bJ jo)) (bU (bJ jc) dJ))) dJ))) (Gq P w (bJ i) (bJ jo) (bJ jc)) {D with nx:=_,ct:=_,bk:=_} ((σ'.set jc (some x)).set jo (some v)) H3
   rw [hσ4];unfold Ku at w2;split at w2
   rotate_left
   . cases w2
   rename_i dk;obtain⟨c,xk,rfl,u1,u2⟩:=i3;have kc:KeyAt F3 c (k2 k):=y6 w2 u1 u2;obtain⟨a',b',xs,vs,h1,h2,h3,h4,h5,h6,h7,h8,h9,hA⟩:=I3.ex;have ks:jx H3 xs:=h5.keys I3.R.g.s;have kH:KeyAt H3 c (k2 k):=KeyAt.same kc I3.R.g.s;obtain⟨c',hx⟩:∃c',x=.ref c':=by
    cases hq:ds[q]with
    |tuple _=>
     rw [hq]at ix;obtain⟨c',_,y,_⟩:=ix;exact⟨c',y⟩
    |_=>rw [hq]at tp;cases tp
   subst hx;refine⟨.ref c,hjo,.ref a',h1,a',c,xs,k2 k,rfl,rfl,h2,ks,kH,_,rfl,?_⟩;cases hf:es.find? λe=>decide (e.1=k)with
   |some p=>
    rw [hf]at e6;obtain⟨b1,c1,q1,q2⟩:=h5.some_ hf;rw [q1];refine⟨.ref b',h6,.inl ⟨rfl,vs,SqL.of h7⟩,.ref a',h1,.ref c,hjo,a',c,xs,k2 k,b1,c1,rfl,rfl,h2,ks,kH,q1,.ref c',hjc,(by show 2<=sizeLine;exact eM (by decide)),λt ht=>?_⟩
    have g5:Grow F3 H3 _ _:=Grow.new (o:=.tup [.ref c1,.ref c']) I3.R.g.s ht;have Ft:F3 t=none:=I3.R.g.s.free ht;have I4:=I3.grow g5;have bt:b'≠t:=aQ h7 ht;have at_:a'≠t:=aQ h2 ht;have ba:a'≠b':=λy=>CS ((y▸h2.symm).trans h7);refine⟨b',vs,.ref t,rfl,rfl,by rw [aM bt];exact h7,?_,hlt,_,δ4,es,ps++[.tuple [p.2,ds[q]]],⟨I4.R.upd_ I4.z (by rw [aM bt];exact h8) h9,I4.z,I4.ln,a',b',xs,_,h1,by rw [aM ba,aM at_];exact h2,by rw [aM at_];exact h3,h4,h5.same g5.f,h6,aR,by rw [aM bt];exact h8,h9,?_⟩,sF3.trans g5.f,e6⟩
    . rw [hA.length];exact lF (AF lim2)
    . exact(hA.same g5.f).append (Are.one ⟨t,[.ref c1,.ref c'],rfl,aR,_,_,rfl,q2.same g5.f,_,_,rfl,ix.same g5.f,rfl⟩)
   |none=>
    rw [hf]at e6;rw [h5.none_ hf];refine⟨.ref c',hjc,.ref a',h1,.ref c,hjo,a',c,xs,k2 k,c',rfl,rfl,rfl,h2,ks,kH,?_,hlt,F3,δ4,es++[(k,ds[q])],ps,⟨I3.R.upd_ I3.z h3 h4,I3.z,I3.ln,a',b',_,vs,h1,aR,h3,h4,?_,h6,?_,h8,h9,hA⟩,sF3,e6⟩
    . rw [h5.len];exact lF (AF lim1)
    . rw [storedH_new (h5.none_ hf)];exact h5.snoc kc ix
    . rw [aM (λy=>CS (h2.symm.trans (y▸h7)))];exact h7
 . have e5:q=ds.length:=by lia
   subst e5;rw [List.drop_length]at e';cases e';obtain⟨a',b',xs,vs,h1,h2,h3,h4,h5,h6,h7,h8,h9,hA⟩:=I.ex;refine .inl ⟨it.stop F' H' s' I.R.g.s,?_⟩;exact hr H0 F0 F' σ' H' _ r D (I.R.putO I.z h6 h7 h8 h9 hA) e4 (h.up (g3.f.trans s'))
end
theorem Pg {n:Nat}(h:n+64 < cLine):n+2 < cLine:=IG (Nat.add_le_add_left (by decide) n) h
section
variable {K:Fg} {C:Addr}
end
end DL
namespace L2
open PySem PySem.Spec PyProof.Rows
theorem Gr(a:Value):argsOk "min" ⟨[a],[(Str.ofString "default",.none)]⟩:=by unfold argsOk;kernel_rfl
section
variable {X:Cx} {pins:`k} {σ:St} {S I l:Addr} {xs:List V} {F H0:Hp} {lt:Nat->Nat->Bool} {R:Result->Shared->Prop}
theorem Gs(hcm:X.calm=true)(hFl:F l=some (.lst xs))(hFS:F S=none)(hSI:S≠I)
 (hc:∀(i j:Nat) (x y:V) (u v:Value) (H:Hp) (s:Shared),xs[i]? =some x->xs[j]? =some y->Inv X pins σ H s->Same F H->RelV x u->RelV y v->DQ X.A.in1 s u v (lt i j))
 (hR:∀(v:V) (u:Value) (H':Hp) (s':Shared),xs[j7 lt (xs.length - 1)]? =some v->RelV v u->Inv X pins σ H' s'->Same F H'->(∀b,b≠S->H' b=H0 b)->R (.ok (.ret u)) s'):
 ∀(r j:Nat) (H:Hp) (s:Shared) (vb:V),xs.length - (j+1)=r->j+1<=xs.length->Inv X pins σ H s->Same F H->(∀b,b≠S->H b=H0 b)->H S=some (.lst [vb,vb])->xs[j7 lt j]? =some vb->j8 X pins H I->s.heap.IsListIter I l (j+1)->
  codeAny `i X.A (.builtin "min.loop" ⟨[.ref I,.none,.ref S],[(Str.ofString "default",.none)]⟩) R s:=by
 have hname:(toString "min"++toString ".loop":String)="min.loop":=by decide
 intro r
 induction r with
 |zero=>
  intro j H s vb hr hj J sF hb hS hvb hI hit;have hin:j+1=xs.length:=by lia
  have hl:=sF _ _ hFl;have hlI:l≠I:=λz=>by rw [z,hI.1]at hl;cases hl
  obtain⟨zl,its,n,rl,ll,el⟩:=J.lstM hl;obtain⟨zS,itS,nS,rS,lS,eS⟩:=J.lstM hS;obtain⟨u1,u2,rfl,r1,r2⟩:=rS.two;have W:=Walks.list (prog:=X.prog) (w:=X.w) (A:=X.A.in1) (J.ok.hd hcm) I l hlI its.toArray;have hsz:its.toArray.size=its.length:=zM ..;refine codeAny_builtin PySem.F.entry_min_loop ?_;rw [Around.under_plainId PySem.F.plain_min_loop _];show wpAny _ X.A.in1 (seqItems? (.ref S) >>=_) _ _ _;refine wB (wpAny_seqItems eS rfl ?_);show wpAny _ X.A.in1 (tryCatch (pyNext (.ref I)) _ >>=_) _ _ _;refine wB (wpAny_tryCatch (W.done _ _ _ ⟨by rw [hsz, <-ll, <-hin];exact hit,⟨_,el,rfl,_,rfl⟩⟩ λh' tk' hk'=>?_))
  have J1:Inv X pins σ H {s with heap:=h',toks:=tk'}:=J.turned (it:=I) (λb o hb e=>hk' b o (by simpa using hb) e) hI.1 hI.2.1 hI.2.2.2.1 hI.2.2.2.2.1 hI.2.2.2.2.2
  have eS1:h'.get? S=some {cls:=.type "list",data:=.seq [u1,u2].toArray nS}:=hk' S _ (by simpa using hSI) eS
  show wpAny _ X.A.in1 (updateSeq S (λ_=> #[]) >>=_) _ _ _;refine wB ?_;refine wpAny_updateSeq eS1 rfl (wB (wpAny_letGo (wP ?_)));have J2:=J1.lset (l:=S) (ys:=[]) (its':=[]) (f:=λ_=> #[]) (t':=tk') hS eS1 rfl .nil (zU _);refine hR vb u1 _ _ (by rw [<-hin];exact hvb) r1 J2 (λb o e=>?_) λb n=>by rw [aM n];exact hb b n
  rw [aM (λz=>by rw [z,hFS]at e;cases e)]
  exact sF b o e
 |succ r ih=>
  intro j H s vb hr hj J sF hb hS hvb hI hit;have hlt:j+1 < xs.length:=by lia
  have hl:=sF _ _ hFl;have hlI:l≠I:=λz=>by rw [z,hI.1]at hl;cases hl
  obtain⟨zl,its,n,rl,ll,el⟩:=J.lstM hl;obtain⟨zS,itS,nS,rS,lS,eS⟩:=J.lstM hS;obtain⟨u1,u2,rfl,r1,r2⟩:=rS.two;have W:=Walks.list (prog:=X.prog) (w:=X.w) (A:=X.A.in1) (J.ok.hd hcm) I l hlI its.toArray;have hsz:its.toArray.size=its.length:=zM ..;refine codeAny_builtin PySem.F.entry_min_loop ?_;rw [Around.under_plainId PySem.F.plain_min_loop _];show wpAny _ X.A.in1 (seqItems? (.ref S) >>=_) _ _ _;refine wB (wpAny_seqItems eS rfl ?_);show wpAny _ X.A.in1 (tryCatch (pyNext (.ref I)) _ >>=_) _ _ _;refine wB (wpAny_tryCatch (W.item (j+1) _ _ _ (by rw [hsz, <-ll];exact hlt) ⟨hit,⟨_,el,rfl,_,rfl⟩⟩ λu h' tk' hP hst' hk'=>?_))
  have hv:its[j+1]? =some u:=by simpa using hP
  obtain⟨x,hx,rx⟩:=jg rl hv;have J1:Inv X pins σ H {s with heap:=h',toks:=tk'}:=J.turned (it:=I) (λb o hb e=>hk' b o (by simpa using hb) e) hI.1 hI.2.1 hI.2.2.2.1 hI.2.2.2.2.1 hI.2.2.2.2.2
  have eS1:h'.get? S=some {cls:=.type "list",data:=.seq [u1,u2].toArray nS}:=hk' S _ (by simpa using hSI) eS
  have cm:=hc (j+1) (j7 lt j) x vb u u2 H _ hx hvb J1 sF rx r2;show wpAny _ X.A.in1 (pure u >>=_) _ _ _;refine wB (wP ?_);show wpAny _ X.A.in1 (tryCatch (holding [u,u] (richCompare .Lt u u2 >>=_)) _ >>=_) _ _ _;refine wB (wpAny_tryCatch (wpAny_holding (wB (cm _ _ _ _ ?_))));refine wB (wpAny_holding (wpAny_truthy_bool ?_));refine wB (wpAny_letGo (wP ?_))
  by_cases c:lt (j+1) (j7 lt j)=true
  . rw [c];simp only [if_true];refine wB ?_;refine wpAny_updateSeq eS1 rfl (wB (wpAny_letGo ?_));rw [hname];have J2:=J1.lset (l:=S) (ys:=[x,x]) (its':=[u,u]) (f:=λ_=> #[u,u]) (t':=tk') hS eS1 rfl (.cons rx (.cons rx .nil)) (jI (show 2<=1000 by decide))
    obtain⟨oI,hoI,hoc,hod⟩:=id hst'.1;refine wP ⟨plainId_quiet PySem.F.plain_min_loop _,ih (j+1) _ _ x `e hlt J2 (λb o e=>?_) (λb n=>by rw [aM n];exact hb b n) aR (by rw [j7,if_pos c];exact hx) ⟨by rw [aM hSI.symm];exact hI.1,hI.2⟩ ⟨oI,?_,hoc,hod⟩⟩
    . rw [aM (λz=>by rw [z,hFS]at e;cases e)]
      exact sF b o e
    . exact(xQ h' _ hSI).trans hoI
  . have c':lt (j+1) (j7 lt j)=false:=by simpa using c
    rw [c'];simp only [zN,if_false];refine wB (wpAny_letGo ?_);rw [hname];exact wP ⟨plainId_quiet PySem.F.plain_min_loop _,ih (j+1) H _ vb `e hlt J1 sF hb hS (by rw [j7,if_neg c];exact hvb) hI hst'.1⟩
end
def Kw(K:Fg):List V->Hp->VK->Prop:=λas H Q=>∃(l:Addr) (xs:List V) (F:Hp) (ds:`g),as=[.ref l]/\F l=some (.lst xs)/\Same F H/\DL.Are K F xs ds/\(∀d∈ds,DL.uW d=true)/\
 (∀a∈ds,∀b∈ds,(pI a b).isSome=true)/\(xs=[]->∀H':Hp,Same F H'->Same H H'->Q .non H')/\∀(v:V) (H':Hp),xs[j7 (λi j=>(pI (ds.getD i .none) (ds.getD j .none)).getD false) (xs.length - 1)]? =some v->Same F H'->Same H H'->Q v H'
theorem D7 {X:Cx}{pins:`k}{s:Shared}{σ:St}{H:Hp}{as:List V}{us:List Value}{Q:VK}(hcm:X.calm=true)(hu:X.A.units+64 < cLine)(J:`h)(rv:Vals as us)(h:Kw X.K as H Q):
 wpAny `i X.A (call (.builtin "min") us [(Str.ofString "default",.none)]) (EP X pins σ Q) X.xe s:=by
 obtain⟨l,xs,F,ds,rfl,hFl,sF,ar,hok,hcmp,q0,q⟩:=h;obtain⟨u,rfl,ru⟩:=mG rv;cases (show u=Value.ref l from ru)
 have hname:(toString "min"++toString ".loop":String)="min.loop":=by decide
 have hl:=sF _ _ hFl;obtain⟨zl,its,n,rl,ll,el⟩:=J.lstM hl;have xr:=ar.length;have hc:∀(i j:Nat) (x y:V) (u v:Value) (H:Hp) (s:Shared),xs[i]? =some x->xs[j]? =some y->Inv X pins σ H s->Same F H->RelV x u->RelV y v->DQ X.A.in1 s u v ((pI (ds.getD i .none) (ds.getD j .none)).getD false):=by
  intro i j x y u v H1 s1 hx hy J1 s1F rx ry;obtain⟨dx,ex,ix⟩:=ar.get' hx;obtain⟨dy,ey,iy⟩:=ar.get' hy;have gx:ds.getD i .none=dx:=by rw [gh,ex];rfl
  have gy:ds.getD j .none=dy:=by rw [gh,ey];rfl
  have mx:=ES ex;have my:=ES ey;have cx:=DL.cP (hok dx mx);have cy:=DL.cP (hok dy my);obtain⟨as,ra⟩:=(DL.FP dx cx.1 (ix.same s1F)).reads J1 _ rx;obtain⟨bs,rb⟩:=(DL.FP dy cy.1 (iy.same s1F)).reads J1 _ ry;obtain⟨b,hb⟩:=Ms.mp (hcmp dx mx dy my);rw [gx,gy,hb];exact jv dx dy X.A.in1 s1 u v as bs b ra rb cx.1 cy.1 (by have:=cx.2;show X.A.units+1+_ < cLine;lia) hb
 refine kmk_tree PySem.F.kind_min PySem.F.plain_min PySem.F.entry_min (Gr _) ?_;show wpAny _ X.A.in1 (Builtin.Builtins.bindParams "min" ["key","default"] 0 ⟨[],[(Str.ofString "default",.none)]⟩ >>=_) _ _ s;refine wB (wpAny_of_eq (show Builtin.Builtins.bindParams "min" ["key","default"] 0 ⟨[],[(Str.ofString "default",.none)]⟩=pure [none,some .none]from rfl) ?_)
 refine wB (wP ?_);refine wB (wpAny_pyIter_list ⟨_,el,rfl,_,rfl⟩ ?_);refine wB (wpAny_newList ?_ (zU _));rw [hname];have hlt:l < `a:=dh el;have hS:(s.heap.push `c).objs.size=`a+1:=size_push' ..;have hSI:(s.heap.push `c).objs.size≠`a:=by rw [hS];exact uL (C8 _)
 have hlI:l≠`a:=jG hlt;refine wP ⟨plainId_quiet PySem.F.plain_min_loop _,?_⟩;have J0:Inv X pins σ H {s with heap:=s.heap.push `c}:=J.kept (t':=s.toks) λb o e=>df _ e
 have HS0:H (s.heap.push `c).objs.size=none:=J0.fresh;have FS0:F (s.heap.push `c).objs.size=none:=by
  cases e:F (s.heap.push `c).objs.size with
  |none=>rfl
  |some o=>rw [sF _ _ e]at HS0;cases HS0
 have J1:=J0.lnew (ys:=[]) (its:=[]) (t':=s.toks) .nil (zU _);have gI:((s.heap.push `c).push {cls:=.type "list",data:=.seq #[] 0}).get? `a=some `c:=df _ (fU _ rfl);have gS:((s.heap.push `c).push {cls:=.type "list",data:=.seq #[] 0}).get? (s.heap.push `c).objs.size=some {cls:=.type "list",data:=.seq #[] 0}:=fU _ rfl;have fI:j8 X pins (bC H (s.heap.push `c).objs.size (.lst [])) `a:=J.fpOk (Q1 _) (by rw [aM hSI.symm];exact J.fresh)
 have sF1:Same F (bC H (s.heap.push `c).objs.size (.lst [])):=λb o e=>by
  rw [aM (λz=>by rw [z,FS0]at e;cases e)]
  exact sF b o e
 have el1:((s.heap.push `c).push {cls:=.type "list",data:=.seq #[] 0}).get? l=some {cls:=.type "list",data:=.seq its.toArray n}:=df _ (df _ el);have W:=Walks.list (prog:=X.prog) (w:=X.w) (A:=X.A.in1) (J.ok.hd hcm) `a l hlI its.toArray;have hsz:its.toArray.size=its.length:=zM ..;refine codeAny_builtin PySem.F.entry_min_loop ?_;rw [Around.under_plainId PySem.F.plain_min_loop _];show wpAny _ X.A.in1 (seqItems? (.ref _) >>=_) _ _ _;refine wB (wpAny_seqItems gS rfl ?_);show wpAny _ X.A.in1 (tryCatch (pyNext (.ref `a)) _ >>=_) _ _ _
 by_cases hne:xs=[]
 . have l0:its.length=0:=by rw [<-ll,hne];rfl
   refine wB (wpAny_tryCatch (W.done _ _ _ ⟨⟨_,gI,rfl,by rw [hsz,l0];rfl⟩,⟨_,el1,rfl,_,rfl⟩⟩ λh' tk' hk'=>?_))
   have J2:=J1.turned (h':=h') (t':=tk') (it:=`a) (λb o hb e=>hk' b o (by simpa using hb) e) fI.1 fI.2.1 fI.2.2.2.1 fI.2.2.2.2.1 fI.2.2.2.2.2
   refine wB (wpAny_rule (wP ?_));refine⟨.non,_,J2,rfl,q0 hne _ sF1 λb o e=>?_⟩;rw [aM (λz=>by rw [z,HS0]at e;cases e)]
   exact e
 have pos:0 < xs.length:=by
  cases xs with
  |nil=>exact absurd rfl hne
  |cons _ _=>exact Nat.succ_pos _
 refine wB (wpAny_tryCatch (W.item 0 _ _ _ (by rw [hsz, <-ll];exact pos) ⟨⟨_,gI,rfl,rfl⟩,⟨_,el1,rfl,_,rfl⟩⟩ λu h' tk' hP hst' hk'=>?_))
 have hv:its[0]? =some u:=by simpa using hP
 obtain⟨x,hx,rx⟩:=jg rl hv;have J2:=J1.turned (h':=h') (t':=tk') (it:=`a) (λb o hb e=>hk' b o (by simpa using hb) e) fI.1 fI.2.1 fI.2.2.2.1 fI.2.2.2.2.1 fI.2.2.2.2.2
 have eS1:=hk' _ _ (by simpa using hSI) gS
 show wpAny _ X.A.in1 (pure u >>=_) _ _ _;refine wB (wP ?_);show wpAny _ X.A.in1 (updateSeq (s.heap.push `c).objs.size (λ_=> #[u,u]) >>=_) _ _ _;refine wB ?_;refine wpAny_updateSeq eS1 rfl ?_;rw [hname];have J3:=J2.lset (ys:=[x,x]) (its:=[]) (its':=[u,u]) (f:=λ_=> #[u,u]) (t':=tk') aR eS1 rfl (.cons rx (.cons rx .nil)) (jI (show 2<=1000 by decide))
 obtain⟨oI,hoI,hoc,hod⟩:=id hst'.1;refine wP ⟨plainId_quiet PySem.F.plain_min_loop _,Gs (S:=(s.heap.push `c).objs.size) (I:=`a) (H0:=H) hcm hFl FS0 hSI hc (λv u' H' s' e1 e2 e3 e4 e5=>?_) _ 0 _ _ x rfl pos J3 (λb o e=>?_) (λb nb=>by rw [aM nb,aM nb]) aR hx ⟨by rw [aM hSI.symm];exact fI.1,fI.2⟩ ⟨oI,?_,hoc,hod⟩⟩
 . refine⟨v,H',e3,e2,q v H' e1 e4 λb o e=>?_⟩;rw [e5 b (λz=>by rw [z,HS0]at e;cases e)]
   exact e
 . rw [aM (λz=>by rw [z,FS0]at e;cases e)]
   exact sF1 b o e
 . exact(xQ h' _ hSI).trans hoI
def Kx(K:Fg)(t:TA):TE:=λσ H Q=>t σ H λvs H1=>Kw K vs H1 Q
theorem Ja {X:Cx}{K:Fg}{x:Str}{p pos:Pos}{e:Expr}{t:TA}(hcm:X.calm=true)(hu:X.A.units+64 < cLine)(hg:Gl X x)(hm:X.mg x=none)(hv:bootBuiltins x=some (.builtin "min"))(ha:PA X [e] t)(hn:x≠ "__name__":=by decide)(hdb:(x==("__debug__":Str))=false:=by decide){kw:Keyword}
 (hk:∀s:Shared,∀Q:List Value->Shared->Prop,Q [.none] s->wpAny `i X.A (evalAll ((backToKw pos (keywordEach [kw] X.env)).map (·.2))) Q X.xe s)
 (hkn:(backToKw pos (keywordEach [kw] X.env)).filterMap (·.1)=[Str.ofString "default"]:=by rfl)
 (he:backTo pos (starEach [e] X.env)=(false,eval e X.env)::backTo pos (starEach [] X.env):=by rfl) (hpl:(backTo pos (starEach [e] X.env)).any (·.1)=false:=by rfl)
 (hall:(backToKw pos (keywordEach [kw] X.env)).all (·.1.isSome)=true:=by rfl) (hkw:(backToKw pos (keywordEach [kw] X.env)).any (·.1.isNone)=false:=by rfl) (hK:X.K=K:=by rfl):
 PE X (.Call (.Name x p) [e] [kw] pos) (Kx K t):=by
 subst hK;intro pins s σ H Q I h;refine wpAny_Call_Name_kw (jn I hg hm hv ?_ hn hdb);refine PyProof.Rows.callWith_kw (bq (ha pos pins s σ H _ I h) λus s1 ⟨vs,H1,I1,r1,q1⟩=>hk s1 _ ?_) he hpl hall hkw;rw [hkn];exact D7 hcm hu I1 r1 q1
end L2
namespace DL
open PySem L2
theorem Jb {M:Model}{A:Around}{E:`d}{s:Shared}{env:Env}{pos cp:Pos}{j:Nat}{nm:Str}{kp:Pos}{Q:List Value->Shared->Prop}(h:Q [.none] s):
 wpAny M A (evalAll ((backToKw pos (keywordEach [⟨some nm,.Constant .none j cp,kp⟩] env)).map (·.2))) Q E s:=
 PyProof.Rows.kws_cons (PyProof.Rows.Constant_none (PyProof.Rows.kws_nil h))
section
variable {K:Fg}
noncomputable def Ky:List PyData->Option PyData
 |[.list []]=>some .none
 |ds=>N8 ds
def Kz(fa:aS->Option `g)(δ:aS):Option PyData:=(fa δ).bind Ky
theorem Jc {t:TA}{fa:aS->Option `g}(a:SA K t fa):SE K (Kx K t) (Kz fa):=by
 intro H0 F0 F σ H δ d Q R e h;obtain⟨ds,e1,e2⟩:=bind_some e;refine a H0 F0 F σ H δ ds _ R e1 λvs H1 F1 g1 ar=>?_;unfold Ky at e2;split at e2
 . cases e2;obtain⟨x,r,rfl,⟨b,ys,rfl,h1,h2⟩,hr⟩:=ar;rw [show r=[]from hr]
   have y0:ys=[]:=h2;refine⟨b,ys,F1,[],rfl,h1,g1.s,h2,(λ_ z=>nomatch z),(λ_ z=>nomatch z),λ_ H' s1 s2=>?_,λv H' ev=>?_⟩
   . exact h .non H' F1 (g1.trans ⟨Same.refl _,s1,s2,λ_ _ _ _ n=>n⟩) rfl
   . rw [y0]at ev;cases ev
 . unfold N8 at e2;split at e2
   . rename_i es _;split at e2
     . rename_i c;simp only [Q5,Q2,Bool.not_eq_true',List.isEmpty_eq_false_iff]at c;obtain⟨⟨c1,c2⟩,c3⟩:=c;obtain⟨x,r,rfl,⟨b,ys,rfl,h1,h2⟩,hr⟩:=ar;rw [show r=[]from hr]
       refine⟨b,ys,F1,es,rfl,h1,g1.s,h2,c2,c3,λz=>absurd ?_ c1,λv H' e1 s1 s2=>?_⟩
       . have:=h2.length;rw [z]at this;exact List.length_eq_zero_iff.mp this.symm
       . rw [h2.length]at e1;obtain⟨v',e4,iv⟩:=h2.get e2;rw [e4]at e1;cases e1;exact h _ H' F1 (g1.trans ⟨Same.refl _,s1,s2,λ_ _ _ _ n=>n⟩) iv
     . cases e2
   . cases e2
end
end DL
namespace SB
open PySem PyProof.Rows
noncomputable def K(rk:Keyed->Nat)(xs:Array Keyed)(i:Nat):Nat:=rk (xs.getD i (.none,.none))
structure Bs (κ:SortKind) (a0:Array Keyed) (st:SortSt):Prop where
 perm:(arrOf st).Perm a0
 failed:failedOf st=none
 kind:kindOf st=κ
section
variable {prog:Program} {w:World} {A:Around} {E:`d} {s:Shared} {κ:SortKind} {a0:Array Keyed} {rk:Keyed->Nat}
theorem Bs.size {st:SortSt}(B:Bs κ a0 st):(arrOf st).size=a0.size:=by
 have:=(Mr.mp B.perm).length_eq;simpa using this
def Up(rk:Keyed->Nat)(xs:Array Keyed)(lo n:Nat):Prop:=∀i j,i < j->j < n->K rk xs (lo+i) < K rk xs (lo+j)
def Old(lo:Nat)(xs ys:Array Keyed):Prop:=∀i,i < lo->ys[i]? =xs[i]?
theorem Old.trans {lo:Nat}{xs ys zs:Array Keyed}(a:Old lo xs ys)(b:Old lo ys zs):Old lo xs zs:=λi h=>(b i h).trans (a i h)
end
section
variable {rk:Keyed->Nat}
def Ph(rk:Keyed->Nat)(l:List Keyed):Prop:=l.Pairwise λx y=>rk x < rk y
variable {A B o:List Keyed} {i j k:Nat}
end
structure SG (st st':SortSt):Prop where
 a:arrOf st'=arrOf st
 p:pendingOf st'=pendingOf st
 f:failedOf st'=failedOf st
 k:kindOf st'=kindOf st
theorem SG.trans {a b c:SortSt}(x:SG a b)(y:SG b c):SG a c:=⟨y.a.trans x.a,y.p.trans x.p,y.f.trans x.f,y.k.trans x.k⟩
section
variable {prog:Program} {w:World} {A:Around} {E:`d} {s:Shared} {κ:SortKind} {a0:Array Keyed} {rk:Keyed->Nat}
variable {a b:Array Keyed}
end
section
variable {rk:Keyed->Nat}
structure Mh (rk:Keyed->Nat) (A B r:List Keyed) (i j:Nat):Prop where
 pe:r.Perm (A.drop i++B.drop j)
 up:Ph rk r
 a:∀x∈A.take i,∀y∈r,rk x < rk y
 b:∀x∈B.take j,∀y∈r,rk x < rk y
variable {A B r:List Keyed} {i j t:Nat}
end
section
variable {prog:Program} {w:World} {A:Around} {E:`d} {s:Shared} {κ:SortKind} {a0:Array Keyed} {rk:Keyed->Nat} {a b:Array Keyed}
end
section
variable {prog:Program} {w:World} {A:Around} {E:`d} {s:Shared} {κ:SortKind} {a0:Array Keyed} {rk:Keyed->Nat}
end
section
variable {prog:Program} {w:World} {A:Around} {E:`d} {s:Shared} {κ:SortKind} {a0:Array Keyed} {rk:Keyed->Nat}
def Ends(κ:SortKind)(a0:Array Keyed)(rk:Keyed->Nat)(st:SortSt):Prop:=Bs κ a0 st/\((Up rk (arrOf st) 0 a0.size/\pendingOf st= #[(0,a0.size,0)])\/∃n1 p1,0 < n1/\n1 < a0.size/\Up rk (arrOf st) 0 n1/\Up rk (arrOf st) n1 (a0.size - n1)/\pendingOf st= #[(0,n1,p1),(n1,a0.size - n1,0)])
end
end SB
namespace L2
open PySem PySem.Spec PyProof.Rows PySem.W
section
variable {prog:Program} {w:World} {A:Around} {E:`d} {s:Shared}
end
end L2
namespace DL
open PySem L2
section
variable {K:Fg}
end
end DL
namespace L2
open PySem PySem.Spec PyProof.Rows
section
variable {prog:Program} {w:World} {A:Around} {E:`d} {s:Shared}
variable {vs:List Value}
theorem y8 {l:Addr}{Q:List Value->Shared->Prop}(hl:IsTup s.heap l vs.toArray)
 (h:Q vs {s with heap:=(s.heap.push (seqObj "list" #[] 0)).update `a (Obj.mapSeq (· ++vs.toArray))}) (hsz:vs.length<=sizeLine):
 wpAny `m A (collect (.ref l)) Q E s:=by
 obtain⟨o,ho,hc,n,hd⟩:=id hl;unfold collect;refine wB (wpAny_runValue (codeAny_builtin entry_proto_collect' ?_));show wpAny _ _ (do again (.builtin "list.__iadd__" ⟨[<-newList [],.ref l],[]⟩)) _ _ s
 refine wB (wpAny_newList (wP ⟨Code.quiet_builtin _ (by decide+kernel),codeAny_builtin entry_list_iadd' ?_⟩))
 show wpAny _ _ (Builtin.List.listExtendWith (.ref `a) (.ref l) (.ref `a)) _ _ {s with heap:=s.heap.push (seqObj "list" #[] 0)}
 unfold Builtin.List.listExtendWith;have ho':(s.heap.push (seqObj "list" #[] 0)).get? l=some o:=df _ ho;refine wB (wpAny_typeOf (T:="tuple") ⟨o,ho',hc⟩ ?_);have ht:(Value.type "tuple"==Value.type "tuple")=true:=by rfl
 rw [if_pos (by rw [ht];simp)]
 refine wB (listItems_at ho' hd ?_);refine wB (listItems_at (xs:= #[]) (n:=0) (fU _ rfl) rfl ?_);rw [if_neg (by simp)]
 refine wB (listUpdate_at (xs:= #[]) (n:=0) (fU _ rfl) rfl ?_ (zU _) (by show (#[]++vs.toArray).size<=sizeLine+1;simp only [Array.size_append,zM,zH];lia))
 refine wP ?_;show wpAny `m A (do
  let o<-load `a
  match o.data with
  | .seq xs _=>pure xs.toList
  |_=>unsupported "internal:collect") Q E {s with heap:=(s.heap.push (seqObj "list" #[] 0)).update `a (Obj.mapSeq (· ++vs.toArray))}
 refine wB (wpAny_load (get?_update_seq (fU _ rfl) _) ?_);show wpAny _ _ (pure ((#[]:Array Value)++vs.toArray).toList) Q E _;rw [show ((#[]:Array Value)++vs.toArray).toList=vs by simp]
 exact wP h
theorem Aq {l:Addr}{ns:`f}{Q:`d}(hl:IsTup s.heap l vs.toArray)(hI:IntsAre vs ns)(h64:vs.length < 64)
 (h:∀(out:Array Value) (ns':`f),IntsAre out.toList ns'->ns'.Perm ns->ns'.Pairwise (· <= ·)->Q (.ref (`a+1)) {s with heap:=sortedAll s.heap vs out}):
 wpAny `m A (call (.builtin "sorted") [.ref l]) Q E s:=by
 refine Calls.call_function_entry kind_sorted plain_sorted entry_sorted (args_sorted1 _) ?_;unfold Builtin.«sorted»;refine wB (m:=checkCount "sorted" 1 1 _) (wP ?_);refine wB (y8 hl ?_ (jI `e))
 refine wB (wpAny_newList ?_ (jI `e))
 have hsz:((s.heap.push (seqObj "list" #[] 0)).update `a (Obj.mapSeq (· ++vs.toArray))).objs.size=`a+1:=by
  rw [Heap.size_update,size_push']
 have hoL:(((s.heap.push (seqObj "list" #[] 0)).update `a (Obj.mapSeq (· ++vs.toArray))).push (seqObj "list" vs.toArray 0)).get? (`a+1)=some (seqObj "list" vs.toArray 0):=by
  rw [<-hsz];exact fU _ rfl
 show wpAny _ _ _ _ _ {s with heap:=((s.heap.push (seqObj "list" #[] 0)).update `a (Obj.mapSeq (· ++vs.toArray))).push (seqObj "list" vs.toArray 0)}
 rw [hsz];refine wB (wpAny_holding (wpAny_call_entry slot_list_sort ⟨_,hoL,rfl⟩ entry_list_sort (list_sort_tree hoL hI h64 λout ns' a1 a2 a3=>⟨_,rfl,?_⟩) (args_list_sort _)));exact wP ⟨_,rfl,h out ns' a1 a2 a3⟩
end
def As(K:Fg):List V->Hp->VK->Prop:=λxs H Q=>∃(a:Addr) (ns:`f),xs=[.ref a]/\SqT K H a (ns.map V.int)/\ns.length < 64/\∀(p:Addr) (ms:`f),H p=none->ms.Perm ns->ms.Pairwise (· <= ·)->Q (.ref p) (bC H p (.lst (ms.map V.int)))
theorem At {X:Cx}:dX X (.builtin "sorted") (As X.K):=by
 intro pins s σ H xs us Q I rv h;obtain⟨a,ns,rfl,ha,h64,q⟩:=h;obtain⟨u,rfl,ru⟩:=mG rv;cases (show u=Value.ref a from ru)
 obtain⟨its,r,ht,hz⟩:=I.tuple ha;have hi:IntsAre its ns:=ju r;refine Aq ht hi (by rw [<-r.length,zJ];exact h64) λout ms a1 a2 a3=>?_
 obtain⟨e,he⟩:=sortedAll_at s.heap its out;have hv:Vals (ms.map V.int) out.toList:=oH a1;have hz:(ms.map V.int).length<=sizeLine:=by rw [zJ,a2.length_eq];exact jI `e
 have Hn:H (`a+1)=none:=I.hok.fresh (Nat.le_succ _);exact⟨.ref (`a+1),_,I.laid (t':=s.toks) (a:=`a+1) (o:=.lst (ms.map V.int)) (λb o q=>sortedAll_old q) (Nat.le_succ _) ⟨hz,out.toList,e,hv,by simpa [seqObj]using he⟩,rfl,q _ ms Hn a2 a3⟩
theorem Gu {X:Cx}(K:Fg)(h:X.K=K:=by rfl):dX X (.builtin "sorted") (As K):=h▸At
end L2
namespace DL
open PySem L2
section
variable {K:Fg}
noncomputable def ML(ns:`f):List Int:=ns.mergeSort λa b=>decide (a<=b)
theorem Gv(ns:`f):(ML ns).Perm ns:=List.mergeSort_perm ..
theorem MM(ns:`f):(ML ns).Pairwise (· <= ·):=(List.pairwise_mergeSort (le:=λa b:Int=>decide (a<=b)) (λa b c h1 h2=>by simp only [decide_eq_true_eq]at*;lia) (λa b=>by simp only [Bool.or_eq_true,decide_eq_true_eq];lia) ns).imp λh=>of_decide_eq_true h
theorem LA {ns ms:`f}(p:ms.Perm ns)(s:ms.Pairwise (· <= ·)):ms=ML ns:=
 (p.trans (Gv ns).symm).eq_of_pairwise (le:=λa b=>a<=b) (λa b _ _ h1 h2=>by lia) s (MM ns)
noncomputable def wb:List PyData->Option PyData
 |[.tuple es]=>(ee es).bind λns=>if ns.length < 64 then some (.list ((ML ns).map .int))else none
 |_=>none
theorem Gw:rp K (As K) wb:=λF H xs ds d Q s ar e k=>by
 unfold wb at e;split at e
 . rename_i es;obtain⟨ns,e2,e⟩:=bind_some e;split at e
   . rename_i c;cases e;obtain⟨x,r,rfl,hx,hr⟩:=ar;rw [show r=[]from hr]
     obtain⟨p,xs,rfl,q,ax⟩:=hx;rw [cB e2]at ax;have ex:=Are.ints.mp ax;subst ex;refine⟨p,ns,rfl,?_,c,λt ms ht hp hs=>?_⟩
     . first|exact q.same s|exact q.mono s|exact SqT.of (s _ _ q)
     rw [LA hp hs];have g2:=Grow.new (p:=t) (o:=.lst ((ML ns).map V.int)) s ht;exact k (.ref t) _ _ g2 ⟨t,_,rfl,aR,Are.ints.mpr rfl⟩
   . cases e
 . cases e
end
end DL
namespace L2
open PySem
section
variable {prog:Program} {w:World} {K:Type} [DecidableEq K] {knd:HeapKind prog w K} {A:Around} {E:`d} {s:Shared} {d a:Addr} {xs:List (K×Addr×Value)} {k:K} {v:Value} {o:Obj} {es:Array DictEntry} {ep:Nat}
theorem D8 {Q:`d}(hu:knd.room A)(hkey:knd.is s.heap k a)(ho:s.heap.get? d=some o)(hc:o.ExactDict)(hd:o.data=.dict es ep)(he:es.toList=xs.map (entryOfKey knd))(his:∀x∈xs,knd.is s.heap x.1 x.2.1)(hn:(xs.map (·.1)).Nodup)(hep:ep=xs.length)
 (h1:∀p,atKey xs k=some p->Q p.2 {s with toks:=s.toks+knd.draws k})
 (h2:atKey xs k=none->∀h' o' es',h'.get? d=some o'->o'.ExactDict->o'.data=.dict es' (storedH xs k a v).length->es'.toList=(storedH xs k a v).map (entryOfKey knd)->((storedH xs k a v).map (·.1)).Nodup->Heap.SameBut d s.heap h'->Q v {s with heap:=h',toks:=s.toks+knd.draws k})
 (hz:xs.length<=sizeLine):wpAny `m A (dictSetDefault d (.ref a) v) Q E s:=by
 unfold dictSetDefault
 try with_reducible refine wpAny_holding ?_
 refine wB (knd.pyHash hu hkey (wB (wpAny_dictFind_heap (s:={s with toks:=s.toks+knd.draws k}) hu hkey ho hd he his hn ?_ ?_)))
 . intro hno;have hnot:k ∉ xs.map (·.1):=not_mem_keys_of_get hno
   have hnone:=atKey_none_of_get hno;have st:=storedH_new hnone a v;refine wB (wpAny_rule (wB (wpAny_updateDictKeys (hz:=by have e:=size_of_entries he;lia) (s:={s with toks:=s.toks+knd.draws k}) ho hd (wP ?_))))
   refine h2 hnone _ _ (es.push ⟨knd.hash k,.ref a,v⟩) (ID _ ho (Obj.isFreed_of_dict (Obj.data_mapDictKeys hd _))) (hc.mapDictKeys _) ?_ ?_ ?_ (Heap.SameBut.update ..)
   . rw [st,zQ,Mt, <-hep];exact Obj.data_mapDictKeys hd _
   . rw [st];simp [he,entryOfKey]
   . rw [st,AB,List.nodup_append];refine⟨hn,by simp,λx hx y hy=>?_⟩
     simp only [zI,zL,Q7]at hy;subst hy;exact λe=>hnot (e▸hx)
 . intro j p hj;have hs:=atKey_of_get hn hj;refine wB (wpAny_dictEntries (s:={s with toks:=s.toks+knd.draws k}) ho hd ?_)
   rw [entry_at he j,hj];exact wB (wpAny_rule (wP (h1 p hs)))
theorem jy(knd:HeapKind prog w K)(d a:Addr)(hds:(d==sysModules)=false)(dflt:Value):
 MeetsIn prog w (Builtin.«dict.setdefault» ⟨[.ref d,.ref a,dflt],[]⟩) (λA R s=>knd.room A.in1/\∃k xs o es ep,knd.is s.heap k a/\s.heap.get? d=some o/\o.ExactDict/\o.data=.dict es ep/\es.toList=xs.map (entryOfKey knd)/\(∀x∈xs,knd.is s.heap x.1 x.2.1)/\(xs.map (·.1)).Nodup/\ep=xs.length/\xs.length<=sizeLine/\
  (∀p,atKey xs k=some p->R (.ok (.ret p.2)) {s with toks:=s.toks+knd.draws k})/\
  (atKey xs k=none->∀h' o' es',h'.get? d=some o'->o'.ExactDict->o'.data=.dict es' (storedH xs k a dflt).length->es'.toList=(storedH xs k a dflt).map (entryOfKey knd)->((storedH xs k a dflt).map (·.1)).Nodup->Heap.SameBut d s.heap h'->R (.ok (.ret dflt)) {s with heap:=h',toks:=s.toks+knd.draws k})):=
 .of_wp λA R s hyp=>by
  obtain⟨hu,k,xs,o,es,ep,hkey,ho,hc,hd,he,his,hn,hep,hz,h1,h2⟩:=hyp;have hm:s.heap.DictOfH knd d xs:=⟨o,es,ep,ho,hc,hd,he,his,hn⟩;unfold Builtin.«dict.setdefault»;refine wB ?_;unfold Builtin.Dict.keyAndDefault;refine wB (wpAny_notOrdered_dict hm.typeIs ?_);show wpAny _ _ (pure (d,Value.ref a,some dflt)) _ _ s;refine wP ?_;show wpAny _ _ (if(d==sysModules)=true then _ else(dictSetDefault d (.ref a) dflt >>=_)) _ _ s;rw [if_neg (by rw [hds];exact Q4)]
  exact wB (D8 hu hkey ho hc hd he his hn hep (λp hp=>wP ⟨p.2,rfl,h1 p hp⟩) (λhn' h' o' es' q1 q2 q3 q4 q5 q6=>wP ⟨dflt,rfl,h2 hn' h' o' es' q1 q2 q3 q4 q5 q6⟩) hz)
end
section
variable {X:Cx} {pins:`k} {σ:St} {H:Hp} {s:Shared} {a b:Addr} {d:V} {u r:Value} {A:Around} {E:`d} {kvs:List (List bb×V)} {k:List bb}
theorem Gx {Q:`d}(hu:A.units+1 < cLine)(I:`h)(e:H a=some (.dT kvs))(eb:H b=some (.tup (k.map kV)))(rd:RelV d r)(hl:kvs.length < sizeLine)
 (h1:∀x,gw kvs k=some x->∀w' s',Inv X pins σ H s'->RelV x w'->Q w' s') (h2:gw kvs k=none->∀s',Inv X pins σ (bC H a (.dT (lD kvs k d))) s'->Q r s'):
 wpAny `i A (call (.builtin "dict.setdefault") [.ref a,.ref b,r]) Q E s:=by
 obtain⟨z,hd,xs,rel,o,es,ep,g1,g2,g3,g4,g5,g6⟩:=(show ObjOk X.prog X.w H s.heap a (.dT kvs)from I.hok a _ e)
 have rel:KT H kvs xs:=rel;have hz:xs.length<=sizeLine:=by rw [<-Paired.length rel];exact z
 have rv:=rel.val k;refine call_meetsIn PySem.F.slot_dict_setdefault ⟨o,g1,g2.1⟩ PySem.F.entry_dict_setdefault (PySem.F.args_dict_setdefault_3 _ _ _) (jy (tupleKind (am X.prog X.w)) a b hd r)
  ⟨tupleKind_room_in1 hu,k,xs,o,es,ep,mj I.hok eb,g1,g2,g3,g4,Fw I.hok rel,g5,g6,hz,λp hp=>?_,λhn h' o' es' q1 q2 q3 q4 q5 q6=>?_⟩
 . rw [hp]at rv;cases hv:gw kvs k with
   |none=>rw [hv]at rv;exact False.elim rv
   |some x=>
    rw [hv]at rv;exact h1 x hv _ _ (I.tok _) rv
 . rw [hn]at rv;have hv:gw kvs k=none:=by
    cases hv:gw kvs k with
    |none=>rfl
    |some x=>rw [hv]at rv;exact False.elim rv
   refine h2 hv _ ?_;have hl2:(lD kvs k d).length<=sizeLine:=by have:=lI kvs k d;lia
   refine oF I (by rw [e];exact True.intro) q6 ⟨o',q1⟩ ⟨hl2,hd,_,(rel.put k eb rd).keeps λc ys ec=>?_,o',es',_,q1,q2,q3,q4,q5,rfl⟩
   rw [aM (KY ec e (λz=>nomatch z))];exact ec
end
def Au(td ty tx:TE):TE:=λσ H Q=>td σ H λx H1=>∃a,x=.ref a/\JN H1 a/\ty σ H1 λy H2=>tx σ H2 λz H3=>∃b kvs k,y=.ref b/\H3 a=some (.dT kvs)/\H3 b=some (.tup (List.map kV k))/\kvs.length < sizeLine/\
 (∀v,gw kvs k=some v->Q v H3)/\(gw kvs k=none->Q z (bC H3 a (.dT (lD kvs k z))))
section
variable {X:Cx} {o e f:Expr} {apos cpos:Pos} {td ty tx:TE}
theorem Gy(hu:X.A.units+1 < cLine)(ho:PE X o td)(he:PE X e ty)(hf:PE X f tx)(m:M2 X o "setdefault" apos e f cpos):PE X (.Call (.Attribute o "setdefault" apos) [e,f] [] cpos) (Au td ty tx):=by
 intro pins s σ H Q I h;refine wpAny_Call_method m.base m.few m.line PySem.F.plainAttrs_dict PySem.F.slot_dict_setdefault PySem.F.type_dict_setdefault (bq (ho pins s σ H _ I h) λu s1 q_=>?_);obtain⟨x,H1,I1,rx,a,ex,d,q1⟩:=q_;subst ex;obtain rfl:u=Value.ref a:=rx;obtain⟨t1,t2,_⟩:=GA I1 d;refine⟨t1,t2,?_⟩;rw [m.trees];refine Calls.callWith_builtin rfl (Calls.evalArgs_plain (Calls.spliced_cons (bq (he pins s1 σ H1 _ I1 q1) λiv s2 q_=>?_)));obtain⟨y,H2,I2,ry,q2⟩:=q_;refine Calls.spliced_cons (bq (hf pins s2 σ H2 _ I2 q2) λfv s3 q_=>Calls.spliced_nil ?_);obtain⟨z,H3,I3,rz,b,kvs,k,rfl,e1,e2,e3,q3,q4⟩:=q_;obtain rfl:iv=Value.ref b:=ry;exact Gx hu I3 e1 e2 rz e3 (λv hv w' s' I' r'=>⟨v,H3,I',r',q3 v hv⟩) λhv s' I'=>⟨z,_,I',rz,q4 hv⟩
end
section
variable {prog:Program} {w:World} {K:Type} [DecidableEq K] {knd:KeyKind prog w K} {A:Around} {E:`d} {s:Shared}
variable {Q:Bool->Shared->Prop}{a:Addr}
theorem y9 {n:Nat}{ks:List (List K)}(hk:IsTupH (tupleKind knd) s.heap ks a)(h:Q true s):wpAny `m A (eqIsQuiet (n+2) (.ref a)) Q E s:=by
 have hT:=hk.typeIs;obtain⟨o,items,m,ho,_,hd,hi⟩:=hk;unfold eqIsQuiet;refine wB (wpAny_specialOf hT F.slot_tuple_eq.lookup ?_);show wpAny _ _ (isInstance (.ref a) (.type "tuple") >>=_) _ _ s;refine wB (wpAny_isInstance hT isSubtype_tuple_tuple ?_);simp only [rR,zN,if_false];refine wB (wpAny_seqItems ho hd ?_);refine wB ?_;show wpAny _ _ (forIn items _ _) _ _ s;rw [<-Array.forIn_toList];refine wpAny_forIn_list _ (λcI r s'=>r.1=none/\s'=s/\∃left,RefsAre (tupleKind knd) s.heap left cI) _ ?_ ?_ _ _ ⟨rfl,rfl,ks,hi⟩
 . rintro v cI r s' ⟨hr,rfl,left,hl⟩;cases hl with
   | @cons k b ks' _ h1 hl'=>
    refine wB (va (n:=n) (knd:=knd) h1 ?_);simp only [rR,zN,if_false];exact wP ⟨rfl,rfl,ks',hl'⟩
 . rintro⟨r1,r2⟩ s' ⟨hr,rfl,_⟩;simp only at hr;subst hr;exact wP h
def IsTupM(knd:KeyKind prog w K)(h:Heap)(k:List (List K)×K)(a:Addr):Prop:=∃(o:Obj) (items:Array Value) (n:Nat) (b:Addr) (v:Value),h.get? a=some o/\o.cls=.type "tuple"/\o.data=.seq items n/\items.toList=[.ref b,v]/\IsTupH (tupleKind knd) h k.1 b/\knd.is k.2 v=true
variable {k:List (List K)×K}
theorem IsTupM.typeIs(x:IsTupM knd s.heap k a):s.TypeIs (.ref a) "tuple":=let ⟨o,_,_,_,_,ho,hc,_⟩:=x;⟨o,ho,hc⟩
theorem IsTupM.inj {h:Heap}{a:Addr}{x y:List (List K)×K}(hx:IsTupM knd h x a)(hy:IsTupM knd h y a):x=y:=by
 obtain⟨o,items,n,b,v,ho,_,hd,hi,h1,h2⟩:=hx;obtain⟨o',items',n',b',v',ho',_,hd',hi',h1',h2'⟩:=hy;rw [ho]at ho';cases ho';rw [hd]at hd';cases hd';rw [hi]at hi';cases hi';exact Prod.ext (h1.inj h1') (knd.inj _ _ _ h2 h2')
theorem IsTupM.keeps {h h':Heap}{d:Addr}{o:Obj}{es ep}(x:IsTupM knd h k a)(ho:h.get? d=some o)(hd:o.data=.dict es ep)(hs:Heap.SameBut d h h'):IsTupM knd h' k a:=by
 obtain⟨o',items,n,b,v,ho',hc,hd',hi,h1,h2⟩:=x;have hne:a≠d:=λe=>by
  subst e;rw [ho]at ho';cases ho';rw [hd]at hd';cases hd'
 exact⟨o',items,n,b,v,(hs.2 a hne).trans ho',hc,hd',hi,h1.keeps ho hd hs,h2⟩
def Gz(knd:KeyKind prog w K)(k:List (List K)×K):Int:=reduceHash (Builtin.Tuple.tupleHashOf [bw (tupleKind knd) k.1,knd.hash k.2])
def Av(knd:KeyKind prog w K)(k:List (List K)×K):Nat:=cF (tupleKind knd) k.1+2
theorem D9 {Q:Int->Shared->Prop}(hr:(tupleKind knd).room A.in1.in1)(hu:A.units+1 < cLine)(hkk:IsTupM knd s.heap k a)(h:Q (Gz knd k) {s with toks:=s.toks+Av knd k}):
 wpAny `m A (pyHash (.ref a)) Q E s:=by
 have hT:=hkk.typeIs;obtain⟨o,items,n,b,v,ho,_,hd,hi,h1,h2⟩:=hkk;unfold pyHash
 first|unfold pyHashByItsType|skip
 first|refine wB (wpAny_cRoomFor_or (.inr (Nat.lt_of_succ_lt hu)) ?_)|skip
 refine wB (wpAny_specialOf hT F.slot_tuple_hash.lookup ?_);show wpAny _ _ (if(some (Value.builtin "tuple.__hash__")==some Value.none)=true then _ else _) Q E s;rw [if_neg (by rw [beq_builtin_none];exact Q4)]
 refine wB (wpAny_specialOf hT F.slot_tuple_hash.lookup ?_);show wpAny _ _ (callSpecialIfBoundUnlessNone? (.ref a) "__hash__" _ >>=_) Q E s;refine wB (wpAny_callSpecialIfBoundUnlessNone?_slot hT F.slot_tuple_hash (wpAny_call_entry F.slot_tuple_hash hT F.entry_tuple_hash ?_ (F.args_tuple_hash_1 _)));show wpAny _ _ (Builtin.Tuple.tupleItemsOf (.ref a) >>=_) _ _ s;refine wB (wpAny_tupleItemsOf ho hd ?_);refine wB ?_;rw [<-Array.forIn_toList,hi];refine wpAny_forIn_list _
  (λ cI (z : Array Int) s' => (cI = [.ref b, v] /\ z.toList = [] /\ s' = s) \/ (cI = [v] /\ z.toList = [bw (tupleKind knd) k.1] /\ s' = { s with toks := s.toks + cF (tupleKind knd) k.1 }) \/
   (cI=[]/\z.toList=[bw (tupleKind knd) k.1,knd.hash k.2]/\s'={s with toks:=s.toks+cF (tupleKind knd) k.1+1}))
  _ ?_ ?_ _ _ (.inl ⟨rfl,rfl,rfl⟩)
 . rintro x cI z s' (⟨e1,e2,rfl⟩|⟨e1,e2,rfl⟩|⟨e1,_⟩)
   . cases e1;refine wB (vZ hr hu h1 ?_);have fin:=(Or.inr (Or.inl ⟨rfl,by simp [e2],rfl⟩):(([v]:List Value)=[.ref b,v]/\(z.push (bw (tupleKind knd) k.1)).toList=[]/\({s' with toks:=s'.toks+cF (tupleKind knd) k.1}:Shared)=s')\/(([v]:List Value)=[v]/\(z.push (bw (tupleKind knd) k.1)).toList=[bw (tupleKind knd) k.1]/\({s' with toks:=s'.toks+cF (tupleKind knd) k.1}:Shared)={s' with toks:=s'.toks+cF (tupleKind knd) k.1})\/
      (([v]:List Value)=[]/\(z.push (bw (tupleKind knd) k.1)).toList=[bw (tupleKind knd) k.1,knd.hash k.2]/\({s' with toks:=s'.toks+cF (tupleKind knd) k.1}:Shared)={s' with toks:=s'.toks+cF (tupleKind knd) k.1+1}))
     first
      |exact wP fin
      |exact wB (wP (wP fin))
   . cases e1;refine wB (knd.pyHash h2 ?_);have fin:=(Or.inr (Or.inr ⟨rfl,by simp [e2],rfl⟩):(([]:List Value)=[.ref b,v]/\(z.push (knd.hash k.2)).toList=[]/\({s with toks:=s.toks+cF (tupleKind knd) k.1+1}:Shared)=s)\/(([]:List Value)=[v]/\(z.push (knd.hash k.2)).toList=[bw (tupleKind knd) k.1]/\({s with toks:=s.toks+cF (tupleKind knd) k.1+1}:Shared)={s with toks:=s.toks+cF (tupleKind knd) k.1})\/
      (([]:List Value)=[]/\(z.push (knd.hash k.2)).toList=[bw (tupleKind knd) k.1,knd.hash k.2]/\({s with toks:=s.toks+cF (tupleKind knd) k.1+1}:Shared)={s with toks:=s.toks+cF (tupleKind knd) k.1+1}))
     first
      |exact wP fin
      |exact wB (wP (wP fin))
   . cases e1
 . rintro z s' (⟨e1,_⟩|⟨e1,_⟩|⟨_,e2,rfl⟩)
   . cases e1
   . cases e1
   . show wpAny _ _ (retInt (Builtin.Tuple.tupleHashOf z.toList)) _ _ _;rw [e2];refine wpAny_ret_mkInt ?_;show wpAny _ _ (if(decide (-(2:Int) ^ 63<=Builtin.Tuple.tupleHashOf [bw (tupleKind knd) k.1,knd.hash k.2])&&decide (Builtin.Tuple.tupleHashOf [bw (tupleKind knd) k.1,knd.hash k.2] < 2 ^ 63))=true then _ else _) Q E _;unfold Gz reduceHash Av at h
     by_cases hr:(decide (-(2:Int) ^ 63<=Builtin.Tuple.tupleHashOf [bw (tupleKind knd) k.1,knd.hash k.2])&&decide (Builtin.Tuple.tupleHashOf [bw (tupleKind knd) k.1,knd.hash k.2] < 2 ^ 63))=true
     . rw [if_pos hr];rw [if_pos hr]at h;exact wP (by simpa [Nat.add_assoc]using h)
     . rw [if_neg hr];rw [if_neg hr]at h;exact wB (wpAny_rule (wP (by simpa [Nat.add_assoc]using h)))
variable {x y:List (List K)×K}
theorem HA {b:Addr}{P:PySem.Fin->Shared->Prop}(hr:(tupleKind knd).room A.in1)(hu:A.units < cLine)(hx:IsTupM knd s.heap x a)(hy:IsTupM knd s.heap y b)(h:P (.done (.ret (.bool (decide (x=y))))) s):
 wpAny `m A (Builtin.«tuple.__eq__» ⟨[.ref a,.ref b],[]⟩) P E s:=by
 have hTb:=hy.typeIs;obtain⟨oa,xs,na,c,u,hoa,_,hda,hia,h1,h2⟩:=hx;obtain⟨ob,ys,nb,c',u',hob,_,hdb,hib,h1',h2'⟩:=hy;show wpAny _ _ (isInstance (.ref b) (.type "tuple") >>=_) _ _ s;refine wB (wpAny_isInstance hTb isSubtype_tuple_tuple ?_);simp only [rR,zN,if_false];refine wB (wpAny_tupleItemsOf hoa hda ?_);refine wB (wpAny_tupleItemsOf hob hdb ?_);refine wB ?_;have sz:(xs.size==ys.size)=true:=by
  rw [<-Qe, <-Qe,hia,hib];rfl
 refine wpAny_forIn_list _
  (λcI r s'=>r.1=none/\s'=s/\(cI=[(.ref c,.ref c'),(u,u')]\/(cI=[(u,u')]/\x.1=y.1)\/(cI=[]/\x.1=y.1/\x.2=y.2)))
  _ ?_ ?_ _ _ ⟨rfl,rfl,.inl (by rw [hia,hib];rfl)⟩
 . rintro q cI r s' ⟨hrr,rfl,e|⟨e,e1⟩|⟨e,_⟩⟩
   . cases e;refine wB (CO hr hu h1 h1' ?_)
     by_cases hkk:x.1=y.1
     . rw [decide_eq_true hkk];simp only [rR,zN,if_false];exact wP ⟨rfl,rfl,by simp [hkk]⟩
     . rw [decide_eq_false hkk];simp only [Bool.not_false,if_true];rw [decide_eq_false (λz=>hkk (congrArg Prod.fst z))]at h;exact wB (wP (wP (wP h)))
   . cases e;refine wB (knd.eqBool h2 h2' ?_)
     by_cases hkk:x.2=y.2
     . rw [decide_eq_true hkk];simp only [rR,zN,if_false];exact wP ⟨rfl,rfl,by simp [e1,hkk]⟩
     . rw [decide_eq_false hkk];simp only [Bool.not_false,if_true];rw [decide_eq_false (λz=>hkk (congrArg Prod.snd z))]at h;exact wB (wP (wP (wP h)))
   . cases e
 . rintro⟨r1,r2⟩ s' ⟨hrr,rfl,e|⟨e,_⟩|⟨_,e1,e2⟩⟩
   . cases e
   . cases e
   . simp only at hrr;subst hrr;refine wP ?_;show P (.done (.ret (.bool (xs.size==ys.size)))) s';rw [sz];rw [decide_eq_true (Prod.ext e1 e2)]at h;exact h
theorem Jd {b:Addr}(hr:(tupleKind knd).room A.in1.in1)(hu:A.units+1 < cLine)(hx:IsTupM knd s.heap x a)(hy:IsTupM knd s.heap y b)(h:Q (decide (x=y)) s):
 wpAny `m A (eqBool (.ref a) (.ref b)) Q E s:=by
 unfold eqBool
 try with_reducible refine wpAny_holding ?_
 show wpAny _ _ (if(Value.ref a==Value.ref b)=true then _ else _) Q E s
 by_cases hab:(Value.ref a==Value.ref b)=true
 . rw [if_pos hab];have e:a=b:=by have:=eq_of_beq hab;injection this
   subst e;obtain rfl:=hx.inj hy;exact wB (wpAny_rule (wP (by simpa using h)))
 . rw [if_neg hab];refine wB (wpAny_richCompare_same_room (op:=.Eq) hx.typeIs hy.typeIs F.slot_tuple_eq (wpAny_call_entry F.slot_tuple_eq hx.typeIs F.entry_tuple_eq ?_ (F.args_tuple_eq_2 _ _)) (Nat.lt_of_succ_lt hu));exact HA hr hu hx hy ⟨_,rfl,(λe=>nomatch e),wpAny_truthy_bool h⟩
theorem Aw(hk:IsTupM knd s.heap k a)(h:Q true s):wpAny `m A (eqIsQuiet 8 (.ref a)) Q E s:=by
 have hT:=hk.typeIs;obtain⟨o,items,m,b,v,ho,_,hd,hi,h1,h2⟩:=hk;unfold eqIsQuiet;refine wB (wpAny_specialOf hT F.slot_tuple_eq.lookup ?_);show wpAny _ _ (isInstance (.ref a) (.type "tuple") >>=_) _ _ s;refine wB (wpAny_isInstance hT isSubtype_tuple_tuple ?_);simp only [rR,zN,if_false];refine wB (wpAny_seqItems ho hd ?_);refine wB ?_;show wpAny _ _ (forIn items _ _) _ _ s;rw [<-Array.forIn_toList,hi];refine wpAny_forIn_list _ (λcI r s'=>r.1=none/\s'=s/\(cI=[.ref b,v]\/cI=[v]\/cI=[])) _ ?_ ?_ _ _ ⟨rfl,rfl,.inl rfl⟩
 . rintro x cI r s' ⟨hr,rfl,e|e|e⟩
   . cases e;refine wB (y9 (n:=5) (knd:=knd) h1 ?_);simp only [rR,zN,if_false];exact wP ⟨rfl,rfl,by simp⟩
   . cases e;rw [eqIsQuiet_byValue _ (knd.byValue _ _ h2)];refine wB (wP ?_);simp only [rR,zN,if_false];exact wP ⟨rfl,rfl,by simp⟩
   . cases e
 . rintro⟨r1,r2⟩ s' ⟨hr,rfl,_⟩;simp only at hr;subst hr;exact wP h
def jM(knd:KeyKind prog w K):HeapKind prog w (List (List K)×K) where
 is:=IsTupM knd
 hash:=Gz knd
 draws:=Av knd
 room:=λA=>A.units+2 < cLine
 inj:=λhx hy=>hx.inj hy
 keeps:=λx ho hd hs=>x.keeps ho hd hs
 pyHash:=λhu hk h=>D9 (tupleKind_room_in1 (by show _+1+1 < _;lia)) `e hk h
 eqBool:=λhu hx hy h=>Jd (tupleKind_room_in1 (by show _+1+1 < _;lia)) `e hx hy h
 quiet:=λhk h=>Aw hk h
end
abbrev Km:=List (List bb)×bb
abbrev Em:=Km×Addr×V
noncomputable def uV:V->Value
 | .ref a=>.ref a
 | .bl b=>.bool b
 |_=>.none
noncomputable def ya:V->Bool
 | .ref _=>true
 | .bl _=>true
 | .non=>true
 |_=>false
theorem Nh {v:V}{u:Value}(r:RelV v u)(s:ya v=true):u=uV v:=by
 cases v<;>first|exact r|cases s
theorem MN {v:V}(s:ya v=true):RelV v (uV v):=by
 cases v<;>first|rfl|cases s
def ph(xs:List Em):List (Km×Addr×Value):=xs.map λx=>(x.1,x.2.1,uV x.2.2)
noncomputable def jz(xs:List Em)(k:Km):Option (Addr×V):=(xs.find? λx=>decide (x.1=k)).map (·.2)
def ml(xs:List Em)(k:Km)(b:Addr)(v:V):List Em:=if(jz xs k).isSome then xs.map λx=>if x.1=k then(x.1,x.2.1,v)else x else xs++[(k,b,v)]
theorem wc(xs:List Em)(k:Km):atKey (ph xs) k=(jz xs k).map λp=>(p.1,uV p.2):=by
 unfold atKey jz ph;rw [List.find?_map];cases h:xs.find? ((λx=>decide (x.1=k))∘ λx:Em=>(x.1,x.2.1,uV x.2.2))with
 |none=>
  rw [show (xs.find? λx=>decide (x.1=k))=none from h]
  rfl
 |some p=>
  rw [show (xs.find? λx=>decide (x.1=k))=some p from h]
  rfl
theorem Je(xs:List Em)(k:Km)(b:Addr)(v:V):ph (ml xs k b v)=storedH (ph xs) k b (uV v):=by
 unfold ml storedH;rw [wc,Option.isSome_map];split
 . unfold ph;rw [zO,zO];apply B3
   intro x _;show _=putAt k (uV v) (x.1,x.2.1,uV x.2.2);unfold putAt
   by_cases h:x.1=k
   . simp only [Function.comp,if_pos h]
   . simp only [Function.comp,if_neg h]
 . unfold ph;rw [AB];rfl
theorem yc(xs:List Em):(ph xs).map (·.1)=xs.map (·.1):=by
 unfold ph;rw [zO];rfl
theorem Jf(xs:List Em)(k:Km)(b:Addr)(v:V):(ml xs k b v).length<=xs.length+1:=by
 unfold ml;split
 . rw [zJ];lia
 . rw [zQ];exact Q1 _
def dW(P:Program)(w:World)(a:Addr)(xs:List Em):HO:=.ext λh=>∃(o:Obj) (es:Array DictEntry) (ep:Nat),h.get? a=some o/\o.ExactDict/\o.data=.dict es ep/\es.toList=(ph xs).map (entryOfKey (jM (am P w)))/\(xs.map (·.1)).Nodup/\xs.length<=sizeLine/\(a==sysModules)=false
def KeyM(H:Hp)(b:Addr)(k:Km):Prop:=∃c,H b=some (.tup [.ref c,kV k.2])/\KeyAt H c k.1
def qa(H:Hp)(xs:List Em):Prop:=∀x∈xs,KeyM H x.2.1 x.1/\ya x.2.2=true
section
variable {P:Program} {w:World} {H:Hp} {h:Heap}
theorem rP {b:Addr}{k:Km}(ok:HOk P w H h)(e:KeyM H b k):(jM (am P w)).is h k b:=by
 obtain⟨c,e1,e2⟩:=e;obtain⟨zz,its,r,⟨o,h1,h2,n,h3⟩,zz2⟩:=(show ObjOk P w H h b (.tup [.ref c,kV k.2])from ok b _ e1)
 cases r with
 |cons r1 r2=>
  cases r2 with
  | @cons _ v _ _ r2 r3=>
   cases r3;cases (show _=Value.ref c from r1)
   exact⟨o,_,n,c,v,h1,h2,h3,List.toList_toArray ..,oK ok e2,yJ r2⟩
variable {xs:List Em}
theorem MO {a:Addr}{H':Hp}(hk:∀x∈ph xs,(jM (am P w)).is h x.1 x.2.1)(d:h.DictOfH (jM (am P w)) a (ph xs))(z:xs.length<=sizeLine)(m:(a==sysModules)=false):ObjOk P w H' h a (dW P w a xs):=by
 obtain⟨o,es,ep,h1,h2,h3,h4,_,h5⟩:=d;rw [yc]at h5;refine⟨⟨o,es,ep,h1,h2,h3,h4,h5,z,m⟩,⟨o,h1⟩,λg1 g2 p q=>?_⟩;obtain⟨o',es',ep',e1,r⟩:=p;exact⟨o',es',ep',q o' e1,r⟩
theorem Ax {a:Addr}(ok:HOk P w H h)(e:H a=some (dW P w a xs))(ks:qa H xs):h.DictOfH (jM (am P w)) a (ph xs)/\xs.length<=sizeLine/\(a==sysModules)=false:=by
 obtain⟨⟨o,es,ep,h1,h2,h3,h4,h5,z,m⟩,_⟩:=(show ObjOk P w H h a (dW P w a xs)from ok a _ e)
 refine⟨⟨o,es,ep,h1,h2,h3,h4,λx hx=>?_,by rw [yc];exact h5⟩,z,m⟩
 obtain⟨y,hy,rfl⟩:=Q6.mp hx;exact rP ok (ks y hy).1
end
section
variable {X:Cx} {pins:`k} {σ:St} {H:Hp} {s:Shared} {a b:Addr} {xs:List Em} {k:Km} {A:Around} {E:`d}
variable {Q:`d}
theorem Ni {p:Addr×V}(hu:A.units+3 < cLine)(I:`h)(e:H a=some (dW X.prog X.w a xs))(ks:qa H xs)(kb:KeyM H b k)(hp:jz xs k=some p)(h:∀s',Inv X pins σ H s'->Q (uV p.2) s'):
 wpAny `i A (getItem (.ref a) (.ref b)) Q E s:=by
 obtain⟨d,z,m⟩:=Ax I.hok e ks;exact wpAny_getItem_heap (knd:=jM (am X.prog X.w)) (show A.units+1+2 < cLine by lia) (rP I.hok kb) d (p:=(p.1,uV p.2)) (by rw [wc,hp];rfl) (h _ (I.tok _))
theorem Jg(hu:A.units+3 < cLine)(I:`h)(e:H a=some (dW X.prog X.w a xs))(ks:qa H xs)(kb:KeyM H b k)(h:∀s',Inv X pins σ H s'->Q (.bool (!(jz xs k).isSome)) s'):
 wpAny `i A (compareOp .NotIn (.ref b) (.ref a)) Q E s:=by
 obtain⟨d,z,m⟩:=Ax I.hok e ks;refine PyProof.Rows.wpAny_notIn_heap (knd:=jM (am X.prog X.w)) (show A.units+1+2 < cLine by lia) (rP I.hok kb) m d ?_
 rw [wc,Option.isSome_map];exact h _ (I.tok _)
theorem Nj {v:V}{r:Value}{Q:Unit->Shared->Prop}(hu:A.units+3 < cLine)(I:`h)(e:H a=some (dW X.prog X.w a xs))(ks:qa H xs)(kb:KeyM H b k)(hl:xs.length < sizeLine)(rv:RelV v r)(sv:ya v=true)(h:∀s',Inv X pins σ (bC H a (dW X.prog X.w a (ml xs k b v))) s'->Q () s'):
 wpAny `i A (setItem (.ref a) (.ref b) r) Q E s:=by
 obtain⟨d,z,m⟩:=Ax I.hok e ks;obtain rfl:=Nh rv sv;refine wpAny_setItem_heap (knd:=jM (am X.prog X.w)) (show A.units+1+2 < cLine by lia) (rP I.hok kb) d (λh' d' hs=>h _ ?_) (by unfold ph;rw [zJ];exact z)
 rw [<-Je]at d';have all:=d';obtain⟨q,es,ep,hq,_,_,_,hk,_⟩:=d';exact oF I (by rw [e];exact True.intro) hs ⟨q,hq⟩ (MO hk all (by have:=Jf xs k b v;lia) m)
end
def LB(P:Program)(w:World):TE:=λ_ H Q=>∀p,H p=none->Q (.ref p) (bC H p (dW P w p []))
def CT(P:Program)(w:World)(ty td:TE):TE:=λσ H Q=>ty σ H λy H1=>td σ H1 λx H2=>∃a b xs k,x=.ref a/\y=.ref b/\H2 a=some (dW P w a xs)/\qa H2 xs/\KeyM H2 b k/\Q (.bl (!(jz xs k).isSome)) H2
def vc(P:Program)(w:World)(td ty:TE):TE:=λσ H Q=>td σ H λx H1=>ty σ H1 λy H2=>∃a b xs k c v,x=.ref a/\y=.ref b/\H2 a=some (dW P w a xs)/\qa H2 xs/\KeyM H2 b k/\jz xs k=some (c,v)/\ya v=true/\Q v H2
def LC(P:Program)(w:World)(td ty tv:TE):TS:=λD σ H=>tv σ H λv H1=>td σ H1 λx H2=>ty σ H2 λy H3=>∃a b xs k,x=.ref a/\y=.ref b/\ya v=true/\H3 a=some (dW P w a xs)/\qa H3 xs/\KeyM H3 b k/\xs.length < sizeLine/\
 D.nx σ (bC H3 a (dW P w a (ml xs k b v)))
section
variable {X:Cx} {o i e value:Expr} {pos pos' tpos:Pos} {td ty tv:TE}
theorem Jh:PE X (.Dict [] [] pos) (LB X.prog X.w):=λpins s σ H Q I h=>by
 refine wpAny_Dict_empty ⟨.ref `a,_,I.laid (a:=`a) (o:=dW X.prog X.w `a []) (t':=s.toks) (λ_ _ q=>df _ q) (Q1 _) ⟨⟨_, #[],0,fU _ rfl,⟨rfl,rfl,rfl⟩,rfl,rfl,List.nodup_nil,zU _,beq_eq_false_iff_ne.mpr (Ne.symm (jG I.big))⟩,⟨_,fU _ rfl⟩,λg1 g2 p q=>?_⟩,rfl,h _ (I.hok.fresh (Q1 _))⟩;obtain⟨o',es',ep',e1,r⟩:=p;exact⟨o',es',ep',q o' e1,r⟩
theorem Db(hu:X.A.units+3 < cLine)(hi:PE X i ty)(ho:PE X o td):PC X .NotIn i o (CT X.prog X.w ty td):=by
 intro pins s σ H Q I h;refine bq (hi pins s σ H _ I h) λiv s1 q_=>?_;obtain⟨y,H1,I1,ry,q1⟩:=q_;refine bq (ho pins s1 σ H1 _ I1 q1) λu s2 q_=>?_;obtain⟨x,H2,I2,rx,a,b,xs,k,rfl,rfl,e1,e2,e3,q2⟩:=q_;obtain rfl:u=Value.ref a:=rx;obtain rfl:iv=Value.ref b:=ry;exact Jg hu I2 e1 e2 e3 λs3 I3=>⟨.bl _,H2,I3,rfl,q2⟩
theorem Ji(hu:X.A.units+3 < cLine)(ho:PE X o td)(hi:PE X i ty)(hs:JK i):PE X (.Subscript o i pos) (vc X.prog X.w td ty):=by
 intro pins s σ H Q I h;refine wX PySem.F.slot_dict_getitem.lookup hs (bq (ho pins s σ H _ I h) λu s1 q_=>?_);obtain⟨x,H1,I1,rx,q1⟩:=q_;refine bq (hi pins s1 σ H1 _ I1 q1) λiv s2 q_=>?_;obtain⟨y,H2,I2,ry,a,b,xs,k,c,v,rfl,rfl,e1,e2,e3,e4,e5,q2⟩:=q_;obtain rfl:u=Value.ref a:=rx;obtain rfl:iv=Value.ref b:=ry;obtain⟨⟨o1,es,ep,h1,h2,_⟩,_⟩:=(show ObjOk X.prog X.w H2 s2.heap a (dW X.prog X.w a xs)from I2.hok a _ e1)
 exact⟨⟨o1,h1,h2.1⟩,Ni hu I2 e1 e2 e3 e4 λs3 I3=>⟨v,H2,I3,MN e5,q2⟩⟩
theorem Jj(hu:X.A.units+3 < cLine)(ho:PE X o td)(hi:PE X i ty)(hv:PE X value tv)(hs:swapsWith value (some (.Subscript o i pos')) pos.line X.env=pure false:=by rfl):
 PS X (.Assign [.Subscript o i pos'] value pos) (LC X.prog X.w td ty tv):=by
 intro pins s σ H D I h;refine wpAny_Assign_Subscript (bq (hv pins s σ H _ I h) λr s1 q_=>?_) hs;obtain⟨v,H1,I1,rv,q1⟩:=q_;refine bq (ho pins s1 σ H1 _ I1 q1) λu s2 q_=>?_;obtain⟨x,H2,I2,rx,q2⟩:=q_;refine bq (hi pins s2 σ H2 _ I2 q2) λiv s3 q_=>?_;obtain⟨y,H3,I3,ry,a,b,xs,k,rfl,rfl,e0,e1,e2,e3,e4,q3⟩:=q_;obtain rfl:u=Value.ref a:=rx;obtain rfl:iv=Value.ref b:=ry;exact Nj hu I3 e1 e2 e3 e4 rv e0 λs4 I4=>⟨σ,_,I4,q3⟩
end
end L2
namespace DL
open PySem L2
def oM(k:List `f×Int):Km:=(k2 k.1,Sum.inl k.2)
theorem HB {a b:List `f×Int}(h:oM a=oM b):a=b:=by
 unfold oM at h;injection h with h1 h2
 injection h2 with h2
 exact Prod.ext (Ap h1) h2
noncomputable def HC:PyData->Option (List `f×Int)
 | .tuple [.tuple ds,.int n]=>(lM ds).map λk=>(k,n)
 |_=>none
noncomputable def Ay:PyData->Bool
 | .none=>true
 | .bool _=>true
 | .tuple _=>true
 |_=>false
variable {xs:List Em}{a:Addr}{w:World}{P:Program}
theorem Jk(ys:List V):dW P w a xs≠ .tup ys:=λh=>by unfold dW at h;cases h
theorem Jl {ys:List V}(h:some (dW P w a xs)=some (.lst ys)):False:=by unfold dW at h;cases h
theorem we {C dx:Addr}{fs:List (Str×V)}(h:some (dW P w a xs)=some (.ins C dx fs)):False:=by unfold dW at h;cases h
section
variable {K:Fg} {P:Program} {w:World} {H0 F0 F F':Hp} {σ:St} {H H':Hp} {δ:aS}
theorem MP {o:HO}{kvs:List (PyData×PyData)}(h:some (dW P w a xs)=some o)(q:DcO K F o kvs):False:=by
 cases h;unfold dW at q
 rcases q with ⟨_,e,_⟩|⟨_,e,_⟩<;>cases e
variable {v:V}{k:List `f×Int}{d:PyData}
theorem Jm(e:HC d=some k)(h:Is K F v d):∃b,v=.ref b/\KeyM F b (oM k):=by
 unfold HC at e;split at e
 . rename_i ds n;obtain⟨k1,e1,rfl⟩:=Q0.mp e;obtain⟨a,xs,rfl,h1,x,r,rfl,ix,y,r2,rfl,iy,ir⟩:=h;cases (show r2=[]from ir)
   cases (show y=V.int n from iy)
   obtain⟨c,ys,rfl,h2,h3⟩:=ix;exact⟨a,rfl,c,h1,y6 e1 h2 h3⟩
 . cases e
variable {k:Km}{b:Addr}
theorem KeyM.same(h:KeyM F b k)(s:Same F F'):KeyM F' b k:=by
 obtain⟨c,h1,h2⟩:=h;exact⟨c,s _ _ h1,KeyAt.same h2 s⟩
theorem wf(h:Is K F v d)(s:Ay d=true):ya v=true:=by
 cases d with
 |none=>rw [show v=.non from h];rfl
 |bool b=>rw [show v=.bl b from h];rfl
 |tuple ds=>obtain⟨a,xs,rfl,_⟩:=h;rfl
 |int _=>cases s
 |str _=>cases s
 |list _=>cases s
 |dict _=>cases s
structure Mv (K:Fg) (W:List `f×Int->PyData->Prop) (F:Hp) (xs:List Em):Prop where
 nd:(xs.map (·.1)).Nodup
 all:∀x∈xs,∃k v,x.1=oM k/\KeyM F x.2.1 x.1/\Is K F x.2.2 v/\Ay v=true/\W k v
variable {W:List `f×Int->PyData->Prop} {xs:List Em}
theorem Mv.nil:Mv K W F []:=⟨List.nodup_nil,λx hx=>nomatch hx⟩
theorem Mv.same(m:Mv K W F xs)(s:Same F F'):Mv K W F' xs:=⟨m.nd,λx hx=>by
 obtain⟨k,v,h1,h2,h3,h4,h5⟩:=m.all x hx;exact⟨k,v,h1,KeyM.same h2 s,h3.same s,h4,h5⟩⟩
theorem Mv.keys(m:Mv K W F xs)(s:Same F H):qa H xs:=λx hx=>by
 obtain⟨k,v,h1,h2,h3,h4,h5⟩:=m.all x hx;exact⟨KeyM.same h2 s,wf h3 h4⟩
theorem sf {c:Addr}(e:jz xs k=some (c,v)):(k,c,v)∈xs:=by
 unfold jz at e;obtain⟨x,h1,h2⟩:=Q0.mp e;have:=of_decide_eq_true (List.find?_some (p:=λx:Em=>decide (x.1=k)) h1);have h3:=zR h1;obtain⟨a,b⟩:=x;cases h2;cases this;exact h3
theorem Mv.look(m:Mv K W F xs){k:List `f×Int}{c:Addr}{v:V}(e:jz xs (oM k)=some (c,v)):∃d,W k d/\Is K F v d/\ya v=true:=by
 obtain⟨k',d,h1,h2,h3,h4,h5⟩:=m.all _ (sf e);cases HB h1;exact⟨d,h5,h3,wf h3 h4⟩
theorem pi(e:jz xs k=none):k ∉ xs.map (·.1):=λh=>by
 obtain⟨x,hx,rfl⟩:=Q6.mp h;unfold jz at e;rw [Option.map_eq_none_iff,List.find?_eq_none]at e;exact e x hx (decide_eq_true rfl)
theorem Jn(n:(xs.map (·.1)).Nodup):((ml xs k b v).map (·.1)).Nodup:=by
 unfold ml;split
 . rw [zO];have:xs.map ((λx:Em=>x.1)∘ λx=>if x.1=k then(x.1,x.2.1,v)else x)=xs.map (·.1):=B3 λx _=>by
    show (if x.1=k then(x.1,x.2.1,v)else x).1=x.1;split<;>rfl
   rw [this];exact n
 . rename_i h;have hn:jz xs k=none:=by
    cases z:jz xs k with
    |none=>rfl
    |some _=>rw [z]at h;exact absurd rfl h
   rw [AB,List.nodup_append];refine⟨n,by simp,λx hx y hy=>?_⟩
   rw [show y=k by simpa using hy]
   exact λe=>pi hn (e▸hx)
theorem ye {x:Em}(h:x∈ml xs k b v):(x∈xs/\x.1≠k)\/(x.1=k/\x.2.2=v/\(x.2.1=b\/∃y∈xs,y.1=k/\y.2.1=x.2.1)):=by
 unfold ml at h;split at h
 . obtain⟨y,hy,e⟩:=Q6.mp h
   by_cases z:y.1=k
   . rw [if_pos z]at e;subst e;exact .inr ⟨z,rfl,.inr ⟨y,hy,z,rfl⟩⟩
   . rw [if_neg z]at e;subst e;exact .inl ⟨hy,z⟩
 . rename_i hg;have hn:jz xs k=none:=by
    cases z:jz xs k with
    |none=>rfl
    |some _=>rw [z]at hg;exact absurd rfl hg
   rcases Ca.mp h with h|h
   . exact .inl ⟨h,λz=>pi hn (Q6.mpr ⟨x,h,z⟩)⟩
   . rw [Q7.mp h];exact .inr ⟨rfl,rfl,.inl rfl⟩
theorem HE:∃c,jz (ml xs k b v) k=some (c,v):=by
 cases h:jz (ml xs k b v) k with
 |none=>
  refine absurd ?_ (pi h);unfold ml;split
  . rename_i z;obtain⟨⟨c,u⟩,hc⟩:=Ms.mp z;have hm:=sf hc;rw [zO];exact Q6.mpr ⟨_,hm,by show (if k=k then(k,c,v)else _).1=k;rw [if_pos rfl]⟩
  . rw [AB];exact Qb _ (by simp)
 |some p=>
  obtain⟨c,u⟩:=p
  rcases ye (sf h)with ⟨_,z⟩|⟨_,z,_⟩
  . exact absurd rfl z
  . exact⟨c,by rw [show u=v from z]⟩
theorem Mv.put {k:List `f×Int}(m:Mv K W F xs)(kb:KeyM F b (oM k))(iv:Is K F v d)(sd:Ay d=true)(hw:W k d):Mv K W F (ml xs (oM k) b v):=
 ⟨Jn m.nd, λ x hx => by
  rcases ye hx with ⟨h,_⟩|⟨e1,e2,e3⟩
  . exact m.all x h
  . refine⟨k,d,e1,?_,by rw [e2];exact iv,sd,hw⟩
    rcases e3 with e3|⟨y,hy,y1,y2⟩
    . rw [e1,e3];exact kb
    . obtain⟨_,_,_,q,_⟩:=m.all y hy;rw [e1, <-y2, <-y1];exact q⟩
variable {d:Addr}
theorem Grow.memU(s:Same F H)(n:F d=none)(hd:H d=some (dW P w d xs)):Grow F (bC H d (dW P w d xs)) F H:=
 ⟨Same.refl _, s, λ b u e => by
  by_cases hb:b=d
  . subst hb;rw [aR]at e;rw [hd];exact e
  . rw [aM hb]at e;exact e,λ_ _ _ _ z=>z⟩
theorem Grow.at_(g:Grow F (bC H d (dW P w d xs)) F' H'):H' d=some (dW P w d xs):=g.h _ _ aR
theorem Grow.no_(g:Grow F (bC H d (dW P w d xs)) F' H')(n:F d=none):F' d=none:=g.o _ _ aR (λys=>Jk ys) n
theorem Grow.ne_ {o:HO}(g:Grow F (bC H d (dW P w d xs)) F' H')(n:a≠d)(e:H a=some o):H' a=some o:=g.h _ _ (by rw [aM n];exact e)
variable {xs':List Em}
theorem Grow.memT {F1 H1:Hp}(g:Grow F (bC H d (dW P w d xs)) F1 H1)(g':Grow F1 (bC H1 d (dW P w d xs')) F' H'):Grow F (bC H d (dW P w d xs')) F' H':=
 ⟨g.f.trans g'.f, g'.s, λ b u e => by
  by_cases hb:b=d
  . subst hb;rw [aR]at e;rw [<-e];exact g'.at_
  . rw [aM hb]at e;exact g'.ne_ hb (g.ne_ hb e),λb u e t n=>by
  by_cases hb:b=d
  . subst hb;exact g'.no_ (g.no_ n)
  . rw [aM hb]at e;exact g'.o b u (by rw [aM hb];exact g.ne_ hb e) t (g.o b u (by rw [aM hb];exact e) t n)⟩
theorem Rep.memU(R:Rep K (bC H0 d (dW P w d xs)) F0 F σ H δ)(g:Grow F (bC H d (dW P w d xs')) F' H'):Rep K (bC H0 d (dW P w d xs')) F0 F' σ H' δ where
 g:=R.g.memT g
 len:=R.len
 fz:=λi e q=>let ⟨v,h1,h2⟩:=R.fz i e q;⟨v,h1,h2.same g.f⟩
 ow:=λi ds q=>by
  obtain⟨a,ys,h1,h2,h3,h4,h5⟩:=R.ow i ds q;have na:a≠d:=λz=>by rw [z,R.g.at_]at h2;exact Jl h2
  exact⟨a,ys,h1,g.ne_ na h2,g.o a (.lst ys) (by rw [aM na];exact h2) (λ_ z=>nomatch z) h3,by rw [aM na]at h4 ⊢;exact h4,h5.same g.f⟩
 ap:=R.ap
 od:=λi ds q=>by
  obtain⟨a,o,h1,h2,h3,h4,h5⟩:=R.od i ds q;have na:a≠d:=λz=>by rw [z,R.g.at_]at h2;exact MP h2 h5
  exact⟨a,o,h1,g.ne_ na h2,g.o a _ (by rw [aM na];exact h2) h5.ntup h3,by rw [aM na]at h4 ⊢;exact h4,h5.same g.f⟩
 ad:=R.ad
 tb:=R.tb.same g.f
theorem Grow.memPut(s:Same F H)(n:F d=none)(hd:H d=some (dW P w d xs)):Grow F (bC H d (dW P w d xs')) F (bC H d (dW P w d xs')):=
 Grow.refl λb u e=>by rw [aM (λz=>by rw [z,n]at e;cases e)];exact s b u e
theorem Rep.zero(s:xi K F H)(n:F d=none)(hd:H d=some (dW P w d xs)):Rep K (bC H d (dW P w d xs)) F F σ H (List.replicate σ.length none):=by
 have no:∀{j:Nat} {z:Sl},(List.replicate σ.length (none:Option Sl))[j]? =some (some z)->False:=λ{j z} e=>by
  have:=ES e;have:=(List.mem_replicate.mp this).2;cases this
 exact⟨Grow.memU s.1 n hd,by rw [IE],λ_ _ e=>(no e).elim,λ_ _ e=>(no e).elim,λ_ _ _ _ _ e=>(no e).elim,λ_ _ e=>(no e).elim,λ_ _ _ _ _ e=>(no e).elim,s.2⟩
theorem Rep.know {i:Nat}{d:PyData}(R:Rep K H0 F0 F σ H δ)(hs:σ[i]? =some (some v))(h:Is K F v d):Rep K H0 F0 F σ H (δ.set i (some (.fz d))):=by
 have:=R.set (i:=i) h;have e:σ.set i (some v)=σ:=by
  have hi:=dm hs;rw [<-(C6.mp hs).2];exact List.set_getElem_self hi
 rw [e]at this;exact this
def Self(K:Fg)(C:Addr)(cd:PyData)(F H:Hp)(p d:Addr):Prop:=∃dx l,H p=some (.ins C dx [("codes",.ref l),("found",.ref d)])/\Is K F (.ref l) cd
variable {cd:PyData}{C p:Addr}
theorem Self.grow(s:Self K C cd F H p d)(hd:∃xs,H d=some (dW P w d xs))(g:Grow F (bC H d (dW P w d xs)) F' H'):Self K C cd F' H' p d:=by
 obtain⟨dx,l,h1,h2⟩:=s;obtain⟨ys,hd⟩:=hd;have np:p≠d:=λz=>by rw [z,hd]at h1;exact we h1
 exact⟨dx,l,g.ne_ np h1,h2.same g.f⟩
theorem Self.pure(s:Self K C cd F H p d)(g:Grow F H F' H'):Self K C cd F' H' p d:=by
 obtain⟨dx,l,h1,h2⟩:=s;exact⟨dx,l,g.h _ _ h1,h2.same g.f⟩
def u9(K:Fg)(P:Program)(w:World)(C:Addr)(cd:PyData)(W:List `f×Int->PyData->Prop)(na:Nat)(dom:List PyData->PyData->Prop):Sp:=λvs H Q _=>∃F p d xs args ds r,vs=.ref p::args/\args.length=na/\xi K F H/\Self K C cd F H p d/\H d=some (dW P w d xs)/\F d=none/\Mv K W F xs/\Are K F args ds/\dom ds r/\
 ∀v H' F' xs',Grow F (bC H d (dW P w d xs')) F' H'->Mv K W F' xs'->Is K F' v r->Q v H'
variable {ds:`g}
theorem Are.of_len {xs:List V}{n:Nat}(h:Are K F xs ds)(e:ds.length=n):xs.length=n:=by rw [h.length,e]
theorem iR {i:Nat}{na:Nat}{dom:List PyData->PyData->Prop}{m:Str}{E:XK}{t:TA}{f:aS->Option `g}{ds:`g}{r:PyData}{Q:VK}
 (R:Rep K (bC H0 d (dW P w d xs)) F0 F σ H δ) (n0:F0 d=none) (M:Mv K W F xs) (hs:σ[i]? =some (some (.ref p))) (S:Self K C cd F H p d) (hm1:("codes":Str)≠m) (hm2:("found":Str)≠m) (ha:SA K t f) (e:f δ=some ds) (hl:ds.length=na) (hd:dom ds r)
 (q:∀v H' F' xs',Rep K (bC H0 d (dW P w d xs')) F0 F' σ H' δ->Mv K W F' xs'->Self K C cd F' H' p d->Same F F'->Is K F' v r->Q v H'):qV C m (u9 K P w C cd W na dom) [] E (bJ i) t σ H Q:=by
 obtain⟨dx,l,h1,h2⟩:=id S;have lk:List.lookup m ([("codes",V.ref l),("found",V.ref d)]:List (Str×V))=none:=by
  rw [uM,uM];have a1:(m==("codes":Str))=false:=by simpa using λz=>hm1 z.symm
  have a2:(m==("found":Str))=false:=by simpa using λz=>hm2 z.symm
  rw [a1,a2];rfl
 refine⟨.ref p,hs,p,dx,_,rfl,h1,lk,ha _ F0 F σ H δ ds _ R e λvs H1 F1 g1 ar=>?_⟩;have R1:=R.grow g1;refine⟨F1,p,d,xs,vs,ds,r,by rw [Q8],ar.of_len hl,⟨g1.s,R1.tb⟩,S.pure g1,R1.g.at_,R1.g.no_ n0,M.same g1.f,ar,hd,λv H' F' xs' g' M' i'=>?_⟩
 exact q v H' F' xs' (R1.memU g') M' ((S.pure g1).grow ⟨xs,R1.g.at_⟩ g') (g1.f.trans g'.f) i'
end
noncomputable abbrev Cs:=List `f
def bY(cs:Cs):PyData:=.list (cs.map aH)
def b9(fit:Cs)(g k:`f):Cs:=fit.filter λx=>decide (GC.ans x g=k)
def d7(g:`f)(m:Cl)(cs:Cs):Cl:=cs.foldl (λm x=>cJ m (GC.ans x g) (aH x)) m
def eZ(fit:Cs)(g:`f):Cs:=mJ ((d7 g [] fit).map (·.1))
noncomputable def pK:PyData->Bool
 | .none=>true
 |_=>false
def d8(pw:Cs->PyData)(fit:Cs)(g:`f):PyData:=if(eZ fit g).all (λk=> !pK (pw (b9 fit g k)))=true then .tuple [aH g,.tuple ((eZ fit g).map λk=>.tuple [aH k,pw (b9 fit g k)])]else .none
noncomputable def fH(pw:Cs->PyData)(fit:Cs):Cs->PyData
 |[]=>.none
 |g::r=>if pK (d8 pw fit g)=true then fH pw fit r else d8 pw fit g
noncomputable def aw(cs:Cs):Nat->Cs->PyData
 |0,fit=>if fit.length=1 then aH (fit.headD [])else .none
 |m+1,fit=>if fit.length=1 then aH (fit.headD [])else if pK (aw cs m fit)=true then fH (aw cs m) fit cs else aw cs m fit
def iM(cs:Cs)(m:Nat)(fit:Cs):PyData:=if pK (aw cs m fit)=true then fH (aw cs m) fit cs else aw cs m fit
theorem vd(cs:Cs){fit:Cs}(h:fit.length=1):∀m,aw cs m fit=aH (fit.headD [])
 |0=>if_pos h
 |m+1=>if_pos h
theorem sg(cs:Cs){fit:Cs}(h:fit.length≠1):aw cs 0 fit=.none:=if_neg h
theorem mo(cs:Cs){fit:Cs}(h:fit.length≠1)(m:Nat):aw cs (m+1) fit=iM cs m fit:=if_neg h
theorem Az(pw:Cs->PyData)(fit:Cs)(g:`f):Ay (d8 pw fit g)=true:=by
 unfold d8;split<;>rfl
theorem mq(pw:Cs->PyData)(fit:Cs):∀gs,Ay (fH pw fit gs)=true
 |[]=>rfl
 |g::r=>by
  unfold fH;split
  . exact mq pw fit r
  . exact Az pw fit g
theorem ve(cs:Cs):∀m fit,Ay (aw cs m fit)=true
 |0,fit=>by
  unfold aw;split<;>rfl
 |m+1,fit=>by
  unfold aw;split
  . rfl
  . split
    . exact mq _ _ _
    . exact ve cs m fit
theorem qb(cs:Cs)(m:Nat)(fit:Cs):Ay (iM cs m fit)=true:=by
 unfold iM;split
 . exact mq _ _ _
 . exact ve cs m fit
theorem sh(fit:Cs)(g k:`f):(b9 fit g k).Sublist fit:=List.filter_sublist
noncomputable def Dc {α:Type}:List α->List (List α)
 |[]=>[[]]
 |x::r=>Dc r++(Dc r).map (x:: ·)
theorem yf {α:Type}:∀l:List α,(Dc l).length=2 ^ l.length
 |[]=>rfl
 |x::r=>by
  rw [Dc,zQ,zJ,yf r,zC,Nat.pow_succ];lia
theorem HF {α:Type}{l:List α}{s:List α}(h:s.Sublist l):s∈Dc l:=by
 induction h with
 |slnil=>exact Q7.mpr rfl
 |cons a _ ih=>exact Mu _ ih
 |cons_cons a _ ih=>exact Qb _ (zP ih)
theorem BA {α:Type}[DecidableEq α]:∀{l L:List α},l.Nodup->(∀x∈l,x∈L)->l.length<=L.length
 |[],_,_,_=>zU _
 |x::r,L,nd,h=>by
  obtain⟨h1,h2⟩:=xP.mp nd;have hx:=h x gG;have:=BA (l:=r) (L:=L.erase x) h2 λy hy=>(List.mem_erase_of_ne (λz:y=x=>h1 (by rw [<-z];exact hy))).mpr (h y (iJ _ hy))
  rw [List.length_erase_of_mem hx]at this;have:=List.length_pos_of_mem hx;rw [zC];lia
def Jo(cs:Cs):List Km:=(List.range 17).flatMap λm:Nat=>(Dc cs).map λs=>oM (s,(m:Int))
theorem HG {cs:Cs}(h:cs.length<=16):(Jo cs).length < sizeLine:=by
 have e:(Jo cs).length=17*2 ^ cs.length:=by
  unfold Jo;rw [List.length_flatMap];simp only [zJ,yf,List.map_const',List.sum_replicate_nat,EU]
 have:2 ^ cs.length<=2 ^ 16:=Nat.pow_le_pow_right (by decide) h
 rw [e];show _ < 2 ^ 24;lia
section
variable {K:Fg} {F:Hp} {W:List `f×Int->PyData->Prop} {xs:List Em}
theorem MQ {cs:Cs}(hc:cs.length<=16)(M:Mv K W F xs)(hW:∀k v,W k v->k.1.Sublist cs/\∃m:Nat,k.2=(m:Int)/\m<=16):xs.length < sizeLine:=by
 have:=BA (L:=Jo cs) M.nd λk hk=>by
  obtain⟨x,hx,rfl⟩:=Q6.mp hk;obtain⟨k,v,e,_,_,_,h⟩:=M.all x hx;obtain⟨h1,m,h2,h3⟩:=hW k v h;rw [e];refine List.mem_flatMap.mpr ⟨m,List.mem_range.mpr `e,Q6.mpr ⟨k.1,HF h1,?_⟩⟩
  rw [<-h2]
 rw [zJ]at this;exact IG this (HG hc)
end
def WPl(cs:Cs)(k:List `f×Int)(d:PyData):Prop:=∃m:Nat,k.2=(m:Int)/\m<=16/\k.1.Sublist cs/\d=aw cs m k.1
theorem WPl.dom {cs:Cs}(k:List `f×Int)(d:PyData)(h:WPl cs k d):k.1.Sublist cs/\∃m:Nat,k.2=(m:Int)/\m<=16:=by
 obtain⟨m,h1,h2,h3,_⟩:=h;exact⟨h3,m,h1,h2⟩
def ua(cs:Cs)(n:Nat)(ds:`g)(r:PyData):Prop:=∃(fit:Cs) (m:Nat),ds=[bY fit,.int (m:Int)]/\fit.Sublist cs/\fit≠[]/\m<=n/\r=aw cs m fit
def Jp(cs:Cs)(n:Nat)(ds:`g)(r:PyData):Prop:=∃(fit:Cs) (m:Nat),ds=[bY fit,.int ((m+1:Nat):Int)]/\fit.Sublist cs/\fit≠[]/\m+1<=n/\r=iM cs m fit
def Jq(cs:Cs)(n:Nat)(ds:`g)(r:PyData):Prop:=∃(fit:Cs) (g:`f) (m:Nat),ds=[bY fit,aH g,.int ((m+1:Nat):Int)]/\fit.Sublist cs/\fit≠[]/\g∈cs/\m+1<=n/\r=d8 (aw cs m) fit g
theorem si:∀fit:Cs,lM (fit.map aH)=some fit
 |[]=>rfl
 |x::r=>by
  show (dU (aH x)).bind (λk=>(lM (r.map aH)).map (k:: ·))=_
  rw [si r,show dU (aH x)=some x from bM x]
  rfl
theorem Dd(fit:Cs)(m:Int):HC (.tuple [.tuple (fit.map aH),.int m])=some (fit,m):=by
 show (lM (fit.map aH)).map _=_;rw [si];rfl
section
variable {K:Fg} {P:Program} {w:World} {C:Addr} {cs:Cs} {n:Nat} {E:XK}
structure PlC (K:Fg) (C:Addr):Prop where
 cl:Cls K C
 nC:NoAttr K C "codes"
 nF:NoAttr K C "found"
theorem lw {T:PlC K C}{H:Hp}{σ:St}{p d dx l:Addr}{Q:VK}(hs:σ[0]? =some (some (.ref p)))(h:H p=some (.ins C dx [("codes",.ref l),("found",.ref d)]))(q:Q (.ref d) H):uQ K (bJ 0) "found" σ H Q:=
 ⟨.ref p,hs,p,C,dx,_,.ref d,rfl,h,T.cl,T.nF,rfl,q⟩
theorem De {T:PlC K C}{H:Hp}{σ:St}{p d dx l:Addr}{Q:VK}(hs:σ[0]? =some (some (.ref p)))(h:H p=some (.ins C dx [("codes",.ref l),("found",.ref d)]))(q:Q (.ref l) H):uQ K (bJ 0) "codes" σ H Q:=
 ⟨.ref p,hs,p,C,dx,_,.ref l,rfl,h,T.cl,T.nC,rfl,q⟩
def δ2(fit:Cs)(m:Nat):aS:=[none,some (.fz (bY fit)),some (.fz (.int (m:Int))),none]
theorem Nk(T:PlC K C)(hc:cs.length<=16)(hn:n<=16){t1 t2:TT}{te1 tk:TE}{f1 f2:aS->Option Bool}{g1 gk:aS->Option PyData}(h1:ST K t1 f1)(h2:SE K te1 g1)(h3:ST K t2 f2)(h4:SE K tk gk)
 (e1:∀fit m,f1 (δ2 fit m)=some (decide (fit.length=1))) (e2:∀fit m,fit.length=1->g1 (δ2 fit m)=some (aH (fit.headD []))) (e3:∀fit m,f2 (δ2 fit m)=some (decide (m=0))) (e4:∀fit m,fit.length<=16->gk (δ2 fit m)=some (.tuple [.tuple (fit.map aH),.int (m:Int)]))
 {vs:List V} {H:Hp} {Q:VK} {E':XK} {D:Ends} (hD:D.rt=Q) (h:u9 K P w C (bY cs) (WPl cs) 2 (ua cs n) vs H Q E'):
 gM (uP t1 (rY te1) qS) (gM (uP t2 (rY (tC .non)) qS) (gM (iW tk (cV 3)) (gM (uP (tB (CT P w (bJ 3) (uQ K (bJ 0) "found"))) (LC P w (uQ K (bJ 0) "found") (bJ 3) (qV C "search" (u9 K P w C (bY cs) (WPl cs) 2 (Jp cs n)) [] E (bJ 0) (bU (bJ 1) (bU (bJ 2) dJ)))) qS) (rY (vc P w (uQ K (bJ 0) "found") (bJ 3)))))) D (vs.map some++[none]) H:=by
 obtain⟨F,p,d,xs,args,ds,r,rfl,hl,sT,S,hd,nF,M,ar,⟨fit,m,rfl,sub,ne,mn,rfl⟩,q⟩:=h;subst hD;obtain⟨x,_,rfl,ix,y,_,rfl,iy,ir⟩:=ar;cases ir;cases (show y=V.int (m:Int)from iy)
 have R1:Rep K (bC H d (dW P w d xs)) F F [some (.ref p),some x,some (.int (m:Int)),none] H (δ2 fit m):=((Rep.zero (σ:=[some (.ref p),some x,some (.int (m:Int)),none]) sT nF hd).know (i:=1) rfl ix).know (i:=2) (d:=.int (m:Int)) rfl rfl;refine h1 _ F F _ H _ _ _ R1 (e1 fit m) λH1 F1 g1'=>?_;have R1':=R1.grow g1'
 by_cases hl1:fit.length=1
 . rw [decide_eq_true hl1,if_pos rfl];refine h2 _ F F1 _ H1 _ _ _ R1' (e2 fit m hl1) λv H2 F2 g2 i2=>?_;refine q v H2 F2 xs (R1'.grow g2).g (M.same (g1'.f.trans g2.f)) ?_;rw [vd cs hl1];exact i2
 . rw [decide_eq_false hl1,if_neg Q4];refine h3 _ F F1 _ H1 _ _ _ R1' (e3 fit m) λH2 F2 g2'=>?_;have R2:=R1'.grow g2';have sF2:Same F F2:=g1'.f.trans g2'.f;cases m with
   |zero=>
    rw [decide_eq_true rfl,if_pos rfl];refine q .non H2 F2 xs R2.g (M.same sF2) ?_;rw [sg cs hl1];rfl
   |succ m=>
    rw [decide_eq_false (Nat.succ_ne_zero m),if_neg Q4];have fl:fit.length<=16:=Qc sub.length_le hc;refine h4 _ F F2 _ H2 _ _ _ R2 (e4 fit (m+1) fl) λkv H3 F3 g3 i3=>?_;obtain⟨b,rfl,kb⟩:=Jm (Dd fit ((m+1:Nat):Int)) i3;have R3:=(R2.grow g3).set (i:=3) i3;have sF3:Same F F3:=sF2.trans g3.f;have M3:=M.same sF3;have S3:Self K C (bY cs) F3 H3 p d:=((S.pure g1').pure g2').pure g3;obtain⟨dx,l,hp,hcd⟩:=id S3;have hd3:H3 d=some (dW P w d xs):=R3.g.at_;have nF3:F3 d=none:=R3.g.no_ nF;refine⟨.ref b,rfl,lw (T:=T) rfl hp ⟨d,b,xs,oM (fit,((m+1:Nat):Int)),rfl,rfl,hd3,M3.keys R3.g.s,KeyM.same kb R3.g.s,_,rfl,?_⟩⟩;cases hg:jz xs (oM (fit,((m+1:Nat):Int)))with
    |some cv=>
     obtain⟨c,v⟩:=cv;refine pQ ?_;obtain⟨dv,hw,iv,sv⟩:=M3.look hg;show vc P w (uQ K (bJ 0) "found") (bJ 3) _ _ D.rt;unfold vc;refine lw (T:=T) rfl hp ⟨.ref b,rfl,d,b,xs,_,c,v,rfl,rfl,hd3,M3.keys R3.g.s,KeyM.same kb R3.g.s,hg,sv,?_⟩;obtain⟨m',z1,_,_,rfl⟩:=hw;have:m+1=m':=by have:=z1;simp only at this;lia
     subst this;exact q v H3 F3 xs R3.g M3 iv
    |none=>
     refine pR ?_;refine iR (ds:=[bY fit,.int ((m+1:Nat):Int)]) (r:=iM cs m fit) R3 nF M3 rfl S3 (by decide) (by decide) (aD (aE 1) (aD (aE 2) aK)) rfl rfl ⟨fit,m,rfl,sub,ne,mn,rfl⟩ λv H4 F4 xs4 R4 M4 S4 s4 i4=>?_
     obtain⟨dx4,l4,hp4,_⟩:=id S4;have hd4:H4 d=some (dW P w d xs4):=R4.g.at_;have nF4:F4 d=none:=R4.g.no_ nF;have kb4:KeyM F4 b (oM (fit,((m+1:Nat):Int))):=KeyM.same kb s4;have sv:=wf i4 (qb cs m fit);refine lw (T:=T) rfl hp4 ⟨.ref b,rfl,d,b,xs4,_,rfl,rfl,sv,hd4,M4.keys R4.g.s,KeyM.same kb4 R4.g.s,MQ hc M4 (λk v h=>WPl.dom k v h),?_⟩;have np:p≠d:=λz=>by rw [z,hd4]at hp4;exact we hp4
     have M5:=M4.put kb4 i4 (qb cs m fit) ⟨m+1,rfl,by lia,sub,(mo cs hl1 m).symm⟩
     have g5:=R4.g.memT (Grow.memPut (xs':=ml xs4 (oM (fit,((m+1:Nat):Int))) b v) R4.g.s nF4 hd4);obtain⟨c,hg5⟩:=HE (xs:=xs4) (k:=oM (fit,((m+1:Nat):Int))) (b:=b) (v:=v);show vc P w (uQ K (bJ 0) "found") (bJ 3) _ _ D.rt;unfold vc;refine lw (T:=T) rfl (by rw [aM np];exact hp4) ⟨.ref b,rfl,d,b,_,_,c,v,rfl,rfl,aR,M5.keys g5.s,KeyM.same kb4 g5.s,hg5,sv,?_⟩
     refine q v _ F4 _ g5 M5 ?_;rw [mo cs hl1];exact i4
end
section
variable {K:Fg} {P:Program} {w:World} {C:Addr} {cs:Cs} {n:Nat} {E:XK}
def δ5(fit:Cs)(m:Nat)(v3 v4:Option Sl):aS:=[none,some (.fz (bY fit)),some (.fz (.int (m:Int))),v3,v4]
theorem Df(T:PlC K C)(hc:cs.length<=16){tm:TE}{tn:TT}{fm:aS->Option PyData}{fn:aS->Option Bool}(h1:SE K tm fm)(h2:ST K tn fn)
 (e1:∀fit m v3 v4,fm (δ5 fit (m+1) v3 v4)=some (.int (m:Int))) (e2:∀fit m d v4,fn (δ5 fit m (some (.fz d)) v4)=some (!pK d))
 {vs:List V} {H:Hp} {Q:VK} {E':XK} {D:Ends} (hD:D.rt=Q) (h:u9 K P w C (bY cs) (WPl cs) 2 (Jp cs (n+1)) vs H Q E'):
 gM (iW (qV C "plan_within" (u9 K P w C (bY cs) (WPl cs) 2 (ua cs n)) [] E (bJ 0) (bU (bJ 1) (bU tm dJ))) (cV 3)) (gM (uP tn (rY (bJ 3)) qS)
  (gM (xW (DD K (uQ K (bJ 0) "codes")) (cV 4) (gM (iW (qV C "plan_by" (u9 K P w C (bY cs) (WPl cs) 3 (Jq cs (n+1))) [] E (bJ 0) (bU (bJ 1) (bU (bJ 4) (bU (bJ 2) dJ)))) (cV 3)) (uP tn (rY (bJ 3)) qS))) (rY (tC .non)))) D (vs.map some++[none,none]) H:=by
 obtain⟨F,p,d,xs,args,ds,r,rfl,hl,sT,S,hd,nF,M,ar,⟨fit,m,rfl,sub,ne,mn,rfl⟩,q⟩:=h;subst hD;obtain⟨x,_,rfl,ix,y,_,rfl,iy,ir⟩:=ar;cases ir;cases (show y=V.int ((m+1:Nat):Int)from iy)
 have R1:Rep K (bC H d (dW P w d xs)) F F [some (.ref p),some x,some (.int ((m+1:Nat):Int)),none,none] H (δ5 fit (m+1) none none):=((Rep.zero (σ:=[some (.ref p),some x,some (.int ((m+1:Nat):Int)),none,none]) sT nF hd).know (i:=1) rfl ix).know (i:=2) (d:=.int ((m+1:Nat):Int)) rfl rfl;have sa:SA K (bU (bJ 1) (bU tm dJ)) (aB (aF 1) (aB fm aL)):=aD (aE 1) (aD h1 aK);refine iR (ds:=[bY fit,.int (m:Int)]) (r:=aw cs m fit) R1 nF M rfl S (by decide) (by decide) sa (by show (some (bY fit)).bind _=_;rw [zD];show ((fm (δ5 fit (m+1) none none)).bind _).bind _=_;rw [e1];rfl) rfl ⟨fit,m,rfl,sub,ne,by lia,rfl⟩ λv H2 F2 xs2 R2 M2 S2 s2 i2=>?_
 have R3:=R2.set (i:=3) i2;have R3:Rep K (bC H d (dW P w d xs2)) F F2 [some (.ref p),some x,some (.int ((m+1:Nat):Int)),some v,none] H2 (δ5 fit (m+1) (some (.fz (aw cs m fit))) none):=R3;refine h2 _ F F2 _ H2 _ _ _ R3 (e2 fit (m+1) _ none) λH4 F4 g4=>?_;have R4:=R3.grow g4;have sF4:Same F F4:=s2.trans g4.f;have M4:=M2.same g4.f;cases hN:pK (aw cs m fit)with
 |false=>
  refine pR ?_;refine⟨v,rfl,q v H4 F4 xs2 R4.g M4 ?_⟩;unfold iM;rw [hN,if_neg Q4];exact i2.same g4.f
 |true=>
  refine pQ ?_;have S4:=S2.pure g4;obtain⟨dx,l,hp,icd⟩:=id S4;obtain⟨l',ys,z,fl,ay⟩:=icd;cases z;have it:=xm (K:=K) fl ay;show xW (DD K (uQ K (bJ 0) "codes")) (cV 4) _ _ _ _;unfold xW DD;refine De (T:=T) rfl hp ⟨l,rfl,.inl ⟨⟨ys,SqL.of (R4.g.s _ _ fl)⟩,?_⟩⟩;have gN:aw cs m fit=.none:=by
   cases hz:aw cs m fit<;>rw [hz]at hN<;>first|rfl|cases hN
  rw [gN]at R4;have done:iM cs m fit=fH (aw cs m) fit cs:=by
   unfold iM;rw [gN,if_pos (show pK PyData.none=true from rfl)]
  rw [done]at q;have dl:(cs.map aH).length=cs.length:=zJ _;refine⟨λj k σ H'=>k=cs.length - j/\j<=cs.length/\∃F' xs' v3 v4 vs4,σ=[some (.ref p),some x,some (.int ((m+1:Nat):Int)),v3,v4]/\Rep K (bC H d (dW P w d xs')) F F' σ H' (δ5 fit (m+1) (some (.fz .none)) vs4)/\Mv K (WPl cs) F' xs'/\Self K C (bY cs) F' H' p d/\Same F4 F'/\fH (aw cs m) fit cs=fH (aw cs m) fit (cs.drop j),⟨cs.length,by simp,zU _,F4,xs2,some v,none,none,rfl,R4,M4,S4,Same.refl _,rfl⟩,?_⟩
  rintro j k σ' H' ⟨rfl,hle,F',xs',v3,v4,vs4,rfl,R',M',S',s',e'⟩
  by_cases hlt:j < cs.length
  . refine .inr ⟨it.go j F' H' `e s' R'.g.s,λσ H'=>j+1<=cs.length/\∃F' xs' v3 v4 vs4,σ=[some (.ref p),some x,some (.int ((m+1:Nat):Int)),v3,v4]/\Rep K (bC H d (dW P w d xs')) F F' σ H' (δ5 fit (m+1) (some (.fz .none)) vs4)/\Mv K (WPl cs) F' xs'/\Self K C (bY cs) F' H' p d/\Same F4 F'/\fH (aw cs m) fit cs=fH (aw cs m) fit (cs.drop (j+1)),
     λσ2 H2 q=>⟨cs.length - (j+1),by lia,rfl,q⟩,λu H5 y=>?_⟩
    have hdj:(cs.map aH)[j]? =some (aH cs[j]):=by rw [zK,dS hlt];rfl
    obtain⟨F5,g5,i5⟩:=it.yld j _ F' H' u H5 hdj s' R'.g.s y;have R5:=(R'.grow g5).set (i:=4) i5;have R5:Rep K (bC H d (dW P w d xs')) F F5 [some (.ref p),some x,some (.int ((m+1:Nat):Int)),v3,some u] H5 (δ5 fit (m+1) (some (.fz .none)) (some (.fz (aH cs[j])))):=R5;have gm:cs[j]∈cs:=AA hlt;refine iR (ds:=[bY fit,aH cs[j],.int ((m+1:Nat):Int)]) (r:=d8 (aw cs m) fit cs[j]) R5 nF (M'.same g5.f) rfl (S'.pure g5) (by decide) (by decide) (aD (aE 1) (aD (aE 4) (aD (aE 2) aK))) rfl rfl ⟨fit,cs[j],m,rfl,sub,ne,gm,mn,rfl⟩ λv6 H6 F6 xs6 R6 M6 S6 s6 i6=>?_
    have R7:=R6.set (i:=3) i6;have R7:Rep K (bC H d (dW P w d xs6)) F F6 [some (.ref p),some x,some (.int ((m+1:Nat):Int)),some v6,some u] H6 (δ5 fit (m+1) (some (.fz (d8 (aw cs m) fit cs[j]))) (some (.fz (aH cs[j])))):=R7;refine h2 _ F F6 _ H6 _ _ _ R7 (e2 fit (m+1) _ _) λH8 F8 g8=>?_;have R8:=R7.grow g8;have M8:=M6.same g8.f;have S8:=S6.pure g8;rw [NC hlt]at e';cases hB:pK (d8 (aw cs m) fit cs[j])with
    |false=>
     refine pR ?_;refine⟨v6,rfl,q v6 H8 F8 xs6 R8.g M8 ?_⟩;rw [e',fH,hB,if_neg Q4];exact i6.same g8.f
    |true=>
     refine pQ ?_;have bN:d8 (aw cs m) fit cs[j]=.none:=by
      cases hz:d8 (aw cs m) fit cs[j]<;>rw [hz]at hB<;>first|rfl|cases hB
     rw [bN]at R8;refine⟨hlt,F8,xs6,some v6,some u,some (.fz (aH cs[j])),rfl,R8,M8,S8,s'.trans (g5.f.trans (s6.trans g8.f)),?_⟩;rw [e',fH,hB,if_pos rfl]
  . have e3:j=cs.length:=by lia
    subst e3;refine .inl ⟨by rw [<-dl];exact it.stop F' H' s' R'.g.s,?_⟩
    rw [List.drop_length]at e';exact q .non H' F' xs' R'.g M' (by rw [e'];rfl)
end
section
variable {K:Fg} {P:Program} {w:World} {C:Addr} {cs:Cs} {n:Nat} {E:XK}
theorem Self.of_rep {p d:Addr}{cd:PyData}{xs':List Em}{H0 F0 F H:Hp}{σ:St}{δ:aS}(s:Self K C cd F0 H0 p d)(hd:H0 d=some (dW P w d xs))(R:Rep K (bC H0 d (dW P w d xs')) F0 F σ H δ):Self K C cd F H p d:=by
 obtain⟨dx,l,h1,h2⟩:=s;have np:p≠d:=λz=>by rw [z,hd]at h1;exact we h1
 exact⟨dx,l,R.g.ne_ np h1,h2.same R.g.f⟩
theorem Dg {H0 F0 F H:Hp}{σ:St}{δ:aS}{i:Nat}{te:TE}{fe:aS->Option PyData}{ds:`g}{d:PyData}{D:Ends}(R:Rep K H0 F0 F σ H δ)(q:δ[i]? =some (some (.ow ds)))(a:SE K te fe)(e:fe δ=some d)(hl:ds.length < fD)
 (k:∀F' H',Rep K H0 F0 F' σ H' (δ.set i (some (.ow (ds++[d]))))->Same F F'->D.nx σ H'):k7 (IH K "list" iK (bJ i) (bU te dJ)) D σ H:=by
 obtain⟨p,xs,q1,q2,q3,q4,q5⟩:=R.ow i ds q;refine⟨.ref p,q1,.inl ⟨rfl,xs,SqL.of q2⟩,a H0 F0 F σ H δ d _ R e λv H1 F1 g1 i1=>⟨p,xs,v,rfl,rfl,g1.h _ _ q2,?_,?_⟩⟩
 . rw [q5.length];exact lF (AF hl)
 . exact k F1 _ ((R.grow g1).mut q q1 (g1.o _ _ q2 (λ_ z=>nomatch z) q3) q4 ((q5.same g1.f).append (Are.one i1))) g1.f
def δ8(fit:Cs)(g:`f)(m:Nat)(v4 v5 v6 v7:Option Sl):aS:=[none,some (.fz (bY fit)),some (.fz (aH g)),some (.fz (.int (m:Int))),v4,v5,v6,v7]
theorem Nl(pd:Cs->List Int->PyData){tp tg tm trow tret:TE}{ws:TI}{tn:TT}{fp fg fm frow fret:aS->Option PyData}{fs:aS->Option `g}{fn:aS->Option Bool}
 (hp:SE K tp fp) (hs:SI K ws fs) (hg:SE K tg fg) (hm:SE K tm fm) (hn:ST K tn fn) (hrow:SE K trow frow) (hret:SE K tret fret)
 (ne':∀fit g k,k∈eZ fit g->b9 fit g k≠[]) (few:∀fit g,fit.Sublist cs->g∈cs->(eZ fit g).length<=1000)
 (ep:∀fit g m,fit.Sublist cs->g∈cs->fp (δ8 fit g m none none none none)=some (pd fit g)) (es:∀fit g m v5,fit.Sublist cs->g∈cs->fs (δ8 fit g m (some (.fz (pd fit g))) v5 none none)=some ((eZ fit g).map aH))
 (eg:∀fit g m v5 v7 k,fit.Sublist cs->g∈cs->k∈eZ fit g->fg (δ8 fit g m (some (.fz (pd fit g))) v5 (some (.fz (aH k))) v7)=some (bY (b9 fit g k)))
 (em:∀fit g m v4 v5 v6 v7,fm (δ8 fit g (m+1) v4 v5 v6 v7)=some (.int (m:Int))) (en:∀fit g m v4 v5 v6 d,fn (δ8 fit g m v4 v5 v6 (some (.fz d)))=some (pK d))
 (er:∀fit g m v4 v5 a d,frow (δ8 fit g m v4 v5 (some (.fz a)) (some (.fz d)))=some (.tuple [a,d])) (et:∀fit g m v4 v6 v7 rows,rows.length<=1000->fret (δ8 fit g m v4 (some (.fz (.list rows))) v6 v7)=some (.tuple [aH g,.tuple rows]))
 {vs:List V} {H:Hp} {Q:VK} {E':XK} {D:Ends} (hD:D.rt=Q) (h:u9 K P w C (bY cs) (WPl cs) 3 (Jq cs (n+1)) vs H Q E'):
 gM (iW tp (cV 4)) (gM (iW (uR dJ) (cV 5)) (gM (xW ws (cV 6) (gM (iW (qV C "plan_within" (u9 K P w C (bY cs) (WPl cs) 2 (ua cs n)) [] E (bJ 0) (bU tg (bU tm dJ))) (cV 7)) (gM (uP tn (rY (tC .non)) qS) (k7 (IH K "list" iK (bJ 5) (bU trow dJ)))))) (rY tret))) D (vs.map some++[none,none,none,none]) H:=by
 obtain⟨F,p,d,xs,args,ds,r,rfl,hl,sT,S,hd,nF,M,ar,⟨fit,g,m,rfl,sub,ne,gm,mn,rfl⟩,q⟩:=h;subst hD;obtain⟨x,_,rfl,ix,y,_,rfl,iy,z,_,rfl,iz,ir⟩:=ar;cases ir;cases (show z=V.int ((m+1:Nat):Int)from iz)
 have R1:Rep K (bC H d (dW P w d xs)) F F [some (.ref p),some x,some y,some (.int ((m+1:Nat):Int)),none,none,none,none] H (δ8 fit g (m+1) none none none none):=(((Rep.zero (σ:=[some (.ref p),some x,some y,some (.int ((m+1:Nat):Int)),none,none,none,none]) sT nF hd).know (i:=1) rfl ix).know (i:=2) rfl iy).know (i:=3) (d:=.int ((m+1:Nat):Int)) rfl rfl;refine hp _ F F _ H _ _ _ R1 (ep fit g (m+1) sub gm) λv2 H2 F2 g2 i2=>?_;have R2:=(R1.grow g2).set (i:=4) i2;have R2:Rep K (bC H d (dW P w d xs)) F F2 [some (.ref p),some x,some y,some (.int ((m+1:Nat):Int)),some v2,none,none,none] H2 (δ8 fit g (m+1) (some (.fz (pd fit g))) none none none):=R2;have so:SO K (uR dJ) (bd aL):=cZ aK;show iW (uR dJ) (cV 5) _ _ _;unfold iW;refine so _ F F2 _ H2 _ [] _ R2 rfl λa ys H3 F3 g3 n0 nf3 ha3 ar3=>?_;have R3:Rep K (bC H d (dW P w d xs)) F F3 [some (.ref p),some x,some y,some (.int ((m+1:Nat):Int)),some v2,some (.ref a),none,none] H3 (δ8 fit g (m+1) (some (.fz (pd fit g))) (some (.ow [])) none none):=
  (R2.grow g3).setO (i := 5) ha3 nf3 (R2.g.h.free n0) ar3 λ j es _ e => by
   rcases j with _|_|_|_|_|_|_|_|j<;>simp [δ8]at e
 refine hs _ F F3 _ H3 _ _ _ R3 (es fit g (m+1) _ sub gm) λJ H4 F4 g4 it=>?_;have R4:=R3.grow g4;have M4:=M.same (g2.f.trans (g3.f.trans g4.f));have dl:((eZ fit g).map aH).length=(eZ fit g).length:=zJ _;have rowL:=few fit g sub gm;generalize hK:eZ fit g=ks at*;refine⟨λj k σ H'=>k=ks.length - j/\j<=ks.length/\∃F' xs' v6 v7 w6 w7,σ=[some (.ref p),some x,some y,some (.int ((m+1:Nat):Int)),some v2,some (.ref a),v6,v7]/\
  Rep K (bC H d (dW P w d xs')) F F' σ H' (δ8 fit g (m+1) (some (.fz (pd fit g))) (some (.ow ((ks.take j).map λk=>.tuple [aH k,aw cs m (b9 fit g k)]))) w6 w7)/\Mv K (WPl cs) F' xs'/\Same F4 F'/\∀k∈ks.take j,pK (aw cs m (b9 fit g k))=false,
  ⟨ks.length,by simp,zU _,F4,xs,none,none,none,none,rfl,R4,M4,Same.refl _,λk hk=>by rw [List.take_zero]at hk;cases hk⟩,?_⟩
 rintro j k σ' H' ⟨rfl,hle,F',xs',v6,v7,w6,w7,rfl,R',M',s',ok⟩
 by_cases hlt:j < ks.length
 . refine .inr ⟨it.go j F' H' `e s' R'.g.s,λσ H'=>j+1<=ks.length/\∃F' xs' v6 v7 w6 w7,σ=[some (.ref p),some x,some y,some (.int ((m+1:Nat):Int)),some v2,some (.ref a),v6,v7]/\
    Rep K (bC H d (dW P w d xs')) F F' σ H' (δ8 fit g (m+1) (some (.fz (pd fit g))) (some (.ow ((ks.take (j+1)).map λk=>.tuple [aH k,aw cs m (b9 fit g k)]))) w6 w7)/\Mv K (WPl cs) F' xs'/\Same F4 F'/\∀k∈ks.take (j+1),pK (aw cs m (b9 fit g k))=false,
    λσ2 H2 q=>⟨ks.length - (j+1),by lia,rfl,q⟩,λu H5 y'=>?_⟩
   have hdj:(ks.map aH)[j]? =some (aH ks[j]):=by rw [zK,dS hlt];rfl
   obtain⟨F5,g5,i5⟩:=it.yld j _ F' H' u H5 hdj s' R'.g.s y';have R5:=(R'.grow g5).set (i:=6) i5;have R5:Rep K (bC H d (dW P w d xs')) F F5 [some (.ref p),some x,some y,some (.int ((m+1:Nat):Int)),some v2,some (.ref a),some u,v7] H5 (δ8 fit g (m+1) (some (.fz (pd fit g))) (some (.ow ((ks.take j).map λk=>.tuple [aH k,aw cs m (b9 fit g k)]))) (some (.fz (aH ks[j]))) w7):=R5;have km:ks[j]∈ks:=AA hlt;have sa:SA K (bU tg (bU tm dJ)) (aB fg (aB fm aL)):=aD hg (aD hm aK);refine iR (ds:=[bY (b9 fit g ks[j]),.int (m:Int)]) (r:=aw cs m (b9 fit g ks[j])) R5 nF (M'.same g5.f) rfl (S.of_rep hd R5) (by decide) (by decide) sa (by
    show (fg _).bind _=_;rw [eg fit g (m+1) _ _ _ sub gm (by rw [hK];exact km),zD]
    show ((fm _).bind _).bind _=_;rw [em];rfl) rfl ⟨b9 fit g ks[j],m,rfl,(sh fit g ks[j]).trans sub,ne' fit g _ (by rw [hK];exact km),by lia,rfl⟩ λv6 H6 F6 xs6 R6 M6 S6 s6 i6=>?_
   have R7:=R6.set (i:=7) i6;have R7:Rep K (bC H d (dW P w d xs6)) F F6 [some (.ref p),some x,some y,some (.int ((m+1:Nat):Int)),some v2,some (.ref a),some u,some v6] H6 (δ8 fit g (m+1) (some (.fz (pd fit g))) (some (.ow ((ks.take j).map λk=>.tuple [aH k,aw cs m (b9 fit g k)]))) (some (.fz (aH ks[j]))) (some (.fz (aw cs m (b9 fit g ks[j]))))):=R7;refine hn _ F F6 _ H6 _ _ _ R7 (en fit g (m+1) _ _ _ _) λH8 F8 g8=>?_;have R8:=R7.grow g8;have M8:=M6.same g8.f;cases hB:pK (aw cs m (b9 fit g ks[j]))with
   |true=>
    refine pR ?_;refine q .non H8 F8 xs6 R8.g M8 ?_;have:d8 (aw cs m) fit g=.none:=by
     unfold d8;rw [hK,if_neg];rw [Q2];intro z;have:=z _ km;rw [hB]at this;cases this
    rw [this];rfl
   |false=>
    refine pQ ?_;show k7 (IH K "list" iK (bJ 5) (bU trow dJ)) _ _ _;refine Dg (i:=5) R8 rfl hrow (er fit g (m+1) _ _ _ _) (by rw [zJ,List.length_take];exact kZ (show _ < 1001 by lia) (by decide)) λF9 H9 R9 s9=>?_
    have tk:ks.take (j+1)=ks.take j++[ks[j]]:=NB hlt;refine⟨hlt,F9,xs6,some u,some v6,some (.fz (aH ks[j])),some (.fz (aw cs m (b9 fit g ks[j]))),rfl,?_,M8.same s9,s'.trans (g5.f.trans (s6.trans (g8.f.trans s9))),λk hk=>?_⟩
    . rw [tk,AB];exact R9
    . rw [tk]at hk
      rcases Ca.mp hk with hk|hk
      . exact ok k hk
      . rw [Q7.mp hk];exact hB
 . have e3:j=ks.length:=by lia
   subst e3;refine .inl ⟨by rw [<-dl];exact it.stop F' H' s' R'.g.s,?_⟩
   rw [List.take_length]at R' ok;obtain⟨F9,s9,R9⟩:=R'.frz 5;have R9:Rep K (bC H d (dW P w d xs')) F F9 _ H' (δ8 fit g (m+1) (some (.fz (pd fit g))) (some (.fz (.list (ks.map λk=>.tuple [aH k,aw cs m (b9 fit g k)])))) w6 w7):=R9;refine hret _ F F9 _ H' _ _ _ R9 (et fit g (m+1) _ _ _ _ (by rw [zJ];exact rowL)) λv H10 F10 g10 i10=>?_
   refine q v H10 F10 xs' (R9.grow g10).g (M'.same (s9.trans g10.f)) ?_;have:d8 (aw cs m) fit g=.tuple [aH g,.tuple (ks.map λk=>.tuple [aH k,aw cs m (b9 fit g k)])]:=by
    unfold d8;rw [hK,if_pos];rw [Q2];intro k hk;rw [ok k hk];rfl
   rw [this];exact i10
end
end DL
namespace L2
open PySem
section
variable {prog:Program} {w:World} {A:Around} {E:`d} {s:Shared} {d:Addr} {o:Obj} {es:Array DictEntry} {ep:Nat}
end
end L2
namespace DL
open PySem L2
section
variable {K:Fg}
end
def kf(fit:Cs)(g:`f):Cs:=(d7 g [] fit).map (·.1)
section
variable {K:Fg} {P:Program} {w:World} {cs:Cs} {n:Nat} {gm:PyData}
def S9(gv fv:V)(d b:Addr)(m:Nat)(u5 u6 u7 u8:Option V):St:=[some gv,some fv,some (.int ((m+1:Nat):Int)),some (.ref d),some (.ref b),u5,u6,u7,u8]
end
section
variable {K:Fg} {P:Program} {w:World} {cs:Cs} {n:Nat} {gm:PyData}
end
section
variable {K:Fg} {P:Program} {w:World} {C:Addr} {cs:Cs} {n:Nat} {E:XK}
def Jr(P:Program)(w:World)(C:Addr):Sp:=λvs H Q _=>∃x dx l,vs=[.ref x,.ref l]/\H x=some (.ins C dx [])/\∀d,H d=none->Q .non (bC (bC (bC H x (.ins C dx [("codes",.ref l)])) d (dW P w d [])) x (.ins C dx [("codes",.ref l),("found",.ref d)]))
theorem Js(T:PlC K C){vs:List V}{H:Hp}{Q:VK}{E':XK}{D:Ends}(hD:∀σ H,D.nx σ H=Q .non H)(h:Jr P w C vs H Q E'):gM (L6 K (bJ 0) (bJ 1) "codes") (L6 K (bJ 0) (LB P w) "found") D (vs.map some) H:=by
 obtain⟨x,dx,l,rfl,hx,q⟩:=h;refine⟨.ref l,rfl,.ref x,rfl,x,C,dx,[],rfl,hx,T.cl,T.nC,by decide,λd hd=>⟨.ref x,rfl,x,C,dx,[("codes",.ref l)],rfl,?_,T.cl,T.nF,by show 1 < 1000;decide,?_⟩⟩
 . have nx:x≠d:=λz=>by rw [<-z,aR]at hd;cases hd
   rw [aM nx];exact aR
 . rw [hD];have hd':H d=none:=by
    by_cases z:d=x
    . rw [z,aR]at hd;cases hd
    . rw [aM z]at hd;exact hd
   exact q d hd'
variable {xs:List Em}{F H:Hp}
theorem Grow.memEnd {F1 H1 F' H':Hp}{d:Addr}(g1:Grow F H F1 H1)(hn:H d=none)(g2:Grow F1 (bC H1 d (dW P w d xs)) F' H'):Grow F H F' H':=
 ⟨g1.f.trans g2.f,g2.s,λb u e=>g2.ne_ (aQ e hn) (g1.h b u e),λb u e t z=>g2.o b u (by rw [aM (aQ e hn)];exact g1.h b u e) t (g1.o b u e t z)⟩
theorem Rep.drop {H0 F0:Hp}{σ:St}{δ:aS}(R:Rep K H0 F0 F σ H δ)(i:Nat)(v:V):Rep K H0 F0 F (σ.set i (some v)) H (δ.set i none):=by
 have old:∀{j:Nat} {s:Sl},(δ.set i none)[j]? =some (some s)->j≠i/\δ[j]? =some (some s):=λ{j s} e=>by
  rcases aa e with ⟨_,z⟩|⟨n,z⟩
  . cases z
  . exact⟨n,z⟩
 refine⟨R.g,by rw [Q9,Q9];exact R.len,λj d e=>?_,λj ds e=>?_,λj l ds es a e1 e2 e3 e4=>?_,λj ds e=>?_,λj l ds es a e1 e2 e3 e4=>?_,R.tb⟩
 . rw [ae (old e).1];exact R.fz j d (old e).2
 . rw [ae (old e).1];exact R.ow j ds (old e).2
 . rw [ae (old e1).1]at e3;rw [ae (old e2).1]at e4;exact R.ap j l ds es a (old e1).2 (old e2).2 e3 e4
 . rw [ae (old e).1];exact R.od j ds (old e).2
 . rw [ae (old e1).1]at e3;rw [ae (old e2).1]at e4;exact R.ad j l ds es a (old e1).2 (old e2).2 e3 e4
theorem Rep.toM {H0 F0:Hp}{σ:St}{δ:aS}{d:Addr}(R:Rep K H0 F0 F σ H δ)(z:fG δ=true)(n:F d=none)(hd:H d=some (dW P w d xs)):Rep K (bC H d (dW P w d xs)) F F σ H δ:=
 ⟨Grow.memU R.g.s n hd, R.len, R.fz, λ j ds e => (by
  obtain⟨_,y⟩:=bX z e;cases y),R.ap,λj ds e=>(by
  obtain⟨_,y⟩:=bX z e;cases y),R.ad,R.tb⟩
def D5(g a f:PyData)(w4:Option Sl):aS:=[some (.fz g),some (.fz a),some (.fz f),none,w4]
structure PlanOk (cs fit:Cs) (N:Nat):Prop where
 few:cs.length<=16
 sub:fit.Sublist cs
 ne:fit≠[]
 n16:N<=16
 yes:pK (aw cs N fit)=false
 no:∀j,j < N->pK (aw cs j fit)=true
theorem MR {v:V}{d:PyData}(i:Is K F v d):decide (v=V.non)=pK d:=by
 cases d with
 |none=>rw [show v=.non from i];rfl
 |bool b=>rw [show v=.bl b from i];rfl
 |int b=>rw [show v=.int b from i];rfl
 |str b=>rw [show v=.str b from i];rfl
 |list ds=>obtain⟨a,xs,rfl,_⟩:=i;rfl
 |tuple ds=>obtain⟨a,xs,rfl,_⟩:=i;rfl
 |dict kvs=>obtain⟨a,rfl,_⟩:=i;rfl
theorem HH(T:PlC K C){t1 t2 t3:TE}{f1 f2 f3:aS->Option PyData}(h1:SE K t1 f1)(h2:SE K t2 f2)(h3:SE K t3 f3){g a u:PyData}{fit:Cs}{N:Nat}(ok:PlanOk cs fit N)
 (e1:f1 [some (.fz g),some (.fz a),none,none,none]=some (bY fit)) (e2:f2 (D5 g a (bY fit) none)=some u) (e3:f3 (D5 g a (bY fit) none)=some (bY cs))
 {vs:List V} {F H:Hp} {Q:VK} {D:Ends} (hD:D.rt=Q) (sT:xi K F H) (ar:Are K F vs [g,a]) (q:∀v H' F',Grow F H F' H'->Is K F' v (.tuple [.int (N:Int),aw cs N fit])->Q v H'):
 gM (iW t1 (cV 2)) (gM (k7 t2) (gM (iW (K8 C (Jr P w C) [] E (bU t3 dJ)) (cV 3)) (gM (iW (tC (.int 0)) (cV 4)) (gM (AG (xX (LY (λx y H Q=>y=.non/\Q (.bl (decide (x=.non))) H) (qV C "plan_within" (u9 K P w C (bY cs) (WPl cs) 2 (ua cs 16)) [] E (bJ 3) (bU (bJ 2) (bU (bJ 4) dJ))) (tC .non))) (LX 4 (tC (.int 1)) (AE λi j=>.int (i+j))))
  (rY (Cj (bU (bJ 4) (bU (qV C "plan_within" (u9 K P w C (bY cs) (WPl cs) 2 (ua cs 16)) [] E (bJ 3) (bU (bJ 2) (bU (bJ 4) dJ))) dJ)))))))) D (vs.map some++[none,none,none]) H:=by
 subst hD;obtain⟨x,_,rfl,ix,y,_,rfl,iy,ir⟩:=ar;cases ir;have R1:Rep K H F F [some x,some y,none,none,none] H [some (.fz g),some (.fz a),none,none,none]:=nr (N:=["","","","",""]) (vs:=[x,y]) (ds:=[g,a]) sT ⟨x,_,rfl,ix,y,_,rfl,iy,rfl⟩;refine h1 _ F F _ H _ _ _ R1 e1 λv2 H2 F2 g2 i2=>?_;have R2:Rep K H F F2 [some x,some y,some v2,none,none] H2 (D5 g a (bY fit) none):=(R1.grow g2).set (i:=2) i2;refine h2 _ F F2 _ H2 _ _ _ R2 e2 λv3 H3 F3 g3 i3=>?_;have R3:=R2.grow g3;refine h3 _ F F3 _ H3 _ _ _ R3 e3 λv4 H4 F4 g4 i4=>?_;have R4:=R3.grow g4;obtain⟨l,ys,rfl,hl,al⟩:=i4;intro p dx hp hdx ndx;refine⟨p,dx,l,rfl,aR,λd hd=>⟨rfl,?_⟩⟩;have np:d≠p:=λz=>by rw [z,aR]at hd;cases hd
 rw [aM np]at hd;have nx:d≠dx:=λz=>by rw [z,aR]at hd;cases hd
 rw [aM nx]at hd;generalize hH5:bC (bC (bC (bC (bC H4 dx (.own p)) p (.ins C dx [])) p (.ins C dx [("codes",.ref l)])) d (dW P w d [])) p (.ins C dx [("codes",.ref l),("found",.ref d)])=H5;have hk:Same H4 H5:=λb o e=>by
  rw [<-hH5,aM (aQ e hp),aM (aQ e hd),aM (aQ e hp),aM (aQ e hp),aM (aQ e hdx)];exact e
 have g5:Grow F4 H4 F4 H5:=⟨Same.refl _,R4.g.s.trans hk,hk,λ_ _ _ _ z=>z⟩;have hp5:H5 p=some (.ins C dx [("codes",.ref l),("found",.ref d)]):=by rw [<-hH5,aR]
 have hd5:H5 d=some (dW P w d []):=by rw [<-hH5,aM np,aR]
 have nd4:F4 d=none:=R4.g.s.free hd;have R5:Rep K H F F4 [some x,some y,some v2,some (.ref p),none] H5 (D5 g a (bY fit) none):=(R4.grow g5).drop 3 (.ref p);have Hd:H d=none:=R4.g.h.free hd;have R6:Rep K H F F4 [some x,some y,some v2,some (.ref p),some (.int 0)] H5 (D5 g a (bY fit) (some (.fz (.int 0)))):=R5.set (i:=4) (v:=.int 0) (d:=.int 0) rfl;have gE:=R6.g;have R7:Rep K (bC H5 d (dW P w d [])) F4 F4 [some x,some y,some v2,some (.ref p),some (.int 0)] H5 (D5 g a (bY fit) (some (.fz (.int 0)))):=R6.toM rfl nd4 hd5;have S5:Self K C (bY cs) F4 H5 p d:=⟨dx,l,hp5,l,ys,rfl,hl,al⟩;have sa:SA K (bU (bJ 2) (bU (bJ 4) dJ)) (aB (aF 2) (aB (aF 4) aL)):=aD (aE 2) (aD (aE 4) aK);refine⟨λk σ H'=>∃(j:Nat) (F':Hp) (xs':List Em),k=N - j/\j<=N/\σ=[some x,some y,some v2,some (.ref p),some (.int (j:Int))]/\Rep K (bC H5 d (dW P w d xs')) F4 F' σ H' (D5 g a (bY fit) (some (.fz (.int (j:Int)))))/\Mv K (WPl cs) F' xs',
  ⟨N,0,F4,[],rfl,zU _,rfl,R7,Mv.nil⟩,?_⟩
 rintro k σ' H' ⟨j,F',xs',rfl,hj,rfl,R',M'⟩;refine iR (i:=3) (ds:=[bY fit,.int (j:Int)]) (r:=aw cs j fit) R' nd4 M' rfl (S5.of_rep hd5 R') (by decide) (by decide) sa rfl rfl ⟨fit,j,rfl,ok.sub,ok.ne,Qc hj ok.n16,rfl⟩ λv8 H8 F8 xs8 R8 M8 S8 s8 i8=>?_
 refine⟨rfl,_,rfl,?_⟩;rw [MR i8]
 by_cases hjN:j < N
 . rw [ok.no j hjN];refine pR ?_;refine⟨λσ H'=>∃(F':Hp) (xs':List Em),σ=[some x,some y,some v2,some (.ref p),some (.int ((j+1:Nat):Int))]/\Rep K (bC H5 d (dW P w d xs')) F4 F' σ H' (D5 g a (bY fit) (some (.fz (.int ((j+1:Nat):Int)))))/\Mv K (WPl cs) F' xs',λσ2 H2 z=>?_,?_⟩
   . obtain⟨F',xs',z1,z2,z3⟩:=z;exact⟨N - (j+1),by lia,j+1,F',xs',rfl,hjN,z1,z2,z3⟩
   . refine⟨.int (j:Int),rfl,(j:Int),1,rfl,rfl,F8,xs8,?_,R8.set (i:=4) (v:=.int ((j+1:Nat):Int)) (d:=.int ((j+1:Nat):Int)) rfl,M8⟩;rfl
 . have e:j=N:=by lia
   subst e;rw [ok.yes];refine pQ ?_;refine⟨.int (j:Int),rfl,?_⟩;refine iR (i:=3) (ds:=[bY fit,.int (j:Int)]) (r:=aw cs j fit) R8 nd4 M8 rfl S8 (by decide) (by decide) sa rfl rfl ⟨fit,j,rfl,ok.sub,ok.ne,ok.n16,rfl⟩ λv9 H9 F9 xs9 R9 M9 S9 s9 i9=>?_
   refine⟨by show 2<=sizeLine;decide,λt ht=>?_⟩
   have gt:=(gE.memEnd Hd R9.g).trans (Grow.new (p:=t) (o:=.tup [.int (j:Int),v9]) R9.g.s ht);exact q (.ref t) _ _ gt ⟨t,_,rfl,aR,.int (j:Int),_,rfl,rfl,v9,_,rfl,i9.same (bV (R9.g.s.free ht) _),rfl⟩
end
noncomputable def mr(fy:aS->Option PyData)(jc i:Nat):List PyData->aS->Cl->Option DFlow
 |[],δ,kls=>some (.nx (δ.set i (some (.od (lL kls)))))
 |d::r,δ,kls=>(fy (δ.set jc (some (.fz d)))).bind λo=>(dU o).bind λk=>if(decide (kls.length < fD)&&kls.all λp=>decide (p.2.length < fD))=true then mr fy jc i r (δ.set jc (some (.fz d))) (cJ kls k d)else none
def oN(fi:aS->Option `g)(jc i:Nat)(fy:aS->Option PyData)(δ:aS):Option DFlow:=match δ[i]? with
 |some (some (.od []))=>if(fG (δ.set i none)&&decide (jc < δ.length))=true then(fi δ).bind λds=>mr fy jc i ds (δ.set i none) []else none
 |_=>none
section
variable {K:Fg}
theorem Dh {wi:TI}{ty:TE}{fi:aS->Option `g}{fy:aS->Option PyData}(jc i:Nat)(hi:SI K wi fi)(hy:SE K ty fy)(n1:jc≠i:=by decide):
 SS K (xW wi (cV jc) (k7 (IH K "list" iK (Au (bJ i) ty (uR dJ)) (bU (bJ jc) dJ)))) (oN fi jc i fy):=by
 intro H0 F0 F σ H δ r D R e h;unfold oN at e;split at e
 rotate_left
 . cases e
 rename_i q;split at e
 rotate_left
 . cases e
 rename_i z3;rw [Q5]at z3;obtain⟨z,lc⟩:=z3;have lc:=of_decide_eq_true lc;obtain⟨ds,e1,e2⟩:=bind_some e;refine hi H0 F0 F σ H δ ds _ R e1 λJ H1 F1 g1 it=>?_;have P0:PI K H0 F0 F1 σ H1 (δ.set i none) i δ.length []:=by
  obtain⟨a,o,q1,q2,q3,q4,q5⟩:=R.od i _ q;have hm:o=.dT []:=by
   rcases q5 with ⟨m,rfl,k⟩|⟨m,rfl,k⟩
   . rw [show m=[]from k]
   . exact k.elim
  subst hm;exact⟨(R.grow g1).hide i,z,Q9 ..,a,[],q1,g1.h _ _ q2,g1.o _ _ q2 (λ_ y=>nomatch y) q3,q4,⟨⟩,xP.mpr ⟨(λy=>nomatch y),List.nodup_nil⟩⟩
 refine⟨λj m σ H=>m=ds.length - j/\j<=ds.length/\∃F' δ' kls,PI K H0 F0 F' σ H δ' i δ.length kls/\Same F1 F'/\mr fy jc i (ds.drop j) δ' kls=some r,⟨ds.length,by simp,zU _,F1,_,[],P0,Same.refl _,e2⟩,?_⟩
 rintro j m σ' H' ⟨rfl,hle,F',δ',kls,P,s',e'⟩
 by_cases hlt:j < ds.length
 . refine .inr ⟨it.go j F' H' hlt s' P.R.g.s,λσ H=>j+1<=ds.length/\∃F' δ' kls,PI K H0 F0 F' σ H δ' i δ.length kls/\Same F1 F'/\mr fy jc i (ds.drop (j+1)) δ' kls=some r,λσ2 H2 q=>⟨ds.length - (j+1),by lia,rfl,q⟩,λx H2 y=>?_⟩
   have hd:ds[j]? =some ds[j]:=dS hlt;obtain⟨F2,g2,is⟩:=it.yld j _ F' H' x H2 hd s' P.R.g.s y;rw [NC hlt]at e';obtain⟨o,w1,e4⟩:=bind_some e';obtain⟨k,w2,e5⟩:=bind_some e4;clear e' e4;split at e5
   rotate_left
   . cases e5
   rename_i lims;have e':=e5;clear e5;rw [Q5]at lims;have P2:=(P.grow g2).set n1 is;obtain⟨a2,es2,h12,h22,_⟩:=P2.ex;show Au (bJ i) ty (uR dJ) _ _ _;refine⟨.ref a2,h12,a2,rfl,.inr ⟨_,.inl h22⟩,hy H0 F0 F2 _ H2 _ o _ P2.R w1 λv H3 F3 g3 i3=>?_⟩;have P3:=P2.grow g3;have sF3:Same F1 F3:=s'.trans (g2.f.trans g3.f);have ix:Is K F3 x ds[j]:=is.same g3.f;have sl:σ'.length=δ.length:=P.R.len.trans P.ln;generalize hσ4:σ'.set jc (some x)=σ4 at P3 h12;have hjc:σ4[jc]? =some (some x):=by rw [<-hσ4,LJ `e]
   generalize hδ4:δ'.set jc (some (.fz ds[j]))=δ4 at P3 e';unfold dU at w2;split at w2
   rotate_left
   . cases w2
   rename_i dk;obtain⟨c,xs,rfl,u1,u2⟩:=i3;rw [cB w2]at u2;have u3:=Are.ints.mp u2;subst u3;have hc:H3 c=some (.tup ((k.map (Sum.inl:Int->bb)).map kV)):=by rw [jf];exact P3.R.g.s _ _ u1
   obtain⟨a,es,h1,h2,h3,h4,h5,h6⟩:=P3.ex;rw [h12]at h1;cases h1;obtain⟨h7,h8⟩:=xP.mp h6;have fin:∀(H4:Hp) (es4:Es) (kls4:Cl) (e4:List Int×Addr×List V),Rep K H0 F0 F3 σ4 H4 δ4->H4 a2=some (.dT (yY es4))->Ent K H0 F3 H4 es4 kls4->(a2::vX es4).Nodup->es4.find? (λe=>decide (e.1=k))=some e4->
    e4.2.2.length < sizeLine->cJ kls4 k ds[j]=cJ kls k ds[j]->Ow K "list" (.ref e4.2.1) H4/\bU (bJ jc) dJ σ4 H4 λvs H5=>iK (.ref e4.2.1) vs H5 λ_ H6=>j+1<=ds.length/\∃F' δ' kls,PI K H0 F0 F' σ4 H6 δ' i δ.length kls/\Same F1 F'/\mr fy jc i (ds.drop (j+1)) δ' kls=some r:=by
    intro H4 es4 kls4 e4 R4 hm4 E4 nd4 hf4 hz4 hp4;obtain⟨b1,b2,b3,_⟩:=E4.at_ e4 (zR hf4);obtain⟨n41,n42⟩:=xP.mp nd4;have na:a2≠e4.2.1:=λz=>n41 (by rw [z];exact zP (zR hf4))
    obtain⟨es5,m5,a5,E5⟩:=Ent.app ix E4 n42 hf4;exact⟨.inl ⟨rfl,e4.2.2,SqL.of b1⟩,x,hjc,e4.2.1,e4.2.2,x,rfl,rfl,b1,hz4,hlt,F3,δ4,cJ kls k ds[j],⟨R4.upd_ P3.z b2 b3,P3.z,P3.ln,a2,es5,h12,by rw [aM na,m5];exact hm4,h3,h4,hp4▸E5,by rw [a5];exact nd4⟩,sF3,e'⟩
   refine⟨zU _,λp hp=>?_⟩;have Fp:F3 p=none:=P3.R.g.s.free hp;have H0p:H0 p=none:=P3.R.g.h.free hp;have np:p ∉ vX es:=λhm=>by
    obtain⟨e,he,z⟩:=Q6.mp hm;have:=(h5.at_ e he).1;rw [show e.2.1=p from z,hp]at this
    cases this
   have nap:a2≠p:=aQ h2 hp;have nac:c≠a2:=λz=>by rw [z,h2]at hc;cases hc
   refine⟨c,yY es,k.map Sum.inl,rfl,by rw [aM nap];exact h2,by rw [aM (aQ hc hp)];exact hc,?_,?_⟩
   . unfold yY;rw [zJ,h5.len];exact lF (AF (of_decide_eq_true lims.1))
   . rw [yZ];cases hf:es.find? λe=>decide (e.1=k)with
     |some e4=>
      refine⟨λv hv=>?_,λhv=>nomatch hv⟩;cases hv;obtain⟨_,_,_,p4,hp4,ar4⟩:=h5.at_ e4 (zR hf);exact fin _ es kls e4 (P3.R.upd_ P3.z Fp H0p) (by rw [aM nap];exact h2) (h5.updH np) h6 hf (by rw [ar4.length];exact lF (AF (of_decide_eq_true (Q2.mp lims.2 p4 hp4)))) rfl
     |none=>
      refine⟨λv hv=>(nomatch hv),λ_=>?_⟩;rw [Gm hf];have adE:vX (es++[(k,p,[])])=vX es++[p]:=by simp [vX]
      refine fin _ (es++[(k,p,[])]) (kls++[(k,[])]) (k,p,[]) ((P3.R.upd_ P3.z Fp H0p).upd_ P3.z h3 h4) aR (((h5.updH np).snoc aR Fp H0p).updH ?_) ?_ ?_ (kZ (Nat.succ_pos 0) (by decide)) (vY ?_)
      . rw [adE];intro hm
        rcases Ca.mp hm with hm|hm
        . exact h7 hm
        . exact nap (Q7.mp hm)
      . rw [adE];refine xP.mpr ⟨λhm=>?_,List.nodup_append.mpr ⟨h8,List.pairwise_singleton _ _,λy hy w hw z=>?_⟩⟩
        . rcases Ca.mp hm with hm|hm
          . exact h7 hm
          . exact nap (Q7.mp hm)
        . rw [Q7.mp hw]at z;exact np (z▸hy)
      . rw [List.find?_append,hf]
        simp
      . have:=h5.find (k:=k);rw [hf]at this;cases hz:kls.find? λp=>decide (p.1=k)with
        |none=>rfl
        |some _=>rw [hz]at this;cases this
 . have e3:j=ds.length:=by lia
   subst e3;rw [List.drop_length]at e';cases e';obtain⟨a,es,h1,h2,h3,h4,h5,h6⟩:=P.ex;obtain⟨F3,s3,R3,k3,o3⟩:=P.R.frzE P.z h5;exact .inl ⟨it.stop F' H' s' P.R.g.s,h F3 σ' H' (R3.putD P.z h1 h2 (by rw [o3 a (xP.mp h6).1];exact h3) h4 (.inl ⟨_,rfl,k3⟩)) (g1.f.trans (s'.trans s3))⟩
end
theorem Pk {n:Nat}(h:n+64 < cLine):n+3 < cLine:=IG (Nat.add_le_add_left (by decide) n) h
def Jt(fit:Cs)(g:`f):PyData:=.dict (lL (d7 g [] fit))
variable {d:PyData}{k:`f}
theorem HI {p:List Int×List PyData}:∀{m:Cl},(m.map (·.1)).Nodup->p∈cJ m k d->(p∈m/\p.1≠k)\/(p=(k,[d])/\k ∉ m.map (·.1))\/∃q,(k,q)∈m/\p=(k,q++[d])
 |[],_,h=>.inr (.inl ⟨Q7.mp h,λz=>nomatch z⟩)
 |q::r,nd,h=>by
  obtain⟨n1,n2⟩:=xP.mp (show (q.1::r.map (·.1)).Nodup from nd)
  unfold cJ at h;split at h
  . rename_i e
    rcases Q3.mp h with h|h
    . exact .inr (.inr ⟨q.2,by rw [<-e];exact gG,by rw [h,e]⟩)
    . exact .inl ⟨iJ _ h,λz=>n1 (by rw [e, <-z];exact zP h)⟩
  . rename_i e
    rcases Q3.mp h with h|h
    . exact .inl ⟨by rw [h];exact gG,by rw [h];exact e⟩
    . rcases HI n2 h with ⟨a,b⟩|⟨a,b⟩|⟨q',a,b⟩
      . exact .inl ⟨iJ _ a,b⟩
      . refine .inr (.inl ⟨a,λz=>?_⟩)
        rcases Q3.mp (show k∈q.1::r.map (·.1)from z)with z|z
        . exact e z.symm
        . exact b z
      . exact .inr (.inr ⟨q',iJ _ a,b⟩)
theorem wg {j:`f}:∀{m:Cl},j∈(cJ m k d).map (·.1)↔j∈m.map (·.1)\/j=k
 |[]=>by simp [cJ]
 |q::r=>by
  unfold cJ;split
  . rename_i e
    constructor
    . intro h;exact .inl h
    . rintro(h|h)
      . exact h
      . rw [h, <-e];exact gG
  . show j∈q.1::(cJ r k d).map (·.1)↔j∈q.1::r.map (·.1)\/j=k
    rw [Q3,Q3,wg (m:=r),or_assoc]
theorem LD:∀{m:Cl},(m.map (·.1)).Nodup->((cJ m k d).map (·.1)).Nodup
 |[],_=>by simp [cJ]
 |q::r,nd=>by
  obtain⟨n1,n2⟩:=xP.mp (show (q.1::r.map (·.1)).Nodup from nd)
  unfold cJ;split
  . exact nd
  . rename_i e;refine xP.mpr ⟨λh=>?_,LD n2⟩
    rcases wg.mp h with h|h
    . exact n1 h
    . exact e h
theorem HJ(a b:Cs)(g k:`f):b9 (a++b) g k=b9 a g k++b9 b g k:=List.filter_append ..
theorem HK(g:`f):∀(cs seen:Cs) (m:Cl),(m.map (·.1)).Nodup->(∀p∈m,p.2=(b9 seen g p.1).map aH)->(∀k,k∈m.map (·.1)↔ ∃x∈seen,GC.ans x g=k)->
 ((d7 g m cs).map (·.1)).Nodup/\(∀p∈d7 g m cs,p.2=(b9 (seen++cs) g p.1).map aH)/\∀k,k∈(d7 g m cs).map (·.1)↔ ∃x∈seen++cs,GC.ans x g=k
 |[],seen,m,nd,h1,h2=>by
  rw [Q8];exact⟨nd,h1,h2⟩
 |x::r,seen,m,nd,h1,h2=>by
  have:=HK g r (seen++[x]) (cJ m (GC.ans x g) (aH x)) (LD nd) (λp hp=>?_) (λk=>?_)
  . rw [List.append_assoc]at this;exact this
  . rw [HJ]
    rcases HI nd hp with ⟨a,b⟩|⟨a,b⟩|⟨q,a,b⟩
    . have:b9 [x] g p.1=[]:=by
       unfold b9;rw [List.filter_cons_of_neg (by simpa using λz=>b z.symm),List.filter_nil]
      rw [this,Q8];exact h1 p a
    . rw [a];have e1:b9 seen g (GC.ans x g)=[]:=by
       unfold b9;rw [List.filter_eq_nil_iff];intro y hy z;exact b ((h2 _).mpr ⟨y,hy,of_decide_eq_true z⟩)
      have e2:b9 [x] g (GC.ans x g)=[x]:=by
       unfold b9;rw [List.filter_cons_of_pos (by simp),List.filter_nil]
      show [aH x]=(b9 seen g (GC.ans x g)++b9 [x] g (GC.ans x g)).map aH;rw [e1,e2];rfl
    . rw [b];have e2:b9 [x] g (GC.ans x g)=[x]:=by
       unfold b9;rw [List.filter_cons_of_pos (by simp),List.filter_nil]
      show q++[aH x]=(b9 seen g (GC.ans x g)++b9 [x] g (GC.ans x g)).map aH;rw [e2,AB, <-h1 _ a];rfl
  . rw [wg,h2]
    constructor
    . rintro(⟨y,hy,e⟩|e)
      . exact⟨y,Mu _ hy,e⟩
      . exact⟨x,Qb _ (Q7.mpr rfl),e.symm⟩
    . rintro⟨y,hy,e⟩
      rcases Ca.mp hy with hy|hy
      . exact .inl ⟨y,hy,e⟩
      . rw [Q7.mp hy]at e;exact .inr e.symm
theorem pj(fit:Cs)(g:`f):(kf fit g).Nodup/\(∀p∈d7 g [] fit,p.2=(b9 fit g p.1).map aH)/\∀k,k∈kf fit g↔ ∃x∈fit,GC.ans x g=k:=
 HK g fit [] [] List.nodup_nil (λp hp=>nomatch hp) λk=>⟨λz=>(nomatch z),λz=>(by
  obtain⟨x,hx,_⟩:=z;cases hx)⟩
variable {g:`f}{fit:Cs}
theorem sj:k∈eZ fit g↔k∈kf fit g:=(List.mergeSort_perm _ ER).mem_iff
theorem HL(fit:Cs)(g:`f):(eZ fit g).length=(kf fit g).length:=(List.mergeSort_perm _ ER).length_eq
theorem HM(h:k∈kf fit g):b9 fit g k≠[]:=by
 obtain⟨x,hx,e⟩:=((pj fit g).2.2 k).mp h;intro z;have:x∈b9 fit g k:=C9.mpr ⟨hx,decide_eq_true e⟩;rw [z]at this;cases this
theorem kA:∀(fit:Cs) (g k:`f),k∈eZ fit g->b9 fit g k≠[]:=λ_ _ _ h=>HM (sj.mp h)
theorem vf(fit:Cs)(g:`f):(kf fit g).length<=fit.length:=by
 have:=BA (L:=fit.map λx=>GC.ans x g) (pj fit g).1 λk hk=>by
  obtain⟨x,hx,e⟩:=((pj fit g).2.2 k).mp hk;exact Q6.mpr ⟨x,hx,e⟩
 rw [zJ]at this;exact this
variable {cs:Cs}
theorem MS(hc:cs.length<=16):∀fit g,fit.Sublist cs->g∈cs->(eZ fit g).length<=1000:=λfit g s _=>by
 rw [HL];have:=vf fit g;have:=s.length_le;lia
theorem pp:∀m:Cl,gU (lL m)=some (m.map (·.1))
 |[]=>rfl
 |p::m=>by
  have e:gU (lL (p::m))=(dU (aH p.1)).bind (λk=>(gU (lL m)).map (k:: ·)):=rfl
  rw [e,pp m,show dU (aH p.1)=some p.1 from bM p.1]
  rfl
theorem yg:∀{m:Cl} {p:List Int×List PyData},(m.map (·.1)).Nodup->p∈m->m.find? (λq=>decide (q.1=p.1))=some p
 |q::r,p,nd,h=>by
  obtain⟨n1,n2⟩:=xP.mp (show (q.1::r.map (·.1)).Nodup from nd)
  rcases Q3.mp h with rfl|h
  . exact C7 (by simp)
  . rw [B2 (by simpa using λz=>n1 (by rw [z];exact zP h))]
    exact yg n2 h
def gX(cs:Cs):Prop:=∃n,n<=100/\∀x∈cs,x.length=n
def lN(c f:PyData):Option PyData:=
 @dite _ (∃z:Cs×Cs×Nat,c=bY z.1/\f=bY z.2.1/\PlanOk z.1 z.2.1 z.2.2/\gX z.1) (Classical.propDecidable _) (λh=>some (.tuple [.int ((Classical.choose h).2.2:Int),aw (Classical.choose h).1 (Classical.choose h).2.2 (Classical.choose h).2.1])) λ_=>none
theorem qd {c f:PyData}(e:lN c f=some d):∃cs fit N,c=bY cs/\f=bY fit/\PlanOk cs fit N/\gX cs/\d=.tuple [.int (N:Int),aw cs N fit]:=by
 unfold lN at e
 by_cases h:∃z:Cs×Cs×Nat,c=bY z.1/\f=bY z.2.1/\PlanOk z.1 z.2.1 z.2.2/\gX z.1
 . rw [dif_pos h]at e;cases e;obtain⟨h1,h2,h3,h4⟩:=Classical.choose_spec h;exact⟨_,_,_,h1,h2,h3,h4,rfl⟩
 . rw [dif_neg h]at e;cases e
theorem yh {a b:Cs}(h:bY a=bY b):a=b:=by
 unfold bY at h;injection h with h
 exact(List.map_inj_right λx y z=>sI z).mp h
variable {N:Nat}
theorem Di(ok:PlanOk cs fit N)(q:gX cs):lN (bY cs) (bY fit)=some (.tuple [.int (N:Int),aw cs N fit]):=by
 have h:∃z:Cs×Cs×Nat,bY cs=bY z.1/\bY fit=bY z.2.1/\PlanOk z.1 z.2.1 z.2.2/\gX z.1:=⟨(cs,fit,N),rfl,rfl,ok,q⟩;cases e:lN (bY cs) (bY fit)with
 |none=>
  unfold lN at e;rw [dif_pos h]at e;cases e
 |some d=>
  obtain⟨cs',fit',N',e1,e2,ok',_,rfl⟩:=qd e;cases yh e1;cases yh e2;have:N'=N:=by
   rcases Nat.lt_trichotomy N' N with z|z|z
   . have:=ok.no N' z;rw [ok'.yes]at this;cases this
   . exact z
   . have:=ok'.no N z;rw [ok.yes]at this;cases this
  rw [this]
section
variable {K:Fg} {P:Program} {w:World} {C:Addr} {cs:Cs} {n:Nat} {E:XK}
variable {dom:List PyData->PyData->Prop}{W:List `f×Int->PyData->Prop}
theorem oO {cd:PyData}{na:Nat}{vs:List V}{H:Hp}{Q:VK}(h:u9 K P w C cd W na dom vs H Q E):vs.length=na+1:=by
 obtain⟨_,_,_,_,_,_,_,rfl,hl,_⟩:=h;rw [zC,hl]
theorem pu {cd:PyData}{na k:Nat}{vs:List V}{H:Hp}{Q:VK}(N:List Str)(hN:N.length=na+1+k)(h:u9 K P w C cd W na dom vs H Q E):L2.dY N vs=vs.map some++List.replicate k none:=by
 unfold L2.dY;rw [oO h,hN,Nat.add_sub_cancel_left]
end
theorem HP(fit:Cs):j6 (.int ((fit.map aH).length:Nat)) (.int 1)=some (.bool (decide (fit.length=1))):=by
 rw [gK,zJ];congr 2
 exact decide_eq_decide.mpr `e
theorem Nn:∀(fit:Cs) (m:Nat),(dB (d2 j6 (bE fF (aB (aF 1) aL)) (dC (.int 1)))) (δ2 fit m)=some (decide (fit.length=1)):=λfit m=>by
 show ((j6 (.int ((fit.map aH).length:Nat)) (.int 1)).bind _)=_;rw [HP];rfl
theorem No:∀(fit:Cs) (m:Nat),fit.length=1->(d2 cT (aF 1) (dC (.int 0))) (δ2 fit m)=some (aH (fit.headD [])):=λfit m h=>by
 match fit,h with
 |[x],_=>rfl
theorem Np:∀(fit:Cs) (m:Nat),(dB (d2 j6 (aF 2) (dC (.int 0)))) (δ2 fit m)=some (decide (m=0)):=λfit m=>by
 show ((j6 (.int (m:Int)) (.int 0)).bind _)=_;rw [gK];show some _=_;congr 1
 exact decide_eq_decide.mpr `e
theorem Nq:∀(fit:Cs) (m:Nat),fit.length<=16->(cz (aB (bE nw (aB (aF 1) aL)) (aB (aF 2) aL))) (δ2 fit m)=some (.tuple [.tuple (fit.map aH),.int (m:Int)]):=λfit m h=>by
 rfl
theorem Nr:∀(fit:Cs) (m:Nat) v3 v4,(d2 uU (aF 2) (dC (.int 1))) (δ5 fit (m+1) v3 v4)=some (.int (m:Int)):=λfit m v3 v4=>by
 show some (PyData.int (((m+1:Nat):Int) - 1))=_;congr 2
 lia
theorem Nt:∀(fit:Cs) (m:Nat) d v4,(dB (d2 FS (aF 3) (dC .none))) (δ5 fit m (some (.fz d)) v4)=some (!pK d):=λfit m d v4=>by
 cases d<;>rfl
theorem Nu:∀(fit:Cs) (g:`f) (m:Nat) v4 v5 v6 v7,(d2 uU (aF 3) (dC (.int 1))) (δ8 fit g (m+1) v4 v5 v6 v7)=some (.int (m:Int)):=λfit g m v4 v5 v6 v7=>by
 show some (PyData.int (((m+1:Nat):Int) - 1))=_;congr 2
 lia
theorem Nv:∀(fit:Cs) (g:`f) (m:Nat) v4 v5 v6 d,(dB (d2 FR (aF 7) (dC .none))) (δ8 fit g m v4 v5 v6 (some (.fz d)))=some (pK d):=λfit g m v4 v5 v6 d=>by
 cases d<;>rfl
theorem Nw:∀(fit:Cs) (g:`f) (m:Nat) v4 v5 a d,(cz (aB (aF 6) (aB (aF 7) aL))) (δ8 fit g m v4 v5 (some (.fz a)) (some (.fz d)))=some (.tuple [a,d]):=λfit g m v4 v5 a d=>rfl
theorem Ny:∀(fit:Cs) (g:`f) (m:Nat) v4 v6 v7 (rows:`g),rows.length<=1000->(cz (aB (aF 2) (aB (bE nw (aB (aF 5) aL)) aL))) (δ8 fit g m v4 (some (.fz (.list rows))) v6 v7)=some (.tuple [aH g,.tuple rows]):=λfit g m v4 v6 v7 rows h=>rfl
theorem Ju(hc:cs.length<=16)(s:fit.Sublist cs):yG [Jt fit g]=some (.list ((eZ fit g).map aH)):=by
 obtain⟨nd,h1,h2⟩:=pj fit g;have a1:((kf fit g).all λk=> !k.isEmpty)=true:=by
  rw [Q2];intro k hk;obtain⟨x,hx,e⟩:=(h2 k).mp hk;rw [<-e];rfl
 have a3:(kf fit g).length < 64:=by
  have:=vf fit g;have:=s.length_le;lia
 show ((gU (lL (d7 g [] fit))).bind λks=>if(ks.all (λk=> !k.isEmpty)&&decide (ks.length < 64)&&decide ks.Nodup)=true then some (PyData.list ((mJ ks).map λk=>PyData.tuple (k.map PyData.int)))else none)=_;rw [pp,zD];show (if((kf fit g).all (λk=> !k.isEmpty)&&decide ((kf fit g).length < 64)&&decide (kf fit g).Nodup)=true then _ else _)=_;rw [a1,decide_eq_true a3,decide_eq_true nd];rfl
theorem MT(h:k∈kf fit g):CN (Jt fit g) (aH k)=some (bY (b9 fit g k)):=by
 obtain⟨nd,h1,h2⟩:=pj fit g;obtain⟨p,hp,rfl⟩:=Q6.mp h;have e:=h1 p hp;show ((gU (lL (d7 g [] fit))).bind λ_=>(sU (lL (d7 g [] fit)) (aH p.1)).bind λr=>r)=_;rw [pp,zD];have tk:Kk (lL (d7 g [] fit))=true:=by cases d7 g [] fit<;>rfl
 have e2:sU (lL (d7 g [] fit)) (aH p.1)=some (((lL (d7 g [] fit)).find? λq=>decide (dU q.1=some p.1)).map (·.2)):=by
  show ((ee (p.1.map PyData.int)).bind λks=>if Kk (lL (d7 g [] fit))=true then some (((lL (d7 g [] fit)).find? λp=>decide (dU p.1=some ks)).map (·.2))else none)=_
  rw [bM,zD,if_pos tk]
 rw [e2,zD];unfold lL;rw [List.find?_map];have f:((λq:PyData×PyData=>decide (dU q.1=some p.1))∘ λq:List Int×List PyData=>(aH q.1,PyData.list q.2))=λq=>decide (q.1=p.1):=by
  funext q
  show decide (dU (aH q.1)=some p.1)=_;rw [show dU (aH q.1)=some q.1 from bM q.1]
  exact decide_eq_decide.mpr ⟨zV,congrArg some⟩
 rw [f,yg nd hp];show some (PyData.list p.2)=_;rw [e];rfl
theorem Nz(hc:cs.length<=16)(he:gX cs):∀fit g (m:Nat) v5,fit.Sublist cs->g∈cs->(bi (bE yG (aB (aF 4) aL))) (δ8 fit g m (some (.fz (Jt fit g))) v5 none none)=some ((eZ fit g).map aH):=λfit g m v5 s _=>by
 show ((yG [Jt fit g]).bind qt)=_;rw [Ju hc s];rfl
theorem OA(hc:cs.length<=16)(he:gX cs):∀fit g (m:Nat) v5 v7 k,fit.Sublist cs->g∈cs->k∈eZ fit g->(d2 CN (aF 4) (aF 6)) (δ8 fit g m (some (.fz (Jt fit g))) v5 (some (.fz (aH k))) v7)=some (bY (b9 fit g k)):=λfit g m v5 v7 k _ _ h=>MT (sj.mp h)
def okP(cs:Cs)(m:Nat)(fit:Cs):Bool:= !pK (aw cs m fit)
theorem BB(pw:Cs->PyData)(fit:Cs)(g:`f):pK (d8 pw fit g)= !(eZ fit g).all λk=> !pK (pw (b9 fit g k)):=by
 unfold d8;split
 . rename_i h;rw [h];rfl
 . rename_i h;rw [Bool.not_eq_true]at h;rw [h];rfl
theorem sq(pw:Cs->PyData)(fit:Cs):∀gs,pK (fH pw fit gs)= !gs.any λg=>(eZ fit g).all λk=> !pK (pw (b9 fit g k))
 |[]=>rfl
 |g::r=>by
  have b:=BB pw fit g;unfold fH;cases h:pK (d8 pw fit g)with
  |true=>
   rw [if_pos rfl,sq pw fit r,EV];rw [h]at b;cases hh:(eZ fit g).all λk=> !pK (pw (b9 fit g k))with
   |true=>rw [hh]at b;cases b
   |false=>rw [Bool.false_or]
  |false=>
   rw [if_neg Q4,h,EV];rw [h]at b;cases hh:(eZ fit g).all λk=> !pK (pw (b9 fit g k))with
   |true=>rfl
   |false=>rw [hh]at b;cases b
theorem dQ(h:fit.length=1)(m:Nat):okP cs m fit=true:=by
 unfold okP;rw [vd cs h];rfl
theorem oP(h:fit.length≠1):okP cs 0 fit=false:=by
 unfold okP;rw [sg cs h];rfl
theorem im(h:fit.length≠1)(m:Nat):okP cs (m+1) fit=(okP cs m fit||cs.any λg=>(eZ fit g).all λk=>okP cs m (b9 fit g k)):=by
 unfold okP;rw [mo cs h];unfold iM;cases hh:pK (aw cs m fit)with
 |true=>
  rw [if_pos rfl,sq,Bool.not_not];rfl
 |false=>
  rw [if_neg Q4,hh];rfl
variable {m:Nat}
theorem MU(h:okP cs m fit=true):okP cs (m+1) fit=true:=by
 by_cases hl:fit.length=1
 . exact dQ hl _
 . rw [im hl,h];rfl
theorem MV {n:Nat}(h:okP cs m fit=true)(l:m<=n):okP cs n fit=true:=by
 induction l with
 |refl=>exact h
 |step _ ih=>exact MU ih
theorem CU {x:`f}(hx:x∈fit)(h:GC.ans x g≠k):(b9 fit g k).length < fit.length:=by
 unfold b9
 rcases Nat.lt_or_ge (fit.filter λx=>decide (GC.ans x g=k)).length fit.length with z|z
 . exact z
 . have e:=List.filter_sublist.eq_of_length_le z;have:=List.filter_eq_self.mp e x hx;exact absurd (of_decide_eq_true this) h
theorem vg(nd:cs.Nodup)(sep:∀x∈cs,∀y∈cs,GC.ans x y=GC.ans y y->x=y):∀(n:Nat) (fit:Cs),fit.Sublist cs->fit≠[]->fit.length<=n+1->okP cs n fit=true
 |0,fit,s,ne,l=>dQ (by have:=LK.mpr ne;lia) 0
 |n+1,fit,s,ne,l=>by
  by_cases h1:fit.length=1
  . exact dQ h1 _
  . match fit,ne,h1 with
    |g::x::r,_,h1=>
     have nf:=xP.mp (s.nodup nd);have gin:=s.mem (gG (a:=g) (l:=x::r));have xin:x∈cs:=s.mem (iJ _ gG);rw [im h1,Bool.or_eq_true];refine .inr (List.any_eq_true.mpr ⟨g,gin,Q2.mpr λk hk=>?_⟩);have lt:(b9 (g::x::r) g k).length < (g::x::r).length:=by
      by_cases e:GC.ans g g=k
      . refine CU (x:=x) (iJ _ gG) λz=>?_;have:=sep x xin g gin (z.trans e.symm);exact nf.1 (by rw [this];exact gG)
      . exact CU (x:=g) gG e
     exact vg nd sep n _ ((sh _ g k).trans s) (kA _ g k hk) `e
theorem HQ {p:Nat->Bool}:∀n,p n=true->∃m,m<=n/\p m=true/\∀j,j < m->p j=false
 |0,h=>⟨0,Q1 _,h,λj hj=>absurd hj (Nat.not_lt_zero _)⟩
 |n+1,h=>by
  by_cases q:∃i,i<=n/\p i=true
  . obtain⟨i,hi,q⟩:=q
    by_cases e:∃m,m<=i/\p m=true/\∀j,j < m->p j=false
    . obtain⟨m,a,b,c⟩:=e;exact⟨m,by lia,b,c⟩
    . exact absurd (least_of' i q) e
  . exact⟨n+1,Q1 _,h,λj hj=>by
     cases z:p j with
     |false=>rfl
     |true=>exact absurd ⟨j,by lia,z⟩ q⟩
where
 least_of' {p:Nat->Bool} (i:Nat) (h:p i=true):∃m,m<=i/\p m=true/\∀j,j < m->p j=false:=by
  induction i using Nat.strongRecOn with
  |ind i ih=>
   by_cases q:∃j,j < i/\p j=true
   . obtain⟨j,hj,q⟩:=q;obtain⟨m,a,b,c⟩:=ih j hj q;exact⟨m,by lia,b,c⟩
   . exact⟨i,Q1 _,h,λj hj=>by
      cases z:p j with
      |false=>rfl
      |true=>exact absurd ⟨j,hj,z⟩ q⟩
theorem Jv(few:cs.length<=16)(nd:cs.Nodup)(sep:∀x∈cs,∀y∈cs,GC.ans x y=GC.ans y y->x=y)(s:fit.Sublist cs)(ne:fit≠[]):∃N,PlanOk cs fit N:=by
 obtain⟨N,a,b,c⟩:=HQ.least_of' (p:=λn=>okP cs n fit) 16 (vg nd sep 16 fit s ne (by have:=s.length_le;lia))
 refine⟨N,few,s,ne,a,?_,λj hj=>?_⟩
 . have b:(!pK (aw cs N fit))=true:=b;simpa using b
 . have:=c j hj;have:(!pK (aw cs j fit))=false:=this;simpa using this
theorem PlanOk.okP(ok:PlanOk cs fit N):okP cs N fit=true/\∀j,j < N->DL.okP cs j fit=false:=by
 refine⟨?_,λj hj=>?_⟩
 . unfold DL.okP;rw [ok.yes];rfl
 . unfold DL.okP;rw [ok.no j hj];rfl
theorem iN:k∈eZ fit g↔ ∃x∈fit,GC.ans x g=k:=sj.trans ((pj fit g).2.2 k)
theorem wj:∀(m:Nat) {sub fit:Cs},sub.Sublist fit->sub≠[]->okP cs m fit=true->okP cs m sub=true
 |0,sub,fit,s,ne,h=>by
  by_cases h1:fit.length=1
  . refine dQ ?_ 0;have:=s.length_le;have:=LK.mpr ne;lia
  . rw [oP h1]at h;cases h
 |m+1,sub,fit,s,ne,h=>by
  have pos:=LK.mpr ne
  by_cases h0:sub.length=1
  . exact dQ h0 _
  . by_cases h1:fit.length=1
    . have:=s.length_le;lia
    . rw [im h1,Bool.or_eq_true]at h;rw [im h0,Bool.or_eq_true]
      rcases h with h|h
      . exact .inl (wj m s ne h)
      . obtain⟨g,hg,q⟩:=List.any_eq_true.mp h;refine .inr (List.any_eq_true.mpr ⟨g,hg,Q2.mpr λk hk=>?_⟩);obtain⟨x,hx,e⟩:=iN.mp hk;exact wj m (s.filter _) (kA sub g k hk) (Q2.mp q k (iN.mpr ⟨x,s.mem hx,e⟩))
theorem BC(hg:g∈cs)(h:∀k∈eZ fit g,okP cs m (b9 fit g k)=true):okP cs (m+1) fit=true:=by
 by_cases h1:fit.length=1
 . exact dQ h1 _
 . rw [im h1,Bool.or_eq_true];exact .inr (List.any_eq_true.mpr ⟨g,hg,Q2.mpr h⟩)
theorem CV:∀(T:Cs) {fit:Cs},(∀g∈T,g∈cs)->fit≠[]->fit.Nodup->(∀x∈fit,∀y∈fit,(T.map λg=>GC.ans x g)=(T.map λg=>GC.ans y g)->x=y)->okP cs T.length fit=true
 |[],fit,_,ne,nd,sep=>by
  refine dQ ?_ 0
  match fit,ne with
  |[x],_=>rfl
  |x::y::r,_=>
   have:=sep x gG y (iJ _ gG) rfl;exact absurd (by rw [this];exact gG) (xP.mp nd).1
 |g::T,fit,hT,ne,nd,sep=>by
  refine BC (hT g gG) λk hk=>CV T (λg hg=>hT g (iJ _ hg)) (kA fit g k hk) (nd.filter _) λx hx y hy e=>?_;obtain⟨x1,x2⟩:=C9.mp hx;obtain⟨y1,y2⟩:=C9.mp hy;refine sep x x1 y y1 ?_;rw [zI,zI,e,of_decide_eq_true x2,of_decide_eq_true y2]
theorem Jw {φ:List Int->List Int}(ha:∀x∈cs,∀y∈cs,GC.ans (φ x) (φ y)=GC.ans x y)(hin:∀x∈cs,φ x∈cs)(sur:∀y∈cs,∃x∈cs,φ x=y):∀(m:Nat) {fit fit':Cs},(∀x∈fit,x∈cs)->fit'.Perm (fit.map φ)->okP cs m fit'=okP cs m fit:=by
 have pm:∀{fit fit':Cs} {g k:`f},(∀x∈fit,x∈cs)->fit'.Perm (fit.map φ)->g∈cs->(b9 fit' (φ g) k).Perm ((b9 fit g k).map φ):=λ{fit fit' g k} hf p hg=>by
  refine(p.filter _).trans ?_;rw [List.filter_map];have:fit.filter ((λx=>decide (GC.ans x (φ g)=k))∘φ)=b9 fit g k:=List.filter_congr λx hx=>by
   show decide (GC.ans (φ x) (φ g)=k)=_;rw [ha x (hf x hx) g hg]
  rw [this]
 have ks:∀{fit fit':Cs} {g k:`f},(∀x∈fit,x∈cs)->fit'.Perm (fit.map φ)->g∈cs->(k∈eZ fit' (φ g)↔k∈eZ fit g):=λ{fit fit' g k} hf p hg=>by
  rw [iN,iN]
  constructor
  . rintro⟨x',hx',e⟩;obtain⟨x,hx,rfl⟩:=Q6.mp (p.mem_iff.mp hx');exact⟨x,hx,by rw [<-ha x (hf x hx) g hg];exact e⟩
  . rintro⟨x,hx,e⟩;exact⟨φ x,p.mem_iff.mpr (zP hx),by rw [ha x (hf x hx) g hg];exact e⟩
 intro m
 induction m with
 |zero=>
  intro fit fit' hf p;have l:fit'.length=fit.length:=by rw [p.length_eq,zJ]
  by_cases h:fit.length=1
  . rw [dQ h,dQ (l.trans h)]
  . rw [oP h,oP (λz=>h (l.symm.trans z))]
 |succ m ih=>
  intro fit fit' hf p;have l:fit'.length=fit.length:=by rw [p.length_eq,zJ]
  have pf:∀g k,∀x∈b9 fit g k,x∈cs:=λg k x hx=>hf x (C9.mp hx).1
  by_cases h:fit.length=1
  . rw [dQ h,dQ (l.trans h)]
  . rw [im h,im (λz=>h (l.symm.trans z)),ih hf p];congr 1
    rw [Bool.eq_iff_iff,List.any_eq_true,List.any_eq_true]
    constructor
    . rintro⟨g',hg',q⟩;obtain⟨g,hg,rfl⟩:=sur g' hg';refine⟨g,hg,Q2.mpr λk hk=>?_⟩;rw [<-ih (pf g k) (pm hf p hg)];exact Q2.mp q k ((ks hf p hg).mpr hk)
    . rintro⟨g,hg,q⟩;refine⟨φ g,hin g hg,Q2.mpr λk hk=>?_⟩;rw [ih (pf g k) (pm hf p hg)];exact Q2.mp q k ((ks hf p hg).mp hk)
theorem PlanOk.le {m:Nat}(ok:PlanOk cs fit N)(h:DL.okP cs m fit=true):N<=m:=by
 rcases Nat.lt_or_ge m N with z|z
 . rw [ok.okP.2 m z]at h;cases h
 . exact z
theorem PlanOk.zero(ok:PlanOk cs fit N):N=0↔fit.length=1:=by
 constructor
 . intro z;subst z
   by_cases h:fit.length=1
   . exact h
   . have:=ok.okP.1;rw [oP h]at this;cases this
 . intro h;have:=ok.le (dQ h 0);lia
end DL
namespace DL
open PySem PySem.Spec PyProof.Rows L2
def cX(K:Fg)(x:Str)(st:Stmt):Prop:=∃(f:Addr) (fd:FuncData),PySem.W.nsIn K mainGlobals x=some (some (.ref f))/\Fun K x x st f fd
variable {v q r t p:Value}{n o:Option Addr}{s:Array (Option Value)}{f:Addr}{st:Stmt}{x:Str}{K:Fg}
theorem QF {u:Value}(a:PySem.W.nsIn K mainGlobals x=some (some (.ref f)))(l:K.lookup f=some ⟨p,o,.func (PySem.W.fnOf x x (eT st) (bx st) (aO st) .none q r t n u v),s⟩)(c:PySem.W.codeIn K u x=true)(k:PySem.W.keepIn K (.ref f)=true):cX K x st:=
 ⟨f,_,a,AT l c k⟩
def My(K:Fg)(x:Str)(st:Stmt):Prop:=∃(f:Addr) (fd:FuncData) (u:Addr),PySem.W.nsIn K mainGlobals x=some (some (.ref f))/\Fun K x x st f fd/\FunC K x x st f fd u/\PySem.W.codeHdIn K u (Gh K u)=true
theorem QG {u:Addr}(a:PySem.W.nsIn K mainGlobals x=some (some (.ref f)))(l:K.lookup f=some ⟨p,o,.func (PySem.W.fnOf x x (eT st) (bx st) (aO st) .none q r t n (.ref u) v),s⟩)(c:PySem.W.codeIn K (.ref u) x=true)(k:PySem.W.keepIn K (.ref f)=true)(h:PySem.W.codeHdIn K u (Gh K u)=true):My K x st:=
 ⟨f,_,u,a,AT l c k,J5 l c,h⟩
def OB(K:Fg)(C:Addr)(x y:Str)(st:Stmt):Prop:=∃(f:Addr) (fd:FuncData),Meth K C x f/\Fun K x y st f fd
theorem QH {C:Addr}{y:Str}{u:Value}(a:PySem.W.findIn K (.ref C) x=some (some (.ref f)))(l:K.lookup f=some ⟨p,o,.func (PySem.W.fnOf x y (eT st) (bx st) (aO st) .none q r t n u v),s⟩)(c:PySem.W.codeIn K u y=true)(k:PySem.W.keepIn K (.ref f)=true)(i:PySem.W.isFn K (.ref f)=true):OB K C x y st:=
 ⟨f,_,⟨a,i,k⟩,AT l c k⟩
structure Rb (P:Program) (w:World) (K:Fg) (mg:`j) (base:Heap):Prop extends Bt mg where
 r:∀{x:Str} {v:Value},PySem.W.nsIn K mainGlobals x=some (some v)->mg x=some v
def PK(x:Str)(st:Stmt)(ps:List Str):Prop:=∀(kV doc pm:Value) (an:Option Addr) (cdv ct:Value) (us:List Value),us.length=ps.length->bindArgs (PySem.W.fnOf x x (eT st) (bx st) (aO st) .none kV doc pm an cdv ct) ⟨us,[]⟩=pure (ps.zip us)
section
variable {P:Program} {w:World} {base:Heap} {K:Fg} {mg:`j} {k:Nat} {x:Str} {N ps:List Str} {sp:Sp} {st:Stmt}
theorem OwnN.own(B:Rb P w K mg base)(o:OwnN P w K mg base k x ps sp):Own P w K mg base k x ps sp:=by
 obtain⟨f,fd,F,a,q⟩:=o.ex;exact⟨f,fd,F,B.r a,q⟩
theorem HR(z:cX K x st)(F:∀{f:Addr} {fd:FuncData},Fun K x x st f fd->FnOk P w K mg base pH k f fd ps sp)
 (b:PK x st ps:=by first|exact λ_ _ _ _ _ _=>PH λ_=>rfl|exact λ_ _ _ _ _ _=>Mx λ_ _=>rfl|exact λ_ _ _ _ _ _=>MH λ_ _ _=>rfl|exact λ_ _ _ _ _ _=>PJ λ_ _ _ _=>rfl):OwnN P w K mg base k x ps sp:=by
 obtain⟨f,fd,a,e⟩:=z;exact⟨⟨f,fd,F e,a,e.kp,e.binds b⟩⟩
variable {n m:Nat} {fb:aS->Option DFlow}
theorem CW(z:cX K x st)(S:FnScope N ps (aO st))(hbody:∀{f:Addr} {cdv:Value} {A:Around} {outer:List Env} {s:Shared} {H:Hp} {E:XK},Room k (A.deeper (envOfC x (aO st) `a f cdv))->(A.deeper (envOfC x (aO st) `a f cdv)).units+64 < cLine->
 ∃t,PSs (rj pH P w K mg base N x (aO st) f cdv A outer s H E).nox (bx st) t/\SS K t fb) (hN:N.length=n:=by rfl) (hm:ps.length=m:=by rfl)
 (b:PK x st ps:=by first|exact λ_ _ _ _ _ _=>PH λ_=>rfl|exact λ_ _ _ _ _ _=>Mx λ_ _=>rfl|exact λ_ _ _ _ _ _=>MH λ_ _ _=>rfl|exact λ_ _ _ _ _ _=>PJ λ_ _ _ _=>rfl):OwnN P w K mg base (k+1) x ps (f7 K m (bF n fb)):=
 HR z (λF=>Bg F S hN hm λ_ _ _ _ _ _ hr=>hbody hr hr.units) b
theorem ak(B:Rb P w K mg base)(z:cX K x st)(S:FnScope N ps (aO st))(hbody:∀{f:Addr} {cdv:Value} {A:Around} {outer:List Env} {s:Shared} {H:Hp} {E:XK},Room k (A.deeper (envOfC x (aO st) `a f cdv))->(A.deeper (envOfC x (aO st) `a f cdv)).units+64 < cLine->
 ∃t,PSs (rj pH P w K mg base N x (aO st) f cdv A outer s H E).nox (bx st) t/\SS K t fb) (hN:N.length=n:=by rfl) (hm:ps.length=m:=by rfl)
 (b:PK x st ps:=by first|exact λ_ _ _ _ _ _=>PH λ_=>rfl|exact λ_ _ _ _ _ _=>Mx λ_ _=>rfl|exact λ_ _ _ _ _ _=>MH λ_ _ _=>rfl|exact λ_ _ _ _ _ _=>PJ λ_ _ _ _=>rfl):Own P w K mg base (k+1) x ps (f7 K m (bF n fb)):=
 (CW z S hbody hN hm b).own B
theorem CY(B:Rb P w K mg base)(z:My K x st)(S:FnScope N ps (aO st))(hbody:∀{f c:Addr} {fd:FuncData} {A:Around} {outer:List Env} {s:Shared} {H:Hp} {E:XK},FunC K x x st f fd c->PySem.W.codeHdIn K c (Gh K c)=true->Room k (A.deeper (envOfC x (aO st) `a f (.ref c)))->(A.deeper (envOfC x (aO st) `a f (.ref c))).units+64 < cLine->
 ∃t,PSs (rj pH P w K mg base N x (aO st) f (.ref c) A outer s H E).nox (bx st) t/\SS K t fb) (hN:N.length=n:=by rfl) (hm:ps.length=m:=by rfl)
 (b:PK x st ps:=by first|exact λ_ _ _ _ _ _=>Mx λ_ _=>rfl|exact λ_ _ _ _ _ _=>MH λ_ _ _=>rfl):Own P w K mg base (k+1) x ps (f7 K m (bF n fb)):=by
 obtain⟨f,fd,c,a,e,e1,e2⟩:=z;exact⟨⟨f,fd,J6 e1 S hN hm λ_ _ _ _ _ hr=>hbody e1 e2 hr hr.units,B.r a,e.kp,e.binds b⟩⟩
end
end DL
namespace GX
open PySem L2 DL
def lO:aS->Option DFlow:=(ai (d2 nv (d2 nv (d2 ib (aF 0) (dC (.int 48271))) (aF 1)) (aF 2)))
def vh:aS->Option DFlow:=lO
theorem wk:vh=lO:=rfl
def ef:List PyData->Option PyData:=bF 3 vh
def kB:aS->Option DFlow:=(ai (dC (.int 0)))
def iO:aS->Option DFlow:=aX (fR (dB (d2 pI (aF 1) (bE fF (aB (aF 0) aL)))) (ai (d2 cT (aF 0) (aF 1))) az) kB
def sr:aS->Option DFlow:=iO
theorem mL:sr=iO:=rfl
def a8:List PyData->Option PyData:=bF 2 sr
def mM:aS->Option DFlow:=(ai (d2 cT (aF 2) (aG 3 ef (aB (aG 2 a8 (aB (aF 0) (aB (aF 1) aL))) (aB (dC (.int 9973)) (aB (dC (.int 8)) aL))))))
def jU:aS->Option DFlow:=aX (bO 2 (br (bd (Bp [.tuple [.int 2,.int 3],.tuple [.int 3,.int 2],.tuple [.int 2,.int 4],.tuple [.int 4,.int 2],.tuple [.int 1,.int 5],.tuple [.int 2,.int 2],.tuple [.int 1,.int 3],.tuple [.int 2,.int 3]])))) mM
def qe:aS->Option DFlow:=jU
theorem su:qe=jU:=rfl
def d9:List PyData->Option PyData:=bF 3 qe
def oQ:aS->Option DFlow:=(cW 2 (ai (bE nw (aB (aF 2) aL))))
def oR:aS->Option DFlow:=aX (gQ (eO (aB (d2 cT (aF 0) (dC (.int 0))) aL)) (gN 3) (dA 2 (aG 3 ef (aB (d2 bv (d2 bv (aF 1) (d2 ib (d2 ib (dC (.int 31)) (aF 3)) (aF 3))) (d2 ib (dC (.int 7)) (aF 3))) (aB (dC (.int 9967)) (aB (d2 cT (aF 0) (dC (.int 1))) aL)))))) oQ
def oS:aS->Option DFlow:=aX (iE 2 (bd aL)) oR
def sw:aS->Option DFlow:=(aX (iE 2 (bd aL)) (aX (gQ (eO (aB (d2 cT (aF 0) (dC (.int 0))) aL)) (gN 3) (dA 2 (aG 3 ef (aB (d2 bv (d2 bv (aF 1) (d2 ib (d2 ib (dC (.int 31)) (aF 3)) (aF 3))) (d2 ib (dC (.int 7)) (aF 3))) (aB (dC (.int 9967)) (aB (d2 cT (aF 0) (dC (.int 1))) aL)))))) (cW 2 (ai (bE nw (aB (aF 2) aL))))))
theorem ub:sw=oS:=rfl
def bZ:List PyData->Option PyData:=bF 4 sw
def wl:aS->Option DFlow:=(aX (bO 2 (dC (.int 0))) (aX (iE 3 (bd aL)) (aX (iE 4 (bd aL)) (aX (gQ (N1 (aB (aF 0) (aB (aF 1) aL))) (gT 2 (gC (gN 5) (gC (gN 6) gZ))) (fR (dB (d2 j6 (aF 5) (aF 6))) (bO 2 (d2 bv (aF 2) (dC (.int 1)))) (aX (dA 3 (aF 5)) (dA 4 (aF 6))))) (aX (bO 7 (dC (.int 0))) (aX (cW 3 (gQ (bi (aF 3)) (gN 8) (fR (dB (uX false 4 (aF 8))) (aX (gJ 4 (aF 8)) (bO 7 (d2 bv (aF 7) (dC (.int 1))))) az))) (ai (cz (aB (aF 2) (aB (aF 7) aL))))))))))
def au:List PyData->Option PyData:=bF 9 wl
def oU:aS->Option DFlow:=(ai (cz (aB (aF 2) (aB (d2 uU (aF 3) (aF 2)) aL))))
def oV:aS->Option DFlow:=aX (gQ (Lm (aB (aF 1) aL)) (gT 2 (gC (gN 5) (gC (gN 6) gZ))) (aX (fR (dB (d2 j6 (d2 cT (aF 0) (aF 5)) (aF 6))) (pW 2 nt (dC (.int 1))) az) (fR (dB (uX false 4 (aF 6))) (aX (gJ 4 (aF 6)) (pW 3 nt (dC (.int 1)))) az))) oU
def oW:aS->Option DFlow:=aX (iE 4 (sH (aB (aF 0) aL))) oV
def oX:aS->Option DFlow:=aX (bO 3 (dC (.int 0))) oW
def oY:aS->Option DFlow:=aX (bO 2 (dC (.int 0))) oX
def sx:aS->Option DFlow:=(aX (bO 2 (dC (.int 0))) (aX (bO 3 (dC (.int 0))) (aX (iE 4 (sH (aB (aF 0) aL))) (aX (gQ (Lm (aB (aF 1) aL)) (gT 2 (gC (gN 5) (gC (gN 6) gZ))) (aX (fR (dB (d2 j6 (d2 cT (aF 0) (aF 5)) (aF 6))) (pW 2 nt (dC (.int 1))) az) (fR (dB (uX false 4 (aF 6))) (aX (gJ 4 (aF 6)) (pW 3 nt (dC (.int 1)))) az))) (ai (cz (aB (aF 2) (aB (d2 uU (aF 3) (aF 2)) aL))))))))
theorem ud:sx=oY:=rfl
def cD:List PyData->Option PyData:=bF 7 sx
def io:aS->Option DFlow:=(cW 2 (ai (aF 2)))
def iq:aS->Option DFlow:=aX (oN (bi (aF 0)) 3 2 (aG 2 cD (aB (aF 3) (aB (aF 1) aL)))) io
def iu:aS->Option DFlow:=aX (sS 2) iq
def jh:aS->Option DFlow:=(aX (sS 2) (aX (oN (bi (aF 0)) 3 2 (aG 2 cD (aB (aF 3) (aB (aF 1) aL)))) (cW 2 (ai (aF 2)))))
theorem mE:jh=iu:=rfl
def dq:List PyData->Option PyData:=bF 4 jh
def fJ:aS->Option DFlow:=(ai (aF 0))
def dR:aS->Option DFlow:=aX (fR (dP (gO (aF 0))) eX az) fJ
def kh:aS->Option DFlow:=dR
theorem iw:kh=dR:=rfl
def bI:List PyData->Option PyData:=bF 1 kh
def kC:aS->Option DFlow:=(ai (gP (mD "tuple" (aF 0)) (d2 j6 (bE fF (aB (aF 0) aL)) (dC (.int 2)))))
def yi:aS->Option DFlow:=kC
theorem qg:yi=kC:=rfl
def gY:List PyData->Option PyData:=bF 1 yi
def bf:aS->Option DFlow:=(ai (gP (mD "int" (aF 0)) (gP (vI (mD "bool" (aF 0))) (pY Lo Lo (aF 1) (aF 0) (aF 2)))))
def jN:aS->Option DFlow:=bf
theorem cQ:jN=bf:=rfl
def ag:List PyData->Option PyData:=bF 3 jN
def qu:aS->Option DFlow:=(aX (bO 2 (dC (.int 1))) (aX (gQ (eO (aB (aF 0) aL)) (gN 3) (pW 2 ib (aF 1))) (ai (aF 2))))
def gz:List PyData->Option PyData:=bF 4 qu
def BD:aS->Option DFlow:=(ai (d2 Lo (aG 2 gz (aB (d2 cT (aF 0) (dC (.int 0))) (aB (d2 cT (aF 0) (dC (.int 1))) aL))) (dC (.int 300))))
def BE:aS->Option DFlow:=aX (fR (sA (dP (gO (aG 3 ag (aB (d2 cT (aF 0) (dC (.int 0))) (aB (dC (.int 1)) (aB (dC (.int 5)) aL)))))) (dP (gO (aG 3 ag (aB (d2 cT (aF 0) (dC (.int 1))) (aB (dC (.int 1)) (aB (dC (.int 8)) aL))))))) (ai (dC (.bool false))) az) BD
def BF:aS->Option DFlow:=aX (fR (dP (gO (aG 1 gY (aB (aF 0) aL)))) (ai (dC (.bool false))) az) BE
def HS:aS->Option DFlow:=BF
def yj:List PyData->Option PyData:=bF 1 HS
def qv:aS->Option DFlow:=(ai (aF 0))
def qw:aS->Option DFlow:=aX (fR (dP (gO (aG 1 yj (aB (aF 0) aL)))) eX az) qv
def ue:aS->Option DFlow:=qw
def cU:List PyData->Option PyData:=bF 1 ue
def sy:aS->Option DFlow:=(ai (bE xt (aB (br (bK 1 [("game",0)] (bi (aF 1)) (gN 0) dE (aG 3 ag (aB (aF 0) (aB (dC (.int 0)) (aB (d2 uU (d2 cT (aF 1) (dC (.int 1))) (dC (.int 1))) aL)))))) aL)))
def mt:aS->Option DFlow:=aX (fR (sA (dP (gO (mD "tuple" (aF 1)))) (dB (d2 EQ (bE fF (aB (aF 1) aL)) (d2 cT (aF 0) (dC (.int 0)))))) (ai (dC (.bool false))) az) sy
def ym:aS->Option DFlow:=mt
theorem yn:ym=mt:=rfl
def lP:List PyData->Option PyData:=bF 2 ym
def kF:aS->Option DFlow:=(ai (gP (aG 1 gY (aB (aF 1) aL)) (bE xt (aB (br (bK 1 [("game",0)] (bi (aF 1)) (gN 0) dE (aG 3 ag (aB (aF 0) (aB (dC (.int 0)) (aB (d2 cT (aF 1) (dC (.int 0))) aL)))))) aL))))
def tD:aS->Option DFlow:=kF
theorem uf:tD=kF:=rfl
def kG:List PyData->Option PyData:=bF 2 tD
def pz:aS->Option DFlow:=(ai (gP (aG 1 gY (aB (aF 1) aL)) (gP (aG 2 lP (aB (aF 0) (aB (d2 cT (aF 1) (dC (.int 0))) aL))) (aG 2 kG (aB (aF 0) (aB (d2 cT (aF 1) (dC (.int 1))) aL))))))
def CZ:aS->Option DFlow:=pz
theorem BG:CZ=pz:=rfl
def ly:List PyData->Option PyData:=bF 2 CZ
def kj:aS->Option DFlow:=(ai (aF 1))
def kn:aS->Option DFlow:=aX (gQ (Lm (aB (aF 1) aL)) (gT 2 (gC (gN 3) (gC (gN 4) gZ))) (fR (dP (gO (wU 2 "is_ask" 2 ly (aB (aF 0) (aB (aF 4) aL))))) eX az)) kj
def hE:aS->Option DFlow:=aX (fR (sA (dP (gO (mD "list" (aF 1)))) (dB (d2 EO (bE fF (aB (aF 1) aL)) (dC (.int 8))))) eX az) kn
def mN:aS->Option DFlow:=hE
theorem qA:mN=hE:=rfl
def gL:List PyData->Option PyData:=bF 5 mN
def hJ:aS->Option DFlow:=(ai (aG 3 gL (aB (aF 0) (aB (aF 1) (aB (dC (Lv "is_ask")) aL)))))
def mO:aS->Option DFlow:=hJ
theorem qB:mO=hJ:=rfl
def eP:List PyData->Option PyData:=bF 2 mO
def lQ:aS->Option DFlow:=(ai (d2 j6 (aG 2 cD (aB (aF 0) (aB (d2 cT (aF 1) (dC (.int 0))) aL))) (d2 cT (aF 1) (dC (.int 1)))))
def vi:aS->Option DFlow:=lQ
theorem wm:vi=lQ:=rfl
def iS:List PyData->Option PyData:=bF 2 vi
def jO:aS->Option DFlow:=(ai (aF 2))
def jP:aS->Option DFlow:=aX (gQ (bi (aF 1)) (gN 3) (bO 2 (br (bK 1 [("ask",3)] (bi (aF 2)) (gN 0) (gO (aG 2 iS (aB (aF 0) (aB (aF 1) aL)))) (aF 0))))) jO
def fK:aS->Option DFlow:=aX (bO 2 (aF 0)) jP
def ko:aS->Option DFlow:=fK
theorem mv:ko=fK:=rfl
def dH:List PyData->Option PyData:=bF 4 ko
def wn:aS->Option DFlow:=(ai (aF 1))
def wo:aS->Option DFlow:=aX (gQ (eO (aB (d2 cT (aF 0) (dC (.int 0))) aL)) (gN 2) (aX (iE 3 (bd aL)) (aX (gQ (bi (aF 1)) (gN 4) (rJ 3 (br (bK 1 [("code",4)] (eO (aB (d2 cT (aF 0) (dC (.int 1))) aL)) (gN 0) dE (d2 bv (aF 1) (cz (aB (aF 0) aL))))))) (cW 3 (bO 1 (aF 3)))))) wn
def wq:aS->Option DFlow:=aX (bO 1 (br (bd (aB (cz aL) aL)))) wo
def wr:aS->Option DFlow:=aX (iF (aG 1 cU (aB (aF 0) aL))) wq
def BH:aS->Option DFlow:=wr
def be:List PyData->Option PyData:=bF 5 BH
def oZ:aS->Option DFlow:=(ai (aG 2 dH (aB (aG 1 be (aB (aF 0) aL)) (aB (aF 1) aL))))
def oh:aS->Option DFlow:=aX (iF (aG 2 eP (aB (aF 0) (aB (aF 1) aL)))) oZ
def kI:aS->Option DFlow:=aX (iF (aG 1 cU (aB (aF 0) aL))) oh
def tE:aS->Option DFlow:=kI
theorem ug:tE=kI:=rfl
def cE:List PyData->Option PyData:=bF 2 tE
def uh:aS->Option DFlow:=(ai (aF 0))
def ui:aS->Option DFlow:=aX (fR (dB (d2 EO (aG 2 gz (aB (d2 cT (aF 0) (dC (.int 0))) (aB (d2 cT (aF 0) (dC (.int 1))) aL))) (dC (.int 16)))) eX az) uh
def yo:aS->Option DFlow:=ui
def g9:List PyData->Option PyData:=bF 1 yo
def iT(ds:`g):Option PyData:=match ds with
 |[g,a]=>((aG 1 bI (aB (aG 2 cE (aB (aF 0) (aB (aF 1) aL))) aL)) [some (.fz g),some (.fz a),none,none,none]).bind λf=>((aG 1 g9 (aB (aF 0) aL)) (D5 g a f none)).bind λ_=>((aG 1 be (aB (aF 0) aL)) (D5 g a f none)).bind λc=>lN c f
 |_=>none
def jA:aS->Option DFlow:=(ai (d2 cT (aG 2 iT (aB (aF 0) (aB (aF 1) aL))) (dC (.int 0))))
def oj:aS->Option DFlow:=jA
theorem qx:oj=jA:=rfl
def a9:List PyData->Option PyData:=bF 2 oj
def mw:aS->Option DFlow:=(ai (d2 cT (aF 2) (dC (.int 0))))
def mz:aS->Option DFlow:=aX (fR (dB (d2 EO (bE fF (aB (aF 2) aL)) (dC (.int 1)))) (ai (dC .none)) az) mw
def kJ:aS->Option DFlow:=aX (bO 2 (aG 1 bI (aB (aG 2 cE (aB (aF 0) (aB (aF 1) aL))) aL))) mz
def yp:aS->Option DFlow:=kJ
theorem qh:yp=kJ:=rfl
def ga:List PyData->Option PyData:=bF 3 yp
def kt:aS->Option DFlow:=(ai (aF 1))
def hU:aS->Option DFlow:=aX (fR (dP (gO (aG 2 lP (aB (aF 0) (aB (aF 1) aL))))) eX az) kt
def mP:aS->Option DFlow:=hU
theorem qC:mP=hU:=rfl
def eQ:List PyData->Option PyData:=bF 2 mP
def iG:aS->Option DFlow:=(cW 2 (ai (aF 2)))
def iH:aS->Option DFlow:=aX (gQ (bi (aF 0)) (gN 3) (aX (bO 4 (aG 2 cD (aB (aF 3) (aB (aF 1) aL)))) (GH 2 (aF 4) (d2 bv (sV 2 (aF 4) (dC (.int 0))) (dC (.int 1)))))) iG
def iI:aS->Option DFlow:=aX (sS 2) iH
def jQ:aS->Option DFlow:=(aX (sS 2) (aX (gQ (bi (aF 0)) (gN 3) (aX (bO 4 (aG 2 cD (aB (aF 3) (aB (aF 1) aL)))) (GH 2 (aF 4) (d2 bv (sV 2 (aF 4) (dC (.int 0))) (dC (.int 1)))))) (cW 2 (ai (aF 2)))))
theorem lR:jQ=iI:=rfl
def cR:List PyData->Option PyData:=bF 5 jQ
def yq:aS->Option DFlow:=(ai (Al (aG 2 cR (aB (aF 3) (aB (aF 2) aL)))))
def yr:aS->Option DFlow:=aX (iF (aG 2 eQ (aB (aF 0) (aB (aF 2) aL)))) yq
def tF:aS->Option DFlow:=aX (bO 3 (aG 2 cE (aB (aF 0) (aB (aF 1) aL)))) yr
def HU:aS->Option DFlow:=tF
theorem Dj:HU=tF:=rfl
def kK:List PyData->Option PyData:=bF 4 HU
def mQ:aS->Option DFlow:=(ai (d2 cT (aF 4) (dC (.int 0))))
def mR:aS->Option DFlow:=aX (bO 4 (CF (aF 3) [] (cz (aB (AZ (d2 cT (aF 0) (dC (.int 1)))) (aB (d2 cT (aF 0) (dC (.int 0))) aL))))) mQ
def jV:aS->Option DFlow:=aX (bO 3 (aG 1 bI (aB (aG 3 kK (aB (aF 0) (aB (aF 1) (aB (aF 2) aL)))) aL))) mR
def qi:aS->Option DFlow:=jV
theorem tG:qi=jV:=rfl
def eh:List PyData->Option PyData:=bF 5 qi
def HV:aS->Option DFlow:=(aX (bO 2 (br (bd (aB (br (bd aL)) aL)))) (aX (gQ (eO (aB (aF 1) aL)) (gN 3) (aX (iE 4 (bd aL)) (aX (gQ (bi (aF 2)) (gN 5) (aX (bO 6 (NZ (gO (aF 5)) (d2 bv (d2 cT (aF 5) (AZ (dC (.int 1)))) (dC (.int 1))) (dC (.int 0)))) (rJ 4 (br (bK 1 [("choice",5)] (Kc (aB (aF 6) (aB (aF 0) aL))) (gN 0) dE (d2 bv (aF 1) (br (bd (aB (aF 0) aL))))))))) (cW 4 (bO 2 (aF 4)))))) (ai (aF 2))))
def yt:List PyData->Option PyData:=bF 7 HV
def uj:aS->Option DFlow:=(ai (bE nw (aB (br (bK 1 [("code",0)] (bi (aF 1)) (gN 0) dE (aG 2 cD (aB (aF 1) (aB (aF 0) aL))))) aL)))
def yu:aS->Option DFlow:=uj
def qj:List PyData->Option PyData:=bF 2 yu
def tH:aS->Option DFlow:=(cW 3 (ai (Kz (aB (aF 3) aL))))
def tI:aS->Option DFlow:=(wa (bi (aF 0)) 4 5 2 3 (aG 2 qj (aB (aF 4) (aB (aF 1) aL))) tH)
def wt:aS->Option DFlow:=tI
def ol:List PyData->Option PyData:=bF 6 wt
def om:aS->Option DFlow:=(ai (dC .none))
def on:aS->Option DFlow:=aX (gQ (bi (aG 2 yt (aB (bE fF (aB (aF 0) aL)) (aB (aF 1) aL)))) (gN 2) (aX (bO 3 (br (bK 1 [("codes",0)] (bi (aF 2)) (gN 0) dE (d2 cT (aF 1) (aF 0))))) (fR (dB (d2 FR (aG 2 ol (aB (aF 0) (aB (aF 3) aL))) (dC .none))) (ai (aF 3)) az))) om
def qy:aS->Option DFlow:=on
def hV:List PyData->Option PyData:=bF 4 qy
def nA:aS->Option DFlow:=(ai (aF 3))
def nB:aS->Option DFlow:=aX (ma (dB (d2 FR (aF 3) (dC .none))) (aX (pW 2 nt (dC (.int 1))) (bO 3 (aG 2 hV (aB (aF 1) (aB (aF 2) aL))))) 100) nA
def nE:aS->Option DFlow:=aX (bO 3 (aG 2 hV (aB (aF 1) (aB (aF 2) aL)))) nB
def nG:aS->Option DFlow:=aX (bO 2 (dC (.int 0))) nE
def nH:aS->Option DFlow:=aX (bO 1 (aG 1 be (aB (aF 0) aL))) nG
def nI:aS->Option DFlow:=aX (iF (aG 1 g9 (aB (aF 0) aL))) nH
def nJ:aS->Option DFlow:=aX (iF (aG 1 cU (aB (aF 0) aL))) nI
def qD:aS->Option DFlow:=nJ
def aj:List PyData->Option PyData:=bF 4 qD
def wu:aS->Option DFlow:=(ai (Kp (aG 2 cR (aB (aF 0) (aB (aF 1) aL)))))
def BI:aS->Option DFlow:=wu
def tJ:List PyData->Option PyData:=bF 2 BI
def BJ:aS->Option DFlow:=(ai (CF (aF 0) [("fitting",1)] (cz (aB (aG 2 tJ (aB (aF 1) (aB (aF 0) aL))) (aB (d2 (Pz true) (aF 0) (aF 1)) (aB (aF 0) aL))))))
def HW:aS->Option DFlow:=BJ
def yw:List PyData->Option PyData:=bF 2 HW
def Dk:aS->Option DFlow:=(cW 4 (ai (aF 4)))
def Dl:aS->Option DFlow:=aX (ma (dB (d2 EO (bE fF (aB (aF 3) aL)) (dC (.int 1)))) (aX (bO 5 (aG 2 yw (aB (aF 2) (aB (aF 3) aL)))) (aX (bO 6 (cz (aB (aF 5) (aB (aG 2 cD (aB (aF 1) (aB (aF 5) aL))) aL)))) (aX (dA 4 (aF 6)) (bO 3 (aG 2 dH (aB (aF 3) (aB (br (bd (aB (aF 6) aL))) aL))))))) 100) Dk
def Dm:aS->Option DFlow:=aX (iE 4 (bd aL)) Dl
def Dn:aS->Option DFlow:=aX (bO 3 (aF 2)) Dm
def Do:aS->Option DFlow:=aX (bO 2 (aG 1 be (aB (aF 0) aL))) Dn
def Dp:aS->Option DFlow:=aX (iF (aG 2 eQ (aB (aF 0) (aB (aF 1) aL)))) Do
def Dq:aS->Option DFlow:=aX (iF (aG 1 cU (aB (aF 0) aL))) Dp
def Jx:aS->Option DFlow:=Dq
def dw:List PyData->Option PyData:=bF 7 Jx
def qk:aS->Option DFlow:=(ai (gP (bE xt (aB (br (bK 1 [("size",1)] (bi (aF 0)) (gN 0) dE (aG 3 ag (aB (aF 0) (aB (dC (.int 0)) (aB (d2 uU (aF 1) (dC (.int 1))) aL)))))) aL)) (d2 j6 (bE wb (aB (aF 0) aL)) (br (sN (aF 1))))))
def lT:aS->Option DFlow:=aX (fR (sA (dP (gO (mD "tuple" (aF 0)))) (dB (d2 EQ (bE fF (aB (aF 0) aL)) (aF 1)))) (ai (dC (.bool false))) az) qk
def vj:aS->Option DFlow:=lT
theorem wv:vj=lT:=rfl
def ji:List PyData->Option PyData:=bF 2 vj
def jj:aS->Option DFlow:=(ai (aF 0))
def f9:aS->Option DFlow:=aX (fR (dP (gO (aG 2 ji (aB (aF 0) (aB (aF 1) aL))))) eX az) jj
def lU:aS->Option DFlow:=f9
theorem oq:lU=f9:=rfl
def cj:List PyData->Option PyData:=bF 2 lU
def qz:aS->Option DFlow:=(cW 3 (ai (bE nw (aB (aF 3) aL))))
def rA:aS->Option DFlow:=aX (gQ (Lm (aB (aF 0) aL)) (gT 2 (gC (gN 4) (gC (gN 5) gZ))) (GO 3 (d2 cT (aF 1) (aF 4)) (d2 cT (aF 2) (aF 5)))) qz
def rB:aS->Option DFlow:=aX (iE 3 (sH (aB (aF 0) aL))) rA
def uk:aS->Option DFlow:=rB
def bQ:List PyData->Option PyData:=bF 6 uk
def tK:aS->Option DFlow:=(ai (br (bK 1 [("places",2),("colours",3)] (bi (aF 1)) (gN 0) dE (cz (aB (aG 3 bQ (aB (d2 cT (aF 0) (dC (.int 0))) (aB (aF 1) (aB (aF 2) aL)))) (aB (d2 cT (aF 0) (dC (.int 1))) aL))))))
def tL:aS->Option DFlow:=aX (iF (aG 2 cj (aB (aF 3) (aB (d2 cT (aF 0) (dC (.int 1))) aL)))) tK
def tM:aS->Option DFlow:=aX (iF (aG 2 cj (aB (aF 2) (aB (d2 cT (aF 0) (dC (.int 0))) aL)))) tL
def tN:aS->Option DFlow:=aX (iF (aG 2 eP (aB (aF 0) (aB (aF 1) aL)))) tM
def nK:aS->Option DFlow:=aX (iF (aG 1 cU (aB (aF 0) aL))) tN
def yx:aS->Option DFlow:=nK
theorem yy:yx=nK:=rfl
def jB:List PyData->Option PyData:=bF 4 yx
def Jy:aS->Option DFlow:=(cW 3 (ai (d2 j6 (aG 2 a9 (aB (aF 1) (aB (aG 4 jB (aB (aF 1) (aB (aF 3) (aB (aF 9) (aB (aF 10) aL))))) aL))) (aF 6))))
def Jz:aS->Option DFlow:=aX (bO 10 (bE nw (aB (br (bK 1 [("_law_game",1),("_law_script",0)] (eO (aB (d2 cT (aF 1) (dC (.int 1))) aL)) (gN 0) dE (d2 nv (d2 bv (aF 0) (aG 2 a8 (aB (aF 2) (aB (dC (.int 9)) aL)))) (d2 cT (aF 1) (dC (.int 1)))))) aL))) Jy
def ou:aS->Option DFlow:=aX (bO 9 (bE nw (aB (br (bK 1 [("_law_game",1),("_law_script",0)] (eO (aB (d2 cT (aF 1) (dC (.int 0))) aL)) (gN 0) dE (d2 nv (d2 bv (aF 0) (aG 2 a8 (aB (aF 2) (aB (dC (.int 8)) aL)))) (d2 cT (aF 1) (dC (.int 0)))))) aL))) Jz
def ww:aS->Option DFlow:=aX (cW 3 (fR (nn (dB (d2 j6 (aF 3) (br (bd aL)))) (dB (d2 EO (aF 6) (bE uZ (aB (br (bK 1 [("_law_game",1)] (bi (aG 1 be (aB (aF 1) aL))) (gN 0) dE (bE fF (aB (aG 2 dw (aB (aF 1) (aB (aF 0) aL))) aL)))) aL))))) (ai (dC (.bool false))) az)) ou
def rQ:aS->Option DFlow:=aX (cW 3 (fR (nn (dB (d2 j6 (aF 3) (br (bd aL)))) (dB (d2 EO (aF 6) (bE fF (aB (aG 1 aj (aB (aF 1) aL)) aL))))) (ai (dC (.bool false))) az)) ww
def KA:aS->Option DFlow:=aX (fR (dB (d2 pI (d2 bv (dC (.int 1)) (bE uZ (aB (aF 8) aL))) (aF 6))) (ai (dC (.bool false))) az) rQ
def wx:aS->Option DFlow:=aX (cW 3 (bO 8 (br (bK 2 [("_law_game",1),("_law_asks",3),("_law_guess",5)] (bi (aG 3 kK (aB (aF 1) (aB (aF 3) (aB (aF 5) aL))))) (gT 2 (gC (gN 0) (gC (gN 1) gZ))) dE (aG 2 a9 (aB (aF 2) (aB (d2 bv (aF 3) (br (bd (aB (cz (aB (aF 4) (aB (aF 0) aL))) aL)))) aL))))))) KA
def wy:aS->Option DFlow:=aX (cW 3 (fR (sA (dP (dB (d2 Lo (aG 2 a9 (aB (aF 1) (aB (aF 7) aL))) (aF 6)))) (dB (d2 EO (aG 2 a9 (aB (aF 1) (aB (d2 bv (aF 3) (br (bd (aB (cz (aB (aF 5) (aB (aG 2 au (aB (aF 2) (aB (aF 5) aL))) aL))) aL)))) aL))) (aF 6)))) (ai (dC (.bool false))) az)) wx
def MW:aS->Option DFlow:=aX (cW 3 (bO 7 (d2 bv (aF 3) (br (bd (aB (cz (aB (aF 5) (aB (aG 3 eh (aB (aF 1) (aB (aF 3) (aB (aF 5) aL)))) aL))) aL)))))) wy
def tO:aS->Option DFlow:=aX (bO 5 (aG 2 bZ (aB (aF 1) (aB (aG 2 a8 (aB (aF 0) (aB (dC (.int 7)) aL))) aL)))) MW
def wz:aS->Option DFlow:=aX (cW 3 (fR (dB (d2 EQ (d2 j6 (aF 6) (dC (.int 0))) (d2 j6 (aG 2 ga (aB (aF 1) (aB (aF 3) aL))) (aF 2)))) (ai (dC (.bool false))) az)) tO
def xA:aS->Option DFlow:=aX (cW 3 (bO 6 (aG 2 a9 (aB (aF 1) (aB (aF 3) aL))))) wz
def HX:aS->Option DFlow:=aX (gQ (eO (aB (d2 nv (aG 2 a8 (aB (aF 0) (aB (dC (.int 2)) aL))) (dC (.int 4))) aL)) (gN 4) `n) xA
def MX:aS->Option DFlow:=aX (iE 3 (bd aL)) HX
def MY:aS->Option DFlow:=aX (bO 2 (aG 2 bZ (aB (aF 1) (aB (aG 2 a8 (aB (aF 0) (aB (dC (.int 1)) aL))) aL)))) MX
def BK:aS->Option DFlow:=aX (bO 1 (aG 2 d9 (aB (aF 0) (aB (dC (.int 0)) aL)))) MY
def MZ:aS->Option DFlow:=BK
theorem KB:MZ=BK:=rfl
def HY:List PyData->Option PyData:=bF 11 MZ
noncomputable def cn:List (Int×Int):=[(2,3),(3,2),(2,4),(4,2),(1,5),(2,2),(1,3),(3,3),(2,5)]
variable {p c:Int}
theorem yz(h:(p,c)∈cn):(p=2/\c=3)\/(p=3/\c=2)\/(p=2/\c=4)\/(p=4/\c=2)\/(p=1/\c=5)\/(p=2/\c=2)\/(p=1/\c=3)\/(p=3/\c=3)\/(p=2/\c=5):=by
 simpa [cn]using h
theorem eB(h:(p,c)∈cn):1<=p/\p<=4/\2<=c/\c<=5:=by
 rcases yz h with ⟨rfl,rfl⟩|⟨rfl,rfl⟩|⟨rfl,rfl⟩|⟨rfl,rfl⟩|⟨rfl,rfl⟩|⟨rfl,rfl⟩|⟨rfl,rfl⟩|⟨rfl,rfl⟩|⟨rfl,rfl⟩<;>decide
noncomputable def ul(x p m:Int):Int:=x*48271 % p % m
theorem nL(x:Int){y:Int}(h: -1000000000000<=y/\y<=1000000000000):nu x y=true:=by
 unfold nu;rw [decide_eq_true h.1,decide_eq_true h.2]
 simp
theorem qE {x:Int}(y:Int)(h: -1000000000000<=x/\x<=1000000000000):nu x y=true:=by
 unfold nu;rw [decide_eq_true h.1,decide_eq_true h.2]
 simp
theorem HZ(x:Int){p m:Int}(hp:0 < p)(hm:0 < m):ef [.int x,.int p,.int m]=some (.int (ul x p m)):=by
 have c1:nu x 48271=true:=nL x `e
 have c2:wL (x*48271) p=true:=decide_eq_true hp;have c3:wL (x*48271 % p) m=true:=decide_eq_true hm;simp only [ef,wk,lO,bF,iQ,ai,aF,dC,d2,bz,A3,wS,zI,zL,zC,zH,Q8,zA,zB,List.replicate,zD,zG,Nat.reduceAdd,Nat.reduceSub, ↓reduceIte,c1,c2,c3,ul]
theorem Hb(x:Int){p m:Int}(hm:0 < m):0<=ul x p m/\ul x p m < m:=⟨Int.emod_nonneg _ `e,Int.emod_lt_of_pos _ hm⟩
noncomputable def bo(ns:`f)(k:Nat):Int:=ns.getD k 0
theorem kL(ns:`f)(k:Nat):a8 [j5 ns,.int (k:Nat)]=some (.int (bo ns k)):=by
 by_cases h:k < ns.length
 . have d:decide ((k:Int) < (ns.length:Nat))=true:=decide_eq_true `e
   simp only [a8,mL,iO,kB,bF,iQ,aX,fR,ai,aF,dC,d2,bE,aL,aB,dB,az,bz,fF,Fd,zI,zL,zC,zH,Q8,zA,zB,List.replicate,zD,zG,Nat.reduceAdd,Nat.reduceSub, ↓reduceIte,xz,d,Iz,yA h,bo];rw [gh,dS h];rfl
 . have d:decide ((k:Int) < (ns.length:Nat))=false:=decide_eq_false `e
   simp only [a8,mL,iO,kB,bF,iQ,aX,fR,ai,aF,dC,d2,bE,aL,aB,dB,az,bz,fF,Fd,zI,zL,zC,zH,Q8,zA,zB,List.replicate,zD,zG,Nat.reduceAdd,Nat.reduceSub, ↓reduceIte,zN,xz,d,bo];rw [gh,List.getElem?_eq_none `e]
   rfl
theorem tP(n:Nat)(h:n<=1000:=by decide):n<=fD:=Qc h (by decide)
structure Code (p c:Int) (a:`f):Prop where
 len:(a.length:Int)=p
 all:∀n∈a,0<=n/\n<=c - 1
def tQ(p c x:Int):List Int:=(List.range p.toNat).map λi:Nat=>ul (x+31*(i:Int)*(i:Int)+7*(i:Int)) 9967 c
theorem nM(h:(p,c)∈cn)(x:Int):Code p c (tQ p c x):=by
 have b:=eB h;refine⟨by simp [tQ];lia,λn hn=>?_⟩
 obtain⟨i,_,rfl⟩:=Q6.mp hn;have:=Hb (x+31*(i:Int)*(i:Int)+7*(i:Int)) (p:=9967) (m:=c) `e
 lia
theorem xB(h:(p,c)∈cn)(x:Int):bZ [aH [p,c],.int x]=some (aH (tQ p c x)):=by
 have b:=eB h;have m9:∀y,ef [.int y,.int 9967,.int c]=some (.int (ul y 9967 c)):=λy=>HZ y (by decide) `e
 have sm:fZ p=true:=by
  unfold fZ;rw [decide_eq_true (show -1000000000<=p by lia),decide_eq_true (show p<=1000000000 by lia)];rfl
 have len:((List.range p.toNat).map λk:Nat=>PyData.int (0+(k:Int))).length=p.toNat:=by simp
 have i0:cT (.tuple [.int p,.int c]) (.int 0)=some (.int p):=rfl;have i1:cT (.tuple [.int p,.int c]) (.int 1)=some (.int c):=rfl;obtain⟨δ',e1,v,e2⟩:=ie (fg:=(gN 3)) (fb:=(dA 2 (aG 3 ef (aB (d2 bv (d2 bv (aF 1) (d2 ib (d2 ib (dC (.int 31)) (aF 3)) (aF 3))) (d2 ib (dC (.int 7)) (aF 3))) (aB (dC (.int 9967)) (aB (d2 cT (aF 0) (dC (.int 1))) aL))))))
  (ds:=bL 0 p.toNat) (δ:=[some (.fz (.tuple [.int p,.int c])),some (.fz (.int x)),some (.ow []),none])
  (λ i δ => ∃ v, δ = [some (.fz (.tuple [.int p, .int c])), some (.fz (.int x)), some (.ow (((List.range i).map λ i : Nat => ul (x + 31 * (i : Int) * (i : Int) + 7 * (i : Int)) 9967 c).map PyData.int)), v]) ⟨none, rfl⟩ (by
   rintro i hi δ ⟨v,rfl⟩;have hi':i < p.toNat:=by simpa [bL]using hi
   have ei:(bL 0 p.toNat)[i]=.int (i:Nat):=by simp [bL]
   have q1:nu 31 (i:Int)=true:=qE _ `e
   have q2:nu (31*(i:Int)) (i:Int)=true:=nL _ `e
   have q3:nu 7 (i:Int)=true:=qE _ `e
   have q4:(((List.range i).map λi:Nat=>ul (x+31*(i:Int)*(i:Int)+7*(i:Int)) 9967 c).map PyData.int).length < fD:=by
    rw [zJ,zJ,EU];exact kZ (show i < 1000 by lia) (by decide)
   refine⟨_,[some (.fz (.tuple [.int p,.int c])),some (.fz (.int x)),some (.ow (((List.range (i+1)).map λi:Nat=>ul (x+31*(i:Int)*(i:Int)+7*(i:Int)) 9967 c).map PyData.int)),some (.fz (.int (i:Nat)))],rfl,?_,_,rfl⟩;rw [ei];simp only [dA,aF,dC,d2,aG,aL,aB,A3,p7,zC,zH,zA,zB,zE,zF,zD,Nat.reduceAdd, ↓reduceIte,q1,q2,q3,q4,i1,m9];rw [List.range_succ,AB,AB];rfl)
 have len2:(bL 0 p.toNat).length=p.toNat:=by simp [bL]
 rw [len2]at e2;subst e2;have z:(0:Nat)<=fD:=zU _;simp only [bZ,ub,oS,oR,oQ,aH,bF,iQ,aX,iE,ai,cW,gQ,aF,dC,d2,bE,aL,aB,bd,eO,DL.frz,bz,nw,zI,zL,zC,zH,uN,uO,zA,zB,zE,zF,List.replicate,zD,zG,Nat.reduceAdd,Nat.reduceSub, ↓reduceIte,z,i0,sm,e1];rfl
theorem Pl(b:`f){i:Nat}(h:i < b.length):(b.map PyData.int)[i]? =some (.int b[i]):=by rw [zK,dS h];rfl
theorem PL(a:`f){i:Nat}(h:i < a.length):cT (.tuple (a.map PyData.int)) (.int (i:Nat))=some (.int a[i]):=by
 show uS (a.map PyData.int) (i:Int)=_;rw [Bj,yA h];rfl
theorem kM {a b:`f}(l:a.length=b.length)(lim:a.length<=100):cD [aH a,aH b]=some (aH (GC.ans a b)):=by
 obtain⟨δ',e1,v1,v2,e2⟩:=ie (fg:=(gT 2 (gC (gN 5) (gC (gN 6) gZ)))) (fb:=(aX (fR (dB (d2 j6 (d2 cT (aF 0) (aF 5)) (aF 6))) (pW 2 nt (dC (.int 1))) az) (fR (dB (uX false 4 (aF 6))) (aX (gJ 4 (aF 6)) (pW 3 nt (dC (.int 1)))) az))) (ds:=jK (b.map PyData.int))
  (δ:=[some (.fz (.tuple (a.map PyData.int))),some (.fz (.tuple (b.map PyData.int))),some (.fz (.int 0)),some (.fz (.int 0)),some (.ow (a.map PyData.int)),none,none])
  (λ i δ => ∃ v1 v2, δ = [some (.fz (.tuple (a.map PyData.int))), some (.fz (.tuple (b.map PyData.int))), some (.fz (.int (GC.FD (a.take i) (b.take i) : Nat))), some (.fz (.int (GC.k9 a (b.take i) : Nat))), some (.ow ((GC.left a (b.take i)).map PyData.int)), v1, v2]) ⟨none, none, rfl⟩ (by
   rintro i hi δ ⟨v1,v2,rfl⟩;have hi':i < b.length:=by simpa [jK]using hi
   have hia:i < a.length:=by lia
   have ed:(jK (b.map PyData.int))[i]=.tuple [.int (i:Nat),.int b[i]]:=by
    have:=dS hi;obtain⟨e,h1,h2⟩:=pX this;rw [Pl b hi']at h1;cases h1;exact h2
   have et:(a.take i).length=(b.take i).length:=by rw [List.length_take,List.length_take];lia
   have er:GC.FD (a.take (i+1)) (b.take (i+1))=GC.FD (a.take i) (b.take i)+if a[i]=b[i]then 1 else 0:=by rw [GC.lu hia,GC.lu hi',GC.xh _ _ _ _ et]
   have ei:GC.k9 a (b.take (i+1))=GC.k9 a (b.take i)+if b[i]∈GC.left a (b.take i)then 1 else 0:=by rw [GC.lu hi',GC.mZ]
   have eL:GC.left a (b.take (i+1))=if b[i]∈GC.left a (b.take i)then(GC.left a (b.take i)).erase b[i]else GC.left a (b.take i):=by rw [GC.lu hi',GC.pV]
   rw [ed];refine⟨_,_,rfl,?_,some (.fz (.int (i:Nat))),some (.fz (.int b[i])),rfl⟩;rw [er,ei,eL]
   by_cases c1:a[i]=b[i]<;>by_cases c2:b[i]∈GC.left a (b.take i)
   . simp only [aX,fR,pW,gJ,aF,dC,d2,dB,az,uX,rM,zA,zB,zE,zF,zD,zG, ↓reduceIte,zN,PL a hia,gK,bM,if_pos c1,if_pos c2,decide_eq_true c1,decide_eq_true c2];rfl
   . simp only [aX,fR,pW,gJ,aF,dC,d2,dB,az,uX,rM,zA,zB,zE,zF,zD,Option.bind_none,zG, ↓reduceIte,zN,PL a hia,gK,bM,if_pos c1,if_neg c2,decide_eq_true c1,decide_eq_false c2];rfl
   . simp only [aX,fR,pW,gJ,aF,dC,d2,dB,az,uX,rM,zA,zB,zE,zF,zD,zG, ↓reduceIte,zN,PL a hia,gK,bM,if_neg c1,if_pos c2,decide_eq_false c1,decide_eq_true c2];rfl
   . simp only [aX,fR,pW,gJ,aF,dC,d2,dB,az,uX,rM,zA,zB,zE,zF,zD,Option.bind_none,zG, ↓reduceIte,zN,PL a hia,gK,bM,if_neg c1,if_neg c2,decide_eq_false c1,decide_eq_false c2];rfl)
 have len2:(jK (b.map PyData.int)).length=b.length:=by simp [jK]
 have e0:a.take b.length=a:=by rw [<-l,List.take_length]
 rw [len2,List.take_length,e0]at e2;subst e2;have z:(2:Nat)<=fD:=tP 2;simp only [cD,ud,oY,oX,oW,oV,oU,aH,bF,iQ,aX,bO,iE,ai,gQ,aF,dC,d2,aL,aB,cz,qt,Lm,bz,sH,A1,zI,zL,zC,zH,uN,uO,zA,zB,zE,zF,List.replicate,zD,zG,Nat.reduceAdd,Nat.reduceSub, ↓reduceIte,z,e1];rfl
theorem qF(n lo hi:Int):ag [.int n,.int lo,.int hi]=some (.bool (decide (lo<=n)&&decide (n<=hi))):=by
 by_cases h:lo<=n
 . simp only [ag,cQ,bf,bF,iQ,ai,aF,dB,gP,vI,bz,mD,F7,Fc,Fe,pY,zI,zL,zC,zH,Q8,zA,zB,List.replicate,zD,zG,Nat.reduceAdd,Nat.reduceSub, ↓reduceIte,Bool.not_false,Bool.true_and,decide_eq_true h]
 . simp only [ag,cQ,bf,bF,iQ,ai,aF,dB,gP,vI,bz,mD,F7,Fc,Fe,pY,zI,zL,zC,zH,Q8,zA,zB,List.replicate,zD,zG,Nat.reduceAdd,Nat.reduceSub, ↓reduceIte,Bool.not_false,Bool.false_and,decide_eq_false h]
theorem ku(h:(p,c)∈cn):cU [aH [p,c]]=some (aH [p,c]):=by
 rcases yz h with ⟨rfl,rfl⟩|⟨rfl,rfl⟩|⟨rfl,rfl⟩|⟨rfl,rfl⟩|⟨rfl,rfl⟩|⟨rfl,rfl⟩|⟨rfl,rfl⟩|⟨rfl,rfl⟩|⟨rfl,rfl⟩<;>rfl
theorem tR(h:(p,c)∈cn){a:`f}(ca:Code p c a):lP [aH [p,c],aH a]=some (.bool true):=by
 have b:=eB h;have i0:cT (.tuple [.int p,.int c]) (.int 0)=some (.int p):=rfl;have i1:cT (.tuple [.int p,.int c]) (.int 1)=some (.int c):=rfl;have e0:decide (((a.map PyData.int).length:Int)=p)=true:=decide_eq_true (by rw [zJ];exact ca.len)
 have al:=ca.len;have l1:(a.map PyData.int).length<=fD:=by rw [zJ];exact Qc (show _<=1000 by lia) (by decide)
 have mm:(bK 1 [("game",0)] (bi (aF 1)) (gN 0) dE (aG 3 ag (aB (aF 0) (aB (dC (.int 0)) (aB (d2 uU (d2 cT (aF 1) (dC (.int 1))) (dC (.int 1))) aL))))) [some (.fz (.tuple [.int p,.int c])),some (.fz (.tuple (a.map PyData.int)))]=some ((a.map PyData.int).map λ_=>.bool true):=by
  refine dF _ rfl l1 λd hd=>?_;obtain⟨n,hn,rfl⟩:=Q6.mp hd;have q:=ca.all n hn;simp only [aF,dC,d2,aG,aL,aB,f6,dE,gN,A1,zI,zL,zC,zH,uN,uO,zA,zB,zE,List.replicate,zD,zG,Nat.reduceAdd, ↓reduceIte,Bool.and_true,i1,qF,decide_eq_true q.1,decide_eq_true q.2]
 have bs:mh ((a.map PyData.int).map λ_=>PyData.bool true)=some ((a.map PyData.int).map λ_=>true):=by
  rw [show ((a.map PyData.int).map λ_=>PyData.bool true)=((a.map PyData.int).map λ_=>true).map PyData.bool by simp]
  exact jq _
 have al2:((a.map PyData.int).map λ_=>true).all id=true:=by simp
 simp only [lP,yn,mt,sy,aH,bF,iQ,aX,fR,ai,aF,dC,d2,bE,aL,aB,br,dB,gO,rq,dP,sA,az,bz,mD,wR,fF,Bo,xt,zI,zL,zC,zH,Q8,zA,zB,List.replicate,zD,zG,Nat.reduceAdd,Nat.reduceSub, ↓reduceIte,rR,zN,i0,Bn,e0,mm,bs,al2]
theorem rC(h:(p,c)∈cn){a:`f}(ca:Code p c a):eQ [aH [p,c],aH a]=some (aH a):=by
 have q:=tR h ca;simp only [eQ,qC,hU,kt,bF,iQ,aX,fR,ai,aF,aG,aL,aB,gO,rq,dP,az,eX,bz,zI,zL,zC,zH,Q8,zA,zB,List.replicate,zD,zG,Nat.reduceAdd,Nat.reduceSub, ↓reduceIte,rR,zN,q]
noncomputable def ext(c:Nat)(a:`f):List `f:=(List.range c).map λk:Nat=>a++[(k:Int)]
noncomputable def lV(c:Nat):Nat->List `f
 |0=>[[]]
 |n+1=>(lV c n).flatMap (ext c)
def aN(p c:Int):List `f:=lV c.toNat p.toNat
def jW(cs:List `f):PyData:=.list (cs.map aH)
theorem KC(c:Nat)(a:`f):(ext c a).length=c:=by simp [ext]
theorem zW(c:Nat):∀l:List `f,(l.flatMap (ext c)).length=l.length*c
 |[]=>by simp
 |a::r=>by rw [List.flatMap_cons,zQ,KC,zW c r,zC,Nat.succ_mul];lia
theorem nN(c:Nat):∀n,(lV c n).length=c ^ n
 |0=>rfl
 |n+1=>by rw [lV,zW,nN c n,Nat.pow_succ]
variable {n:Nat}
theorem Dr {c:Nat}(hc:c<=5)(hn:n<=4):c ^ n<=625:=by
 refine Qc (Nat.pow_le_pow_left hc n) (Qc (Nat.pow_le_pow_right (by decide) hn) (by decide))
theorem tS(c:Nat):∀n a,a∈lV c n->a.length=n/\∀x∈a,0<=x/\x < (c:Int)
 |0,a,h=>by
  have:a=[]:=by simpa [lV]using h
  subst this;exact⟨rfl,λx hx=>by cases hx⟩
 |n+1,a,h=>by
  obtain⟨b,hb,ha⟩:=List.mem_flatMap.mp h;obtain⟨k,hk,rfl⟩:=Q6.mp ha;have hk':k < c:=by simpa using hk
  obtain⟨l,q⟩:=tS c n b hb;refine⟨by simp [l],λx hx=>?_⟩
  rcases Ca.mp hx with z|z
  . exact q x z
  . have:x=(k:Int):=by simpa using z
    lia
theorem fj(h:(p,c)∈cn){a:`f}(ha:a∈aN p c):Code p c a:=by
 have b:=eB h;obtain⟨l,q⟩:=tS _ _ _ ha;refine⟨by lia,λn hn=>?_⟩
 have:=q n hn;lia
theorem vk(h:(p,c)∈cn):(aN p c).length<=625:=by
 have b:=eB h;unfold aN;rw [nN];exact Dr `e `e
theorem dN(h:n<=1000):n<=fD:=Qc h (by decide)
theorem KD(a:`f)(k:Int)(ha:a.length<=100):bv (aH a) (.tuple [.int k])=some (aH (a++[k])):=by
 have q:(a.map PyData.int).length+[PyData.int k].length<=fD:=by rw [zJ];exact dN (by simp;lia)
 unfold aH;rw [AB];simp only [bv,q, ↓reduceIte];rfl
theorem qG(c:Nat):bL 0 c=(List.range c).map λk:Nat=>PyData.int (k:Int):=by
 unfold bL;apply B3
 intro k _;rw [Int.zero_add]
variable {a:`f}
theorem OC {nm:Str}{k:Nat}{c:Nat}{fi:aS->Option `g}{δ:aS}(hi:fi δ=some (bL 0 c))(hc:c<=100)(ha:a.length<=100)(hk:δ[k]? =some (some (.fz (aH a)))):
 bK 1 [(nm,k)] fi (gN 0) dE (d2 bv (aF 1) (cz (aB (aF 0) aL))) δ=some ((ext c a).map aH):=by
 rw [dF (λd=>match d with| .int k=>aH (a++[k])|d=>d) hi (by simp [bL];exact dN `e) (λd hd=>?_)]
 . rw [qG,zO,ext,zO];rfl
 . rw [qG]at hd;obtain⟨m,_,rfl⟩:=Q6.mp hd;have z:(1:Nat)<=fD:=tP 1;simp only [aF,d2,aL,aB,cz,f6,dE,gN,zI,zL,zC,zH,uN,uO,zA,zB,zE,List.replicate,zD,zG,Nat.reduceAdd, ↓reduceIte,hk,z,KD a (m:Int) ha]
theorem BL(h0:0<=c)(h1:c<=1000):fZ c=true:=by
 unfold fZ;rw [decide_eq_true (show -1000000000<=c by lia),decide_eq_true (show c<=1000000000 by lia)];rfl
theorem lW {α β:Type}{f g:α->β}:∀{l:List α},l.map f=l.map g->∀x∈l,f x=g x
 |y::r,h,x,hx=>by
  rw [zI,zI]at h;injection h with h1 h2
  rcases Q3.mp hx with rfl|hx
  . exact h1
  . exact lW h2 x hx
theorem kO(h:(p,c)∈cn):be [aH [p,c]]=some (jW (aN p c)):=lW (show cn.map (λg=>be [aH [g.1,g.2]])=cn.map λg=>some (jW (aN g.1 g.2))by kernel_rfl) (p,c) h
noncomputable abbrev lz:=List Int×List Int
def av(a:lz):PyData:=.tuple [aH a.1,aH a.2]
def tT(as:List lz):PyData:=.list (as.map av)
structure AskOk (p c:Int) (a:lz):Prop where
 code:Code p c a.1
 two:a.2.length=2
 b:∀n∈a.2,0<=n/\n<=p
def bg(as:List lz)(x:`f):Bool:=as.all λa=>decide (GC.ans x a.1=a.2)
theorem Pn(a:lz):cT (av a) (.int 0)=some (aH a.1):=rfl
theorem Po(a:lz):cT (av a) (.int 1)=some (aH a.2):=rfl
theorem zX(h:(p,c)∈cn){x:`f}(cx:Code p c x){a:lz}(ha:AskOk p c a):iS [aH x,av a]=some (.bool (decide (GC.ans x a.1=a.2))):=by
 have b:=eB h;have l1:=cx.len;have l2:=ha.code.len;have q:=kM (a:=x) (b:=a.1) `e `e
 simp only [iS,wm,lQ,bF,iQ,ai,aF,dC,d2,aG,aL,aB,bz,zI,zL,zC,zH,Q8,zA,zB,List.replicate,zD,zG,Nat.reduceAdd,Nat.reduceSub, ↓reduceIte,Pn,Po,q,xw]
theorem xC(h:(p,c)∈cn){t:`f}(t2:t.length=2)(tb:∀n∈t,0<=n/\n<=p):kG [aH [p,c],aH t]=some (.bool true):=by
 have i0:cT (.tuple [.int p,.int c]) (.int 0)=some (.int p):=rfl;have ip:gY [.tuple (t.map .int)]=some (.bool true):=by
  have e:j6 (.int ((t.map PyData.int).length:Nat)) (.int 2)=some (.bool true):=by rw [gK,decide_eq_true];rw [zJ,t2];rfl
  simp only [gY,qg,kC,bF,iQ,ai,aF,dC,d2,bE,aL,aB,dB,gP,bz,mD,wR,fF,Bo,zI,zL,zC,zH,Q8,zA,List.replicate,zD,zG,Nat.reduceAdd,Nat.reduceSub, ↓reduceIte,e]
 have l1:(t.map PyData.int).length<=fD:=by rw [zJ,t2];exact tP 2
 have mm:(bK 1 [("game",0)] (bi (aF 1)) (gN 0) dE (aG 3 ag (aB (aF 0) (aB (dC (.int 0)) (aB (d2 cT (aF 1) (dC (.int 0))) aL))))) [some (.fz (.tuple [.int p,.int c])),some (.fz (.tuple (t.map PyData.int)))]=some ((t.map PyData.int).map λ_=>.bool true):=by
  refine dF _ rfl l1 λd hd=>?_;obtain⟨n,hn,rfl⟩:=Q6.mp hd;have q:=tb n hn;simp only [aF,dC,d2,aG,aL,aB,f6,dE,gN,zI,zL,zC,zH,uN,uO,zA,zB,zE,List.replicate,zD,zG,Nat.reduceAdd, ↓reduceIte,Bool.and_true,i0,qF,decide_eq_true q.1,decide_eq_true q.2]
 have bs:mh ((t.map PyData.int).map λ_=>PyData.bool true)=some ((t.map PyData.int).map λ_=>true):=by
  rw [show ((t.map PyData.int).map λ_=>PyData.bool true)=((t.map PyData.int).map λ_=>true).map PyData.bool by simp]
  exact jq _
 have al2:((t.map PyData.int).map λ_=>true).all id=true:=by simp
 simp only [kG,uf,kF,aH,bF,iQ,ai,aF,bE,aG,aL,aB,br,dB,gP,bz,xt,zI,zL,zC,zH,Q8,zA,zB,List.replicate,zD,zG,Nat.reduceAdd,Nat.reduceSub, ↓reduceIte,ip,mm,bs,al2]
theorem Ds(h:(p,c)∈cn){a:lz}(ha:AskOk p c a):ly [aH [p,c],av a]=some (.bool true):=by
 have ip:gY [av a]=some (.bool true):=by
  have e:j6 (.int ((2:Nat):Int)) (.int 2)=some (.bool true):=by rw [gK];rfl
  simp only [gY,qg,kC,av,bF,iQ,ai,aF,dC,d2,bE,aL,aB,dB,gP,bz,mD,wR,fF,Bo,zI,zL,zC,zH,Q8,zA,List.replicate,zD,zG,Nat.reduceAdd,Nat.reduceSub, ↓reduceIte,e]
 have q1:=tR h ha.code;have q2:=xC h ha.two ha.b;simp only [ly,BG,pz,bF,iQ,ai,aF,dC,d2,aG,aL,aB,dB,gP,bz,zI,zL,zC,zH,Q8,zA,zB,List.replicate,zD,zG,Nat.reduceAdd,Nat.reduceSub, ↓reduceIte,ip,Pn,Po,q1,q2]
theorem rD(h:(p,c)∈cn){as:List lz}(ao:∀a∈as,AskOk p c a)(al:as.length<=8):gL [aH [p,c],tT as,Lv "is_ask"]=some (tT as):=by
 obtain⟨δ',e1,v2,v3,e2⟩:=ie (fg:=(gT 2 (gC (gN 3) (gC (gN 4) gZ)))) (fb:=(fR (dP (gO (wU 2 "is_ask" 2 ly (aB (aF 0) (aB (aF 4) aL))))) eX az)) (ds:=jK (as.map av)) (δ:=[some (.fz (aH [p,c])),some (.fz (.list (as.map av))),some (.fz (Lv "is_ask")),none,none])
  (λ i δ => ∃ v2 v3, δ = [some (.fz (aH [p, c])), some (.fz (.list (as.map av))), some (.fz (Lv "is_ask")), v2, v3]) ⟨none, none, rfl⟩ (by
   rintro i hi δ ⟨v2,v3,rfl⟩;have hi':i < as.length:=by simpa [jK]using hi
   have ed:(jK (as.map av))[i]=.tuple [.int (i:Nat),av as[i]]:=by
    have:=dS hi;obtain⟨e,h1,h2⟩:=pX this;rw [zK,dS hi']at h1;cases h1;exact h2
   have q:=Ds h (ao _ (AA hi'));rw [ed];refine⟨_,_,rfl,?_,some (.fz (.int (i:Nat))),some (.fz (av as[i])),rfl⟩;simp only [fR,aF,aG,aL,aB,gO,rq,dP,az,eX,zC,zH,zA,zB,zE,zF,zD,zG,Nat.reduceAdd, ↓reduceIte,rR,zN,wU,DM,q])
 subst e2;have d:decide ((8:Int) < ((as.map av).length:Nat))=false:=decide_eq_false (by rw [zJ];lia)
 simp only [gL,qA,hE,kn,kj,tT,bF,iQ,aX,fR,ai,gQ,aF,dC,d2,bE,aL,aB,dB,gO,rq,dP,sA,qt,Lm,az,eX,bz,mD,Ls,fF,xx,vP,zI,zL,zC,zH,uN,uO,zA,zB,List.replicate,zD,zG,Nat.reduceAdd,Nat.reduceSub, ↓reduceIte,rR,zN,d,e1]
theorem kz(h:(p,c)∈cn){as:List lz}(ao:∀a∈as,AskOk p c a)(al:as.length<=8):eP [aH [p,c],tT as]=some (tT as):=by
 have q:=rD h ao al;simp only [eP,qB,hJ,bF,iQ,ai,aF,dC,aG,aL,aB,bz,zI,zL,zC,zH,Q8,zA,zB,List.replicate,zD,zG,Nat.reduceAdd,Nat.reduceSub, ↓reduceIte,q]
variable {d:PyData}{cs:List `f}
theorem KE(h:d∈cs.map aH):∃x∈cs,d=aH x:=by
 obtain⟨x,hx,e⟩:=Q6.mp h;exact⟨x,hx,e.symm⟩
theorem tU {α:Type}(enc:α->PyData)(f:PyData->Bool)(q:α->Bool):∀{l:List α},(∀a∈l,f (enc a)=q a)->(l.map enc).filter f=(l.filter q).map enc
 |[],_=>rfl
 |a::r,h=>by
  have ih:=tU enc f q (l:=r) λx hx=>h x (iJ _ hx);rw [zI,List.filter_cons,List.filter_cons,h a gG,ih];cases q a<;>rfl
def fq(d:PyData):List Int:=@dite _ (∃x,aH x=d) (Classical.propDecidable _) (λh=>Classical.choose h) (λ_=>[])
theorem dc(x:`f):fq (aH x)=x:=by
 unfold fq;have h:∃y,aH y=aH x:=⟨x,rfl⟩;rw [dif_pos h];exact sI (Classical.choose_spec h)
variable {l:`g}
theorem KF:l.map (λd=>d)=l:=List.map_id l
theorem He(h:(p,c)∈cn){cs:List `f}(hc:∀x∈cs,Code p c x)(hl:cs.length<=1000){as:List lz}(ao:∀a∈as,AskOk p c a):
 dH [jW cs,tT as]=some (jW (cs.filter (bg as))):=by
 obtain⟨δ',e1,v3,e2⟩:=ie (fg:=(gN 3)) (fb:=(bO 2 (br (bK 1 [("ask",3)] (bi (aF 2)) (gN 0) (gO (aG 2 iS (aB (aF 0) (aB (aF 1) aL)))) (aF 0))))) (ds:=as.map av) (δ:=[some (.fz (.list (cs.map aH))),some (.fz (.list (as.map av))),some (.fz (.list (cs.map aH))),none])
  (λ i δ => ∃ v3, δ = [some (.fz (.list (cs.map aH))), some (.fz (.list (as.map av))), some (.fz (.list ((cs.filter (bg (as.take i))).map aH))), v3]) ⟨none, by
   have:cs.filter (bg (as.take 0))=cs:=List.filter_eq_self.mpr λa _=>rfl;rw [this]⟩ (by
   rintro i hi δ ⟨v3,rfl⟩;have hi':i < as.length:=by simpa using hi
   have ed:(as.map av)[i]=av as[i]:=by simp
   have oa:=ao _ (AA hi');rw [ed];refine⟨_,_,rfl,?_,some (.fz (av as[i])),rfl⟩;have cx:(bK 1 [("ask",3)] (bi (aF 2)) (gN 0) (gO (aG 2 iS (aB (aF 0) (aB (aF 1) aL)))) (aF 0)) [some (.fz (.list (cs.map aH))),some (.fz (.list (as.map av))),some (.fz (.list ((cs.filter (bg (as.take i))).map aH))),some (.fz (av as[i]))]=some ((cs.filter (bg (as.take (i+1)))).map aH):=by
    rw [uY (ds:=(cs.filter (bg (as.take i))).map aH) (λd=>decide (GC.ans (fq d) as[i].1=as[i].2)) (λd=>d) rfl (by
     rw [zJ];exact Qc (List.length_filter_le _ _) (dN hl)) (λd hd=>?_)]
    . rw [KF,tU aH _ (λx=>decide (GC.ans x as[i].1=as[i].2)) (λx _=>by rw [dc]),List.filter_filter]
      congr 2
      apply List.filter_congr
      intro x _;rw [NB hi'];simp only [bg,List.all_append,List.all_cons,List.all_nil,Bool.and_true];rw [Bool.and_comm]
    . obtain⟨x,hx,rfl⟩:=KE hd;have q:=zX h (hc x (C9.mp hx).1) oa;rw [dc];cases hd':decide (GC.ans x as[i].1=as[i].2)<;>simp only [aF,aG,aL,aB,gO,rq,f6,gN,zI,zL,zC,zH,uN,uO,zA,zB,zE,List.replicate,zD,zG,Nat.reduceAdd, ↓reduceIte,zN,q,hd']
   simp only [bO,br,zE,zF,zG,cx])
 rw [zJ,List.take_length]at e2;subst e2;simp only [dH,mv,fK,jP,jO,jW,tT,bF,iQ,aX,bO,ai,gQ,aF,bi,qt,bz,zI,zL,zC,zH,uN,uO,zA,zB,zE,zF,List.replicate,zD,zG,Nat.reduceAdd,Nat.reduceSub,e1]
theorem vl(h:(p,c)∈cn):∀x∈aN p c,Code p c x:=λx hx=>fj h hx
theorem kP(h:(p,c)∈cn){as:List lz}(ao:∀a∈as,AskOk p c a)(al:as.length<=8):cE [aH [p,c],tT as]=some (jW ((aN p c).filter (bg as))):=by
 have q1:=ku h;have q2:=kz h ao al;have q3:=kO h;have q4:=He h (vl h) (Qc (vk h) (by decide)) ao
 simp only [cE,ug,kI,oh,oZ,bF,iQ,aX,ai,iF,aF,aG,aL,aB,bz,zI,zL,zC,zH,Q8,zA,zB,List.replicate,zD,zG,Nat.reduceAdd,Nat.reduceSub, ↓reduceIte,q1,q2,q3,q4]
theorem KG(a:lz):okN 2 (av a):=wQ λd hd=>by
 have:d=aH a.1\/d=aH a.2:=by simpa using hd
 rcases this with rfl|rfl<;>exact lG _
noncomputable abbrev Cn:=List (List Int×Int)
noncomputable def ox(m:Cn)(k:`f)(v:Int):Cn:=if k∈m.map (·.1)then m.map (λp=>if p.1=k then(p.1,v)else p)else m++[(k,v)]
noncomputable def xD(m:Cn)(k:`f):Int:=((m.find? λp=>decide (p.1=k)).map (·.2)).getD 0
def fT(g:`f)(cs:List `f):Cn:=cs.foldl (λm x=>ox m (GC.ans x g) (xD m (GC.ans x g)+1)) []
def M0(m:Cn):Int:=pJ (m.map (·.2)) ((m.map (·.2)).length - 1)
def M7(fit:List `f)(g:`f):PyData:=.tuple [.int (M0 (fT g fit)),.bool (!decide (g∈fit)),aH g]
def jk(cs fit:List `f):List Int:=cs.getD (j7 (yS (cs.map (M7 fit))) (cs.length - 1)) []
def gb(m:Cn):List (PyData×PyData):=m.map λp=>(aH p.1,.int p.2)
theorem jl(k:`f):dU (aH k)=some k:=bM k
theorem Hg(m:Cn)(k:`f)(v:Int):GF (gb m) k (.int v)=gb (ox m k v):=by
 have any:((gb m).any λp=>decide (dU p.1=some k))=decide (k∈m.map (·.1)):=by
  rw [Bool.eq_iff_iff,List.any_eq_true,decide_eq_true_eq]
  constructor
  . rintro⟨p,hp,e⟩;obtain⟨x,hx,rfl⟩:=Q6.mp hp;have e':=of_decide_eq_true e;rw [jl]at e';cases e';exact zP hx
  . intro h;obtain⟨x,hx,e⟩:=Q6.mp h;exact⟨_,zP hx,decide_eq_true (by rw [<-e];exact jl _)⟩
 have same:((gb m).map λp=>if dU p.1=some k then(p.1,PyData.int v)else p)=gb (m.map λp=>if p.1=k then(p.1,v)else p):=by
  unfold gb;rw [zO,zO];apply B3
  intro p _;show (if dU (aH p.1)=some k then(aH p.1,PyData.int v)else(aH p.1,.int p.2))=(aH (if p.1=k then(p.1,v)else p).1,PyData.int (if p.1=k then(p.1,v)else p).2);rw [jl]
  by_cases h:p.1=k
  . rw [if_pos (congrArg some h),if_pos h]
  . rw [if_neg (λz=>h (zV z)),if_neg h]
 unfold GF ox;rw [any,same]
 by_cases h:k∈m.map (·.1)
 . rw [if_pos (decide_eq_true h),if_pos h]
 . rw [if_neg (by rw [decide_eq_false h];decide),if_neg h]
   simp [gb,aH]
theorem zY(m:Cn):Kk (gb m)=true:=by
 cases m<;>rfl
theorem Hh(m:Cn)(k:`f):(sU (gb m) (aH k)).map (λr=>r.getD (.int 0))=some (.int (xD m k)):=by
 have e:sU (gb m) (aH k)=some (((gb m).find? λp=>decide (dU p.1=some k)).map (·.2)):=by
  show ((ee (k.map PyData.int)).bind λks=>if Kk (gb m)=true then some (((gb m).find? λp=>decide (dU p.1=some ks)).map (·.2))else none)=_
  rw [bM,zD,if_pos (zY m)]
 rw [e,zG];congr 1
 unfold xD gb;rw [List.find?_map];have f:((λp:PyData×PyData=>decide (dU p.1=some k))∘ λp:List Int×Int=>(aH p.1,PyData.int p.2))=λp=>decide (p.1=k):=by
  funext p
  show decide (dU (aH p.1)=some k)=_;rw [jl];exact decide_eq_decide.mpr ⟨zV,congrArg some⟩
 rw [f];cases m.find? λp=>decide (p.1=k)<;>rfl
theorem Hi(m:Cn)(k:`f)(v:Int):(ox m k v).length<=m.length+1:=by
 unfold ox;split<;>simp
theorem zZ(m:Cn)(k:`f)(v:Int){j:`f}(h:j∈m.map (·.1)\/j=k):j∈(ox m k v).map (·.1):=by
 unfold ox;have same:(m.map λp=>if p.1=k then(p.1,v)else p).map (·.1)=m.map (·.1):=by
  rw [zO];apply B3
  intro p _;show (if p.1=k then(p.1,v)else p).1=p.1;split<;>rfl
 split
 . rename_i hk;rw [same]
   rcases h with h|h
   . exact h
   . rw [h];exact hk
 . rw [AB]
   rcases h with h|h
   . exact Mu _ h
   . exact Qb _ (by simp [h])
theorem Dt(g:`f)(cs:List `f)(x:`f):fT g (cs++[x])=ox (fT g cs) (GC.ans x g) (xD (fT g cs) (GC.ans x g)+1):=by
 unfold fT;rw [List.foldl_append];rfl
theorem pb {g:`f}:∀(cs:List `f) (m:Cn),(cs.foldl (λm x=>ox m (GC.ans x g) (xD m (GC.ans x g)+1)) m).length<=m.length+cs.length
 |[],m=>Q1 _
 |x::r,m=>by
  have h1:=pb r (ox m (GC.ans x g) (xD m (GC.ans x g)+1)) (g:=g);have h2:=Hi m (GC.ans x g) (xD m (GC.ans x g)+1);rw [List.foldl_cons,zC];lia
theorem tV(g:`f)(cs:List `f):(fT g cs).length<=cs.length:=by
 have:=pb (g:=g) cs [];simpa [fT]using this
variable {j g:`f}
theorem vm:∀(cs:List `f) (m:Cn),(j∈m.map (·.1)\/∃x∈cs,GC.ans x g=j)->j∈(cs.foldl (λm x=>ox m (GC.ans x g) (xD m (GC.ans x g)+1)) m).map (·.1)
 |[],m,h=>by
  rcases h with h|⟨x,hx,_⟩
  . exact h
  . cases hx
 |x::r,m,h=>by
  rw [List.foldl_cons];refine vm r _ ?_
  rcases h with h|⟨y,hy,e⟩
  . exact .inl (zZ _ _ _ (.inl h))
  . rcases Q3.mp hy with rfl|hy
    . exact .inl (zZ _ _ _ (.inr e.symm))
    . exact .inr ⟨y,hy,e⟩
theorem tW {g x:`f}{cs:List `f}(h:x∈cs):GC.ans x g∈(fT g cs).map (·.1):=vm cs [] (.inr ⟨x,h,rfl⟩)
theorem KH {g:`f}(h:cs≠[]):fT g cs≠[]:=by
 obtain⟨x,r,rfl⟩:=List.exists_cons_of_ne_nil h;intro z;have:=tW (g:=g) (x:=x) (cs:=x::r) gG;rw [z]at this;cases this
theorem Du {cs:List `f}{g:`f}(hx:∀x∈cs,x.length=g.length)(gl:g.length<=100)(cl:cs.length<=1000):cR [.list (cs.map aH),aH g]=some (.dict (gb (fT g cs))):=by
 obtain⟨δ',e1,v3,v4,e2⟩:=ie (fg:=(gN 3)) (fb:=(aX (bO 4 (aG 2 cD (aB (aF 3) (aB (aF 1) aL)))) (GH 2 (aF 4) (d2 bv (sV 2 (aF 4) (dC (.int 0))) (dC (.int 1)))))) (ds:=cs.map aH) (δ:=[some (.fz (.list (cs.map aH))),some (.fz (aH g)),some (.od []),none,none])
  (λ i δ => ∃ v3 v4, δ = [some (.fz (.list (cs.map aH))), some (.fz (aH g)), some (.od (gb (fT g (cs.take i)))), v3, v4]) ⟨none, none, rfl⟩ (by
   rintro i hi δ ⟨v3,v4,rfl⟩;have hi':i < cs.length:=by simpa using hi
   have ed:(cs.map aH)[i]=aH cs[i]:=by simp
   have q1:=kM (hx _ (AA hi')) (by rw [hx _ (AA hi')];exact gl)
   have l1:(gb (fT g (cs.take i))).length < fD:=by
    have:=tV g (cs.take i);rw [gb,zJ];exact kZ (show _ < 1001 by rw [List.length_take]at this;lia) (by decide)
   refine⟨_,[some (.fz (.list (cs.map aH))),some (.fz (aH g)),some (.od (gb (fT g (cs.take (i+1))))),some (.fz (aH cs[i])),some (.fz (aH (GC.ans cs[i] g)))],rfl,?_,_,_,rfl⟩;rw [ed,NB hi',Dt];simp only [aX,bO,aF,dC,d2,aG,aL,aB,p7,GH,sV,CB,zC,zH,zA,zB,zE,zF,zD,zG,Nat.reduceAdd, ↓reduceIte,q1,Hh,Hg,jl,zY,l1])
 rw [zJ,List.take_length]at e2;subst e2;simp only [cR,lR,iI,iH,iG,bF,iQ,aX,ai,cW,gQ,aF,bi,qt,DL.frz,bz,sS,zI,zL,zC,zH,uN,uO,zA,zB,zE,zF,List.replicate,zD,zG,Nat.reduceAdd,Nat.reduceSub,e1]
theorem tX:∀m:Cn,jT (gb m)=some (m.map (·.2))
 |[]=>rfl
 |p::r=>by
  show (jT (gb r)).map (p.2:: ·)=_
  rw [tX r];rfl
theorem vn:∀m:Cn,gU (gb m)=some (m.map (·.1))
 |[]=>rfl
 |p::r=>by
  show (dU (aH p.1)).bind (λk=>(gU (gb r)).map (k:: ·))=_
  rw [jl,vn r];rfl
theorem KI(cs fit:List `f)(hne:cs≠[]):j7 (yS (cs.map (M7 fit))) (cs.length - 1) < cs.length:=by
 have:=wZ (yS (cs.map (M7 fit))) (cs.length - 1);have:0 < cs.length:=LK.mpr hne;lia
variable {fit:List `f}
theorem Dv(hne:cs≠[]):jk cs fit∈cs:=by
 have h:=KI cs fit hne;unfold jk;rw [gh,dS h];exact AA h
theorem vo(cs:List `f)(h:cs≠[]):bI [jW cs]=some (jW cs):=by
 have e:(cs.map aH).isEmpty=false:=by
  cases cs with
  |nil=>exact absurd rfl h
  |cons _ _=>rfl
 simp only [bI,iw,dR,fJ,bF,iQ,aX,fR,ai,aF,gO,rq,dP,az,eX,bz,zI,zL,zC,zH,Q8,zA,List.replicate,zD,zG,Nat.reduceAdd,Nat.reduceSub, ↓reduceIte,rR,Bool.not_false,zN,jW,e]
variable {x:`f}
theorem tY(h:Code p c x):x.length=p.toNat:=by have:=h.len;lia
theorem rN {m:Cn}(h2:m.length < 64):Ak (.dict (gb m))=some (.list ((lK m).map d6)):=by
 show (gU (gb m)).bind (λks=>(jT (gb m)).bind λns=>if decide (ks.length < 64)=true then some (PyData.list ((lK (ks.zip ns)).map d6))else none)=_;rw [vn,tX,zD,zD,if_pos]
 . rw [List.zip_map'];have:m.map (λx=>(x.1,x.2))=m:=List.map_id m;rw [this]
 . rw [zJ];exact decide_eq_true h2
theorem Hj(h:(p,c)∈cn){as:List lz}(ao:∀a∈as,AskOk p c a)(al:as.length<=8){g:`f}(cg:Code p c g)(h2:(fT g ((aN p c).filter (bg as))).length < 64):
 kK [aH [p,c],.list (as.map av),aH g]=some (.list ((lK (fT g ((aN p c).filter (bg as)))).map d6)):=by
 have b:=eB h;have q1:cE [aH [p,c],.list (as.map av)]=some (.list (((aN p c).filter (bg as)).map aH)):=kP h ao al;have q2:=rC h cg;have lg:=tY cg;have q3:=Du (cs:=(aN p c).filter (bg as)) (g:=g) (λx hx=>by rw [lg,tY (fj h (C9.mp hx).1)]) `e (Qc (List.length_filter_le _ _) (Qc (vk h) (by decide)))
 have q4:=rN h2;simp only [kK,Dj,tF,yr,yq,bF,iQ,aX,bO,ai,iF,aF,aG,aL,aB,bz,zI,zL,zC,zH,uN,uO,zA,zB,zE,zF,List.replicate,zD,zG,Nat.reduceAdd,Nat.reduceSub, ↓reduceIte,Al,q1,q2,q3,q4]
theorem Hk(k:`f):dU (aH k)=some k:=bM k
theorem vp(k:`f)(d:PyData):∀m:Cl,(cJ m k d).length<=m.length+1
 |[]=>by simp [cJ]
 |p::r=>by
  have:=vp k d r;unfold cJ;split
  . simp
  . simp only [zC];lia
variable {k:`f}
theorem tZ:∀{m:Cl},(∀p∈m,p.2.length<=n)->∀p∈cJ m k d,p.2.length<=n+1
 |[],_,p,hp=>by
  have:p=(k,[d]):=by simpa [cJ]using hp
  rw [this]
  simp
 |q::r,h,p,hp=>by
  unfold cJ at hp;split at hp
  . rcases Q3.mp hp with rfl|hp
    . have:=h q gG;simp only [zQ,Mt];lia
    . have:=h p (iJ _ hp);lia
  . rcases Q3.mp hp with rfl|hp
    . have:=h p gG;lia
    . exact tZ (λp hp=>h p (iJ _ hp)) p hp
theorem vq {d0:PyData}(gl:g.length<=100):∀(cs:List `f) (kls:Cl) (v3:Option Sl) (n:Nat),(∀x∈cs,x.length=g.length)->kls.length<=n->(∀p∈kls,p.2.length<=n)->n+cs.length<=1000->
 ∃v3',mr (aG 2 cD (aB (aF 3) (aB (aF 1) aL))) 3 2 (cs.map aH) [some (.fz d0),some (.fz (aH g)),none,v3] kls=some (.nx [some (.fz d0),some (.fz (aH g)),some (.od (lL (d7 g kls cs))),v3'])
 |[],kls,v3,n,_,_,_,_=>⟨v3,rfl⟩
 |x::cs,kls,v3,n,hx,h1,h2,h3=>by
  have lx:=hx x gG;have q1:=kM (a:=x) (b:=g) lx (by rw [lx];exact gl)
  have hz:(decide (kls.length < fD)&&kls.all λp=>decide (p.2.length < fD))=true:=by
   rw [Q5,Q2];rw [zC]at h3;refine⟨decide_eq_true (kZ (show kls.length < 1000 by lia) (by decide)),λp hp=>?_⟩
   have:=h2 p hp;exact decide_eq_true (kZ (show p.2.length < 1000 by lia) (by decide))
  obtain⟨v3',go⟩:=vq (d0:=d0) gl cs (cJ kls (GC.ans x g) (aH x)) (some (.fz (aH x))) (n+1) (λy hy=>hx y (iJ _ hy)) (by have:=vp (GC.ans x g) (aH x) kls;lia) (tZ h2) (by rw [zC]at h3;lia)
  refine⟨v3',?_⟩;rw [zI,mr];simp only [aF,aG,aL,aB,zC,zH,zA,zB,zE,zF,zD,Nat.reduceAdd, ↓reduceIte,q1,Hk,hz];exact go
theorem Dw(hx:∀x∈cs,x.length=g.length)(gl:g.length<=100)(cl:cs.length<=1000):dq [.list (cs.map aH),aH g]=some (Jt cs g):=by
 obtain⟨v3,go⟩:=vq (d0:=.list (cs.map aH)) gl cs [] none 0 hx (Q1 _) (λp hp=>nomatch hp) `e
 have z:fG [some (.fz (.list (cs.map aH))),some (.fz (aH g)),none,none]=true:=rfl;have z1:decide (3 < 4)=true:=rfl;simp only [dq,mE,iu,iq,io,oN,bF,iQ,aX,ai,cW,aF,bi,qt,DL.frz,bz,sS,zI,zL,zC,zH,uN,uO,zA,zB,zE,zF,List.replicate,zD,zG,Nat.reduceAdd,Nat.reduceSub, ↓reduceIte,Bool.and_true,z,z1,go,Jt]
variable {cs:Cs}
theorem Ma {fit:Cs}(he:gX cs)(s:fit.Sublist cs)(h:g∈cs):(∀x∈fit,x.length=g.length)/\g.length<=100:=by
 obtain⟨n,hn,q⟩:=he;rw [q g h];exact⟨λx hx=>q x (s.mem hx),hn⟩
theorem OD(hc:cs.length<=16)(he:gX cs):∀fit g (m:Nat),fit.Sublist cs->g∈cs->(aG 2 dq (aB (aF 1) (aB (aF 2) aL))) (δ8 fit g m none none none none)=some (Jt fit g):=λfit g m s h=>by
 obtain⟨h1,h2⟩:=Ma he s h;exact Dw h1 h2 (by have:=s.length_le;lia)
theorem BM {ds:`g}(e:iT ds=some d):∃g a f u,ds=[g,a]/\(aG 1 bI (aB (aG 2 cE (aB (aF 0) (aB (aF 1) aL))) aL)) [some (.fz g),some (.fz a),none,none,none]=some f/\(aG 1 g9 (aB (aF 0) aL)) (D5 g a f none)=some u/\∃c,(aG 1 be (aB (aF 0) aL)) (D5 g a f none)=some c/\lN c f=some d:=by
 unfold iT at e;split at e
 . rename_i g a;obtain⟨f,e1,e⟩:=bind_some e;obtain⟨u,e2,e⟩:=bind_some e;obtain⟨c,e3,e⟩:=bind_some e;exact⟨g,a,f,u,rfl,e1,e2,c,e3,e⟩
 . cases e
noncomputable def de:List (Int×Int):=[(2,3),(3,2),(2,4),(4,2),(1,5),(2,2),(1,3)]
theorem iU(h:(p,c)∈de):(p=2/\c=3)\/(p=3/\c=2)\/(p=2/\c=4)\/(p=4/\c=2)\/(p=1/\c=5)\/(p=2/\c=2)\/(p=1/\c=3):=
 by simpa [de]using h
theorem fA(h:(p,c)∈de):(p,c)∈cn:=by
 rcases iU h with ⟨rfl,rfl⟩|⟨rfl,rfl⟩|⟨rfl,rfl⟩|⟨rfl,rfl⟩|⟨rfl,rfl⟩|⟨rfl,rfl⟩|⟨rfl,rfl⟩<;>decide
theorem OE {m:Int}(h:0<=m/\m < 8):m=0\/m=1\/m=2\/m=3\/m=4\/m=5\/m=6\/m=7:=by lia
theorem Hl(ns:`f):∃p c,d9 [j5 ns,.int 0]=some (aH [p,c])/\(p,c)∈de:=by
 have k0:a8 [j5 ns,.int 0]=some (.int (bo ns 0)):=kL ns 0;have k3:=HZ (bo ns 0) (p:=9973) (m:=8) (by decide) (by decide)
 have l8:(8:Nat)<=fD:=dN (by decide)
 have e:d9 [j5 ns,.int 0]=cT (.list [.tuple [.int 2,.int 3],.tuple [.int 3,.int 2],.tuple [.int 2,.int 4],.tuple [.int 4,.int 2],.tuple [.int 1,.int 5],.tuple [.int 2,.int 2],.tuple [.int 1,.int 3],.tuple [.int 2,.int 3]]) (.int (ul (bo ns 0) 9973 8)):=by
  simp only [d9,su,jU,mM,Bp,bF,iQ,aX,bO,ai,aF,dC,d2,aG,aL,aB,bd,br,zI,zL,zC,zH,uN,uO,zA,zB,zE,zF,List.replicate,zD,zG,Nat.reduceAdd,Nat.reduceSub, ↓reduceIte,k0,k3,l8];generalize cT _ _=z;cases z<;>rfl
 rw [e]
 rcases OE (Hb (bo ns 0) (p:=9973) (show (0:Int) < 8 by decide))with h|h|h|h|h|h|h|h<;>rw [h]
 . exact⟨2,3,rfl,by decide⟩
 . exact⟨3,2,rfl,by decide⟩
 . exact⟨2,4,rfl,by decide⟩
 . exact⟨4,2,rfl,by decide⟩
 . exact⟨1,5,rfl,by decide⟩
 . exact⟨2,2,rfl,by decide⟩
 . exact⟨1,3,rfl,by decide⟩
 . exact⟨2,3,rfl,by decide⟩
def LE(cs:Cs):Bool:=decide (cs.length<=16)&&decide cs.Nodup&&cs.all λx=>cs.all λy=> !decide (GC.ans x y=GC.ans y y)||decide (x=y)
theorem OF(h:(p,c)∈de):g9 [aH [p,c]]=some (aH [p,c])/\LE (aN p c)=true:=by
 rcases iU h with ⟨rfl,rfl⟩|⟨rfl,rfl⟩|⟨rfl,rfl⟩|⟨rfl,rfl⟩|⟨rfl,rfl⟩|⟨rfl,rfl⟩|⟨rfl,rfl⟩<;>exact⟨rfl,by decide+kernel⟩
theorem LF(h:(p,c)∈de):(aN p c).length<=16/\(aN p c).Nodup/\(∀x∈aN p c,∀y∈aN p c,GC.ans x y=GC.ans y y->x=y)/\gX (aN p c):=by
 have k:=(OF h).2;unfold LE at k;rw [Q5,Q5]at k;refine⟨of_decide_eq_true k.1.1,of_decide_eq_true k.1.2,λx hx y hy e=>?_,p.toNat,?_,λx hx=>?_⟩
 . have:=Q2.mp (Q2.mp k.2 x hx) y hy;rw [decide_eq_true e]at this;exact of_decide_eq_true this
 . have:=eB (fA h);lia
 . have:=(fj (fA h) hx).len;lia
theorem Hm(h7:(p,c)∈de){as:List lz}(ao:∀a∈as,AskOk p c a)(al:as.length<=8)(hne:(aN p c).filter (bg as)≠[]):∃N,PlanOk (aN p c) ((aN p c).filter (bg as)) N/\iT [aH [p,c],.list (as.map av)]=some (.tuple [.int (N:Int),aw (aN p c) N ((aN p c).filter (bg as))]):=by
 have hm:=fA h7;obtain⟨g1,g2,g3,g4⟩:=LF h7;obtain⟨N,ok⟩:=Jv g1 g2 g3 (fit:=(aN p c).filter (bg as)) List.filter_sublist hne;refine⟨N,ok,?_⟩;have q1:cE [aH [p,c],.list (as.map av)]=some (jW ((aN p c).filter (bg as))):=kP hm ao al;have q2:=vo _ hne;have q3:=(OF h7).1;have q4:be [aH [p,c]]=some (bY (aN p c)):=kO hm;have q5:=Di ok g4;have q6:lN (bY (aN p c)) (jW ((aN p c).filter (bg as)))=_:=q5;simp only [iT,D5,aF,aG,aL,aB,zC,zH,zA,zB,zD,Nat.reduceAdd, ↓reduceIte,q1,q2,q3,q4,q6]
noncomputable def BN(cs:List `f):Nat->List `f->Bool
 |0,fit=>fit.length==1
 |n+1,fit=>fit.length==1||(decide (1 < fit.length)&&((fT (jk cs fit) fit).map (·.1)).all λk=>BN cs n (fit.filter (bg [(jk cs fit,k)])))
def Mz(cs fit:List `f)(h:`f):lz:=(jk cs fit,GC.ans h (jk cs fit))
noncomputable def cq(cs:List `f)(h:`f):Nat->List `f->List lz
 |0,_=>[]
 |n+1,fit=>if fit.length=1 then []else Mz cs fit h::cq cs h n (fit.filter (bg [Mz cs fit h]))
theorem Dx(cs fit:List `f)(h:`f):bg [Mz cs fit h] h=true:=by
 simp [bg,Mz]
variable {cs:List `f}
theorem Ho {h:`f}(ck:BN cs (n+1) fit=true)(hf:h∈fit)(h1:fit.length≠1):
 1 < fit.length/\BN cs n (fit.filter (bg [Mz cs fit h]))=true/\h∈fit.filter (bg [Mz cs fit h]):=by
 unfold BN at ck;rw [Bool.or_eq_true]at ck
 rcases ck with ck|ck
 . exact absurd (beq_iff_eq.mp ck) h1
 . rw [Q5]at ck;exact⟨of_decide_eq_true ck.1,Q2.mp ck.2 _ (tW (g:=jk cs fit) hf),C9.mpr ⟨hf,Dx cs fit h⟩⟩
theorem lX(h:(p,c)∈cn):aN p c≠[]:=by
 intro z;have e:(aN p c).length=c.toNat ^ p.toNat:=nN _ _;have b:=eB h;rw [z]at e;have:0 < c.toNat ^ p.toNat:=Nat.pow_pos `e
 rw [<-e]at this;exact absurd this (zT _)
theorem t5(c:Nat):∀(n:Nat) (a:`f),a.length=n->(∀x∈a,0<=x/\x < (c:Int))->a∈lV c n
 |0,a,h,_=>by rw [List.length_eq_zero_iff.mp h];simp [lV]
 |n+1,a,h,q=>by
  have ne:a≠[]:=λz=>by rw [z]at h;cases h
  rw [<-List.dropLast_concat_getLast ne];refine List.mem_flatMap.mpr ⟨a.dropLast,t5 c n _ (by rw [List.length_dropLast,h];rfl) (λx hx=>q x (List.dropLast_subset _ hx)),Q6.mpr ⟨(a.getLast ne).toNat,?_,?_⟩⟩
  . have:=q _ (List.getLast_mem ne);exact List.mem_range.mpr `e
  . have:=q _ (List.getLast_mem ne);rw [Int.toNat_of_nonneg this.1]
theorem kQ(h:(p,c)∈cn){a:`f}(ca:Code p c a):a∈aN p c:=by
 have b:=eB h;refine t5 _ _ _ (tY ca) λx hx=>?_;have:=ca.all x hx;lia
def oy(cs T:Cs):Bool:=BN cs 8 cs&&(T.all λk=>cs.contains k)&&cs.all λx=>cs.all λy=> !decide ((T.map λg=>GC.ans x g)=T.map λg=>GC.ans y g)||decide (x=y)
theorem OG:aj [aH [2,3]]=some (jW [[0,1],[0,2]])/\oy (aN 2 3) [[0,1],[0,2]]=true:=⟨by kernel_rfl,by decide+kernel⟩
theorem OH:aj [aH [3,2]]=some (jW [[0,0,1],[0,1,1]])/\oy (aN 3 2) [[0,0,1],[0,1,1]]=true:=⟨by kernel_rfl,by decide+kernel⟩
theorem OI:aj [aH [2,4]]=some (jW [[0,0],[1,2],[1,3]])/\oy (aN 2 4) [[0,0],[1,2],[1,3]]=true:=⟨by kernel_rfl,by decide+kernel⟩
theorem OJ:aj [aH [4,2]]=some (jW [[0,0,0,1],[0,0,1,0],[0,1,0,0]])/\oy (aN 4 2) [[0,0,0,1],[0,0,1,0],[0,1,0,0]]=true:=⟨by kernel_rfl,by decide+kernel⟩
theorem OK:aj [aH [1,5]]=some (jW [[0],[1],[2],[3]])/\oy (aN 1 5) [[0],[1],[2],[3]]=true:=⟨by kernel_rfl,by decide+kernel⟩
theorem OL:aj [aH [2,2]]=some (jW [[0,0],[0,1]])/\oy (aN 2 2) [[0,0],[0,1]]=true:=⟨by kernel_rfl,by decide+kernel⟩
theorem OM:aj [aH [1,3]]=some (jW [[0],[1]])/\oy (aN 1 3) [[0],[1]]=true:=⟨by kernel_rfl,by decide+kernel⟩
theorem QJ(h:(p,c)∈de):∃T,aj [aH [p,c]]=some (jW T)/\oy (aN p c) T=true:=by
 rcases iU h with ⟨rfl,rfl⟩|⟨rfl,rfl⟩|⟨rfl,rfl⟩|⟨rfl,rfl⟩|⟨rfl,rfl⟩|⟨rfl,rfl⟩|⟨rfl,rfl⟩
 . exact⟨_,OG⟩
 . exact⟨_,OH⟩
 . exact⟨_,OI⟩
 . exact⟨_,OJ⟩
 . exact⟨_,OK⟩
 . exact⟨_,OL⟩
 . exact⟨_,OM⟩
theorem Hq(b k x:`f):bg [(b,k)] x=decide (GC.ans x b=k):=by
 unfold bg;rw [List.all_cons,List.all_nil,Bool.and_true]
theorem vt(fit:Cs)(b k:`f):fit.filter (bg [(b,k)])=b9 fit b k:=List.filter_congr λx _=>Hq b k x
theorem za {cs:Cs}(hb:∀fit,jk cs fit∈cs):∀(f:Nat) (fit:Cs) (n:Nat),fit≠[]->BN cs f fit=true->(∀h∈fit,(cq cs h f fit).length<=n)->okP cs n fit=true
 |0,fit,n,ne,ck,_=>dQ (beq_iff_eq.mp ck) n
 |f+1,fit,n,ne,ck,hp=>by
  by_cases h1:fit.length=1
  . exact dQ h1 n
  . obtain⟨x,hx⟩:=List.exists_mem_of_ne_nil fit ne;have len:∀h∈fit,(cq cs h (f+1) fit).length=(cq cs h f (b9 fit (jk cs fit) (GC.ans h (jk cs fit)))).length+1:=λh _=>by
     rw [cq,if_neg h1,zC, <-vt];rfl
    cases n with
    |zero=>
     have:=hp x hx;rw [len x hx]at this;lia
    |succ n=>
     refine BC (hb fit) λk hk=>?_;obtain⟨y,hy,e⟩:=iN.mp hk;subst e;obtain⟨_,c2,_⟩:=Ho ck hy h1;have c2:BN cs f (fit.filter (bg [(jk cs fit,GC.ans y (jk cs fit))]))=true:=c2;rw [vt]at c2;refine za hb f _ n (kA fit _ _ hk) c2 λh hh=>?_;obtain⟨a1,a2⟩:=C9.mp hh;have:=hp h a1;rw [len h a1,of_decide_eq_true a2]at this;lia
def kR(q:KN):PyData:=.tuple [.int (-q.2),aH q.1]
theorem KJ(q:KN):uW (kR q)=true:=(wQ (n:=1) λd hd=>by
 rcases Q3.mp hd with rfl|hd
 . exact⟨(jL _).1,by have:=(jL (-q.2)).2;lia⟩
 . rcases Q3.mp hd with rfl|hd
   . exact lG _
   . cases hd).ok
theorem KK(a b:KN):L2.pI (kR a) (kR b)=some (if a.2=b.2 then c6 a.1 b.1 else decide (a.2 > b.2)):=by
 unfold kR;rw [L2.pI,L2.ltL,L2.ltL,rL,sJ]
 by_cases e:a.2=b.2
 . rw [if_pos (by rw [e];exact decide_eq_true rfl),if_pos e]
   by_cases e2:a.1=b.1
   . rw [if_pos (decide_eq_true e2),e2,DL.ii];rfl
   . rw [if_neg (by simpa using e2),yU]
 . rw [if_neg (by simp;lia),if_neg e]
   show some (decide (-a.2 < -b.2))=_;congr 1
   exact decide_eq_decide.mpr `e
theorem C0 {fk:PyData->Option PyData}:∀{l:List KN},(∀q∈l,fk (d6 q)=some (kR q))->GU fk (l.map d6)=some (l.map kR)
 |[],_=>rfl
 |x::r,h=>by
  show (fk (d6 x)).bind (λk=>(GU fk (r.map d6)).bind λks=>some (k::ks))=_;rw [h x gG,C0 λy hy=>h y (iJ _ hy)];rfl
theorem Mb {cs:Cs}{q:KN}(h:q∈lK (fT g cs)):q.1∈(fT g cs).map (·.1):=zP ((f8 _).mem_iff.mp h)
variable {v:Int}
theorem Hr {m:Cn}(h:j∈(ox m k v).map (·.1)):j∈m.map (·.1)\/j=k:=by
 unfold ox at h;split at h
 . rw [zO]at h;obtain⟨p,hp,e⟩:=Q6.mp h;have e:(if p.1=k then(p.1,v)else p).1=j:=e;split at e
   . exact .inl (Q6.mpr ⟨p,hp,e⟩)
   . exact .inl (Q6.mpr ⟨p,hp,e⟩)
 . rw [AB]at h
   rcases Ca.mp h with h|h
   . exact .inl h
   . exact .inr (by simpa using h)
theorem vu:∀(cs:List `f) (m:Cn),j∈(cs.foldl (λm x=>ox m (GC.ans x g) (xD m (GC.ans x g)+1)) m).map (·.1)->j∈m.map (·.1)\/∃x∈cs,GC.ans x g=j
 |[],m,h=>.inl h
 |x::r,m,h=>by
  rw [List.foldl_cons]at h
  rcases vu r _ h with h|⟨y,hy,e⟩
  . rcases Hr h with h|h
    . exact .inl h
    . exact .inr ⟨x,gG,h.symm⟩
  . exact .inr ⟨y,iJ _ hy,e⟩
theorem Hs(h:j∈(fT g cs).map (·.1)):∃x∈cs,GC.ans x g=j:=by
 rcases vu cs [] h with h|h
 . cases h
 . exact h
variable {rows:List KN}
theorem Mc(hne:rows≠[])(v0 v1 v2 v4:Option Sl):∃q∈rows,(CF (aF 3) [] (cz (aB (AZ (d2 cT (aF 0) (dC (.int 1)))) (aB (d2 cT (aF 0) (dC (.int 0))) aL)))) [v0,v1,v2,some (.fz (.list (rows.map d6))),v4]=some (d6 q):=by
 have ky:=C0 (fk:=λx=>(cz (aB (AZ (d2 cT (aF 0) (dC (.int 1)))) (aB (d2 cT (aF 0) (dC (.int 0))) aL))) (iQ 1 [x])) (l:=rows) λq _=>by
  have i1:cT (d6 q) (.int 1)=some (.int q.2):=rfl;have i0:cT (d6 q) (.int 0)=some (aH q.1):=rfl;have l2:(2:Nat)<=fD:=dN (by decide)
  simp only [iQ,aF,dC,d2,aL,aB,cz,AZ,zI,zL,zC,zH,Q8,zA,List.replicate,zD,Nat.reduceAdd,Nat.reduceSub, ↓reduceIte,iQ,zI,zL,i1,i0,l2,kR]
 have pos:0 < rows.length:=LK.mpr hne;have ix:=wZ (yS (rows.map kR)) ((rows.map d6).length - 1);rw [zJ]at ix;refine⟨rows[j7 (yS (rows.map kR)) ((rows.map d6).length - 1)]'(by rw [zJ];lia),AA _,?_⟩
 show GV (λx=>(cz (aB (AZ (d2 cT (aF 0) (dC (.int 1)))) (aB (d2 cT (aF 0) (dC (.int 0))) aL))) (iQ 1 [x])) (rows.map d6)=_;unfold GV;rw [ky,zD,if_pos]
 . rw [zK,dS (by rw [zJ];lia)]
   rfl
 . rw [Q5,Q5];refine⟨⟨?_,?_⟩,?_⟩
   . cases rows with
     |nil=>exact absurd rfl hne
     |cons _ _=>rfl
   . rw [Q2];intro d hd;obtain⟨x,_,rfl⟩:=Q6.mp hd;exact KJ x
   . rw [Q2];intro d hd;rw [Q2];intro e he;obtain⟨x,_,rfl⟩:=Q6.mp hd;obtain⟨y,_,rfl⟩:=Q6.mp he;rw [KK];rfl
theorem Dy(h:l.isEmpty=false):bI [.list l]=some (.list l):=by
 simp only [bI,iw,dR,fJ,bF,iQ,aX,fR,ai,aF,gO,rq,dP,az,eX,bz,zI,zL,zC,zH,Q8,zA,List.replicate,zD,zG,Nat.reduceAdd,Nat.reduceSub, ↓reduceIte,rR,Bool.not_false,zN,h]
variable {as:List lz}
theorem Md(q1:kK [aH [p,c],.list (as.map av),aH g]=some (.list (rows.map d6)))(hne:rows≠[]):∃q∈rows,eh [aH [p,c],.list (as.map av),aH g]=some (aH q.1):=by
 have e:(rows.map d6).isEmpty=false:=by
  cases rows with
  |nil=>exact absurd rfl hne
  |cons _ _=>rfl
 have q2:=Dy e;obtain⟨q,hq,q3⟩:=Mc hne (some (.fz (aH [p,c]))) (some (.fz (.list (as.map av)))) (some (.fz (aH g))) none;have q4:cT (d6 q) (.int 0)=some (aH q.1):=rfl;exact⟨q,hq,by simp only [eh,tG,jV,mR,mQ,bF,iQ,aX,bO,ai,aF,dC,d2,aG,aL,aB,bz,zI,zL,zC,zH,uN,uO,zA,zB,zE,zF,List.replicate,zD,zG,Nat.reduceAdd,Nat.reduceSub, ↓reduceIte,q1,q2,q3,q4]⟩
theorem BO(h:(p,c)∈cn){as:List lz}(ao:∀a∈as,AskOk p c a)(al:as.length<=8)(x:`f)(r:List `f)(e:(aN p c).filter (bg as)=x::r):
 ga [aH [p,c],.list (as.map av)]=some (if r.isEmpty=true then aH x else .none):=by
 have q1:cE [aH [p,c],.list (as.map av)]=some (jW (x::r)):=e▸kP h ao al;have q2:=vo (x::r) (by simp)
 cases r with
 |nil=>
  have q1:cE [aH [p,c],.list (as.map av)]=some (.list [aH x]):=q1;have q2:bI [.list [aH x]]=some (.list [aH x]):=q2;have g:decide ((1:Int) < ((0+1:Nat):Int))=false:=rfl;have ix:cT (.list [aH x]) (.int 0)=some (aH x):=rfl;simp only [ga,qh,kJ,mz,mw,bF,iQ,aX,fR,bO,ai,aF,dC,d2,bE,aG,aL,aB,dB,az,bz,fF,xx,vP,zI,zL,zC,zH,uN,uO,zA,zB,zE,zF,List.replicate,zD,zG,Nat.reduceAdd,Nat.reduceSub, ↓reduceIte,zN,q1,q2,g,ix,List.isEmpty_nil]
 |cons y r=>
  have q1:cE [aH [p,c],.list (as.map av)]=some (.list (aH x::aH y::r.map aH)):=q1;have q2:bI [.list (aH x::aH y::r.map aH)]=some (.list (aH x::aH y::r.map aH)):=q2;have g:decide ((1:Int) < (((r.map aH).length+1+1:Nat):Int))=true:=decide_eq_true `e
  simp only [ga,qh,kJ,mz,mw,bF,iQ,aX,fR,bO,ai,aF,dC,d2,bE,aG,aL,aB,dB,az,bz,fF,xx,vP,zI,zL,zC,zH,uN,uO,zA,zB,zE,zF,List.replicate,zD,zG,Nat.reduceAdd,Nat.reduceSub, ↓reduceIte,zN,q1,q2,g,List.isEmpty_cons]
noncomputable def at_(q:`f)(i:Nat):Nat:=(q.getD i 0).toNat
noncomputable def col(C:`f)(x:Int):Int:=C.getD x.toNat 0
def cH(P C a:`f):List Int:=(List.range a.length).foldl (λr i=>r.set (at_ P i) (col C (a.getD i 0))) a
noncomputable def jX(n x:Int):List Int:=(List.range n.toNat).map λi:Nat=>((i:Int)+x) % n
def dO(n:Int):List `f:=(List.range n.toNat).map λi:Nat=>jX n (i:Int)
theorem xE {n:Int}(h0:1<=n)(x:Int):jX n x∈dO n:=by
 have a:=Int.emod_nonneg x (show n≠0 by lia)
 have b:=Int.emod_lt_of_pos x (show 0 < n by lia)
 refine Q6.mpr ⟨(x % n).toNat,List.mem_range.mpr `e,?_⟩
 unfold jX;refine B3 λi _=>?_;rw [Int.toNat_of_nonneg a,Int.add_emod_emod]
structure Ord (n:Int) (q:`f):Prop where
 len:(q.length:Int)=n
 perm:q.Perm ((List.range n.toNat).map λi:Nat=>(i:Int))
variable {q:`f}{n:Int}
theorem Ord.b(h:Ord n q):∀x∈q,0<=x/\x < n:=λx hx=>by
 obtain⟨i,hi,rfl⟩:=Q6.mp (h.perm.mem_iff.mp hx);have:=List.mem_range.mp hi;lia
noncomputable def NA(n:Int):List Int:=(List.range n.toNat).map λi:Nat=>(i:Int)
theorem Me(n:Int):(NA n).Pairwise (· <= ·):=List.pairwise_map.mpr (List.pairwise_lt_range.imp λ{a b} h=>by lia)
theorem Ord.up(h:Ord n q):ML q=NA n:=(LA h.perm.symm (Me n)).symm
theorem Ht(a:`f):j6 (.list (a.map .int)) (.list (a.map .int))=some (.bool true):=by
 have ok:okN 1 (.list (a.map .int)):=xu λd hd=>by
  obtain⟨x,_,rfl⟩:=Q6.mp hd;exact jL _
 have nb':nb (.list (a.map .int))=true:=Iy λd hd=>by
  obtain⟨x,_,rfl⟩:=Q6.mp hd;rfl
 rw [sK ok.ok ok.ok,(wO _ _ nb' nb').mpr rfl]
noncomputable def BP(n:Int):PyData->Bool
 | .int k=>decide (0<=k)&&decide (k<=n - 1)
 |_=>false
noncomputable def LG:PyData->Bool
 | .int _=>true
 | .none=>true
 | .str _=>true
 |_=>false
theorem Mg(s:Str):me (.str s) "int"=false:=by simp [me,II]
theorem Mi:me .none "int"=false:=by decide
theorem Mj(n:Int){d:PyData}(h:LG d=true):ag [d,.int 0,.int (n - 1)]=some (.bool (BP n d)):=by
 cases d with
 |int k=>exact qF k 0 (n - 1)
 |none=>simp only [ag,cQ,bf,bF,iQ,ai,aF,dB,gP,vI,bz,mD,pY,zI,zL,zC,zH,Q8,zA,zB,List.replicate,zD,zG,Nat.reduceAdd,Nat.reduceSub, ↓reduceIte,zN,Mi,BP]
 |str s=>simp only [ag,cQ,bf,bF,iQ,ai,aF,dB,gP,vI,bz,mD,pY,zI,zL,zC,zH,Q8,zA,zB,List.replicate,zD,zG,Nat.reduceAdd,Nat.reduceSub, ↓reduceIte,zN,Mg,BP]
 |bool _=>cases h
 |list _=>cases h
 |tuple _=>cases h
 |dict _=>cases h
theorem Dz(n:Int){ds:`g}(hl:ds.length<=1000)(hd:∀d∈ds,LG d=true):(bK 1 [("size",1)] (bi (aF 0)) (gN 0) dE (aG 3 ag (aB (aF 0) (aB (dC (.int 0)) (aB (d2 uU (aF 1) (dC (.int 1))) aL))))) [some (.fz (.tuple ds)),some (.fz (.int n))]=some ((ds.map (BP n)).map PyData.bool):=by
 rw [dF (λd=>.bool (BP n d)) rfl (dN hl) (λd hd'=>?_),zO]
 . rfl
 . have q:=Mj n (hd d hd');simp only [aF,dC,d2,aG,aL,aB,f6,dE,gN,A1,zI,zL,zC,zH,uN,uO,zA,zB,zE,List.replicate,zD,zG,Nat.reduceAdd, ↓reduceIte,q]
theorem zb(hn:n<=50){q:`f}(h:Ord n q):ji [aH q,.int n]=some (.bool true):=by
 have l:=h.len;have e0:decide (((q.map PyData.int).length:Int)=n)=true:=decide_eq_true (by rw [zJ];exact l)
 have mm:=Dz n (ds:=q.map .int) (by rw [zJ];lia) (λd hd=>by
  obtain⟨x,_,rfl⟩:=Q6.mp hd;rfl)
 have al:((q.map PyData.int).map (BP n)).all id=true:=Q2.mpr λb hb=>by
  obtain⟨d,hd,rfl⟩:=Q6.mp hb;obtain⟨x,hx,rfl⟩:=Q6.mp hd;have:=h.b x hx;show (decide (0<=x)&&decide (x<=n - 1))=true;rw [decide_eq_true this.1,decide_eq_true (show x<=n - 1 by lia)]
  rfl
 have bm:=jq ((q.map PyData.int).map (BP n));have so:wb [.tuple (q.map .int)]=some (.list ((NA n).map .int)):=by
  show ((ee (q.map .int)).bind λns=>if ns.length < 64 then some (PyData.list ((ML ns).map .int))else none)=_;rw [bM,zD,if_pos `e,h.up]
 have rg:bL 0 n.toNat=(NA n).map .int:=by rw [qG,NA,zO];rfl
 have r1:decide (0<=n)=true:=decide_eq_true `e
 have r2:decide (n<=100000)=true:=decide_eq_true `e
 have eq:=Ht (NA n);simp only [ji,wv,lT,qk,aH,bF,iQ,aX,fR,ai,aF,dC,d2,bE,aL,aB,br,dB,gO,rq,dP,sA,gP,az,bz,mD,wR,fF,Bo,xt,sN,zI,zL,zC,zH,Q8,zA,zB,List.replicate,zD,zG,Nat.reduceAdd,Nat.reduceSub, ↓reduceIte,rR,Bool.and_true,zN,Bn,e0,mm,bm,al,so,rg,r1,r2,eq]
theorem qH(h:ji [d,.int n]=some (.bool true)):cj [d,.int n]=some d:=by simp only [cj,oq,f9,jj,bF,iQ,aX,fR,ai,aF,aG,aL,aB,gO,rq,dP,az,eX,bz,zI,zL,zC,zH,Q8,zA,zB,List.replicate,zD,zG,Nat.reduceAdd,Nat.reduceSub, ↓reduceIte,rR,zN,h]
theorem KL(h0:1<=n)(h1:n<=5)(x:Int):Ord n (jX n x):=by
 have e:jX n x=jX n (x % n):=by
  unfold jX;refine B3 λi _=>?_;rw [Int.add_emod_emod]
 rw [e];have a:=Int.emod_nonneg x (show n≠0 by lia)
 have b:=Int.emod_lt_of_pos x (show 0 < n by lia)
 generalize x % n=r at a b;have:n=1\/n=2\/n=3\/n=4\/n=5:=by lia
 rcases this with rfl|rfl|rfl|rfl|rfl
 . have:r=0:=by lia
   subst this;exact⟨rfl,by decide⟩
 . have:r=0\/r=1:=by lia
   rcases this with rfl|rfl<;>exact⟨rfl,by decide⟩
 . have:r=0\/r=1\/r=2:=by lia
   rcases this with rfl|rfl|rfl<;>exact⟨rfl,by decide⟩
 . have:r=0\/r=1\/r=2\/r=3:=by lia
   rcases this with rfl|rfl|rfl|rfl<;>exact⟨rfl,by decide⟩
 . have:r=0\/r=1\/r=2\/r=3\/r=4:=by lia
   rcases this with rfl|rfl|rfl|rfl|rfl<;>exact⟨rfl,by decide⟩
theorem Hu {n:Int}(h0:1<=n)(h1:n<=5)(x:Int):cj [aH (jX n x),.int n]=some (aH (jX n x)):=qH (zb `e (KL h0 h1 x))
def xF(p c:Int):Bool:=(dO p).all λP=>(dO c).all λC=>((aN p c).all λx=>(aN p c).contains (cH P C x)&&(aN p c).all λy=>decide (GC.ans (cH P C x) (cH P C y)=GC.ans x y))&&((aN p c).map (cH P C)).isPerm (aN p c)
theorem ON:(dO 2).map (λP=>(dO 3).map λC=>(aN 2 3).map λx=>bQ [aH x,aH P,aH C])=(dO 2).map (λP=>(dO 3).map λC=>(aN 2 3).map λx=>some (aH (cH P C x)))/\xF 2 3=true:=⟨by kernel_rfl,by decide+kernel⟩
theorem OO:(dO 3).map (λP=>(dO 2).map λC=>(aN 3 2).map λx=>bQ [aH x,aH P,aH C])=(dO 3).map (λP=>(dO 2).map λC=>(aN 3 2).map λx=>some (aH (cH P C x)))/\xF 3 2=true:=⟨by kernel_rfl,by decide+kernel⟩
theorem OP:(dO 2).map (λP=>(dO 4).map λC=>(aN 2 4).map λx=>bQ [aH x,aH P,aH C])=(dO 2).map (λP=>(dO 4).map λC=>(aN 2 4).map λx=>some (aH (cH P C x)))/\xF 2 4=true:=⟨by kernel_rfl,by decide+kernel⟩
theorem OQ:(dO 4).map (λP=>(dO 2).map λC=>(aN 4 2).map λx=>bQ [aH x,aH P,aH C])=(dO 4).map (λP=>(dO 2).map λC=>(aN 4 2).map λx=>some (aH (cH P C x)))/\xF 4 2=true:=⟨by kernel_rfl,by decide+kernel⟩
theorem OR:(dO 1).map (λP=>(dO 5).map λC=>(aN 1 5).map λx=>bQ [aH x,aH P,aH C])=(dO 1).map (λP=>(dO 5).map λC=>(aN 1 5).map λx=>some (aH (cH P C x)))/\xF 1 5=true:=⟨by kernel_rfl,by decide+kernel⟩
theorem OS:(dO 2).map (λP=>(dO 2).map λC=>(aN 2 2).map λx=>bQ [aH x,aH P,aH C])=(dO 2).map (λP=>(dO 2).map λC=>(aN 2 2).map λx=>some (aH (cH P C x)))/\xF 2 2=true:=⟨by kernel_rfl,by decide+kernel⟩
theorem OT:(dO 1).map (λP=>(dO 3).map λC=>(aN 1 3).map λx=>bQ [aH x,aH P,aH C])=(dO 1).map (λP=>(dO 3).map λC=>(aN 1 3).map λx=>some (aH (cH P C x)))/\xF 1 3=true:=⟨by kernel_rfl,by decide+kernel⟩
theorem QK(h:(p,c)∈de):(dO p).map (λP=>(dO c).map λC=>(aN p c).map λx=>bQ [aH x,aH P,aH C])=(dO p).map (λP=>(dO c).map λC=>(aN p c).map λx=>some (aH (cH P C x)))/\xF p c=true:=by
 rcases iU h with ⟨rfl,rfl⟩|⟨rfl,rfl⟩|⟨rfl,rfl⟩|⟨rfl,rfl⟩|⟨rfl,rfl⟩|⟨rfl,rfl⟩|⟨rfl,rfl⟩
 . exact ON
 . exact OO
 . exact OP
 . exact OQ
 . exact OR
 . exact OS
 . exact OT
theorem OU:((aN 2 3).map λh=>dw [aH [2,3],aH h])=(aN 2 3).map λh=>some (.list ((cq (aN 2 3) h 8 (aN 2 3)).map av)):=by kernel_rfl
theorem OV:((aN 3 2).map λh=>dw [aH [3,2],aH h])=(aN 3 2).map λh=>some (.list ((cq (aN 3 2) h 8 (aN 3 2)).map av)):=by kernel_rfl
theorem OW:((aN 2 4).map λh=>dw [aH [2,4],aH h])=(aN 2 4).map λh=>some (.list ((cq (aN 2 4) h 8 (aN 2 4)).map av)):=by kernel_rfl
theorem OX:((aN 4 2).map λh=>dw [aH [4,2],aH h])=(aN 4 2).map λh=>some (.list ((cq (aN 4 2) h 8 (aN 4 2)).map av)):=by kernel_rfl
theorem OY:((aN 1 5).map λh=>dw [aH [1,5],aH h])=(aN 1 5).map λh=>some (.list ((cq (aN 1 5) h 8 (aN 1 5)).map av)):=by kernel_rfl
theorem OZ:((aN 2 2).map λh=>dw [aH [2,2],aH h])=(aN 2 2).map λh=>some (.list ((cq (aN 2 2) h 8 (aN 2 2)).map av)):=by kernel_rfl
theorem Oa:((aN 1 3).map λh=>dw [aH [1,3],aH h])=(aN 1 3).map λh=>some (.list ((cq (aN 1 3) h 8 (aN 1 3)).map av)):=by kernel_rfl
theorem QL(h:(p,c)∈de):((aN p c).map λh=>dw [aH [p,c],aH h])=(aN p c).map λh=>some (.list ((cq (aN p c) h 8 (aN p c)).map av)):=by
 rcases iU h with ⟨rfl,rfl⟩|⟨rfl,rfl⟩|⟨rfl,rfl⟩|⟨rfl,rfl⟩|⟨rfl,rfl⟩|⟨rfl,rfl⟩|⟨rfl,rfl⟩
 . exact OU
 . exact OV
 . exact OW
 . exact OX
 . exact OY
 . exact OZ
 . exact Oa
structure Nm (p c:Int) (P C:`f):Prop where
 code:∀x∈aN p c,bQ [aH x,aH P,aH C]=some (aH (cH P C x))
 mem:∀x∈aN p c,cH P C x∈aN p c
 ans:∀x∈aN p c,∀y∈aN p c,GC.ans (cH P C x) (cH P C y)=GC.ans x y
 perm:((aN p c).map (cH P C)).Perm (aN p c)
theorem QA(h:(p,c)∈de){P C:`f}(hP:P∈dO p)(hC:C∈dO c):Nm p c P C:=by
 obtain⟨k1,k2⟩:=QK h;unfold xF at k2;have k3:=Q2.mp (Q2.mp k2 P hP) C hC;rw [Q5]at k3;have k4:=λx hx=>Bool.and_eq_true_iff.mp (Q2.mp k3.1 x hx);exact⟨λx hx=>lW (lW (lW k1 P hP) C hC) x hx,λx hx=>List.contains_iff_mem.mp (k4 x hx).1,λx hx y hy=>of_decide_eq_true (Q2.mp (k4 x hx).2 y hy),List.isPerm_iff.mp k3.2⟩
def Hv(P C:`f)(a:lz):lz:=(cH P C a.1,a.2)
theorem Hw {P C:`f}(n:Nm p c P C){as:List lz}(ao:∀a∈as,a.1∈aN p c):((aN p c).filter (bg (as.map (Hv P C)))).Perm (((aN p c).filter (bg as)).map (cH P C)):=by
 have fm:((aN p c).map (cH P C)).filter (bg (as.map (Hv P C)))=((aN p c).filter (bg as)).map (cH P C):=by
  rw [List.filter_map];congr 1
  refine List.filter_congr λx hx=>?_;show bg (as.map (Hv P C)) (cH P C x)=bg as x;unfold bg;rw [List.all_map,Bool.eq_iff_iff,Q2,Q2];have e:∀a∈as,((λa:lz=>decide (GC.ans (cH P C x) a.1=a.2))∘Hv P C) a=decide (GC.ans x a.1=a.2):=λa ha=>by
   show decide (GC.ans (cH P C x) (cH P C a.1)=a.2)=_;rw [n.ans x hx a.1 (ao a ha)]
  exact⟨λh a ha=>by rw [<-e a ha];exact h a ha,λh a ha=>by rw [e a ha];exact h a ha⟩
 rw [<-fm];exact(n.perm.filter _).symm
theorem BQ(h7:(p,c)∈de){x y:Int}{as:List lz}(ao:∀a∈as,AskOk p c a)(al:as.length<=8):
 jB [aH [p,c],tT as,aH (jX p x),aH (jX c y)]=some (tT (as.map (Hv (jX p x) (jX c y)))):=by
 have h:=fA h7;have b:=eB h;have n:=QA h7 (xE (n:=p) `e x) (xE (n:=c) `e y)
 have i0:cT (aH [p,c]) (.int 0)=some (.int p):=rfl;have i1:cT (aH [p,c]) (.int 1)=some (.int c):=rfl;have q1:=ku h;have q2:=kz h ao al;have q3:=Hu (n:=p) `e `e x
 have q4:=Hu (n:=c) `e `e y
 generalize jX p x=P at*;generalize jX c y=C at*;have z2:(2:Nat)<=fD:=tP 2;have cx:(bK 1 [("places",2),("colours",3)] (bi (aF 1)) (gN 0) dE (cz (aB (aG 3 bQ (aB (d2 cT (aF 0) (dC (.int 0))) (aB (aF 1) (aB (aF 2) aL)))) (aB (d2 cT (aF 0) (dC (.int 1))) aL)))) [some (.fz (aH [p,c])),some (.fz (tT as)),some (.fz (aH P)),some (.fz (aH C))]=some ((as.map (Hv P C)).map av):=by
  rw [dF (ds:=as.map av) (λd=>match d with| .tuple [d1,d2]=>.tuple [aH (cH P C (fq d1)),d2]|d=>d) rfl (by rw [zJ];exact dN `e) (λd hd=>?_)]
  . rw [zO,zO];congr 1
    refine B3 λa _=>?_;show PyData.tuple [aH (cH P C (fq (aH a.1))),aH a.2]=_;rw [dc];rfl
  . obtain⟨a,ha,rfl⟩:=Q6.mp hd;have q:=n.code a.1 (kQ h (ao a ha).code);have e:(match av a with| .tuple [d1,d2]=>.tuple [aH (cH P C (fq d1)),d2]|d=>d)=PyData.tuple [aH (cH P C a.1),aH a.2]:=by
     show PyData.tuple [aH (cH P C (fq (aH a.1))),aH a.2]=_;rw [dc]
    rw [e];simp only [aF,dC,d2,aG,aL,aB,cz,f6,dE,gN,zI,zL,zC,zH,uN,uO,zA,zB,zE,List.replicate,zD,zG,Nat.reduceAdd, ↓reduceIte,Pn,Po,q,z2]
 simp only [jB,yy,nK,tN,tM,tL,tK,bF,iQ,aX,ai,iF,aF,dC,d2,aG,aL,aB,br,bz,zI,zL,zC,zH,Q8,zA,zB,List.replicate,zD,zG,Nat.reduceAdd,Nat.reduceSub, ↓reduceIte,q1,q2,q3,q4,i0,i1,cx];rfl
theorem BR {ns:`f}:∀j,j < ns.length->ns.getD (j7 (λi j=>GK ((ns.map PyData.int).getD i .none) ((ns.map PyData.int).getD j .none)) j) 0=pJ ns j/\j7 (λi j=>GK ((ns.map PyData.int).getD i .none) ((ns.map PyData.int).getD j .none)) j<=j
 |0,_=>⟨rfl,Q1 _⟩
 |j+1,h=>by
  obtain⟨q1,q2⟩:=BR (ns:=ns) j `e
  have gx:∀i,i < ns.length->(ns.map PyData.int).getD i .none=.int (ns.getD i 0):=λi hi=>by
   rw [gh,zK,dS hi,gh,dS hi];rfl
  have hI:j7 (λi j=>GK ((ns.map PyData.int).getD i .none) ((ns.map PyData.int).getD j .none)) (j+1)=if GK ((ns.map PyData.int).getD (j+1) .none) ((ns.map PyData.int).getD (j7 (λi j=>GK ((ns.map PyData.int).getD i .none) ((ns.map PyData.int).getD j .none)) j) .none)=true then j+1 else j7 (λi j=>GK ((ns.map PyData.int).getD i .none) ((ns.map PyData.int).getD j .none)) j:=rfl;have hM:pJ ns (j+1)=if decide (ns.getD (j+1) 0 > pJ ns j)=true then ns.getD (j+1) 0 else pJ ns j:=rfl;rw [hI,hM,gx (j+1) h,gx _ `e,q1]
  by_cases c:decide (ns.getD (j+1) 0 > pJ ns j)=true
  . have c':GK (.int (ns.getD (j+1) 0)) (.int (pJ ns j))=true:=c;rw [if_pos c',if_pos c];exact⟨rfl,Q1 _⟩
  . have c':¬GK (.int (ns.getD (j+1) 0)) (.int (pJ ns j))=true:=c;rw [if_neg c',if_neg c];exact⟨q1,by lia⟩
variable {ns:`f}
theorem Ml(h:ns≠[]):uZ [.list (ns.map PyData.int)]=some (.int (pJ ns (ns.length - 1))):=by
 have pos:0 < ns.length:=LK.mpr h;obtain⟨q1,q2⟩:=BR (ns:=ns) (ns.length - 1) `e
 have c:(!(ns.map PyData.int).isEmpty&&(ee (ns.map PyData.int)).isSome)=true:=by
  rw [bM];cases ns with
  |nil=>exact absurd rfl h
  |cons _ _=>rfl
 show (if(!(ns.map PyData.int).isEmpty&&(ee (ns.map PyData.int)).isSome)=true then(ns.map PyData.int)[_]? else none)=_;rw [if_pos c,zJ,zK,dS `e]
 rw [gh,dS `e]at q1
 rw [<-q1];rfl
theorem LH {ns:`f}:∀t i,i<=t->ns.getD i 0<=pJ ns t
 |0,i,h=>by
  have:i=0:=by lia
  subst this;exact Int.le_refl _
 |t+1,i,h=>by
  show _<=if decide (ns.getD (t+1) 0 > pJ ns t)=true then ns.getD (t+1) 0 else pJ ns t
  rcases Nat.lt_or_ge t i with z|z
  . have:i=t+1:=by lia
    subst this;split
    . exact Int.le_refl _
    . rename_i c;have:¬ns.getD (t+1) 0 > pJ ns t:=by simpa using c
      lia
  . have:=LH (ns:=ns) t i z;split
    . rename_i c;have:=of_decide_eq_true c;lia
    . exact this
theorem Hy {ns:`f}(h:ns≠[]){m:Int}(h1:m∈ns)(h2:∀x∈ns,x<=m):uZ [.list (ns.map PyData.int)]=some (.int m):=by
 rw [Ml h];have pos:0 < ns.length:=LK.mpr h;obtain⟨q1,q2⟩:=BR (ns:=ns) (ns.length - 1) `e
 have a:pJ ns (ns.length - 1)<=m:=by
  rw [<-q1,gh,dS `e]
  exact h2 _ (AA _)
 obtain⟨i,hi,e⟩:=List.getElem_of_mem h1;have b:=LH (ns:=ns) (ns.length - 1) i `e
 rw [gh,dS hi]at b;have b:ns[i]<=pJ ns (ns.length - 1):=b;congr 2
 lia
def zc(p:Int)(cs:Cs):Bool:=cs.all λx=>cs.all λy=>decide ((GC.ans x y).length=2)&&(GC.ans x y).all λn=>decide (0<=n)&&decide (n<=p)
theorem Ob:(aN 2 3).map (λx=>(aN 2 3).map λy=>au [aH x,aH y])=(aN 2 3).map (λx=>(aN 2 3).map λy=>some (aH (GC.ans x y)))/\zc 2 (aN 2 3)=true:=⟨by kernel_rfl,by decide+kernel⟩
theorem Oc:(aN 3 2).map (λx=>(aN 3 2).map λy=>au [aH x,aH y])=(aN 3 2).map (λx=>(aN 3 2).map λy=>some (aH (GC.ans x y)))/\zc 3 (aN 3 2)=true:=⟨by kernel_rfl,by decide+kernel⟩
theorem Od:(aN 2 4).map (λx=>(aN 2 4).map λy=>au [aH x,aH y])=(aN 2 4).map (λx=>(aN 2 4).map λy=>some (aH (GC.ans x y)))/\zc 2 (aN 2 4)=true:=⟨by kernel_rfl,by decide+kernel⟩
theorem Oe:(aN 4 2).map (λx=>(aN 4 2).map λy=>au [aH x,aH y])=(aN 4 2).map (λx=>(aN 4 2).map λy=>some (aH (GC.ans x y)))/\zc 4 (aN 4 2)=true:=⟨by kernel_rfl,by decide+kernel⟩
theorem Of:(aN 1 5).map (λx=>(aN 1 5).map λy=>au [aH x,aH y])=(aN 1 5).map (λx=>(aN 1 5).map λy=>some (aH (GC.ans x y)))/\zc 1 (aN 1 5)=true:=⟨by kernel_rfl,by decide+kernel⟩
theorem Og:(aN 2 2).map (λx=>(aN 2 2).map λy=>au [aH x,aH y])=(aN 2 2).map (λx=>(aN 2 2).map λy=>some (aH (GC.ans x y)))/\zc 2 (aN 2 2)=true:=⟨by kernel_rfl,by decide+kernel⟩
theorem Oh:(aN 1 3).map (λx=>(aN 1 3).map λy=>au [aH x,aH y])=(aN 1 3).map (λx=>(aN 1 3).map λy=>some (aH (GC.ans x y)))/\zc 1 (aN 1 3)=true:=⟨by kernel_rfl,by decide+kernel⟩
theorem QM(h:(p,c)∈de):(aN p c).map (λx=>(aN p c).map λy=>au [aH x,aH y])=(aN p c).map (λx=>(aN p c).map λy=>some (aH (GC.ans x y)))/\zc p (aN p c)=true:=by
 rcases iU h with ⟨rfl,rfl⟩|⟨rfl,rfl⟩|⟨rfl,rfl⟩|⟨rfl,rfl⟩|⟨rfl,rfl⟩|⟨rfl,rfl⟩|⟨rfl,rfl⟩
 . exact Ob
 . exact Oc
 . exact Od
 . exact Oe
 . exact Of
 . exact Og
 . exact Oh
theorem Mm(h:(p,c)∈de){x y:`f}(hx:Code p c x)(hy:Code p c y):au [aH x,aH y]=some (aH (GC.ans x y))/\(GC.ans x y).length=2/\∀n∈GC.ans x y,0<=n/\n<=p:=by
 obtain⟨k1,k2⟩:=QM h;have hx:=kQ (fA h) hx;have hy:=kQ (fA h) hy;have k3:=Bool.and_eq_true_iff.mp (Q2.mp (Q2.mp k2 x hx) y hy);refine⟨lW (lW k1 x hx) y hy,of_decide_eq_true k3.1,λn hn=>?_⟩;have:=Bool.and_eq_true_iff.mp (Q2.mp k3.2 n hn);exact⟨of_decide_eq_true this.1,of_decide_eq_true this.2⟩
theorem BS(h7:(p,c)∈de){as:List lz}(ao:∀a∈as,AskOk p c a)(al:as.length<=8)(hne:(aN p c).filter (bg as)≠[]):∃N,PlanOk (aN p c) ((aN p c).filter (bg as)) N/\a9 [aH [p,c],.list (as.map av)]=some (.int (N:Int)):=by
 obtain⟨N,ok,q⟩:=Hm h7 ao al hne;refine⟨N,ok,?_⟩;have i0:∀d,cT (.tuple [.int (N:Int),d]) (.int 0)=some (.int (N:Int)):=λ_=>rfl;simp only [a9,qx,jA,bF,iQ,ai,aF,dC,d2,aG,aL,aB,bz,zI,zL,zC,zH,Q8,zA,zB,List.replicate,zD,zG,Nat.reduceAdd,Nat.reduceSub, ↓reduceIte,q,i0]
theorem KM(al:as.length<=100):bv (.list (as.map av)) (.list [.tuple [aH g,aH k]])=some (.list ((as++[(g,k)]).map av)):=by
 have z:(as.map av).length+1<=fD:=by rw [zJ];exact dN `e
 rw [AB];simp only [bv,zC,zH,z, ↓reduceIte];rfl
theorem vv(as:List lz)(g k:`f)(cs:Cs):cs.filter (bg (as++[(g,k)]))=b9 (cs.filter (bg as)) g k:=by
 unfold b9;rw [List.filter_filter];refine List.filter_congr λx _=>?_;unfold bg;rw [List.all_append,List.all_cons,List.all_nil,Bool.and_true,Bool.and_comm]
theorem KO(h7:(p,c)∈de){as:List lz}(ao:∀a∈as,AskOk p c a)(al:as.length<=3){g k:`f}(cg:Code p c g)(hk:k∈eZ ((aN p c).filter (bg as)) g):∃N,PlanOk (aN p c) (b9 ((aN p c).filter (bg as)) g k) N/\a9 [aH [p,c],.list ((as++[(g,k)]).map av)]=some (.int (N:Int)):=by
 have hm:=fA h7;obtain⟨x,hx,e⟩:=iN.mp hk;have cx:=fj hm (C9.mp hx).1;obtain⟨_,t1,t2⟩:=Mm h7 cx cg;rw [e]at t1 t2;have:=BS h7 (as:=as++[(g,k)]) (λa ha=>by
  rcases Ca.mp ha with ha|ha
  . exact ao a ha
  . rw [Q7.mp ha];exact⟨cg,t1,t2⟩) (by rw [zQ];simp;lia) (by rw [vv];exact kA _ g k hk)
 rw [vv]at this;exact this
theorem Mn(h7:(p,c)∈de)(hm:(p,c)∈cn)(ns:`f){h:`f}(ch:Code p c h){n:Nat}(hn:n<=3):∃(as:List lz) (v4 v5:Option Sl),ka ((gN 4)) (`n) (bL 0 n) [some (.fz (j5 ns)),some (.fz (aH [p,c])),some (.fz (aH h)),some (.ow []),none,none,none,none,none,none,none]=some (.nx [some (.fz (j5 ns)),some (.fz (aH [p,c])),some (.fz (aH h)),some (.ow (as.map av)),v4,v5,none,none,none,none,none])/\as.length=n/\∀a∈as,AskOk p c a/\GC.ans h a.1=a.2:=by
 have b:=eB hm;have z2:(2:Nat)<=fD:=tP 2;obtain⟨δ',e1,as,v4,v5,e2,al,ao⟩:=ie (fg:=(gN 4)) (fb:=`n) (ds:=bL 0 n) (δ:=[some (.fz (j5 ns)),some (.fz (aH [p,c])),some (.fz (aH h)),some (.ow []),none,none,none,none,none,none,none])
  (λ i δ => ∃ (as : List lz) (v4 v5 : Option Sl), δ = [some (.fz (j5 ns)), some (.fz (aH [p, c])), some (.fz (aH h)), some (.ow (as.map av)), v4, v5, none, none, none, none, none] /\ as.length = i /\ ∀ a ∈ as, AskOk p c a /\ GC.ans h a.1 = a.2) ⟨[], none, none, rfl, rfl, λ a ha => by cases ha⟩ (by
   rintro i hi δ ⟨as,v4,v5,rfl,al,ao⟩;have hi':i < n:=by simpa [bL]using hi
   have ed:(bL 0 n)[i]=.int (i:Nat):=by simp [bL]
   have ce:a8 [j5 ns,.int (3+(i:Int))]=some (.int (bo ns (3+i))):=kL ns (3+i);have q1:nu 13 (i:Int)=true:=qE _ `e
   have q2:nu (13*(i:Int)) (i:Int)=true:=nL _ `e
   have q4:(as.map av).length < fD:=by rw [zJ];exact kZ (show _ < 1000 by lia) (by decide)
   generalize hs:bo ns (3+i)+13*(i:Int)*(i:Int)=sd;have C1:=nM hm sd;have cd1:bZ [.tuple [.int p,.int c],.int sd]=some (aH (tQ p c sd)):=xB hm sd;generalize tQ p c sd=y at C1 cd1;obtain⟨an,t1,t2⟩:=Mm h7 ch C1;have cd1':bZ [aH [p,c],.int sd]=some (aH y):=cd1;rw [ed];refine⟨_,_,rfl,?_,as++[(y,GC.ans h y)],some (.fz (.int (i:Nat))),some (.fz (aH y)),rfl,by simp [al],λa ha=>?_⟩
   . simp only [aX,bO,dA,aF,dC,d2,aG,aL,aB,cz,A3,p7,zC,zH,zA,zB,zE,zF,zD,zG,Nat.reduceAdd, ↓reduceIte,q1,q2,q4,ce,hs,cd1',an,z2];rw [AB];rfl
   . rcases Ca.mp ha with ha|ha
     . exact ao a ha
     . rw [Q7.mp ha];exact⟨⟨C1,t1,t2⟩,rfl⟩)
 have len2:(bL 0 n).length=n:=by simp [bL]
 rw [len2]at al;subst e2;exact⟨as,v4,v5,e1,al,ao⟩
theorem zd(ns:`f){n:Int}(h0:1<=n)(h1:n<=5)(j:Nat):(bL 0 n.toNat).map (λd=>match d with| .int i=>.int ((i+bo ns j) % n)|d=>d)=(jX n (bo ns j)).map PyData.int:=by
 unfold bL jX;rw [zO,zO];refine B3 λi _=>?_;show PyData.int ((0+(i:Int)+bo ns j) % n)=_;rw [Int.zero_add];rfl
theorem C2(n:Nat):(bL 0 n).length=n:=by simp [bL]
theorem Hz(T:Cs):fF [jW T]=some (.int (T.length:Nat)):=by
 show some (PyData.int ((T.map aH).length:Nat))=_;rw [zJ]
variable {s G H:PyData}
theorem Oi {B:aS->Option DFlow}(hg:d9 [s,.int 0]=some G)(c1:a8 [s,.int 1]=some (.int v))(cd:bZ [G,.int v]=some H):
 aX (bO 1 (aG 2 d9 (aB (aF 0) (aB (dC (.int 0)) aL)))) (aX (bO 2 (aG 2 bZ (aB (aF 1) (aB (aG 2 a8 (aB (aF 0) (aB (dC (.int 1)) aL))) aL)))) (aX (iE 3 (bd aL)) B)) [some (.fz s),none,none,none,none,none,none,none,none,none,none]=B [some (.fz s),some (.fz G),some (.fz H),some (.ow []),none,none,none,none,none,none,none]:=by
 have z0:(0:Nat)<=fD:=zU _;simp only [aX,bO,iE,aF,dC,aG,aL,aB,bd,zC,zH,zA,zB,zE,zF,zD,zG,Nat.reduceAdd, ↓reduceIte,hg,c1,cd,z0]
theorem st3 {B:aS->Option DFlow}{δ:aS}(c2:a8 [s,.int 2]=some (.int v))(sm:fZ (v % 4)=true)(lp:ka ((gN 4)) (`n) (bL 0 (v % 4).toNat) [some (.fz s),some (.fz G),some (.fz H),some (.ow []),none,none,none,none,none,none,none]=some (.nx δ)):
 aX (gQ (eO (aB (d2 nv (aG 2 a8 (aB (aF 0) (aB (dC (.int 2)) aL))) (dC (.int 4))) aL)) (gN 4) `n) B [some (.fz s),some (.fz G),some (.fz H),some (.ow []),none,none,none,none,none,none,none]=B δ:=by
 have cm:wL v 4=true:=rfl;simp only [aX,gQ,aF,dC,d2,aG,aL,aB,eO,wS,zC,zH,zA,zD,Nat.reduceAdd, ↓reduceIte,c2,cm,sm,lp]
variable {N:Int}{v4 v5:Option Sl}{as:`g}
theorem QN {B:aS->Option DFlow}(fN:a9 [G,.list as]=some (.int N)):
 aX (cW 3 (bO 6 (aG 2 a9 (aB (aF 1) (aB (aF 3) aL))))) B [some (.fz s),some (.fz G),some (.fz H),some (.ow as),v4,v5,none,none,none,none,none]=B [some (.fz s),some (.fz G),some (.fz H),some (.fz (.list as)),v4,v5,some (.fz (.int N)),none,none,none,none]:=by
 simp only [aX,bO,cW,aF,aG,aL,aB,DL.frz,zC,zH,zA,zB,zE,zF,zD,zG,Nat.reduceAdd, ↓reduceIte,fN]
variable {b:Bool}
theorem st5 {B:aS->Option DFlow}{X:PyData}(st:ga [G,.list as]=some X)(e1:j6 (.int N) (.int 0)=some (.bool b))(e2:j6 X H=some (.bool b))(e3:EQ (.bool b) (.bool b)=some (.bool false)):
 aX (cW 3 (fR (dB (d2 EQ (d2 j6 (aF 6) (dC (.int 0))) (d2 j6 (aG 2 ga (aB (aF 1) (aB (aF 3) aL))) (aF 2)))) (ai (dC (.bool false))) az)) B [some (.fz s),some (.fz G),some (.fz H),some (.fz (.list as)),v4,v5,some (.fz (.int N)),none,none,none,none]=B [some (.fz s),some (.fz G),some (.fz H),some (.fz (.list as)),v4,v5,some (.fz (.int N)),none,none,none,none]:=by
 simp only [aX,fR,ai,cW,aF,dC,d2,aG,aL,aB,dB,az,DL.frz,zC,zH,zA,zB,zD,zG,Nat.reduceAdd, ↓reduceIte,zN,st,e1,e2,e3]
variable {as':`g}{g:PyData}
theorem Pp {B:aS->Option DFlow}{k:PyData}(c7:a8 [s,.int 7]=some (.int v))(ce:bZ [G,.int v]=some g)(foe:eh [G,.list as,g]=some k)(ad:bv (.list as) (.list [.tuple [g,k]])=some (.list as')):
 aX (bO 5 (aG 2 bZ (aB (aF 1) (aB (aG 2 a8 (aB (aF 0) (aB (dC (.int 7)) aL))) aL)))) (aX (cW 3 (bO 7 (d2 bv (aF 3) (br (bd (aB (cz (aB (aF 5) (aB (aG 3 eh (aB (aF 1) (aB (aF 3) (aB (aF 5) aL)))) aL))) aL)))))) B) [some (.fz s),some (.fz G),some (.fz H),some (.fz (.list as)),v4,v5,some (.fz (.int N)),none,none,none,none]=B [some (.fz s),some (.fz G),some (.fz H),some (.fz (.list as)),v4,some (.fz g),some (.fz (.int N)),some (.fz (.list as')),none,none,none]:=by
 have z1:(1:Nat)<=fD:=dN (by decide)
 have z2:(2:Nat)<=fD:=dN (by decide)
 simp only [aX,bO,cW,aF,dC,d2,aG,aL,aB,cz,bd,br,DL.frz,zC,zH,zA,zB,zE,zF,zD,zG,Nat.reduceAdd, ↓reduceIte,c7,ce,foe,ad,z1,z2]
theorem QO {B:aS->Option DFlow}{k:PyData}{as1 as2:`g}{M1 M2:Int}(f1:a9 [G,.list as1]=some (.int M1))(an:au [H,g]=some k)(ad:bv (.list as) (.list [.tuple [g,k]])=some (.list as2))(f2:a9 [G,.list as2]=some (.int M2))(d1:decide (M1<=N)=true)(d2':decide (N < M2)=false):
 aX (cW 3 (fR (sA (dP (dB (d2 Lo (aG 2 a9 (aB (aF 1) (aB (aF 7) aL))) (aF 6)))) (dB (d2 EO (aG 2 a9 (aB (aF 1) (aB (d2 bv (aF 3) (br (bd (aB (cz (aB (aF 5) (aB (aG 2 au (aB (aF 2) (aB (aF 5) aL))) aL))) aL)))) aL))) (aF 6)))) (ai (dC (.bool false))) az)) B [some (.fz s),some (.fz G),some (.fz H),some (.fz (.list as)),v4,some (.fz g),some (.fz (.int N)),some (.fz (.list as1)),none,none,none]=B [some (.fz s),some (.fz G),some (.fz H),some (.fz (.list as)),v4,some (.fz g),some (.fz (.int N)),some (.fz (.list as1)),none,none,none]:=by
 have z1:(1:Nat)<=fD:=dN (by decide)
 have z2:(2:Nat)<=fD:=dN (by decide)
 simp only [aX,fR,ai,cW,aF,dC,d2,aG,aL,aB,cz,bd,br,dB,dP,sA,az,DL.frz,Fe,vP,zC,zH,zA,zB,zD,zG,Nat.reduceAdd, ↓reduceIte,rR,zN,f1,an,ad,f2,d1,d2',z1,z2]
variable {v7:Option Sl}{ms:`g}
theorem Oj {B:aS->Option DFlow}{M:Int}(cx:(bK 2 [("_law_game",1),("_law_asks",3),("_law_guess",5)] (bi (aG 3 kK (aB (aF 1) (aB (aF 3) (aB (aF 5) aL))))) (gT 2 (gC (gN 0) (gC (gN 1) gZ))) dE (aG 2 a9 (aB (aF 2) (aB (d2 bv (aF 3) (br (bd (aB (cz (aB (aF 4) (aB (aF 0) aL))) aL)))) aL)))) [some (.fz s),some (.fz G),some (.fz H),some (.fz (.list as)),v4,some (.fz g),some (.fz (.int N)),v7,none,none,none]=some ms)(mx:uZ [.list ms]=some (.int M))(d1:decide (1+M < N)=false):
 aX (cW 3 (bO 8 (br (bK 2 [("_law_game",1),("_law_asks",3),("_law_guess",5)] (bi (aG 3 kK (aB (aF 1) (aB (aF 3) (aB (aF 5) aL))))) (gT 2 (gC (gN 0) (gC (gN 1) gZ))) dE (aG 2 a9 (aB (aF 2) (aB (d2 bv (aF 3) (br (bd (aB (cz (aB (aF 4) (aB (aF 0) aL))) aL)))) aL))))))) (aX (fR (dB (d2 pI (d2 bv (dC (.int 1)) (bE uZ (aB (aF 8) aL))) (aF 6))) (ai (dC (.bool false))) az) B) [some (.fz s),some (.fz G),some (.fz H),some (.fz (.list as)),v4,some (.fz g),some (.fz (.int N)),v7,none,none,none]=B [some (.fz s),some (.fz G),some (.fz H),some (.fz (.list as)),v4,some (.fz g),some (.fz (.int N)),v7,some (.fz (.list ms)),none,none]:=by
 simp only [aX,fR,bO,ai,cW,aF,dC,d2,bE,aL,aB,br,dB,az,DL.frz,Fd,p7,zA,zB,zE,zF,zD,zG, ↓reduceIte,zN,cx,mx,d1]
variable {v8:Option Sl}
theorem Ol {B:aS->Option DFlow}{T:`g}(ea:j6 (.list as) (.list [])=some (.bool b))(fs:b=true->aj [G]=some (.list T))(d1:b=true->decide ((T.length:Int) < N)=false):
 aX (cW 3 (fR (nn (dB (d2 j6 (aF 3) (br (bd aL)))) (dB (d2 EO (aF 6) (bE fF (aB (aG 1 aj (aB (aF 1) aL)) aL))))) (ai (dC (.bool false))) az)) B [some (.fz s),some (.fz G),some (.fz H),some (.fz (.list as)),v4,some (.fz g),some (.fz (.int N)),v7,v8,none,none]=B [some (.fz s),some (.fz G),some (.fz H),some (.fz (.list as)),v4,some (.fz g),some (.fz (.int N)),v7,v8,none,none]:=by
 have z0:(0:Nat)<=fD:=zU _;cases b with
 |false=>simp only [aX,fR,ai,cW,aF,dC,d2,bE,aG,aL,aB,bd,br,dB,nn,az,DL.frz,zC,zH,zA,zB,zD,zG,Nat.reduceAdd, ↓reduceIte,zN,ea,z0]
 |true=>
  have fs:=fs rfl;have d1:=d1 rfl;simp only [aX,fR,ai,cW,aF,dC,d2,bE,aG,aL,aB,bd,br,dB,nn,az,DL.frz,fF,xx,vP,zC,zH,zA,zB,zD,zG,Nat.reduceAdd, ↓reduceIte,zN,ea,z0,fs,d1]
theorem Om {B:aS->Option DFlow}{ms:`g}{M:Int}(ea:j6 (.list as) (.list [])=some (.bool b))(pl:b=true->(bK 1 [("_law_game",1)] (bi (aG 1 be (aB (aF 1) aL))) (gN 0) dE (bE fF (aB (aG 2 dw (aB (aF 1) (aB (aF 0) aL))) aL))) [some (.fz s),some (.fz G),some (.fz H),some (.fz (.list as)),v4,some (.fz g),some (.fz (.int N)),v7,v8,none,none]=some ms)(mp:b=true->uZ [.list ms]=some (.int M))(d1:b=true->decide (M < N)=false):
 aX (cW 3 (fR (nn (dB (d2 j6 (aF 3) (br (bd aL)))) (dB (d2 EO (aF 6) (bE uZ (aB (br (bK 1 [("_law_game",1)] (bi (aG 1 be (aB (aF 1) aL))) (gN 0) dE (bE fF (aB (aG 2 dw (aB (aF 1) (aB (aF 0) aL))) aL)))) aL))))) (ai (dC (.bool false))) az)) B [some (.fz s),some (.fz G),some (.fz H),some (.fz (.list as)),v4,some (.fz g),some (.fz (.int N)),v7,v8,none,none]=B [some (.fz s),some (.fz G),some (.fz H),some (.fz (.list as)),v4,some (.fz g),some (.fz (.int N)),v7,v8,none,none]:=by
 have z0:(0:Nat)<=fD:=zU _;cases b with
 |false=>simp only [aX,fR,ai,cW,aF,dC,d2,bE,aL,aB,bd,br,dB,nn,az,DL.frz,zH,zA,zB,zD,zG, ↓reduceIte,zN,ea,z0]
 |true=>
  have pl:=pl rfl;have mp:=mp rfl;have d1:=d1 rfl;simp only [aX,fR,ai,cW,aF,dC,d2,bE,aL,aB,bd,br,dB,nn,az,DL.frz,vP,zH,zA,zB,zD,zG, ↓reduceIte,zN,ea,z0,pl,mp,d1]
theorem Mo {P C:`g}(pc:∀v9 v10,(bK 1 [("_law_game",1),("_law_script",0)] (eO (aB (d2 cT (aF 1) (dC (.int 0))) aL)) (gN 0) dE (d2 nv (d2 bv (aF 0) (aG 2 a8 (aB (aF 2) (aB (dC (.int 8)) aL)))) (d2 cT (aF 1) (dC (.int 0))))) [some (.fz s),some (.fz G),some (.fz H),some (.fz (.list as)),v4,some (.fz g),some (.fz (.int N)),v7,v8,v9,v10]=some P)(qc:∀v9 v10,(bK 1 [("_law_game",1),("_law_script",0)] (eO (aB (d2 cT (aF 1) (dC (.int 1))) aL)) (gN 0) dE (d2 nv (d2 bv (aF 0) (aG 2 a8 (aB (aF 2) (aB (dC (.int 9)) aL)))) (d2 cT (aF 1) (dC (.int 1))))) [some (.fz s),some (.fz G),some (.fz H),some (.fz (.list as)),v4,some (.fz g),some (.fz (.int N)),v7,v8,v9,v10]=some C)(rn:jB [G,.list as,.tuple P,.tuple C]=some (.list as'))(fN:a9 [G,.list as']=some (.int N)):
 aX (bO 9 (bE nw (aB (br (bK 1 [("_law_game",1),("_law_script",0)] (eO (aB (d2 cT (aF 1) (dC (.int 0))) aL)) (gN 0) dE (d2 nv (d2 bv (aF 0) (aG 2 a8 (aB (aF 2) (aB (dC (.int 8)) aL)))) (d2 cT (aF 1) (dC (.int 0)))))) aL))) (aX (bO 10 (bE nw (aB (br (bK 1 [("_law_game",1),("_law_script",0)] (eO (aB (d2 cT (aF 1) (dC (.int 1))) aL)) (gN 0) dE (d2 nv (d2 bv (aF 0) (aG 2 a8 (aB (aF 2) (aB (dC (.int 9)) aL)))) (d2 cT (aF 1) (dC (.int 1)))))) aL))) (cW 3 (ai (d2 j6 (aG 2 a9 (aB (aF 1) (aB (aG 4 jB (aB (aF 1) (aB (aF 3) (aB (aF 9) (aB (aF 10) aL))))) aL))) (aF 6))))) [some (.fz s),some (.fz G),some (.fz H),some (.fz (.list as)),v4,some (.fz g),some (.fz (.int N)),v7,v8,none,none]=some (.rt (.bool true)):=by
 have en:j6 (.int N) (.int N)=some (.bool true):=by rw [gK,decide_eq_true rfl]
 simp only [aX,bO,ai,cW,aF,d2,bE,aG,aL,aB,br,DL.frz,nw,zC,zH,zA,zB,zE,zF,zD,zG,Nat.reduceAdd, ↓reduceIte,pc,qc,rn,fN,en]
theorem law_true(ns:`f)(hl:ns.length<=63):HY [j5 ns]=some (.bool true):=by
 obtain⟨p,c,hg,h7⟩:=Hl ns;have hm:=fA h7;have b:=eB hm;obtain⟨g1,g2,g3,g4⟩:=LF h7;have c1:a8 [j5 ns,.int 1]=some (.int (bo ns 1)):=kL ns 1;have c2:a8 [j5 ns,.int 2]=some (.int (bo ns 2)):=kL ns 2;have c7:a8 [j5 ns,.int 7]=some (.int (bo ns 7)):=kL ns 7;have c8:a8 [j5 ns,.int 8]=some (.int (bo ns 8)):=kL ns 8;have c9:a8 [j5 ns,.int 9]=some (.int (bo ns 9)):=kL ns 9;have ch:=nM hm (bo ns 1);have cd:=xB hm (bo ns 1);generalize tQ p c (bo ns 1)=h at ch cd;have cg:=nM hm (bo ns 7);have ce:=xB hm (bo ns 7);generalize tQ p c (bo ns 7)=g at cg ce;have gin:=kQ hm cg;have n0:=Int.emod_nonneg (bo ns 2) (show (4:Int)≠0 by decide)
 have n1:=Int.emod_lt_of_pos (bo ns 2) (show (0:Int) < 4 by decide)
 obtain⟨as,v4,v5,lp,al,ao2⟩:=Mn h7 hm ns ch (n:=(bo ns 2 % 4).toNat) `e
 have sm:fZ (bo ns 2 % 4)=true:=BL n0 `e
 have cm:wL (bo ns 2) 4=true:=rfl;have al3:as.length<=3:=by lia
 have ao:∀a∈as,AskOk p c a:=λa ha=>(ao2 a ha).1;have z0:(0:Nat)<=fD:=zU _;have z1:(1:Nat)<=fD:=dN (by decide)
 have z2:(2:Nat)<=fD:=dN (by decide)
 have hin:h∈(aN p c).filter (bg as):=C9.mpr ⟨kQ hm ch,Q2.mpr λa ha=>decide_eq_true (ao2 a ha).2⟩;have hne:(aN p c).filter (bg as)≠[]:=List.ne_nil_of_mem hin;have fl:((aN p c).filter (bg as)).length<=16:=Qc (List.length_filter_le _ _) g1;have fc:∀x∈(aN p c).filter (bg as),Code p c x:=λx hx=>fj hm (C9.mp hx).1;obtain⟨N,ok,fN⟩:=BS h7 ao `e hne
 obtain⟨y1,y2⟩:=ok.okP;have sp:=Hj hm ao `e cg (IG (tV g _) `e)
 have rne:lK (fT g ((aN p c).filter (bg as)))≠[]:=λz=>by
  have:=(f8 (fT g ((aN p c).filter (bg as)))).length_eq;rw [z]at this;exact KH (g:=g) hne (List.length_eq_zero_iff.mp this.symm)
 have rl:(lK (fT g ((aN p c).filter (bg as)))).length<=16:=by
  rw [(f8 _).length_eq];exact Qc (tV g _) fl
 have rin:∀q∈lK (fT g ((aN p c).filter (bg as))),q.1∈eZ ((aN p c).filter (bg as)) g:=λq hq=>iN.mpr (Hs (Mb hq));have rall:∀k∈eZ ((aN p c).filter (bg as)) g,∃q∈lK (fT g ((aN p c).filter (bg as))),q.1=k:=λk hk=>by
  obtain⟨x,hx,e⟩:=iN.mp hk;obtain⟨q,hq,e2⟩:=Q6.mp (tW (g:=g) hx);exact⟨q,(f8 _).mem_iff.mpr hq,e2.trans e⟩
 have set:=BO hm ao `e
 generalize hfit:(aN p c).filter (bg as)=fit at hin hne fl fc ok y1 y2 sp rne rl rin rall;have fsub:fit.Sublist (aN p c):=by rw [<-hfit];exact List.filter_sublist
 have fin:∀x∈fit,x∈aN p c:=λx hx=>fsub.mem hx;have par:∀{k m},k∈eZ fit g->okP (aN p c) m fit=true->okP (aN p c) m (b9 fit g k)=true:=λ{k m} hk q=>wj m (sh fit g k) (kA fit g k hk) q;have more:∀{k},k∈eZ fit g->∃M,PlanOk (aN p c) (b9 fit g k) M/\a9 [aH [p,c],.list ((as++[(g,k)]).map av)]=some (.int (M:Int))/\M<=N:=λ{k} hk=>by
  obtain⟨M,okM,q⟩:=KO h7 ao al3 cg (by rw [hfit];exact hk)
  rw [hfit]at okM;exact⟨M,okM,q,okM.le (par hk y1)⟩
 have e0:BK [some (.fz (j5 ns)),none,none,none,none,none,none,none,none,none,none]=xA [some (.fz (j5 ns)),some (.fz (aH [p,c])),some (.fz (aH h)),some (.ow (as.map av)),v4,v5,none,none,none,none,none]:=(Oi (B:=HX) hg c1 cd).trans (st3 (B:=xA) c2 sm lp);have e4:xA [some (.fz (j5 ns)),some (.fz (aH [p,c])),some (.fz (aH h)),some (.ow (as.map av)),v4,v5,none,none,none,none,none]=wz [some (.fz (j5 ns)),some (.fz (aH [p,c])),some (.fz (aH h)),some (.fz (.list (as.map av))),v4,v5,some (.fz (.int (N:Int))),none,none,none,none]:=QN (B:=wz) fN;have e5:wz [some (.fz (j5 ns)),some (.fz (aH [p,c])),some (.fz (aH h)),some (.fz (.list (as.map av))),v4,v5,some (.fz (.int (N:Int))),none,none,none,none]=tO [some (.fz (j5 ns)),some (.fz (aH [p,c])),some (.fz (aH h)),some (.fz (.list (as.map av))),v4,v5,some (.fz (.int (N:Int))),none,none,none,none]:=by
  match hf:fit,hne with
  |x::r,_=>
   have st:=set x r (by rw [hfit])
   by_cases hN:N=0
   . have l1:=ok.zero.mp hN;have hr:r=[]:=by
      cases r with
      |nil=>rfl
      |cons _ _=>simp at l1
     subst hr;have hx:h=x:=Q7.mp hin;subst hx hN;have e1:j6 (.int ((0:Nat):Int)) (.int 0)=some (.bool true):=rfl;have e2:j6 (aH h) (aH h)=some (.bool true):=by rw [xw,decide_eq_true rfl]
     have e3:EQ (.bool true) (.bool true)=some (.bool false):=rfl;have st:ga [aH [p,c],.list (as.map av)]=some (aH h):=st;exact st5 (B:=tO) st e1 e2 e3
   . have hr:r.isEmpty=false:=by
      cases r with
      |nil=>exact absurd (ok.zero.mpr rfl) hN
      |cons _ _=>rfl
     rw [hr,if_neg Q4]at st;have e1:j6 (.int (N:Int)) (.int 0)=some (.bool false):=by rw [gK,decide_eq_false `e]
     have e2:j6 .none (aH h)=some (.bool false):=by
      rw [sK (by rfl) (lG h).ok]
      rfl
     have e3:EQ (.bool false) (.bool false)=some (.bool false):=rfl;exact st5 (B:=tO) st e1 e2 e3
 obtain⟨qf,hqf,foe⟩:=Md sp rne;obtain⟨Mf,okf,ff,lf⟩:=more (rin qf hqf);have ad:∀k,bv (.list (as.map av)) (.list [.tuple [aH g,aH k]])=some (.list ((as++[(g,k)]).map av)):=λk=>KM `e
 have hk:GC.ans h g∈eZ fit g:=iN.mpr ⟨h,hin,rfl⟩;obtain⟨Mh,okh,fh,lh⟩:=more hk;have an:=(Mm h7 ch cg).1;have e6:tO [some (.fz (j5 ns)),some (.fz (aH [p,c])),some (.fz (aH h)),some (.fz (.list (as.map av))),v4,v5,some (.fz (.int (N:Int))),none,none,none,none]=wy [some (.fz (j5 ns)),some (.fz (aH [p,c])),some (.fz (aH h)),some (.fz (.list (as.map av))),v4,some (.fz (aH g)),some (.fz (.int (N:Int))),some (.fz (.list ((as++[(g,qf.1)]).map av))),none,none,none]:=Pp (B:=wy) c7 ce foe (ad _);have e8:wy [some (.fz (j5 ns)),some (.fz (aH [p,c])),some (.fz (aH h)),some (.fz (.list (as.map av))),v4,some (.fz (aH g)),some (.fz (.int (N:Int))),some (.fz (.list ((as++[(g,qf.1)]).map av))),none,none,none]=wx [some (.fz (j5 ns)),some (.fz (aH [p,c])),some (.fz (aH h)),some (.fz (.list (as.map av))),v4,some (.fz (aH g)),some (.fz (.int (N:Int))),some (.fz (.list ((as++[(g,qf.1)]).map av))),none,none,none]:=by
  have d1:decide ((Mf:Int)<=(N:Int))=true:=decide_eq_true `e
  have d2':decide ((N:Int) < (Mh:Int))=false:=decide_eq_false `e
  exact QO (B:=wx) ff an (ad _) fh d1 d2'
 have mu:∀q∈lK (fT g fit),∃M:Nat,PlanOk (aN p c) (b9 fit g q.1) M/\a9 [aH [p,c],.list ((as++[(g,q.1)]).map av)]=some (.int (M:Int)):=λq hq=>by
  obtain⟨M,a1,a2,_⟩:=more (rin q hq);exact⟨M,a1,a2⟩
 obtain⟨mf,hmf⟩:=Classical.axiomOfChoice (r:=λ(q:KN) (M:Nat)=>q∈lK (fT g fit)->PlanOk (aN p c) (b9 fit g q.1) M/\a9 [aH [p,c],.list ((as++[(g,q.1)]).map av)]=some (.int (M:Int))) λq=>by
  by_cases hq:q∈lK (fT g fit)
  . obtain⟨M,a⟩:=mu q hq;exact⟨M,λ_=>a⟩
  . exact⟨0,λz=>absurd z hq⟩
 generalize hrows:lK (fT g fit)=rows at*;have cx:∀v7,(bK 2 [("_law_game",1),("_law_asks",3),("_law_guess",5)] (bi (aG 3 kK (aB (aF 1) (aB (aF 3) (aB (aF 5) aL))))) (gT 2 (gC (gN 0) (gC (gN 1) gZ))) dE (aG 2 a9 (aB (aF 2) (aB (d2 bv (aF 3) (br (bd (aB (cz (aB (aF 4) (aB (aF 0) aL))) aL)))) aL)))) [some (.fz (j5 ns)),some (.fz (aH [p,c])),some (.fz (aH h)),some (.fz (.list (as.map av))),v4,some (.fz (aH g)),some (.fz (.int (N:Int))),v7,none,none,none]=some ((rows.map λq=>(mf q:Int)).map PyData.int):=λv7=>by
  have rl2:(rows.map d6).length<=fD:=by rw [zJ];exact dN `e
  rw [dF (ds:=rows.map d6) (λd=>match d with| .tuple [.tuple k,_]=>(a9 [aH [p,c],.list ((as++[(g,fq (.tuple k))]).map av)]).getD .none|d=>d) (by simp only [aF,aG,aL,aB,bi,qt,zC,zH,zA,zB,zD,Nat.reduceAdd, ↓reduceIte,sp]) rl2 (λd hd=>?_)]
  . rw [zO,zO];congr 1
    refine B3 λq hq=>?_;show (a9 [aH [p,c],.list ((as++[(g,fq (aH q.1))]).map av)]).getD .none=_;rw [dc,(hmf q hq).2];rfl
  . obtain⟨q,hq,rfl⟩:=Q6.mp hd;have e:(match d6 q with| .tuple [.tuple k,_]=>(a9 [aH [p,c],.list ((as++[(g,fq (.tuple k))]).map av)]).getD .none|d=>d)=.int (mf q:Int):=by
     show (a9 [aH [p,c],.list ((as++[(g,fq (aH q.1))]).map av)]).getD .none=_;rw [dc,(hmf q hq).2];rfl
    rw [e];have f2:=(hmf q hq).2;have pq:d6 q=.tuple [aH q.1,.int q.2]:=rfl;rw [pq];simp only [aF,d2,aG,aL,aB,cz,bd,br,f6,dE,gN,gT,gZ,gC,zI,zL,zC,zH,uN,uO,zA,zB,zE,zF,List.replicate,zD,zG,Nat.reduceAdd, ↓reduceIte,ad,f2,z1,z2]
 obtain⟨q0,hq0,mx1⟩:∃q∈rows,∀q'∈rows,mf q'<=mf q:=by
  have:∀l:List KN,l≠[]->∃q∈l,∀q'∈l,mf q'<=mf q:=by
   intro l
   induction l with
   |nil=>exact λz=>absurd rfl z
   |cons a r ih=>
    intro _
    by_cases hr:r=[]
    . subst hr;exact⟨a,gG,λq' hq'=>by rw [Q7.mp hq'];exact Q1 _⟩
    . obtain⟨q,hq,m1⟩:=ih hr
      by_cases z:mf q<=mf a
      . exact⟨a,gG,λq' hq'=>by
         rcases Q3.mp hq' with rfl|hq'
         . exact Q1 _
         . exact Qc (m1 q' hq') z⟩
      . exact⟨q,iJ _ hq,λq' hq'=>by
         rcases Q3.mp hq' with rfl|hq'
         . lia
         . exact m1 q' hq'⟩
  exact this rows rne
 have mx:=Hy (ns:=rows.map λq=>(mf q:Int)) (λz=>rne (List.map_eq_nil_iff.mp z)) (m:=(mf q0:Int)) (zP hq0) λx hx=>by
  obtain⟨q',hq',rfl⟩:=Q6.mp hx;have:=mx1 q' hq';lia
 have Nle:N<=mf q0+1:=ok.le (BC gin λk hk=>by
  obtain⟨q,hq,e⟩:=rall k hk;subst e;exact MV (hmf q hq).1.okP.1 (mx1 q hq))
 have e9:wx [some (.fz (j5 ns)),some (.fz (aH [p,c])),some (.fz (aH h)),some (.fz (.list (as.map av))),v4,some (.fz (aH g)),some (.fz (.int (N:Int))),some (.fz (.list ((as++[(g,qf.1)]).map av))),none,none,none]=rQ [some (.fz (j5 ns)),some (.fz (aH [p,c])),some (.fz (aH h)),some (.fz (.list (as.map av))),v4,some (.fz (aH g)),some (.fz (.int (N:Int))),some (.fz (.list ((as++[(g,qf.1)]).map av))),some (.fz (.list ((rows.map λq=>(mf q:Int)).map PyData.int))),none,none]:=by
  have d1:decide ((1:Int)+(mf q0:Int) < (N:Int))=false:=decide_eq_false `e
  exact Oj (B:=rQ) (cx _) mx d1
 obtain⟨T,fs,ck⟩:=QJ h7;unfold oy at ck;simp only [Q5,Q2,List.contains_iff_mem]at ck;obtain⟨⟨k1,k5⟩,k6⟩:=ck;have sep:∀x∈aN p c,∀y∈aN p c,(T.map λg=>GC.ans x g)=(T.map λg=>GC.ans y g)->x=y:=λx hx y hy e=>by
  have:=k6 x hx y hy;rw [decide_eq_true e]at this;exact of_decide_eq_true this
 have lenT:=Hz T;have Pt:∀f,jk (aN p c) f∈aN p c:=λf=>Dv (lX hm);have e11:∀v7 v8,rQ [some (.fz (j5 ns)),some (.fz (aH [p,c])),some (.fz (aH h)),some (.fz (.list (as.map av))),v4,some (.fz (aH g)),some (.fz (.int (N:Int))),v7,v8,none,none]=ou [some (.fz (j5 ns)),some (.fz (aH [p,c])),some (.fz (aH h)),some (.fz (.list (as.map av))),v4,some (.fz (aH g)),some (.fz (.int (N:Int))),v7,v8,none,none]:=λv7 v8=>by
  by_cases ha:as=[]
  . subst ha;have ff':fit=aN p c:=by
     rw [<-hfit];exact List.filter_eq_self.mpr λx _=>rfl
    have ea:j6 (.list (([]:List lz).map av)) (.list [])=some (.bool true):=rfl;have t1:N<=T.length:=ok.le (by
     rw [ff'];exact CV T k5 (lX hm) g2 sep)
    have d1:decide ((T.length:Int) < (N:Int))=false:=decide_eq_false `e
    have pl:(bK 1 [("_law_game",1)] (bi (aG 1 be (aB (aF 1) aL))) (gN 0) dE (bE fF (aB (aG 2 dw (aB (aF 1) (aB (aF 0) aL))) aL))) [some (.fz (j5 ns)),some (.fz (aH [p,c])),some (.fz (aH h)),some (.fz (.list (([]:List lz).map av))),v4,some (.fz (aH g)),some (.fz (.int (N:Int))),v7,v8,none,none]=some (((aN p c).map λx=>((cq (aN p c) x 8 (aN p c)).length:Int)).map PyData.int):=by
     have ac:be [aH [p,c]]=some (.list ((aN p c).map aH)):=kO hm;rw [dF (ds:=(aN p c).map aH) (λd=>.int ((cq (aN p c) (fq d) 8 (aN p c)).length:Nat)) (by simp only [aF,aG,aL,aB,bi,qt,zL,zC,zH,zA,zB,zD,Nat.reduceAdd, ↓reduceIte,ac]) (by rw [zJ];exact dN `e) (λd hd=>?_)]
     . rw [zO,zO];congr 1
       refine B3 λx _=>?_;show PyData.int ((cq (aN p c) (fq (aH x)) 8 (aN p c)).length:Nat)=_;rw [dc];rfl
     . obtain⟨x,hx,rfl⟩:=Q6.mp hd;have po:=lW (QL h7) _ hx;rw [dc];simp only [aF,bE,aG,aL,aB,f6,dE,gN,fF,xx,zI,zL,zC,zH,uN,uO,zA,zB,zE,List.replicate,zD,zG,Nat.reduceAdd, ↓reduceIte,po,zJ]
    obtain⟨x0,hx0,px⟩:∃x∈aN p c,∀y∈aN p c,(cq (aN p c) y 8 (aN p c)).length<=(cq (aN p c) x 8 (aN p c)).length:=by
     have:∀l:Cs,l≠[]->∃q∈l,∀q'∈l,(cq (aN p c) q' 8 (aN p c)).length<=(cq (aN p c) q 8 (aN p c)).length:=by
      intro l
      induction l with
      |nil=>exact λz=>absurd rfl z
      |cons a r ih=>
       intro _
       by_cases hr:r=[]
       . subst hr;exact⟨a,gG,λq' hq'=>by rw [Q7.mp hq'];exact Q1 _⟩
       . obtain⟨q,hq,m1⟩:=ih hr
         by_cases z:(cq (aN p c) q 8 (aN p c)).length<=(cq (aN p c) a 8 (aN p c)).length
         . exact⟨a,gG,λq' hq'=>by
            rcases Q3.mp hq' with rfl|hq'
            . exact Q1 _
            . exact Qc (m1 q' hq') z⟩
         . exact⟨q,iJ _ hq,λq' hq'=>by
            rcases Q3.mp hq' with rfl|hq'
            . lia
            . exact m1 q' hq'⟩
     exact this _ (lX hm)
    have mp:=Hy (ns:=(aN p c).map λx=>((cq (aN p c) x 8 (aN p c)).length:Int)) (λz=>lX hm (List.map_eq_nil_iff.mp z)) (m:=((cq (aN p c) x0 8 (aN p c)).length:Int)) (zP hx0) λy hy=>by
     obtain⟨x,hx,rfl⟩:=Q6.mp hy;have:=px x hx;lia
    have t2:N<=(cq (aN p c) x0 8 (aN p c)).length:=ok.le (by
     rw [ff'];exact za Pt 8 (aN p c) _ (lX hm) k1 px)
    have d2':decide (((cq (aN p c) x0 8 (aN p c)).length:Int) < (N:Int))=false:=decide_eq_false `e
    have fs':aj [aH [p,c]]=some (.list (T.map aH)):=fs;exact(Ol (B:=ww) ea (λ_=>fs') (λ_=>by rw [zJ];exact d1)).trans (Om (B:=ou) ea (λ_=>pl) (λ_=>mp) (λ_=>d2'))
  . have ea:j6 (.list (as.map av)) (.list [])=some (.bool false):=by
     have okA:∀l:List lz,uW (.list (l.map av))=true:=λl=>(xu (n:=2) λd hd=>by
      obtain⟨a,_,rfl⟩:=Q6.mp hd;exact KG a).ok
     have e:=sK (okA as) (okA []);have:PyData.eqv (.list (as.map av)) (.list (([]:List lz).map av))=false:=by
      cases as with
      |nil=>exact absurd rfl ha
      |cons _ _=>rfl
     rw [this]at e;exact e
    exact(Ol (T:=[]) (B:=ww) ea (λz=>nomatch z) (λz=>nomatch z)).trans (Om (ms:=[]) (M:=0) (B:=ou) ea (λz=>nomatch z) (λz=>nomatch z) (λz=>nomatch z))
 have nm:=QA h7 (xE (n:=p) `e (bo ns 8)) (xE (n:=c) `e (bo ns 9))
 have rn0:=BQ h7 (x:=bo ns 8) (y:=bo ns 9) ao `e
 have i0:cT (aH [p,c]) (.int 0)=some (.int p):=rfl;have i1:cT (aH [p,c]) (.int 1)=some (.int c):=rfl;have sP:fZ p=true:=BL `e `e
 have sC:fZ c=true:=BL `e `e
 have mp':∀x,wL x p=true:=λx=>decide_eq_true (show 0 < p by lia)
 have mc':∀x,wL x c=true:=λx=>decide_eq_true (show 0 < c by lia)
 have pc:∀v7 v8 v9 v10,(bK 1 [("_law_game",1),("_law_script",0)] (eO (aB (d2 cT (aF 1) (dC (.int 0))) aL)) (gN 0) dE (d2 nv (d2 bv (aF 0) (aG 2 a8 (aB (aF 2) (aB (dC (.int 8)) aL)))) (d2 cT (aF 1) (dC (.int 0))))) [some (.fz (j5 ns)),some (.fz (aH [p,c])),some (.fz (aH h)),some (.fz (.list (as.map av))),v4,some (.fz (aH g)),some (.fz (.int (N:Int))),v7,v8,v9,v10]=some ((jX p (bo ns 8)).map PyData.int):=λv7 v8 v9 v10=>by
  rw [dF (ds:=bL 0 p.toNat) (λd=>match d with| .int i=>.int ((i+bo ns 8) % p)|d=>d) (by simp only [aF,dC,d2,aL,aB,eO,zA,zB,zD, ↓reduceIte,i0,sP]) (by rw [C2];exact dN `e) (λd hd=>?_)]
  . rw [zd ns `e `e 8]
  . obtain⟨i,_,rfl⟩:=Q6.mp hd;simp only [aF,dC,d2,aG,aL,aB,f6,dE,gN,wS,p7,zI,zL,zC,zH,uN,uO,zA,zB,zE,List.replicate,zD,zG,Nat.reduceAdd, ↓reduceIte,c8,i0,mp']
 have qc:∀v7 v8 v9 v10,(bK 1 [("_law_game",1),("_law_script",0)] (eO (aB (d2 cT (aF 1) (dC (.int 1))) aL)) (gN 0) dE (d2 nv (d2 bv (aF 0) (aG 2 a8 (aB (aF 2) (aB (dC (.int 9)) aL)))) (d2 cT (aF 1) (dC (.int 1))))) [some (.fz (j5 ns)),some (.fz (aH [p,c])),some (.fz (aH h)),some (.fz (.list (as.map av))),v4,some (.fz (aH g)),some (.fz (.int (N:Int))),v7,v8,v9,v10]=some ((jX c (bo ns 9)).map PyData.int):=λv7 v8 v9 v10=>by
  rw [dF (ds:=bL 0 c.toNat) (λd=>match d with| .int i=>.int ((i+bo ns 9) % c)|d=>d) (by simp only [aF,dC,d2,aL,aB,eO,zA,zB,zD, ↓reduceIte,i1,sC]) (by rw [C2];exact dN `e) (λd hd=>?_)]
  . rw [zd ns `e `e 9]
  . obtain⟨i,_,rfl⟩:=Q6.mp hd;simp only [aF,dC,d2,aG,aL,aB,f6,dE,gN,wS,p7,zI,zL,zC,zH,uN,uO,zA,zB,zE,List.replicate,zD,zG,Nat.reduceAdd, ↓reduceIte,c9,i1,mc']
 generalize jX p (bo ns 8)=P at nm rn0 pc;generalize jX c (bo ns 9)=C at nm rn0 qc;have rn:jB [aH [p,c],.list (as.map av),.tuple (P.map PyData.int),.tuple (C.map PyData.int)]=some (.list ((as.map (Hv P C)).map av)):=rn0;have lr:=Hw nm (as:=as) λa ha=>kQ hm (ao a ha).code;rw [hfit]at lr;have pr:((aN p c).filter (bg (as.map (Hv P C)))).Perm (fit.map (cH P C)):=lr;have hne':(aN p c).filter (bg (as.map (Hv P C)))≠[]:=λz=>by
  have:=pr.length_eq;rw [z,zJ]at this;exact hne (List.length_eq_zero_iff.mp this.symm)
 obtain⟨N',ok',fN'⟩:=BS h7 (as:=as.map (Hv P C)) (λa ha=>by
  obtain⟨a',ha',rfl⟩:=Q6.mp ha;exact⟨fj hm (nm.mem _ (kQ hm (ao a' ha').code)),(ao a' ha').two,(ao a' ha').b⟩) (by rw [zJ];lia) hne'
 have cc:=vl hm;have iso:∀m,okP (aN p c) m ((aN p c).filter (bg (as.map (Hv P C))))=okP (aN p c) m fit:=λm=>Jw (φ:=cH P C) nm.ans nm.mem (λy hy=>by
  obtain⟨x,hx,e⟩:=Q6.mp (nm.perm.mem_iff.mpr hy);exact⟨x,hx,e⟩) m fin pr
 have NN:N'=N:=by
  have a:=ok'.le (m:=N) (by rw [iso];exact y1)
  have b:=ok.le (m:=N') (by rw [<-iso];exact ok'.okP.1)
  lia
 subst NN;have e13:∀v7 v8,ou [some (.fz (j5 ns)),some (.fz (aH [p,c])),some (.fz (aH h)),some (.fz (.list (as.map av))),v4,some (.fz (aH g)),some (.fz (.int (N':Int))),v7,v8,none,none]=some (.rt (.bool true)):=λv7 v8=>by
  exact Mo (pc v7 v8) (qc v7 v8) rn fN'
 show (MZ [some (.fz (j5 ns)),none,none,none,none,none,none,none,none,none,none]).bind bz=_;rw [KB,e0,e4,e5,e6,e8,e9,e11,e13];rfl
noncomputable def jR(i:Nat):Stmt:=PySem.Challenge.pw_guesscode_k12_whole_plans_and_asks.main.body.getD i (.Pass ⟨0,0,0,0⟩)
section
variable {P:Program} {w:World} {K:Fg} {mg:`j} {base:Heap} {f:Addr} {fd:FuncData}
abbrev qI:Stmt:=jR 58
theorem BT:FnScope ["_law_cell_here","_law_prime","_law_many"] ["_law_cell_here","_law_prime","_law_many"] (aO qI):=il
abbrev nO:Stmt:=jR 57
theorem ze:FnScope ["_law_script","_law_k"] ["_law_script","_law_k"] (aO nO):=il
abbrev lY:Stmt:=jR 59
theorem pA:FnScope ["_law_script","_law_at","_law_some"] ["_law_script","_law_at"] (aO lY):=il
abbrev nQ:Stmt:=jR 60
theorem lZ:FnScope ["_law_game","_law_cell_here","_law_found","_law_place"] ["_law_game","_law_cell_here"] (aO nQ):=il
abbrev kS:Stmt:=jR 61
theorem bc:FnScope ["_law_one","_law_other","_law_right","_law_mine","_law_theirs","_law_a","_law_b","_law_elsewhere","_law_colour"] ["_law_one","_law_other"] (aO kS):=il
abbrev nR:Stmt:=jR 21
theorem cr:FnScope ["hidden","guess","right","shared","unmatched","place","colour"] ["hidden","guess"] (aO nR):=il
abbrev ft:Stmt:=jR 35
theorem fL:FnScope ["fitting","guess","parts","code"] ["fitting","guess"] (aO ft):=il
abbrev hX:Stmt:=jR 31
theorem qJ:FnScope ["found"] ["found"] (aO hX):=il
abbrev t6:Stmt:=jR 13
theorem EA:FnScope ["thing"] ["thing"] (aO t6):=il
abbrev fM:Stmt:=jR 12
theorem nU:FnScope ["thing","low","high"] ["thing","low","high"] (aO fM):=il
abbrev hZ:Stmt:=jR 14
theorem eC:FnScope ["places","colours","codes","place"] ["places","colours"] (aO hZ):=il
abbrev t7:Stmt:=jR 15
theorem EB:FnScope ["thing"] ["thing"] (aO t7):=il
abbrev jY:Stmt:=jR 16
theorem t9:FnScope ["game"] ["game"] (aO jY):=il
abbrev tf:Stmt:=jR 18
theorem EC:FnScope ["game","thing"] ["game","thing"] (aO tf):=il
abbrev nV:Stmt:=jR 24
theorem zg:FnScope ["game","thing"] ["game","thing"] (aO nV):=il
abbrev xG:Stmt:=jR 25
theorem IA:FnScope ["game","thing"] ["game","thing"] (aO xG):=il
abbrev jZ:Stmt:=jR 26
theorem jC:FnScope ["game","things","is_one","at","thing"] ["game","things","is_one"] (aO jZ):=il
abbrev j0:Stmt:=jR 27
theorem tj:FnScope ["game","asks"] ["game","asks"] (aO j0):=il
abbrev qK:Stmt:=jR 28
theorem BU:FnScope ["code","ask"] ["code","ask"] (aO qK):=il
abbrev iA:Stmt:=jR 29
theorem eD:FnScope ["codes","asks","fitting","ask"] ["codes","asks"] (aO iA):=il
abbrev nW:Stmt:=jR 20
theorem fC:FnScope ["game","codes","place","longer","code"] ["game"] (aO nW):=il
abbrev nX:Stmt:=jR 30
theorem zh:FnScope ["game","asks"] ["game","asks"] (aO nX):=il
abbrev l3:Stmt:=jR 17
theorem xH:FnScope ["game"] ["game"] (aO l3):=il
abbrev qL:Stmt:=jR 37
theorem jD:FnScope ["game","asks","fitting","planner","most"] ["game","asks"] (aO qL):=il
abbrev kU:Stmt:=jR 38
theorem um:FnScope ["game","asks"] ["game","asks"] (aO kU):=il
abbrev tq:Stmt:=jR 33
theorem vw:FnScope ["game","asks","fitting"] ["game","asks"] (aO tq):=il
abbrev j1:Stmt:=jR 19
theorem tu:FnScope ["game","code"] ["game","code"] (aO j1):=il
abbrev fO:Stmt:=jR 50
theorem dG:FnScope ["codes","guess","counts","code","given"] ["codes","guess"] (aO fO):=il
abbrev BV:Stmt:=jR 51
theorem C3:FnScope ["game","asks","guess","fitting"] ["game","asks","guess"] (aO BV):=il
abbrev cu:Stmt:=jR 52
theorem kW:FnScope ["game","asks","guess","rows","best"] ["game","asks","guess"] (aO cu):=il
abbrev tw:Stmt:=jR 32
theorem fu:FnScope ["places","size","chosen","step","longer","choice","start"] ["places","size"] (aO tw):=il
abbrev l6:Stmt:=jR 45
theorem xI:FnScope ["code","guesses"] ["code","guesses"] (aO l6):=il
abbrev kX:Stmt:=jR 46
theorem eR:FnScope ["codes","guesses","first","pairs","code","given"] ["codes","guesses"] (aO kX):=il
abbrev iB:Stmt:=jR 47
theorem fw:FnScope ["codes","size","choice","guesses"] ["codes","size"] (aO iB):=il
abbrev gA:Stmt:=jR 48
theorem cA:FnScope ["game","codes","size","guesses"] ["game"] (aO gA):=il
abbrev nY:Stmt:=jR 53
theorem zi:FnScope ["fitting","guess"] ["fitting","guess"] (aO nY):=il
abbrev gd:Stmt:=jR 54
theorem ED:FnScope ["codes","fitting"] ["codes","fitting"] (aO gd):=il
abbrev xJ:Stmt:=jR 55
theorem jE:FnScope ["game","hidden","codes","fitting","asks","guess","ask"] ["game","hidden"] (aO xJ):=il
abbrev qM:Stmt:=jR 40
theorem BW:FnScope ["thing","size"] ["thing","size"] (aO qM):=il
abbrev jF:Stmt:=jR 41
theorem rE:FnScope ["thing","size"] ["thing","size"] (aO jF):=il
abbrev j2:Stmt:=jR 42
theorem fP:FnScope ["code","places","colours","named","place","colour"] ["code","places","colours"] (aO j2):=il
abbrev uA:Stmt:=jR 43
theorem EE:FnScope ["game","asks","places","colours"] ["game","asks","places","colours"] (aO uA):=il
abbrev Mp:Stmt:=jR 62
theorem lA:FnScope ["_law_script","_law_game","_law_hidden","_law_asks","_law_k","_law_guess","_law_many","_law_more","_law_some","_law_places","_law_colours"] ["_law_script"] (aO Mp):=il
abbrev qN(P:Program)(w:World)(K:Fg)(mg:`j)(base:Heap):Prop:=Own P w K mg base 1 "_law_mix" ["_law_cell_here","_law_prime","_law_many"] (f7 K 3 ef)
abbrev nZ(P:Program)(w:World)(K:Fg)(mg:`j)(base:Heap):Prop:=Own P w K mg base 1 "_law_cell" ["_law_script","_law_k"] (f7 K 2 a8)
abbrev qm(P:Program)(w:World)(K:Fg)(mg:`j)(base:Heap):Prop:=Own P w K mg base 2 "_law_small" ["_law_script","_law_at"] (f7 K 2 d9)
abbrev uB(P:Program)(w:World)(K:Fg)(mg:`j)(base:Heap):Prop:=Own P w K mg base 2 "_law_code" ["_law_game","_law_cell_here"] (f7 K 2 bZ)
abbrev pB(P:Program)(w:World)(K:Fg)(mg:`j)(base:Heap):Prop:=Own P w K mg base 1 "_law_answer" ["_law_one","_law_other"] (f7 K 2 au)
abbrev gB(P:Program)(w:World)(K:Fg)(mg:`j)(base:Heap):Prop:=Own P w K mg base 1 "answer_of" ["hidden","guess"] (f7 K 2 cD)
abbrev gD(P:Program)(w:World)(K:Fg)(mg:`j)(base:Heap):Prop:=Own P w K mg base 2 "parts_by_answer" ["fitting","guess"] (f7 K 2 dq)
abbrev eW(P:Program)(w:World)(K:Fg)(mg:`j)(base:Heap):Prop:=Own P w K mg base 1 "found_or_clash" ["found"] (f7 K 1 bI)
abbrev pC(P:Program)(w:World)(K:Fg)(mg:`j)(base:Heap):Prop:=Own P w K mg base 1 "is_pair" ["thing"] (f7 K 1 gY)
abbrev cS(P:Program)(w:World)(K:Fg)(mg:`j)(base:Heap):Prop:=Own P w K mg base 1 "is_number_within" ["thing","low","high"] (f7 K 3 ag)
abbrev iC(P:Program)(w:World)(K:Fg)(mg:`j)(base:Heap):Prop:=Own P w K mg base 1 "how_many_codes" ["places","colours"] (f7 K 2 gz)
abbrev zj(P:Program)(w:World)(K:Fg)(mg:`j)(base:Heap):Prop:=Own P w K mg base 2 "is_game" ["thing"] (f7 K 1 yj)
abbrev dI(P:Program)(w:World)(K:Fg)(mg:`j)(base:Heap):Prop:=Own P w K mg base 3 "checked_game" ["game"] (f7 K 1 cU)
abbrev uC(P:Program)(w:World)(K:Fg)(mg:`j)(base:Heap):Prop:=Own P w K mg base 2 "is_code" ["game","thing"] (f7 K 2 lP)
abbrev uD(P:Program)(w:World)(K:Fg)(mg:`j)(base:Heap):Prop:=Own P w K mg base 2 "is_answer" ["game","thing"] (f7 K 2 kG)
abbrev mT(P:Program)(w:World)(K:Fg)(mg:`j)(base:Heap):Prop:=Own P w K mg base 4 "checked_list" ["game","things","is_one"] (f7 K 3 gL)
abbrev j3(P:Program)(w:World)(K:Fg)(mg:`j)(base:Heap):Prop:=Own P w K mg base 5 "checked_asks" ["game","asks"] (f7 K 2 eP)
abbrev vx(P:Program)(w:World)(K:Fg)(mg:`j)(base:Heap):Prop:=Own P w K mg base 2 "fits_ask" ["code","ask"] (f7 K 2 iS)
abbrev iD(P:Program)(w:World)(K:Fg)(mg:`j)(base:Heap):Prop:=Own P w K mg base 3 "those_that_fit" ["codes","asks"] (f7 K 2 dH)
abbrev gF(P:Program)(w:World)(K:Fg)(mg:`j)(base:Heap):Prop:=Own P w K mg base 4 "all_codes" ["game"] (f7 K 1 be)
abbrev kY(P:Program)(w:World)(K:Fg)(mg:`j)(base:Heap):Prop:=Own P w K mg base 6 "what_fits" ["game","asks"] (f7 K 2 cE)
abbrev l7(P:Program)(w:World)(K:Fg)(mg:`j)(base:Heap):Prop:=Own P w K mg base 2 "small_game" ["game"] (f7 K 1 g9)
abbrev vy(P:Program)(w:World)(K:Fg)(mg:`j)(base:Heap):Prop:=Own P w K mg base 53 "shortest" ["game","asks"] (f7 K 2 iT)
abbrev pD(P:Program)(w:World)(K:Fg)(mg:`j)(base:Heap):Prop:=Own P w K mg base 54 "fewest_asks" ["game","asks"] (f7 K 2 a9)
abbrev zk(P:Program)(w:World)(K:Fg)(mg:`j)(base:Heap):Prop:=Own P w K mg base 7 "settled" ["game","asks"] (f7 K 2 ga)
abbrev j4(P:Program)(w:World)(K:Fg)(mg:`j)(base:Heap):Prop:=Own P w K mg base 3 "checked_code" ["game","code"] (f7 K 2 eQ)
abbrev fQ(P:Program)(w:World)(K:Fg)(mg:`j)(base:Heap):Prop:=Own P w K mg base 2 "counts_by_answer" ["codes","guess"] (f7 K 2 cR)
abbrev BX(P:Program)(w:World)(K:Fg)(mg:`j)(base:Heap):Prop:=Own P w K mg base 7 "split" ["game","asks","guess"] (f7 K 3 kK)
abbrev qo(P:Program)(w:World)(K:Fg)(mg:`j)(base:Heap):Prop:=Own P w K mg base 10 "foe_answer" ["game","asks","guess"] (f7 K 3 eh)
abbrev zm(P:Program)(w:World)(K:Fg)(mg:`j)(base:Heap):Prop:=Own P w K mg base 1 "choices" ["places","size"] (f7 K 2 yt)
abbrev qp(P:Program)(w:World)(K:Fg)(mg:`j)(base:Heap):Prop:=Own P w K mg base 2 "answers_to" ["code","guesses"] (f7 K 2 qj)
abbrev pE(P:Program)(w:World)(K:Fg)(mg:`j)(base:Heap):Prop:=Own P w K mg base 3 "first_alike" ["codes","guesses"] (f7 K 2 ol)
abbrev lB(P:Program)(w:World)(K:Fg)(mg:`j)(base:Heap):Prop:=Own P w K mg base 4 "first_settling" ["codes","size"] (f7 K 2 hV)
abbrev jm(P:Program)(w:World)(K:Fg)(mg:`j)(base:Heap):Prop:=Own P w K mg base 5 "fewest_settling" ["game"] (f7 K 1 aj)
abbrev uE(P:Program)(w:World)(K:Fg)(mg:`j)(base:Heap):Prop:=Own P w K mg base 3 "most_left" ["fitting","guess"] (f7 K 2 tJ)
abbrev zn(P:Program)(w:World)(K:Fg)(mg:`j)(base:Heap):Prop:=Own P w K mg base 6 "best_of" ["codes","fitting"] (f7 K 2 yw)
abbrev C4(P:Program)(w:World)(K:Fg)(mg:`j)(base:Heap):Prop:=Own P w K mg base 7 "played" ["game","hidden"] (f7 K 2 dw)
abbrev vz(P:Program)(w:World)(K:Fg)(mg:`j)(base:Heap):Prop:=Own P w K mg base 2 "is_order" ["thing","size"] (f7 K 2 ji)
abbrev l9(P:Program)(w:World)(K:Fg)(mg:`j)(base:Heap):Prop:=Own P w K mg base 3 "checked_order" ["thing","size"] (f7 K 2 cj)
abbrev mU(P:Program)(w:World)(K:Fg)(mg:`j)(base:Heap):Prop:=Own P w K mg base 1 "renamed_code" ["code","places","colours"] (f7 K 3 bQ)
abbrev zo(P:Program)(w:World)(K:Fg)(mg:`j)(base:Heap):Prop:=Own P w K mg base 6 "renamed" ["game","asks","places","colours"] (f7 K 4 jB)
theorem BY(B:Rb P w K mg base)(z:cX K "_law_mix" qI):qN P w K mg base:=
 ak B z BT λhr hu=>
  ⟨_,(aP (af (cG rc (cG rc (cG pL (pv 0) aY) (pv 1)) (pv 2)))),(ah (aZ sG (aZ sG (aZ md (aE 0) aW) (aE 1)) (aE 2)))⟩
theorem zp(B:Rb P w K mg base)(z:cX K "_law_cell" nO):nZ P w K mg base:=
 ak B z ze λhr hu=>
  ⟨_,(aJ (cK (bR K6 (pv 1) (bD (fE K) (by rfl) B.len PySem.boot_len (aA (pv 0) aI)) (b0 _)) (aP (af (bh (bj K) (pv 0) (pv 1) (λ_ _=>rfl)))) bP) (aP (af aY))),(aU (d4 (b8 (aZ Kd (aE 1) (bH ic (aD (aE 0) aK)))) (ah (aZ bn (aE 0) (aE 1))) bp) (ah aW))⟩
theorem xK(B:Rb P w K mg base)(z:cX K "_law_small" lY)(o0:qN P w K mg base)(o1:nZ P w K mg base):qm P w K mg base:=
 ak B z pA λhr hu=>
  ⟨_,(@Ff _ _ _ _ _ (@JB _ 2 _ _ _ _ _ [.tuple [.int 2,.int 3],.tuple [.int 3,.int 2],.tuple [.int 2,.int 4],.tuple [.int 4,.int 2],.tuple [.int 1,.int 5],.tuple [.int 2,.int 2],.tuple [.int 1,.int 3],.tuple [.int 2,.int 3]] pA.nd rfl `b (by rfl) (by rfl) (Or.inl rfl)) (aP (af (bh (bj K) (pv 2) (aV o0 hr (aA (aV o1 hr (aA (pv 0) (aA (pv 1) aI))) (aA aY (aA aY aI)))) (λ_ _=>rfl))))),(aU (bG 2 (bu (cZ (@JC _ [.tuple [.int 2,.int 3],.tuple [.int 3,.int 2],.tuple [.int 2,.int 4],.tuple [.int 4,.int 2],.tuple [.int 1,.int 5],.tuple [.int 2,.int 2],.tuple [.int 1,.int 3],.tuple [.int 2,.int 3]] (by rfl))))) (ah (aZ bn (aE 2) (aT (aD (aT (aD (aE 0) (aD (aE 1) aK))) (aD aW (aD aW aK)))))))⟩
theorem zq(B:Rb P w K mg base)(z:cX K "_law_code" nQ)(o0:qN P w K mg base):uB P w K mg base:=
 ak B z lZ λhr hu=>
  ⟨_,(aJ (a7 (i:=2) lZ.nd (cL aI)) (aJ (cw PassesOwn.never rfl (e7 rfl B.range (aA (bh (bj K) (pv 0) aY (λ_ _=>rfl)) aI)) (aq (i:=3) lZ.nd rfl `b) (aP (b7 (k8 PySem.F.plainAttrs_list PySem.F.slot_list_append PySem.F.type_list_append dj (pv 2) (aA (aV o0 hr (aA (cG (eF K) (cG (eF K) (pv 1) (cG pL (cG pL aY (pv 3)) (pv 3))) (cG pL aY (pv 3))) (aA aY (aA (bh (bj K) (pv 0) aY (λ_ _=>rfl)) aI)))) aI))))) (aP (af (cY (iY K) (by rfl) B.tuple PyProof.Rows.boot_tuple (aA (pv 2) aI)))))),(aU (iL 2 (cZ aK)) (aU (eY (jJ (aD (aZ bn (aE 0) aW) aK)) (bA 3) (jd 2 (aT (aD (aZ eG (aZ eG (aE 1) (aZ md (aZ md aW (aE 3)) (aE 3))) (aZ md aW (aE 3))) (aD aW (aD (aZ bn (aE 0) aW) aK)))))) (d5 2 (ah (bH mi (aD (aE 2) aK))))))⟩
theorem uo(B:Rb P w K mg base)(z:cX K "_law_answer" kS):pB P w K mg base:=
 ak B z bc λhr hu=>
  ⟨_,(aJ (a7 (i:=2) bc.nd aY) (aJ (a7 (i:=3) bc.nd (cL aI)) (aJ (a7 (i:=4) bc.nd (cL aI)) (aJ (cw PassesOwn.never rfl (Lh K B.zip (aA (pv 0) (aA (pv 1) aI))) (nk K (eI (aq (i:=5) bc.nd rfl `b) (eI (aq (i:=6) bc.nd rfl `b) ng))) (aP (cK (bR (gn K hu) (pv 5) (pv 6) (b0 _)) (aP (a7 (i:=2) bc.nd (cG (eF K) (pv 2) aY))) (aJ (b7 (k8 PySem.F.plainAttrs_list PySem.F.slot_list_append PySem.F.type_list_append dj (pv 3) (aA (pv 5) aI))) (aP (b7 (k8 PySem.F.plainAttrs_list PySem.F.slot_list_append PySem.F.type_list_append dj (pv 4) (aA (pv 6) aI)))))))) (aJ (a7 (i:=7) bc.nd aY) (aJ (cw PassesOwn.never rfl (dD K (pv 3)) (aq (i:=8) bc.nd rfl `b) (aP (cK (bR (Kb K) (pv 8) (pv 4) (by rfl)) (aJ (b7 (k8 PySem.F.plainAttrs_list PySem.F.slot_list_remove PySem.F.type_list_remove vD (pv 4) (aA (pv 8) aI))) (aP (a7 (i:=7) bc.nd (cG (eF K) (pv 7) aY)))) bP))) (aP (af (dL (aA (pv 2) (aA (pv 7) aI))))))))))),(aU (bG 2 aW) (aU (iL 3 (cZ aK)) (aU (iL 4 (cZ aK)) (aU (eY (Ln (aD (aE 0) (aD (aE 1) aK))) (sB (eN (bA 5) (eN (bA 6) nq))) (d4 (b8 (aZ ke (aE 5) (aE 6))) (bG 2 (aZ eG (aE 2) aW)) (aU (jd 3 (aE 5)) (jd 4 (aE 6))))) (aU (bG 7 aW) (aU (d5 3 (eY (dM (aE 3)) (bA 8) (d4 (b8 (FX false 4 (aE 8))) (aU (vK 4 (aE 8)) (bG 7 (aZ eG (aE 7) aW))) bp))) (ah (eE (aD (aE 2) (aD (aE 7) aK))))))))))⟩
theorem zr(B:Rb P w K mg base)(z:cX K "answer_of" nR):gB P w K mg base:=
 ak B z cr λhr hu=>
  ⟨_,(aJ (a7 (i:=2) cr.nd aY) (aJ (a7 (i:=3) cr.nd aY) (aJ (a7 (i:=4) cr.nd (cY (Bd K) (by rfl) B.list PyProof.Rows.boot_list (aA (pv 0) aI))) (aJ (cw PassesOwn.never rfl (FH K B.enumerate (aA (pv 1) aI)) (nk K (eI (aq (i:=5) cr.nd rfl `b) (eI (aq (i:=6) cr.nd rfl `b) ng))) (aJ (cK (bR (gn K hu) (bh (bj K) (pv 0) (pv 5) (λ_ _=>rfl)) (pv 6) (b0 _)) (aP (rZ (i:=2) cr.nd rfl `b aY rG)) bP) (aP (cK (bR (Kb K) (pv 6) (pv 4) (by rfl)) (aJ (b7 (k8 PySem.F.plainAttrs_list PySem.F.slot_list_remove PySem.F.type_list_remove vD (pv 4) (aA (pv 6) aI))) (aP (rZ (i:=3) cr.nd rfl `b aY rG))) bP)))) (aP (af (dL (aA (pv 2) (aA (cG r9 (pv 3) (pv 2)) aI))))))))),(aU (bG 2 aW) (aU (bG 3 aW) (aU (iL 4 (vN (aD (aE 0) aK))) (aU (eY (FJ (aD (aE 1) aK)) (sB (eN (bA 5) (eN (bA 6) nq))) (aU (d4 (b8 (aZ ke (aZ bn (aE 0) (aE 5)) (aE 6))) (wK 2 wM aW) bp) (d4 (b8 (FX false 4 (aE 6))) (aU (vK 4 (aE 6)) (wK 3 wM aW)) bp))) (ah (eE (aD (aE 2) (aD (aZ sD (aE 3) (aE 2)) aK))))))))⟩
theorem pF(B:Rb P w K mg base)(z:cX K "parts_by_answer" ft)(o5:gB P w K mg base):gD P w K mg base:=
 ak B z fL λhr hu=>
  ⟨_,(aJ (a7 (i:=2) fL.nd yM) (aJ (cw PassesOwn.never rfl (dD K (pv 0)) (aq (i:=3) fL.nd rfl `b) (aP (b7 (k8 PySem.F.plainAttrs_list PySem.F.slot_list_append PySem.F.type_list_append dj (Gy (Ba hr) (pv 2) (aV o5 hr (aA (pv 3) (aA (pv 1) aI))) (cL aI) ⟨by rfl,by rfl,by rfl,by rfl⟩) (aA (pv 3) aI))))) (aP (af (pv 2))))),(aU (Bw 2) (aU (Dh 3 2 (dM (aE 0)) (aT (aD (aE 3) (aD (aE 1) aK)))) (d5 2 (ah (aE 2)))))⟩
theorem qO(B:Rb P w K mg base)(z:cX K "found_or_clash" hX):eW P w K mg base:=
 ak B z qJ λhr hu=>
  ⟨_,(aJ (cK (gj (fX K (pv 0))) (aP iV) bP) (aP (af (pv 0)))),(aU (d4 (gq (fY (aE 0))) iZ bp) (ah (aE 0)))⟩
theorem EF(B:Rb P w K mg base)(z:cX K "is_pair" t6):pC P w K mg base:=
 ak B z EA λhr hu=>
  ⟨_,(aP (af (mV (bD (lv K) (by rfl) B.isinstance ja (aA (pv 0) (aA (lm (v:=.ty "tuple") rfl B.tuple PyProof.Rows.boot_tuple rfl) aI))) (rX (jH (gn K hu) (bD (fE K) (by rfl) B.len PySem.boot_len (aA (pv 0) aI)) aY (b0 _)))))),(ah (m8 (pZ (aE 0)) (aZ ke (bH ic (aD (aE 0) aK)) aW)))⟩
theorem n9(B:Rb P w K mg base)(z:cX K "is_number_within" fM):cS P w K mg base:=
 ak B z nU λhr hu=>
  ⟨_,(aP (af (mV (bD (lv K) (by rfl) B.isinstance ja (aA (pv 0) (aA (lm (v:=.ty "int") rfl B.int PyProof.Rows.boot_int rfl) aI))) (mV (LR (bD (lv K) (by rfl) B.isinstance ja (aA (pv 0) (aA (lm (v:=.ty "bool") rfl B.bool PyProof.Rows.boot_bool rfl) aI)))) (rX (E9 B5 B5 (pv 1) (pv 0) (pv 2))))))),(ah (m8 (pZ (aE 0)) (m8 (Lj (pZ (aE 0))) (FU Bh Bh (aE 1) (aE 0) (aE 2)))))⟩
theorem qP(B:Rb P w K mg base)(z:cX K "how_many_codes" hZ):iC P w K mg base:=
 ak B z eC λhr hu=>
  ⟨_,(aJ (a7 (i:=2) eC.nd aY) (aJ (cw PassesOwn.never rfl (e7 rfl B.range (aA (pv 0) aI)) (aq (i:=3) eC.nd rfl `b) (aP (rZ (i:=2) eC.nd rfl `b (pv 1) IP))) (aP (af (pv 2))))),(aU (bG 2 aW) (aU (eY (jJ (aD (aE 0) aK)) (bA 3) (wK 2 md (aE 1))) (ah (aE 2))))⟩
theorem EG(B:Rb P w K mg base)(z:cX K "is_game" t7)(o8:pC P w K mg base)(o10:iC P w K mg base)(o9:cS P w K mg base){t4:Tok}(g4:mg "MOST_PLACES"=some (.int 5 t4)){t3:Tok}(g3:mg "MOST_COLOURS"=some (.int 8 t3)){t1:Tok}(g1:mg "MOST_CODES"=some (.int 300 t1)):zj P w K mg base:=
 ak B z EB λhr hu=>
  ⟨_,(aJ (cK (gj (fX K (aV o8 hr (aA (pv 0) aI)))) (aP (af mF)) bP) (aJ (cK (PW.pt (xU (gj (fX K (aV o9 hr (aA (bh (bj K) (pv 0) aY (λ_ _=>rfl)) (aA aY (aA (la (v:=.int 5) rfl g4 ⟨_,rfl⟩) aI)))))) (rW (gj (fX K (aV o9 hr (aA (bh (bj K) (pv 0) aY (λ_ _=>rfl)) (aA aY (aA (la (v:=.int 8) rfl g3 ⟨_,rfl⟩) aI))))))))) (aP (af mF)) bP) (aP (af (jH B5 (aV o10 hr (aA (bh (bj K) (pv 0) aY (λ_ _=>rfl)) (aA (bh (bj K) (pv 0) aY (λ_ _=>rfl)) aI))) (la (v:=.int 300) rfl g1 ⟨_,rfl⟩) (b0 _)))))),(aU (d4 (gq (fY (aT (aD (aE 0) aK)))) (ah mI) bp) (aU (d4 (xj (gq (fY (aT (aD (aZ bn (aE 0) aW) (aD aW (aD aW aK)))))) (gq (fY (aT (aD (aZ bn (aE 0) aW) (aD aW (aD aW aK))))))) (ah mI) bp) (ah (aZ Bh (aT (aD (aZ bn (aE 0) aW) (aD (aZ bn (aE 0) aW) aK))) aW))))⟩
theorem uF(B:Rb P w K mg base)(z:cX K "checked_game" jY)(o11:zj P w K mg base):dI P w K mg base:=
 ak B z t9 λhr hu=>
  ⟨_,(aJ (cK (gj (fX K (aV o11 hr (aA (pv 0) aI)))) (aP iV) bP) (aP (af (pv 0)))),(aU (d4 (gq (fY (aT (aD (aE 0) aK)))) iZ bp) (ah (aE 0)))⟩
theorem EH(B:Rb P w K mg base)(z:cX K "is_code" tf)(o9:cS P w K mg base):uC P w K mg base:=
 ak B z EC λhr hu=>
  ⟨_,(aJ (cK (PW.pt (xU (gj (fX K (bD (lv K) (by rfl) B.isinstance ja (aA (pv 1) (aA (lm (v:=.ty "tuple") rfl B.tuple PyProof.Rows.boot_tuple rfl) aI))))) (rW (bR (AV K hu) (bD (fE K) (by rfl) B.len PySem.boot_len (aA (pv 1) aI)) (bh (bj K) (pv 0) aY (λ_ _=>rfl)) (b0 _))))) (aP (af mF)) bP) (aP (af (bD (AW K) (by rfl) B.all PyProof.Rows.boot_all (aA (eK ["colour"] [("game",0)] (dD K (pv 1)) (λ_ _ _ _=>(aq (i:=0) (show List.Nodup (["colour","game"]:List Str)by decide+kernel) rfl `b)) (λ_ _ _ _=>eU) (λ_ _ _ _=>(aV o9 hr (aA (pv 0) (aA aY (aA (cG r9 (bh (bj K) (pv 1) aY (λ_ _=>rfl)) aY) aI)))))) aI))))),(aU (d4 (xj (gq (fY (pZ (aE 1)))) (b8 (aZ FQ (bH ic (aD (aE 1) aK)) (aZ bn (aE 0) aW)))) (ah mI) bp) (ah (bH A0 (aD (bu (dn (dM (aE 1)) (bA 0) cO gu (aT (aD (aE 0) (aD aW (aD (aZ sD (aZ bn (aE 1) aW) aW) aK)))))) aK))))⟩
theorem zt(B:Rb P w K mg base)(z:cX K "is_answer" nV)(o8:pC P w K mg base)(o9:cS P w K mg base):uD P w K mg base:=
 ak B z zg λhr hu=>
  ⟨_,(aP (af (mV (aV o8 hr (aA (pv 1) aI)) (rX (bD (AW K) (by rfl) B.all PyProof.Rows.boot_all (aA (eK ["number"] [("game",0)] (dD K (pv 1)) (λ_ _ _ _=>(aq (i:=0) (show List.Nodup (["number","game"]:List Str)by decide+kernel) rfl `b)) (λ_ _ _ _=>eU) (λ_ _ _ _=>(aV o9 hr (aA (pv 0) (aA aY (aA (bh (bj K) (pv 1) aY (λ_ _=>rfl)) aI)))))) aI)))))),(ah (m8 (aT (aD (aE 1) aK)) (bH A0 (aD (bu (dn (dM (aE 1)) (bA 0) cO gu (aT (aD (aE 0) (aD aW (aD (aZ bn (aE 1) aW) aK)))))) aK))))⟩
theorem IB(z:cX K "is_ask" xG)(o8:pC P w K mg base)(o13:uC P w K mg base)(o14:uD P w K mg base):OwnN P w K mg base 3 "is_ask" ["game","thing"] (f7 K 2 ly):=
 CW z IA λhr hu=>
  ⟨_,(aP (af (mV (aV o8 hr (aA (pv 1) aI)) (mV (aV o13 hr (aA (pv 0) (aA (bh (bj K) (pv 1) aY (λ_ _=>rfl)) aI))) (rX (aV o14 hr (aA (pv 0) (aA (bh (bj K) (pv 1) aY (λ_ _=>rfl)) aI)))))))),(ah (m8 (aT (aD (aE 1) aK)) (m8 (aT (aD (aE 0) (aD (aZ bn (aE 1) aW) aK))) (aT (aD (aE 0) (aD (aZ bn (aE 1) aW) aK))))))⟩
theorem uG(B:Rb P w K mg base)(z:cX K "checked_list" jZ)(Nis_ask:OwnN P w K mg base 3 "is_ask" ["game","thing"] (f7 K 2 ly)){t0:Tok}(g0:mg "MOST_ASKS"=some (.int 8 t0)):mT P w K mg base:=
 ak B z jC λhr hu=>
  ⟨_,(aJ (cK (PW.pt (xU (gj (fX K (bD (lv K) (by rfl) B.isinstance ja (aA (pv 1) (aA (lm (v:=.ty "list") rfl B.list PyProof.Rows.boot_list rfl) aI))))) (rW (bR re (bD (fE K) (by rfl) B.len PySem.boot_len (aA (pv 1) aI)) (la (v:=.int 8) rfl g0 ⟨_,rfl⟩) (b0 _))))) (aP iV) bP) (aJ (cw PassesOwn.never rfl (FH K B.enumerate (aA (pv 1) aI)) (nk K (eI (aq (i:=3) jC.nd rfl `b) (eI (aq (i:=4) jC.nd rfl `b) ng))) (aP (cK (gj (fX K (JE Nis_ask hr (pv 2) (aA (pv 0) (aA (pv 4) aI))))) (aP iV) bP))) (aP (af (pv 1))))),(aU (d4 (xj (gq (fY (pZ (aE 1)))) (b8 (aZ sE (bH ic (aD (aE 1) aK)) aW))) iZ bp) (aU (eY (FJ (aD (aE 1) aK)) (sB (eN (bA 3) (eN (bA 4) nq))) (d4 (gq (fY (Fj (aD (aE 0) (aD (aE 4) aK))))) iZ bp)) (ah (aE 1))))⟩
theorem uH(B:Rb P w K mg base)(z:cX K "checked_asks" j0)(o16:mT P w K mg base){Ais_ask:Addr}(mis_ask:mg "is_ask"=some (.ref Ais_ask))(nis_ask:PySem.W.nsIn K mainGlobals "is_ask"=some (some (.ref Ais_ask))):j3 P w K mg base:=
 ak B z tj λhr hu=>
  ⟨_,(aP (af (aV o16 hr (aA (pv 0) (aA (pv 1) (aA (la (v:=.ref Ais_ask) rfl mis_ask rfl) aI)))))),(ah (aT (aD (aE 0) (aD (aE 1) (aD (N5 nis_ask) aK)))))⟩
theorem BZ(B:Rb P w K mg base)(z:cX K "fits_ask" qK)(o5:gB P w K mg base):vx P w K mg base:=
 ak B z BU λhr hu=>
  ⟨_,(aP (af (jH (gn K hu) (aV o5 hr (aA (pv 0) (aA (bh (bj K) (pv 1) aY (λ_ _=>rfl)) aI))) (bh (bj K) (pv 1) aY (λ_ _=>rfl)) (b0 _)))),(ah (aZ ke (aT (aD (aE 0) (aD (aZ bn (aE 1) aW) aK))) (aZ bn (aE 1) aW)))⟩
theorem qQ(B:Rb P w K mg base)(z:cX K "those_that_fit" iA)(o18:vx P w K mg base):iD P w K mg base:=
 ak B z eD λhr hu=>
  ⟨_,(aJ (a7 (i:=2) eD.nd (pv 0)) (aJ (cw PassesOwn.never rfl (dD K (pv 1)) (aq (i:=3) eD.nd rfl `b) (aP (wI (i:=2) ["code"] [("ask",3)] eD.nd rfl `b (dD K (pv 2)) (λ_ _ _ _=>(aq (i:=0) (show List.Nodup (["code","ask"]:List Str)by decide+kernel) rfl `b)) (λ_ _ _ _=>(Ie (fX K (aV o18 hr (aA (pv 0) (aA (pv 1) aI)))))) (λ_ _ _ _=>(pv 0))))) (aP (af (pv 2))))),(aU (bG 2 (aE 0)) (aU (eY (dM (aE 1)) (bA 3) (bG 2 (bu (dn (dM (aE 2)) (bA 0) cO (fY (aT (aD (aE 0) (aD (aE 1) aK)))) (aE 0))))) (ah (aE 2))))⟩
theorem zu(B:Rb P w K mg base)(z:cX K "all_codes" nW)(o12:dI P w K mg base):gF P w K mg base:=
 ak B z fC λhr hu=>
  ⟨_,(aJ (b7 (aV o12 hr (aA (pv 0) aI))) (aJ (a7 (i:=1) fC.nd (cL (aA (dL aI) aI))) (aJ (cw PassesOwn.never rfl (e7 rfl B.range (aA (bh (bj K) (pv 0) aY (λ_ _=>rfl)) aI)) (aq (i:=2) fC.nd rfl `b) (aJ (a7 (i:=3) fC.nd (cL aI)) (aJ (cw PassesOwn.never rfl (dD K (pv 1)) (aq (i:=4) fC.nd rfl `b) (aP (b7 (k8 PySem.F.plainAttrs_list PySem.F.slot_list_extend PySem.F.type_list_extend vA (pv 3) (aA (eK ["colour"] [("code",4)] (e7 rfl B.range (aA (bh (bj K) (pv 0) aY (λ_ _=>rfl)) aI)) (λ_ _ _ _=>(aq (i:=0) (show List.Nodup (["colour","code"]:List Str)by decide+kernel) rfl `b)) (λ_ _ _ _=>eU) (λ_ _ _ _=>(cG (eF K) (pv 1) (dL (aA (pv 0) aI))))) aI))))) (aP (a7 (i:=1) fC.nd (pv 3)))))) (aP (af (pv 1)))))),(aU (eV (aT (aD (aE 0) aK))) (aU (bG 1 (bu (cZ (aD (eE aK) aK)))) (aU (eY (jJ (aD (aZ bn (aE 0) aW) aK)) (bA 2) (aU (iL 3 (cZ aK)) (aU (eY (dM (aE 1)) (bA 4) (vJ 3 (bu (dn (jJ (aD (aZ bn (aE 0) aW) aK)) (bA 0) cO gu (aZ eG (aE 1) (eE (aD (aE 0) aK))))))) (d5 3 (bG 1 (aE 3)))))) (ah (aE 1)))))⟩
theorem zw(B:Rb P w K mg base)(z:cX K "what_fits" nX)(o12:dI P w K mg base)(o17:j3 P w K mg base)(o19:iD P w K mg base)(o20:gF P w K mg base):kY P w K mg base:=
 ak B z zh λhr hu=>
  ⟨_,(aJ (b7 (aV o12 hr (aA (pv 0) aI))) (aJ (b7 (aV o17 hr (aA (pv 0) (aA (pv 1) aI)))) (aP (af (aV o19 hr (aA (aV o20 hr (aA (pv 0) aI)) (aA (pv 1) aI))))))),(aU (eV (aT (aD (aE 0) aK))) (aU (eV (aT (aD (aE 0) (aD (aE 1) aK)))) (ah (aT (aD (aT (aD (aE 0) aK)) (aD (aE 1) aK))))))⟩
theorem xL(B:Rb P w K mg base)(z:cX K "small_game" l3)(o10:iC P w K mg base){t2:Tok}(g2:mg "MOST_CODES_SEARCHED"=some (.int 16 t2)):l7 P w K mg base:=
 ak B z xH λhr hu=>
  ⟨_,(aJ (cK (bR re (aV o10 hr (aA (bh (bj K) (pv 0) aY (λ_ _=>rfl)) (aA (bh (bj K) (pv 0) aY (λ_ _=>rfl)) aI))) (la (v:=.int 16) rfl g2 ⟨_,rfl⟩) (b0 _)) (aP iV) bP) (aP (af (pv 0)))),(aU (d4 (b8 (aZ sE (aT (aD (aZ bn (aE 0) aW) (aD (aZ bn (aE 0) aW) aK))) aW)) iZ bp) (ah (aE 0)))⟩
def PM(i:Nat):Stmt:=match jR 36 with| .ClassDef _ _ _ body _ _ _ _ _ _ _=>body.getD i (.Pass ⟨0,0,0,0⟩)|s=>s
abbrev Mq:Stmt:=PM 0
theorem On:FnScope ["self","codes"] ["self","codes"] (aO Mq):=il
abbrev KP:Stmt:=PM 1
theorem LI:FnScope ["self","fitting","most","key"] ["self","fitting","most"] (aO KP):=il
abbrev KQ:Stmt:=PM 2
theorem C5:FnScope ["self","fitting","most","plan","guess"] ["self","fitting","most"] (aO KQ):=il
abbrev KR:Stmt:=PM 3
theorem zx:FnScope ["self","fitting","guess","most","parts","rows","given","plan"] ["self","fitting","guess","most"] (aO KR):=il
variable {C:Addr}
theorem Pq(F:Fun K "__init__" "Planner.__init__" Mq f fd)(T:PlC K C):FnOk P w K mg base pH 1 f fd ["self","codes"] (Jr P w C):=by
 refine F.ok On (λvs H Q E h=>?_) (λcdv A outer s H vs Q E hr h=>?_)
 . obtain⟨_,_,_,rfl,_⟩:=h;rfl
 . have e5:L2.dY ["self","codes"] vs=vs.map some:=by
    obtain⟨_,_,_,rfl,_⟩:=h;rfl
   rw [e5];exact⟨_,aJ (Ee (pv 0) (pv 1) rfl) (aP (Ee (pv 0) Jh rfl)),Js T (λ_ _=>rfl) h⟩
variable {cs:Cs}
theorem Oo(T:PlC K C)(hc:cs.length<=16)(he:gX cs)(F:Fun K "plan_within" "Planner.plan_within" KP f fd)(B:Bt mg){n k:Nat}{fS:Addr}{fdS:FuncData}(hn:n<=16)(GS:FnOk P w K mg base pH k fS fdS ["self","fitting","most"] (u9 K P w C (bY cs) (WPl cs) 2 (Jp cs n)))(mS:Meth K C "search" fS)(bS:Binds K fdS ["self","fitting","most"] []):FnOk P w K mg base pH (k+1) f fd ["self","fitting","most"] (u9 K P w C (bY cs) (WPl cs) 2 (ua cs n)):=by
 refine F.ok LI (λvs H Q E h=>oO h) (λcdv A outer s H vs Q E hr h=>?_)
 . have hu:=hr.units;have e5:L2.dY ["self","fitting","most","key"] vs=vs.map some++[none]:=pu (na:=2) (k:=1) ["self","fitting","most","key"] rfl h;rw [e5];exact⟨_,aJ (cK (bR (gn K hu) (bD (fE K) (by rfl) B.len PySem.boot_len (aA (pv 1) aI)) aY (b0 _)) (aP (af (bh (bj K) (pv 1) aY (λ_ _=>rfl)))) bP) (aJ (cK (bR (gn K hu) (pv 2) aY (b0 _)) (aP (af gi)) bP) (aJ (a7 (i:=3) LI.nd (dL (aA (cY (iY K) (by rfl) B.tuple PyProof.Rows.boot_tuple (aA (pv 1) aI)) (aA (pv 2) aI)))) (aJ (cK (EW (Db (Pk hu) (pv 3) (wE (pv 0) rfl))) (aP (Jj (Pk hu) (wE (pv 0) rfl) (pv 3) (lq (pv 0) T.cl mS GS hr bS .nil nh (aA (pv 1) (aA (pv 2) aI))))) bP) (aP (af (Ji (Pk hu) (wE (pv 0) rfl) (pv 3) (λ_ _=>rfl))))))),
    Nk T hc hn (b8 (aZ ke (bH ic (aD (aE 1) aK)) aW)) (aZ bn (aE 1) aW) (b8 (aZ ke (aE 2) aW)) (eE (aD (bH mi (aD (aE 1) aK)) (aD (aE 2) aK))) Nn No Np Nq rfl h⟩
theorem Pr(T:PlC K C)(hc:cs.length<=16)(he:gX cs)(F:Fun K "search" "Planner.search" KQ f fd)(B:Bt mg){n k:Nat}{fW fB:Addr}{fdW fdB:FuncData}(GW:FnOk P w K mg base pH k fW fdW ["self","fitting","most"] (u9 K P w C (bY cs) (WPl cs) 2 (ua cs n)))(mW:Meth K C "plan_within" fW)(bW:Binds K fdW ["self","fitting","most"] [])(GB:FnOk P w K mg base pH (k+1) fB fdB ["self","fitting","guess","most"] (u9 K P w C (bY cs) (WPl cs) 3 (Jq cs (n+1))))(mB:Meth K C "plan_by" fB)(bB:Binds K fdB ["self","fitting","guess","most"] []):FnOk P w K mg base pH (k+2) f fd ["self","fitting","most"] (u9 K P w C (bY cs) (WPl cs) 2 (Jp cs (n+1))):=by
 refine F.ok C5 (λvs H Q E h=>oO h) (λcdv A outer s H vs Q E hr h=>?_)
 . have hu:=hr.units;have e5:L2.dY ["self","fitting","most","plan","guess"] vs=vs.map some++[none,none]:=pu (na:=2) (k:=2) ["self","fitting","most","plan","guess"] rfl h;rw [e5];exact⟨_,aJ (a7 (i:=3) C5.nd (lq (pv 0) T.cl mW GW (hr.mono `e) bW .nil nh (aA (pv 1) (aA (cG r9 (pv 2) aY) aI)))) (aJ (cK (bR B6 (pv 3) gi (b0 _)) (aP (af (pv 3))) bP) (aJ (cw PassesOwn.never rfl (dD K (wE (pv 0) rfl)) (aq (i:=4) C5.nd rfl `b) (aJ (a7 (i:=3) C5.nd (lq (pv 0) T.cl mB GB hr bB .nil nh (aA (pv 1) (aA (pv 4) (aA (pv 2) aI))))) (aP (cK (bR B6 (pv 3) gi (b0 _)) (aP (af (pv 3))) bP)))) (aP (af gi)))),
    Df T hc (aZ sD (aE 2) aW) (b8 (aZ Iw (aE 3) m7)) Nr Nt rfl h⟩
theorem Ps(T:PlC K C)(hc:cs.length<=16)(he:gX cs)(F:Fun K "plan_by" "Planner.plan_by" KR f fd)(B:Bt mg){n k:Nat}{fW:Addr}{fdW:FuncData}(o6:gD P w K mg base)(GW:FnOk P w K mg base pH k fW fdW ["self","fitting","most"] (u9 K P w C (bY cs) (WPl cs) 2 (ua cs n)))(hk:2<=k)(mW:Meth K C "plan_within" fW)(bW:Binds K fdW ["self","fitting","most"] []):FnOk P w K mg base pH (k+1) f fd ["self","fitting","guess","most"] (u9 K P w C (bY cs) (WPl cs) 3 (Jq cs (n+1))):=by
 refine F.ok zx (λvs H Q E h=>oO h) (λcdv A outer s H vs Q E hr h=>?_)
 . have hu:=hr.units;have e5:L2.dY ["self","fitting","guess","most","parts","rows","given","plan"] vs=vs.map some++[none,none,none,none]:=pu (na:=3) (k:=4) ["self","fitting","guess","most","parts","rows","given","plan"] rfl h;rw [e5];exact⟨_,aJ (a7 (i:=4) zx.nd (aV (hkn:=hk) o6 hr (aA (pv 1) (aA (pv 2) aI)))) (aJ (a7 (i:=5) zx.nd (cL aI)) (aJ (cw PassesOwn.never rfl (dD K (bD (Ad rfl) (by rfl) B.sorted PyProof.Rows.boot_sorted (aA (pv 4) aI))) (aq (i:=6) zx.nd rfl `b) (aJ (a7 (i:=7) zx.nd (lq (pv 0) T.cl mW GW hr bW .nil nh (aA (JL (Ba hr) (pv 4) (pv 6) (λ_ _=>rfl)) (aA (cG r9 (pv 3) aY) aI)))) (aJ (cK (bR wD (pv 7) gi (b0 _)) (aP (af gi)) bP) (aP (b7 (k8 PySem.F.plainAttrs_list PySem.F.slot_list_append PySem.F.type_list_append dj (pv 5) (aA (dL (aA (pv 6) (aA (pv 7) aI))) aI))))))) (aP (af (dL (aA (pv 2) (aA (cY (iY K) (by rfl) B.tuple PyProof.Rows.boot_tuple (aA (pv 5) aI)) aI))))))),
    Nl Jt (aT (aD (aE 1) (aD (aE 2) aK))) (dM (bH JJ (aD (aE 4) aK))) (Gn (aE 4) (aE 6)) (aZ sD (aE 3) aW) (b8 (aZ AY (aE 7) m7)) (eE (aD (aE 6) (aD (aE 7) aK))) (eE (aD (aE 2) (aD (bH mi (aD (aE 5) aK)) aK)))
     kA (MS hc) (OD hc he) (Nz hc he) (OA hc he) Nu Nv Nw Ny rfl h⟩
theorem Op {f1 f2 f3:Addr}{fd1 fd2 fd3:FuncData}(T:PlC K C)(hc:cs.length<=16)(he:gX cs)(B:Bt mg)(o6:gD P w K mg base)(F1:Fun K "plan_within" "Planner.plan_within" KP f1 fd1)(F2:Fun K "search" "Planner.search" KQ f2 fd2)(F3:Fun K "plan_by" "Planner.plan_by" KR f3 fd3)
 (m1:Meth K C "plan_within" f1) (m2:Meth K C "search" f2) (m3:Meth K C "plan_by" f3) (b1:Binds K fd1 ["self","fitting","most"] []) (b2:Binds K fd2 ["self","fitting","most"] []) (b3:Binds K fd3 ["self","fitting","guess","most"] []):∀n:Nat,n<=16->FnOk P w K mg base pH (3*n+4) f1 fd1 ["self","fitting","most"] (u9 K P w C (bY cs) (WPl cs) 2 (ua cs n))
 |0,_=>Oo T hc he F1 B (n:=0) (k:=3) (by decide) ⟨λvs H Q E h=>oO h,λA outer s H args us vs Q E hr he hb hv h=>by
  obtain⟨_,_,_,_,_,_,_,_,_,_,_,_,_,_,_,⟨_,_,_,_,_,z,_⟩,_⟩:=h;lia⟩ m2 b2
 |n+1,hn=>
  have ih:=Op T hc he B o6 F1 F2 F3 m1 m2 m3 b1 b2 b3 n `e
  have G3:=Ps T hc he F3 B o6 ih `e m1 b1
  have G2:=Pr T hc he F2 B ih m1 b1 G3 m3 b3
  Oo T hc he F1 B (n:=n+1) hn G2 m2 b2
theorem B0 {CP fI fW:Addr}{fdI fdW:FuncData}(B:Rb P w K mg base)(z:cX K "shortest" qL)(o7:eW P w K mg base)(o22:l7 P w K mg base)(o21:kY P w K mg base)(o20:gF P w K mg base)(T_:PlC K CP)(M_:Mk K CP fI)(mP_:mg "Planner"=some (.ref CP))(GI_:FnOk P w K mg base pH 1 fI fdI ["self","codes"] (Jr P w CP))(bI_:Binds K fdI ["self","codes"] [])(mW_:Meth K CP "plan_within" fW)(bW_:Binds K fdW ["self","fitting","most"] [])
 (GW_:∀cs,cs.length<=16->gX cs->FnOk P w K mg base pH 52 fW fdW ["self","fitting","most"] (u9 K P w CP (bY cs) (WPl cs) 2 (ua cs 16))):vy P w K mg base:=by
 refine(HR z λF=>?_).own B;refine F.ok jD (λvs H Q E h=>?_) (λcdv A outer s H vs Q E hr h=>?_)
 . obtain⟨_,ds,d,_,hl,_⟩:=h;exact hl
 . obtain⟨F2,ds,d,sF,hl,ar,e,q⟩:=h;obtain⟨g,a,f,u,rfl,e1,e2,c,e3,e4⟩:=BM e;obtain⟨cs,fit,N,rfl,rfl,ok,k_,rfl⟩:=qd e4;have k_:cs.length<=16/\gX cs:=⟨ok.few,k_⟩;have e5:L2.dY ["game","asks","fitting","planner","most"] vs=vs.map some++[none,none,none]:=by
    unfold L2.dY;rw [hl];rfl
   rw [e5];exact⟨_,(aJ (a7 (i:=2) jD.nd (aV o7 hr (aA (aV o21 hr (aA (pv 0) (aA (pv 1) aI))) aI))) (aJ (b7 (aV o22 hr (aA (pv 0) aI))) (aJ (a7 (i:=3) jD.nd (IW M_ GI_ (hr.mono (by decide)) rfl mP_ bI_ .nil nh (aA (aV o20 hr (aA (pv 0) aI)) aI))) (aJ (a7 (i:=4) jD.nd aY) (aJ (r0 PassesOwn.never (bR wD (lq (pv 3) T_.cl mW_ (GW_ cs k_.1 k_.2) (hr.mono (by decide)) bW_ .nil nh (aA (pv 2) (aA (pv 4) aI))) gi (b0 _)) (aP (rZ (i:=4) jD.nd rfl `b aY rG))) (aP (af (dL (aA (pv 4) (aA (lq (pv 3) T_.cl mW_ (GW_ cs k_.1 k_.2) (hr.mono (by decide)) bW_ .nil nh (aA (pv 2) (aA (pv 4) aI))) aI)))))))))),HH T_ (aT (aD (aT (aD (aE 0) (aD (aE 1) aK))) aK)) (aT (aD (aE 0) aK)) (aT (aD (aE 0) aK)) ok e1 e2 e3 rfl sF ar q⟩
theorem uq(B:Rb P w K mg base)(z:cX K "fewest_asks" kU)(o23:vy P w K mg base):pD P w K mg base:=
 ak B z um λhr hu=>
  ⟨_,(aP (af (bh (bj K) (aV o23 hr (aA (pv 0) (aA (pv 1) aI))) aY (λ_ _=>rfl)))),(ah (aZ bn (aT (aD (aE 0) (aD (aE 1) aK))) aW))⟩
theorem EI(B:Rb P w K mg base)(z:cX K "settled" tq)(o7:eW P w K mg base)(o21:kY P w K mg base):zk P w K mg base:=
 ak B z vw λhr hu=>
  ⟨_,(aJ (a7 (i:=2) vw.nd (aV o7 hr (aA (aV o21 hr (aA (pv 0) (aA (pv 1) aI))) aI))) (aJ (cK (bR re (bD (fE K) (by rfl) B.len PySem.boot_len (aA (pv 2) aI)) aY (b0 _)) (aP (af gi)) bP) (aP (af (bh (bj K) (pv 2) aY (λ_ _=>rfl)))))),(aU (bG 2 (aT (aD (aT (aD (aE 0) (aD (aE 1) aK))) aK))) (aU (d4 (b8 (aZ sE (bH ic (aD (aE 2) aK)) aW)) (ah m7) bp) (ah (aZ bn (aE 2) aW))))⟩
theorem uI(B:Rb P w K mg base)(z:cX K "checked_code" j1)(o13:uC P w K mg base):j4 P w K mg base:=
 ak B z tu λhr hu=>
  ⟨_,(aJ (cK (gj (fX K (aV o13 hr (aA (pv 0) (aA (pv 1) aI))))) (aP iV) bP) (aP (af (pv 1)))),(aU (d4 (gq (fY (aT (aD (aE 0) (aD (aE 1) aK))))) iZ bp) (ah (aE 1)))⟩
theorem nc(B:Rb P w K mg base)(z:cX K "counts_by_answer" fO)(o5:gB P w K mg base):fQ P w K mg base:=
 ak B z dG λhr hu=>
  ⟨_,(aJ (a7 (i:=2) dG.nd yM) (aJ (cw PassesOwn.never rfl (dD K (pv 0)) (aq (i:=3) dG.nd rfl `b) (aJ (a7 (i:=4) dG.nd (aV o5 hr (aA (pv 3) (aA (pv 1) aI)))) (aP (JM (Ba hr) (pv 2) (pv 4) (cG (eF K) (GE (Ba hr) (pv 2) (pv 4) aY ⟨by rfl,by rfl,by rfl,by rfl⟩) aY) (by rfl))))) (aP (af (pv 2))))),(aU (Bw 2) (aU (eY (dM (aE 0)) (bA 3) (aU (bG 4 (aT (aD (aE 3) (aD (aE 1) aK)))) (JQ 2 (aE 4) (aZ eG (DR 2 (aE 4) aW) aW)))) (d5 2 (ah (aE 2)))))⟩
theorem KS(B:Rb P w K mg base)(z:cX K "split" BV)(o21:kY P w K mg base)(o26:j4 P w K mg base)(o27:fQ P w K mg base):BX P w K mg base:=
 ak B z C3 λhr hu=>
  ⟨_,(aJ (a7 (i:=3) C3.nd (aV o21 hr (aA (pv 0) (aA (pv 1) aI)))) (aJ (b7 (aV o26 hr (aA (pv 0) (aA (pv 2) aI)))) (aP (af (Gb K rfl hu (by rfl) B.sorted PyProof.Rows.boot_sorted (aV o27 hr (aA (pv 3) (aA (pv 2) aI)))))))),(aU (bG 3 (aT (aD (aE 0) (aD (aE 1) aK)))) (aU (eV (aT (aD (aE 0) (aD (aE 2) aK)))) (ah (Ga (aT (aD (aE 3) (aD (aE 2) aK)))))))⟩
theorem xM:∀y∈(Ks cu).names,y.2=.free->(aO cu).names.lookup y.1=some .cell\/(aO cu).names.lookup y.1=some .free:=by decide+kernel
theorem xN(B:Rb P w K mg base)(z:My K "foe_answer" cu)(o7:eW P w K mg base)(o28:BX P w K mg base)(BM_:BMdB base mg):qo P w K mg base:=
 CY B z kW λF hC_ hr hu=>
  have TB_:DC K _ #[PySem.rawInt (w9 cu).line,PySem.rawInt (w9 cu).col,.str (("foe_answer":Str)++ ".<locals>."++ "<lambda>") 0]:=CM F hC_ λ_ _ _ _ _=>by rfl
  ⟨_,(aJ (a7 (i:=3) kW.nd (aV o7 hr (aA (aV o28 hr (aA (pv 0) (aA (pv 1) (aA (pv 2) aI)))) aI))) (aJ (a7 (i:=4) kW.nd (CG "row" [] rfl hr (by rfl) B.min PyProof.Rows.boot_min (pv 3) (aE 3) TB_ hC_ rfl (by rfl) ⟨BM_.ex⟩ rfl rfl rfl (by decide+kernel) (xM) (by first|rfl|decide+kernel) (λ_ h_=>nomatch h_) rfl (λ_ _ _ _=>rfl) (λ_ _ _ _ hr=>have hu:=hr.units;(dL (aA (K5 E6 (bh (bj K) (pv 0) aY (λ_ _=>rfl))) (aA (bh (bj K) (pv 0) aY (λ_ _=>rfl)) aI)))) (eE (aD (FV (aZ bn (aE 0) aW)) (aD (aZ bn (aE 0) aW) aK))))) (aP (af (bh (bj K) (pv 4) aY (λ_ _=>rfl)))))),(aU (bG 3 (aT (aD (aT (aD (aE 0) (aD (aE 1) (aD (aE 2) aK)))) aK))) (aU (bG 4 GT) (ah (aZ bn (aE 4) aW))))⟩
theorem EJ(B:Rb P w K mg base)(z:cX K "choices" tw):zm P w K mg base:=
 ak B z fu λhr hu=>
  ⟨_,(aJ (a7 (i:=2) fu.nd (cL (aA (cL aI) aI))) (aJ (cw PassesOwn.never rfl (e7 rfl B.range (aA (pv 1) aI)) (aq (i:=3) fu.nd rfl `b) (aJ (a7 (i:=4) fu.nd (cL aI)) (aJ (cw PassesOwn.never rfl (dD K (pv 2)) (aq (i:=5) fu.nd rfl `b) (aJ (a7 (i:=6) fu.nd (EY (fX K (pv 5)) (cG (eF K) (bh (bj K) (pv 5) (K5 E6 aY) (λ_ _=>rfl)) aY) aY)) (aP (b7 (k8 PySem.F.plainAttrs_list PySem.F.slot_list_extend PySem.F.type_list_extend vA (pv 4) (aA (eK ["at"] [("choice",5)] (Cf rfl B.range (aA (pv 6) (aA (pv 0) aI))) (λ_ _ _ _=>(aq (i:=0) (show List.Nodup (["at","choice"]:List Str)by decide+kernel) rfl `b)) (λ_ _ _ _=>eU) (λ_ _ _ _=>(cG (eF K) (pv 1) (cL (aA (pv 0) aI))))) aI)))))) (aP (a7 (i:=2) fu.nd (pv 4)))))) (aP (af (pv 2))))),(aU (bG 2 (bu (cZ (aD (bu (cZ aK)) aK)))) (aU (eY (jJ (aD (aE 1) aK)) (bA 3) (aU (iL 4 (cZ aK)) (aU (eY (dM (aE 2)) (bA 5) (aU (bG 6 (Lk (fY (aE 5)) (aZ eG (aZ bn (aE 5) (FV aW)) aW) aW)) (vJ 4 (bu (dn (Io (aD (aE 6) (aD (aE 0) aK))) (bA 0) cO gu (aZ eG (aE 1) (bu (cZ (aD (aE 0) aK))))))))) (d5 4 (bG 2 (aE 4)))))) (ah (aE 2))))⟩
theorem xO(B:Rb P w K mg base)(z:cX K "answers_to" l6)(o5:gB P w K mg base):qp P w K mg base:=
 ak B z xI λhr hu=>
  ⟨_,(aP (af (cY (iY K) (by rfl) B.tuple PyProof.Rows.boot_tuple (aA (eK ["guess"] [("code",0)] (dD K (pv 1)) (λ_ _ _ _=>(aq (i:=0) (show List.Nodup (["guess","code"]:List Str)by decide+kernel) rfl `b)) (λ_ _ _ _=>eU) (λ_ _ _ _=>(aV o5 hr (aA (pv 1) (aA (pv 0) aI))))) aI)))),(ah (bH mi (aD (bu (dn (dM (aE 1)) (bA 0) cO gu (aT (aD (aE 1) (aD (aE 0) aK))))) aK)))⟩
theorem ur(B:Rb P w K mg base)(z:cX K "first_alike" kX)(o31:qp P w K mg base):pE P w K mg base:=
 ak B z eR λhr hu=>
  ⟨_,(aJ (a7 (i:=2) eR.nd J7) (aJ (a7 (i:=3) eR.nd (cL aI)) (aJ (cw PassesOwn.never rfl (dD K (pv 0)) (aq (i:=4) eR.nd rfl `b) (aJ (a7 (i:=5) eR.nd (aV o31 hr (aA (pv 4) (aA (pv 1) aI)))) (aP (cK (EW (MK (Pg hu) (pv 5) (pv 2))) (aP (b7 (k8 PySem.F.plainAttrs_list PySem.F.slot_list_append PySem.F.type_list_append dj (pv 3) (aA (dL (aA (J8 (Pg hu) (pv 2) (pv 5) (λ_ _=>rfl)) (aA (pv 4) aI))) aI)))) (aP (J9 (Pg hu) (pv 2) (pv 5) (pv 4))))))) (aP (af (Ja rfl hu (by rfl) B.min PyProof.Rows.boot_min (aA (pv 3) aI) (hk:=λs Q h=>Jb h))))))),(D6 4 5 2 3 (dM (aE 0)) (aT (aD (aE 4) (aD (aE 1) aK))) (d5 3 (ah (Jc (aD (aE 3) aK)))))⟩
theorem qR(B:Rb P w K mg base)(z:cX K "first_settling" iB)(o30:zm P w K mg base)(o32:pE P w K mg base):lB P w K mg base:=
 ak B z fw λhr hu=>
  ⟨_,(aJ (cw PassesOwn.never rfl (dD K (aV o30 hr (aA (bD (fE K) (by rfl) B.len PySem.boot_len (aA (pv 0) aI)) (aA (pv 1) aI)))) (aq (i:=2) fw.nd rfl `b) (aJ (wI (i:=3) ["at"] [("codes",0)] fw.nd rfl `b (dD K (pv 2)) (λ_ _ _ _=>(aq (i:=0) (show List.Nodup (["at","codes"]:List Str)by decide+kernel) rfl `b)) (λ_ _ _ _=>eU) (λ_ _ _ _=>(bh (bj K) (pv 1) (pv 0) (λ_ _=>rfl)))) (aP (cK (bR wD (aV o32 hr (aA (pv 0) (aA (pv 3) aI))) gi (b0 _)) (aP (af (pv 3))) bP)))) (aP (af gi))),(aU (eY (dM (aT (aD (bH ic (aD (aE 0) aK)) (aD (aE 1) aK)))) (bA 2) (aU (bG 3 (bu (dn (dM (aE 2)) (bA 0) cO gu (aZ bn (aE 1) (aE 0))))) (d4 (b8 (aZ AY (aT (aD (aE 0) (aD (aE 3) aK))) m7)) (ah (aE 3)) bp))) (ah m7))⟩
theorem pG(B:Rb P w K mg base)(z:cX K "fewest_settling" gA)(o12:dI P w K mg base)(o22:l7 P w K mg base)(o20:gF P w K mg base)(o33:lB P w K mg base):jm P w K mg base:=
 ak B z cA λhr hu=>
  ⟨_,(aJ (b7 (aV o12 hr (aA (pv 0) aI))) (aJ (b7 (aV o22 hr (aA (pv 0) aI))) (aJ (a7 (i:=1) cA.nd (aV o20 hr (aA (pv 0) aI))) (aJ (a7 (i:=2) cA.nd aY) (aJ (a7 (i:=3) cA.nd (aV o33 hr (aA (pv 1) (aA (pv 2) aI)))) (aJ (r0 PassesOwn.never (bR wD (pv 3) gi (b0 _)) (aJ (rZ (i:=2) cA.nd rfl `b aY rG) (aP (a7 (i:=3) cA.nd (aV o33 hr (aA (pv 1) (aA (pv 2) aI))))))) (aP (af (pv 3))))))))),(aU (eV (aT (aD (aE 0) aK))) (aU (eV (aT (aD (aE 0) aK))) (aU (bG 1 (aT (aD (aE 0) aK))) (aU (bG 2 aW) (aU (bG 3 (aT (aD (aE 1) (aD (aE 2) aK)))) (aU (xo 100 (b8 (aZ AY (aE 3) m7)) (aU (wK 2 wM aW) (bG 3 (aT (aD (aE 1) (aD (aE 2) aK)))))) (ah (aE 3))))))))⟩
theorem zy(B:Rb P w K mg base)(z:cX K "most_left" nY)(o27:fQ P w K mg base):uE P w K mg base:=
 ak B z zi λhr hu=>
  ⟨_,(aP (af (JV K rfl (by rfl) B.max PyProof.Rows.boot_max (aV o27 hr (aA (pv 0) (aA (pv 1) aI)))))),(ah (JU (aT (aD (aE 0) (aD (aE 1) aK)))))⟩
theorem EK:∀y∈(Ks gd).names,y.2=.free->(aO gd).names.lookup y.1=some .cell\/(aO gd).names.lookup y.1=some .free:=by decide+kernel
theorem EL(B:Rb P w K mg base)(z:My K "best_of" gd)(o35:uE P w K mg base)(BM_:BMdB base mg):zn P w K mg base:=
 CY B z ED λF hC_ hr hu=>
  have TB_:DC K _ #[PySem.rawInt (w9 gd).line,PySem.rawInt (w9 gd).col,.str (("best_of":Str)++ ".<locals>."++ "<lambda>") 0]:=CM F hC_ λ_ _ _ _ _=>by rfl
  ⟨_,(aP (af (CG "guess" [("fitting",1)] rfl hr (by rfl) B.min PyProof.Rows.boot_min (pv 0) (aE 0) TB_ hC_ rfl (by rfl) ⟨BM_.ex⟩ rfl rfl rfl (by decide+kernel) (EK) (by first|rfl|decide+kernel) (List.forall_mem_cons.mpr ⟨⟨rfl,by first|rfl|decide+kernel⟩,(λ_ h_=>nomatch h_)⟩) rfl (λ_ _ _ _=>rfl) (λ_ _ _ _ hr=>have hu:=hr.units;(dL (aA (aV o35 hr (aA (pv 1) (aA (pv 0) aI))) (aA (jH (DH K hu) (pv 0) (pv 1) (by rfl)) (aA (pv 0) aI))))) (eE (aD (aT (aD (aE 1) (aD (aE 0) aK))) (aD (aZ (N4 true) (aE 0) (aE 1)) (aD (aE 0) aK))))))),(ah GT)⟩
theorem IC(B:Rb P w K mg base)(z:cX K "played" xJ)(o12:dI P w K mg base)(o26:j4 P w K mg base)(o20:gF P w K mg base)(o36:zn P w K mg base)(o19:iD P w K mg base)(o5:gB P w K mg base):C4 P w K mg base:=
 ak B z jE λhr hu=>
  ⟨_,(aJ (b7 (aV o12 hr (aA (pv 0) aI))) (aJ (b7 (aV o26 hr (aA (pv 0) (aA (pv 1) aI)))) (aJ (a7 (i:=2) jE.nd (aV o20 hr (aA (pv 0) aI))) (aJ (a7 (i:=3) jE.nd (pv 2)) (aJ (a7 (i:=4) jE.nd (cL aI)) (aJ (r0 PassesOwn.never (bR re (bD (fE K) (by rfl) B.len PySem.boot_len (aA (pv 3) aI)) aY (b0 _)) (aJ (a7 (i:=5) jE.nd (aV o36 hr (aA (pv 2) (aA (pv 3) aI)))) (aJ (a7 (i:=6) jE.nd (dL (aA (pv 5) (aA (aV o5 hr (aA (pv 1) (aA (pv 5) aI))) aI)))) (aJ (b7 (k8 PySem.F.plainAttrs_list PySem.F.slot_list_append PySem.F.type_list_append dj (pv 4) (aA (pv 6) aI))) (aP (a7 (i:=3) jE.nd (aV o19 hr (aA (pv 3) (aA (cL (aA (pv 6) aI)) aI))))))))) (aP (af (pv 4))))))))),(aU (eV (aT (aD (aE 0) aK))) (aU (eV (aT (aD (aE 0) (aD (aE 1) aK)))) (aU (bG 2 (aT (aD (aE 0) aK))) (aU (bG 3 (aE 2)) (aU (iL 4 (cZ aK)) (aU (xo 100 (b8 (aZ sE (bH ic (aD (aE 3) aK)) aW)) (aU (bG 5 (aT (aD (aE 2) (aD (aE 3) aK)))) (aU (bG 6 (eE (aD (aE 5) (aD (aT (aD (aE 1) (aD (aE 5) aK))) aK)))) (aU (jd 4 (aE 6)) (bG 3 (aT (aD (aE 3) (aD (bu (cZ (aD (aE 6) aK))) aK)))))))) (d5 4 (ah (aE 4)))))))))⟩
theorem B1(B:Rb P w K mg base)(z:cX K "is_order" qM)(o9:cS P w K mg base):vz P w K mg base:=
 ak B z BW λhr hu=>
  ⟨_,(aJ (cK (PW.pt (xU (gj (fX K (bD (lv K) (by rfl) B.isinstance ja (aA (pv 0) (aA (lm (v:=.ty "tuple") rfl B.tuple PyProof.Rows.boot_tuple rfl) aI))))) (rW (bR (AV K hu) (bD (fE K) (by rfl) B.len PySem.boot_len (aA (pv 0) aI)) (pv 1) (b0 _))))) (aP (af mF)) bP) (aP (af (mV (bD (AW K) (by rfl) B.all PyProof.Rows.boot_all (aA (eK ["number"] [("size",1)] (dD K (pv 0)) (λ_ _ _ _=>(aq (i:=0) (show List.Nodup (["number","size"]:List Str)by decide+kernel) rfl `b)) (λ_ _ _ _=>eU) (λ_ _ _ _=>(aV o9 hr (aA (pv 0) (aA aY (aA (cG r9 (pv 1) aY) aI)))))) aI)) (rX (jH (gn K hu) (bD (Gu K) (by rfl) B.sorted PyProof.Rows.boot_sorted (aA (pv 0) aI)) (cY (A6 K) (by rfl) B.list PyProof.Rows.boot_list (aA (cY (JD K) (by rfl) B.range PyProof.Rows.boot_range (aA (pv 1) aI)) aI)) (b0 _))))))),(aU (d4 (xj (gq (fY (pZ (aE 0)))) (b8 (aZ FQ (bH ic (aD (aE 0) aK)) (aE 1)))) (ah mI) bp) (ah (m8 (bH A0 (aD (bu (dn (dM (aE 0)) (bA 0) cO gu (aT (aD (aE 0) (aD aW (aD (aZ sD (aE 1) aW) aK)))))) aK)) (aZ ke (bH Gw (aD (aE 0) aK)) (bu (A7 (aE 1)))))))⟩
theorem rF(B:Rb P w K mg base)(z:cX K "checked_order" jF)(o38:vz P w K mg base):l9 P w K mg base:=
 ak B z rE λhr hu=>
  ⟨_,(aJ (cK (gj (fX K (aV o38 hr (aA (pv 0) (aA (pv 1) aI))))) (aP iV) bP) (aP (af (pv 0)))),(aU (d4 (gq (fY (aT (aD (aE 0) (aD (aE 1) aK))))) iZ bp) (ah (aE 0)))⟩
theorem uJ(B:Rb P w K mg base)(z:cX K "renamed_code" j2):mU P w K mg base:=
 ak B z fP λhr hu=>
  ⟨_,(aJ (a7 (i:=3) fP.nd (cY (Bd K) (by rfl) B.list PyProof.Rows.boot_list (aA (pv 0) aI))) (aJ (cw PassesOwn.never rfl (FH K B.enumerate (aA (pv 0) aI)) (nk K (eI (aq (i:=4) fP.nd rfl `b) (eI (aq (i:=5) fP.nd rfl `b) ng))) (aP (LW (bh (bj K) (pv 2) (pv 5) (λ_ _=>rfl)) (LV (pv 3) (bh (bj K) (pv 1) (pv 4) (λ_ _=>rfl)) Ei)))) (aP (af (cY (iY K) (by rfl) B.tuple PyProof.Rows.boot_tuple (aA (pv 3) aI)))))),(aU (iL 3 (vN (aD (aE 0) aK))) (aU (eY (FJ (aD (aE 0) aK)) (sB (eN (bA 4) (eN (bA 5) nq))) (GP 3 (aZ bn (aE 1) (aE 4)) (aZ bn (aE 2) (aE 5)))) (d5 3 (ah (bH mi (aD (aE 3) aK))))))⟩
theorem EM(B:Rb P w K mg base)(z:cX K "renamed" uA)(o12:dI P w K mg base)(o17:j3 P w K mg base)(o39:l9 P w K mg base)(o40:mU P w K mg base):zo P w K mg base:=
 ak B z EE λhr hu=>
  ⟨_,(aJ (b7 (aV o12 hr (aA (pv 0) aI))) (aJ (b7 (aV o17 hr (aA (pv 0) (aA (pv 1) aI)))) (aJ (b7 (aV o39 hr (aA (pv 2) (aA (bh (bj K) (pv 0) aY (λ_ _=>rfl)) aI)))) (aJ (b7 (aV o39 hr (aA (pv 3) (aA (bh (bj K) (pv 0) aY (λ_ _=>rfl)) aI)))) (aP (af (eK ["ask"] [("places",2),("colours",3)] (dD K (pv 1)) (λ_ _ _ _=>(aq (i:=0) (show List.Nodup (["ask","places","colours"]:List Str)by decide+kernel) rfl `b)) (λ_ _ _ _=>eU) (λ_ _ _ _=>(dL (aA (aV o40 hr (aA (bh (bj K) (pv 0) aY (λ_ _=>rfl)) (aA (pv 1) (aA (pv 2) aI)))) (aA (bh (bj K) (pv 0) aY (λ_ _=>rfl)) aI))))))))))),(aU (eV (aT (aD (aE 0) aK))) (aU (eV (aT (aD (aE 0) (aD (aE 1) aK)))) (aU (eV (aT (aD (aE 2) (aD (aZ bn (aE 0) aW) aK)))) (aU (eV (aT (aD (aE 3) (aD (aZ bn (aE 0) aW) aK)))) (ah (bu (dn (dM (aE 1)) (bA 0) cO gu (eE (aD (aT (aD (aZ bn (aE 0) aW) (aD (aE 1) (aD (aE 2) aK)))) (aD (aZ bn (aE 0) aW) aK))))))))))⟩
end
section
variable {P:Program} {w:World} {K:Fg} {mg:`j} {base:Heap} {f:Addr} {fd:FuncData}
theorem Oq(F:Fun K "law" "law" Mp f fd)(B:Bt mg)(o2:qm P w K mg base)(o3:uB P w K mg base)(o24:pD P w K mg base)(o1:nZ P w K mg base)(o25:zk P w K mg base)(o28:BX P w K mg base)(o41:zo P w K mg base)(o4:pB P w K mg base)(o29:qo P w K mg base)(o34:jm P w K mg base)(o37:C4 P w K mg base)(o20:gF P w K mg base):FnOk P w K mg base pH 55 f fd ["_law_script"] (f7 K 1 HY):=
 Bg F lA rfl rfl λcdv A outer s H E hr=>have hu:=hr.units
  ⟨_,(aJ (a7 (i:=1) lA.nd (aV o2 hr (aA (pv 0) (aA aY aI)))) (aJ (a7 (i:=2) lA.nd (aV o3 hr (aA (pv 1) (aA (aV o1 hr (aA (pv 0) (aA aY aI))) aI)))) (aJ (a7 (i:=3) lA.nd (cL aI)) (aJ (cw PassesOwn.never rfl (e7 rfl B.range (aA (cG rc (aV o1 hr (aA (pv 0) (aA aY aI))) aY) aI)) (aq (i:=4) lA.nd rfl `b) (aJ (a7 (i:=5) lA.nd (aV o3 hr (aA (pv 1) (aA (cG (eF K) (aV o1 hr (aA (pv 0) (aA (cG (eF K) aY (pv 4)) aI))) (cG pL (cG pL aY (pv 4)) (pv 4))) aI)))) (aP (b7 (k8 PySem.F.plainAttrs_list PySem.F.slot_list_append PySem.F.type_list_append dj (pv 3) (aA (dL (aA (pv 5) (aA (aV o4 hr (aA (pv 2) (aA (pv 5) aI))) aI))) aI)))))) (aJ (a7 (i:=6) lA.nd (aV o24 hr (aA (pv 1) (aA (pv 3) aI)))) (aJ (cK (bR (AV K hu) (jH (gn K hu) (pv 6) aY (b0 _)) (jH (gn K hu) (aV o25 hr (aA (pv 1) (aA (pv 3) aI))) (pv 2) (b0 _)) (b0 _)) (aP (af mF)) bP) (aJ (a7 (i:=5) lA.nd (aV o3 hr (aA (pv 1) (aA (aV o1 hr (aA (pv 0) (aA aY aI))) aI)))) (aJ (a7 (i:=7) lA.nd (cG (eF K) (pv 3) (cL (aA (dL (aA (pv 5) (aA (aV o29 hr (aA (pv 1) (aA (pv 3) (aA (pv 5) aI)))) aI))) aI)))) (aJ (cK (PW.pt (xU (gj (bR B5 (aV o24 hr (aA (pv 1) (aA (pv 7) aI))) (pv 6) (b0 _))) (rW (bR re (aV o24 hr (aA (pv 1) (aA (cG (eF K) (pv 3) (cL (aA (dL (aA (pv 5) (aA (aV o4 hr (aA (pv 2) (aA (pv 5) aI))) aI))) aI))) aI))) (pv 6) (b0 _))))) (aP (af mF)) bP) (aJ (wI (i:=8) ["_law_one","_law_often"] [("_law_game",1),("_law_asks",3),("_law_guess",5)] lA.nd rfl `b (dD K (aV o28 hr (aA (pv 1) (aA (pv 3) (aA (pv 5) aI))))) (λ_ _ _ _=>(nk K (eI (aq (i:=0) (show List.Nodup (["_law_one","_law_often","_law_game","_law_asks","_law_guess"]:List Str)by decide+kernel) rfl `b) (eI (aq (i:=1) (show List.Nodup (["_law_one","_law_often","_law_game","_law_asks","_law_guess"]:List Str)by decide+kernel) rfl `b) ng)))) (λ_ _ _ _=>eU) (λ_ _ _ _=>(aV o24 hr (aA (pv 2) (aA (cG (eF K) (pv 3) (cL (aA (dL (aA (pv 4) (aA (pv 0) aI))) aI))) aI))))) (aJ (cK (bR K6 (cG (eF K) aY (bD (GN K rfl hu) (by rfl) B.max PyProof.Rows.boot_max (aA (pv 8) aI))) (pv 6) (b0 _)) (aP (af mF)) bP) (aJ (cK (PW.pt (EX (bR (gn K hu) (pv 3) (cL aI) (b0 _)) (B4 (bR re (pv 6) (bD (fE K) (by rfl) B.len PySem.boot_len (aA (aV o34 hr (aA (pv 1) aI)) aI)) (b0 _))))) (aP (af mF)) bP) (aJ (cK (PW.pt (EX (bR (gn K hu) (pv 3) (cL aI) (b0 _)) (B4 (bR re (pv 6) (bD (GN K rfl hu) (by rfl) B.max PyProof.Rows.boot_max (aA (eK ["_law_code_here"] [("_law_game",1)] (dD K (aV o20 hr (aA (pv 1) aI))) (λ_ _ _ _=>(aq (i:=0) (show List.Nodup (["_law_code_here","_law_game"]:List Str)by decide+kernel) rfl `b)) (λ_ _ _ _=>eU) (λ_ _ _ _=>(bD (fE K) (by rfl) B.len PySem.boot_len (aA (aV o37 hr (aA (pv 1) (aA (pv 0) aI))) aI)))) aI)) (b0 _))))) (aP (af mF)) bP) (aJ (a7 (i:=9) lA.nd (cY (iY K) (by rfl) B.tuple PyProof.Rows.boot_tuple (aA (eK ["_law_k"] [("_law_game",1),("_law_script",0)] (e7 rfl B.range (aA (bh (bj K) (pv 1) aY (λ_ _=>rfl)) aI)) (λ_ _ _ _=>(aq (i:=0) (show List.Nodup (["_law_k","_law_game","_law_script"]:List Str)by decide+kernel) rfl `b)) (λ_ _ _ _=>eU) (λ_ _ _ _=>(cG rc (cG (eF K) (pv 0) (aV o1 hr (aA (pv 2) (aA aY aI)))) (bh (bj K) (pv 1) aY (λ_ _=>rfl))))) aI))) (aJ (a7 (i:=10) lA.nd (cY (iY K) (by rfl) B.tuple PyProof.Rows.boot_tuple (aA (eK ["_law_k"] [("_law_game",1),("_law_script",0)] (e7 rfl B.range (aA (bh (bj K) (pv 1) aY (λ_ _=>rfl)) aI)) (λ_ _ _ _=>(aq (i:=0) (show List.Nodup (["_law_k","_law_game","_law_script"]:List Str)by decide+kernel) rfl `b)) (λ_ _ _ _=>eU) (λ_ _ _ _=>(cG rc (cG (eF K) (pv 0) (aV o1 hr (aA (pv 2) (aA aY aI)))) (bh (bj K) (pv 1) aY (λ_ _=>rfl))))) aI))) (aP (af (jH (gn K hu) (aV o24 hr (aA (pv 1) (aA (aV o41 hr (aA (pv 1) (aA (pv 3) (aA (pv 9) (aA (pv 10) aI))))) aI))) (pv 6) (b0 _))))))))))))))))))),(aU (bG 1 (aT (aD (aE 0) (aD aW aK)))) (aU (bG 2 (aT (aD (aE 1) (aD (aT (aD (aE 0) (aD aW aK))) aK)))) (aU (iL 3 (cZ aK)) (aU (eY (jJ (aD (aZ sG (aT (aD (aE 0) (aD aW aK))) aW) aK)) (bA 4) (aU (bG 5 (aT (aD (aE 1) (aD (aZ eG (aT (aD (aE 0) (aD (aZ eG aW (aE 4)) aK))) (aZ md (aZ md aW (aE 4)) (aE 4))) aK)))) (jd 3 (eE (aD (aE 5) (aD (aT (aD (aE 2) (aD (aE 5) aK))) aK)))))) (aU (d5 3 (bG 6 (aT (aD (aE 1) (aD (aE 3) aK))))) (aU (d5 3 (d4 (b8 (aZ FQ (aZ ke (aE 6) aW) (aZ ke (aT (aD (aE 1) (aD (aE 3) aK))) (aE 2)))) (ah mI) bp)) (aU (bG 5 (aT (aD (aE 1) (aD (aT (aD (aE 0) (aD aW aK))) aK)))) (aU (d5 3 (bG 7 (aZ eG (aE 3) (bu (cZ (aD (eE (aD (aE 5) (aD (aT (aD (aE 1) (aD (aE 3) (aD (aE 5) aK)))) aK))) aK)))))) (aU (d5 3 (d4 (xj (gq (b8 (aZ Bh (aT (aD (aE 1) (aD (aE 7) aK))) (aE 6)))) (b8 (aZ sE (aT (aD (aE 1) (aD (aZ eG (aE 3) (bu (cZ (aD (eE (aD (aE 5) (aD (aT (aD (aE 2) (aD (aE 5) aK))) aK))) aK)))) aK))) (aE 6)))) (ah mI) bp)) (aU (d5 3 (bG 8 (bu (dn (dM (aT (aD (aE 1) (aD (aE 3) (aD (aE 5) aK))))) (sB (eN (bA 0) (eN (bA 1) nq))) (Iq (vM cO (vM cO FM))) gu (aT (aD (aE 2) (aD (aZ eG (aE 3) (bu (cZ (aD (eE (aD (aE 4) (aD (aE 0) aK))) aK)))) aK))))))) (aU (d4 (b8 (aZ Kd (aZ eG aW (bH GM (aD (aE 8) aK))) (aE 6))) (ah mI) bp) (aU (d5 3 (d4 (FG (b8 (aZ ke (aE 3) (bu (cZ aK)))) (b8 (aZ sE (aE 6) (bH ic (aD (aT (aD (aE 1) aK)) aK))))) (ah mI) bp)) (aU (d5 3 (d4 (FG (b8 (aZ ke (aE 3) (bu (cZ aK)))) (b8 (aZ sE (aE 6) (bH GM (aD (bu (dn (dM (aT (aD (aE 1) aK))) (bA 0) cO gu (bH ic (aD (aT (aD (aE 1) (aD (aE 0) aK))) aK)))) aK))))) (ah mI) bp)) (aU (bG 9 (bH mi (aD (bu (dn (jJ (aD (aZ bn (aE 1) aW) aK)) (bA 0) cO gu (aZ sG (aZ eG (aE 0) (aT (aD (aE 2) (aD aW aK)))) (aZ bn (aE 1) aW)))) aK))) (aU (bG 10 (bH mi (aD (bu (dn (jJ (aD (aZ bn (aE 1) aW) aK)) (bA 0) cO gu (aZ sG (aZ eG (aE 0) (aT (aD (aE 2) (aD aW aK)))) (aZ bn (aE 1) aW)))) aK))) (d5 3 (ah (aZ ke (aT (aD (aE 1) (aD (aT (aD (aE 1) (aD (aE 3) (aD (aE 9) (aD (aE 10) aK))))) aK))) (aE 6)))))))))))))))))))⟩
end
variable {l:PySem.W.OpenLaw}
theorem all_mk {w:World}{K:Fg}{h:Heap}{mg:`j}{fa:Addr}(X:K.In h)(G:h.Ns mainGlobals mg)(hfa:mg "law"=some (.ref fa))
     {CP:Addr}
 (z0:cX K "_law_mix" qI)
 (z1:cX K "_law_cell" nO)
 (z2:cX K "_law_small" lY)
 (z3:cX K "_law_code" nQ)
 (z4:cX K "_law_answer" kS)
 (z5:cX K "answer_of" nR)
 (z6:cX K "parts_by_answer" ft)
 (z7:cX K "found_or_clash" hX)
 (z8:cX K "is_pair" t6)
 (z9:cX K "is_number_within" fM)
 (z10:cX K "how_many_codes" hZ)
 (z11:cX K "is_game" t7)
 (z12:cX K "checked_game" jY)
 (z13:cX K "is_code" tf)
 (z14:cX K "is_answer" nV)
 (z15:cX K "is_ask" xG)
 (z16:cX K "checked_list" jZ)
 (z17:cX K "checked_asks" j0)
 (z18:cX K "fits_ask" qK)
 (z19:cX K "those_that_fit" iA)
 (z20:cX K "all_codes" nW)
 (z21:cX K "what_fits" nX)
 (z22:cX K "small_game" l3)
 (z23:cX K "shortest" qL)
 (z24:cX K "fewest_asks" kU)
 (z25:cX K "settled" tq)
 (z26:cX K "checked_code" j1)
 (z27:cX K "counts_by_answer" fO)
 (z28:cX K "split" BV)
 (z29:My K "foe_answer" cu)
 (z30:cX K "choices" tw)
 (z31:cX K "answers_to" l6)
 (z32:cX K "first_alike" kX)
 (z33:cX K "first_settling" iB)
 (z34:cX K "fewest_settling" gA)
 (z35:cX K "most_left" nY)
 (z36:My K "best_of" gd)
 (z37:cX K "played" xJ)
 (z38:cX K "is_order" qM)
 (z39:cX K "checked_order" jF)
 (z40:cX K "renamed_code" j2)
 (z41:cX K "renamed" uA)
 (z42:cX K "law" Mp)
 {kt4:Tok} (kq4:PySem.W.nsIn K mainGlobals "MOST_PLACES"=some (some (.int 5 kt4)))
 {kt3:Tok} (kq3:PySem.W.nsIn K mainGlobals "MOST_COLOURS"=some (some (.int 8 kt3)))
 {kt1:Tok} (kq1:PySem.W.nsIn K mainGlobals "MOST_CODES"=some (some (.int 300 kt1)))
 {kt0:Tok} (kq0:PySem.W.nsIn K mainGlobals "MOST_ASKS"=some (some (.int 8 kt0)))
 {kt2:Tok} (kq2:PySem.W.nsIn K mainGlobals "MOST_CODES_SEARCHED"=some (some (.int 16 kt2)))
 (yPlanner:PySem.W.nsIn K mainGlobals "Planner"=some (some (.ref CP)))
 (y0:OB K CP "__init__" "Planner.__init__" Mq)
 (y1:OB K CP "plan_within" "Planner.plan_within" KP)
 (y2:OB K CP "search" "Planner.search" KQ)
 (y3:OB K CP "plan_by" "Planner.plan_by" KR)
 (pg:PySem.W.plainGet K CP Str.empty=true)
 (hdP:PySem.W.hasDictIn K CP=true)
 (po:PySem.W.plainOver K CP=true)
 (sa:PySem.W.findIn K (.ref CP) "__setattr__"=some (some (.builtin "object.__setattr__")))
 (mkP:PySem.W.makesIn K CP=true)
 (kcP:PySem.W.keepIn K (.ref CP)=true)
 (nCP:PySem.W.findIn K (.ref CP) "codes"=some none)
 (nFP:PySem.W.findIn K (.ref CP) "found"=some none)
 (zlen:PySem.W.nsIn K mainGlobals "len"=some none)
 (zisinstance:PySem.W.nsIn K mainGlobals "isinstance"=some none)
 (zrange:PySem.W.nsIn K mainGlobals "range"=some none)
 (zint:PySem.W.nsIn K mainGlobals "int"=some none)
 (zbool:PySem.W.nsIn K mainGlobals "bool"=some none)
 (ztuple:PySem.W.nsIn K mainGlobals "tuple"=some none)
 (zlist:PySem.W.nsIn K mainGlobals "list"=some none)
 (zall:PySem.W.nsIn K mainGlobals "all"=some none)
 (zenumerate:PySem.W.nsIn K mainGlobals "enumerate"=some none)
 (zzip:PySem.W.nsIn K mainGlobals "zip"=some none)
 (zsum:PySem.W.nsIn K mainGlobals "sum"=some none)
 (zsorted:PySem.W.nsIn K mainGlobals "sorted"=some none)
 (zmax:PySem.W.nsIn K mainGlobals "max"=some none)
 (zmin:PySem.W.nsIn K mainGlobals "min"=some none)
 (zset:PySem.W.nsIn K mainGlobals "set"=some none)
 (zstr:PySem.W.nsIn K mainGlobals "str"=some none)
:
 ∃fd:FuncData,(∀(s:Shared) (v:Value),BindsTo s fd ⟨[v],[]⟩ [("_law_script",v)])/\∀base:Heap,K.In base->base.Ns mainGlobals mg->BMdB base mg->FnOk l.prog w K mg base pH 55 fa fd ["_law_script"] (f7 K 1 HY):=by
 obtain⟨f15,d15,a15,e15⟩:=id z15;obtain⟨f42,d42,a42,F42_⟩:=z42;obtain⟨fM0,dM0,mM0,FM0_⟩:=y0;obtain⟨fM1,dM1,mM1,FM1_⟩:=y1;obtain⟨fM2,dM2,mM2,FM2_⟩:=y2;obtain⟨fM3,dM3,mM3,FM3_⟩:=y3;have e:=hfa.symm.trans (PySem.W.mg_of X G a42);cases e;have M {n:Str} (h):=PySem.W.mg_none_of (n:=n) X G h;have B:Bt mg:=⟨M zlen,M zisinstance,M zrange,M zint,M zbool,M ztuple,M zlist,M zall,M zenumerate,M zzip,M zsum,M zsorted,M zmax,M zmin,M zset,M zstr⟩;have bM0_:=FM0_.binds (ps:=["self","codes"]) λ_ _ _ _ _ _=>Mx λ_ _=>rfl;have bM1_:=FM1_.binds (ps:=["self","fitting","most"]) λ_ _ _ _ _ _=>MH λ_ _ _=>rfl;have bM2_:=FM2_.binds (ps:=["self","fitting","most"]) λ_ _ _ _ _ _=>MH λ_ _ _=>rfl;have bM3_:=FM3_.binds (ps:=["self","fitting","guess","most"]) λ_ _ _ _ _ _=>PJ λ_ _ _ _=>rfl;have T_:PlC K CP:=⟨⟨pg,hdP,po,sa⟩,nCP,nFP⟩;refine⟨d42,λs v=>?_,λbase _ _ BM_=>?_⟩
 . obtain⟨_,_,_,_,_,_,_,_,_,rfl,_⟩:=F42_.ex;exact .of_eq rfl
 have B:Rb l.prog w K mg base:=⟨B,λh=>PySem.W.mg_of X G h⟩;have O0:=BY B z0;have O1:=zp B z1;have O2:=xK B z2 O0 O1;have O3:=zq B z3 O0;have O4:=uo B z4;have O5:=zr B z5;have O6:=pF B z6 O5;have O7:=qO B z7;have O8:=EF B z8;have O9:=n9 B z9;have O10:=qP B z10;have O11:=EG B z11 O8 O10 O9 (B.r kq4) (B.r kq3) (B.r kq1);have O12:=uF B z12 O11;have O13:=EH B z13 O9;have O14:=zt B z14 O8 O9;have N15:=IB z15 O8 O13 O14;have O16:=uG B z16 N15 (B.r kq0);have O17:=uH B z17 O16 (B.r a15) a15;have O18:=BZ B z18 O5;have O19:=qQ B z19 O18;have O20:=zu B z20 O12;have O21:=zw B z21 O12 O17 O19 O20;have O22:=xL B z22 O10 (B.r kq2);have M_:Mk K CP fM0:=⟨mkP,mM0.at_,mM0.fn,kcP⟩;have GI_:=Pq (P:=l.prog) (w:=w) (mg:=mg) (base:=base) FM0_ T_;have bI_:=bM0_;have bW_:=bM1_;have GW_:=λ(cs:Cs) (z1:cs.length<=16) (z2:gX cs)=>Op (P:=l.prog) (w:=w) (mg:=mg) (base:=base) T_ z1 z2 B.toBt O6 FM1_ FM2_ FM3_ mM1 mM2 mM3 bM1_ bM2_ bM3_ 16 (Q1 _);have O23:=B0 B z23 O7 O22 O21 O20 T_ M_ (B.r yPlanner) GI_ bI_ mM1 bW_ GW_;have O24:=uq B z24 O23;have O25:=EI B z25 O7 O21;have O26:=uI B z26 O13;have O27:=nc B z27 O5;have O28:=KS B z28 O21 O26 O27;have O29:=xN B z29 O7 O28 BM_;have O30:=EJ B z30;have O31:=xO B z31 O5;have O32:=ur B z32 O31;have O33:=qR B z33 O30 O32;have O34:=pG B z34 O12 O22 O20 O33;have O35:=zy B z35 O27;have O36:=EL B z36 O35 BM_;have O37:=IC B z37 O12 O26 O20 O36 O19 O5;have O38:=B1 B z38 O9;have O39:=rF B z39 O38;have O40:=uJ B z40;have O41:=EM B z41 O12 O17 O39 O40;exact Oq F42_ B.toBt O2 O3 O24 O1 O25 O28 O41 O4 O29 O34 O37 O20
theorem walk {l:PySem.W.OpenLaw}{q:Program}{loose:List Str}{XP:`j->Heap->Prop}{YP:World->Heap->Prop}{d:DefRec}{K:Params->Fg}(hn:l.most=some 63)(hdf:d.params.defaults=[])
 (hY:∀(w:World) (h:Heap),YP w h->(K w.params).In h/\Tabs (K w.params) h)
 (F : ∀ (w : World) (mg : Str -> Option Value) (fa : Addr) (h : Heap), (K w.params).In h -> h.Ns mainGlobals mg -> mg d.name = some (.ref fa) ->
  ∃fd:FuncData,(∀(s:Shared) (u:Value),BindsTo s fd ⟨[u],[]⟩ [("_law_script",u)])/\∀base:Heap,(K w.params).In base->base.Ns mainGlobals mg->BMdB base mg->FnOk l.prog w (K w.params) mg base pH 55 fa fd ["_law_script"] (f7 (K w.params) 1 HY)):
 PySem.W.WalkO q loose XP YP l.row.toRowW d [] (λf vs=>PySem.call f vs):=
 DL.Gi (n:=63) (k:=55) (x:="_law_script") (CX:=λ_=>pH) (sp:=λw=>f7 (K w.params) 1 HY) hn (by decide) hdf ⟨rfl,by decide,by decide⟩ hY F (λ_ _ a ns hl tb hS=>FY (law_true ns hl) hS tb) λ_ _ _ _ _ z=>z
end GX
open PySem PySem.W PyProof.Rows
noncomputable def PySem.W.Fast.tw12849467601557973447:Nat:=0
noncomputable def PySem.W.Fast.tw3595556322291210454:Nat:=0
noncomputable def PySem.W.Fast.tw3359998267313804173:Nat:=0
noncomputable def PySem.W.Fast.tw11385769023252986623:Nat:=0
noncomputable def PySem.W.Fast.tw3979192571855604780:Nat:=0
noncomputable def PySem.W.Fast.tw17105355501064366709:Nat:=0
noncomputable def PySem.W.Fast.tw2170709997319745491:Nat:=0
noncomputable def PySem.W.Fast.tw8940303858698448327:Nat:=0
noncomputable def PySem.W.Fast.tw1254974298041642097:Nat:=0
noncomputable def PySem.W.Fast.tw12544033032307167658:Nat:=0
noncomputable def PySem.W.Fast.tw3082139964932178734:Nat:=0
noncomputable def PySem.W.Fast.tw13703721563014510794:Nat:=0
noncomputable def PySem.W.Fast.tw762521255364260924:Nat:=0
noncomputable def PySem.W.Fast.tw10326151310872607558:Nat:=0
noncomputable def PySem.W.Fast.tw5119732372451639279:Nat:=0
set_option maxRecDepth 100000 in
set_option maxHeartbeats 0 in
theorem PySem.Challenge.cw_guesscode_k12_whole_plans_and_asks_holds : PySem.Challenge.rw_guesscode_k12_whole_plans_and_asks.Holds := by
 w_on;o_law;k_head;(case hw=>w_witness2)
 k_fill
 refine GX.walk (l:=PySem.Challenge.rw_guesscode_k12_whole_plans_and_asks) rfl rfl (λw h Y=>by first|exact⟨PySem.W.km_in_of Y,DL.Gj (PySem.W.km_tabs_of Y) (by kernel_rfl) (by kernel_rfl) (by kernel_rfl)⟩|exact⟨PySem.W.kIn_of Y,DL.JZ (ts:=[]) (λ_ h=>nomatch h) (by kernel_rfl) (by decide) (by kernel_rfl)⟩) ?F
 case F=>
  intro w mg fa h KX G hmg
  refine' GX.all_mk KX G hmg ?z0 ?z1 ?z2 ?z3 ?z4 ?z5 ?z6 ?z7 ?z8 ?z9 ?z10 ?z11 ?z12 ?z13 ?z14 ?z15 ?z16 ?z17 ?z18 ?z19 ?z20 ?z21 ?z22 ?z23 ?z24 ?z25 ?z26 ?z27 ?z28 ?z29 ?z30 ?z31 ?z32 ?z33 ?z34 ?z35 ?z36 ?z37 ?z38 ?z39 ?z40 ?z41 ?z42 ?kq4 ?kq3 ?kq1 ?kq0 ?kq2 ?yPlanner ?y0 ?y1 ?y2 ?y3 ?pg ?hdP ?po ?sa ?mkP ?kcP ?nCP ?nFP ?zlen ?zisinstance ?zrange ?zint ?zbool ?ztuple ?zlist ?zall ?zenumerate ?zzip ?zsum ?zsorted ?zmax ?zmin ?zset ?zstr
  (case yPlanner=>k_is)
  (case kq4=>k_is)
  (case kq3=>k_is)
  (case kq1=>k_is)
  (case kq0=>k_is)
  (case kq2=>k_is)
  all_goals first|(refine' DL.QF ?a ?l ?c ?k;(case a=>k_is);(case l=>k_is);(case c=>k_is);(case k=>k_is))|(refine' DL.QG ?a ?l ?c ?k ?h;(case a=>k_is);(case l=>k_is);(case c=>k_is);(case k=>k_is);(case h=>kernel_rfl))|(refine' DL.QH ?a ?l ?c ?k ?i;(case a=>k_is);(case l=>k_is);(case c=>k_is);(case k=>k_is);(case i=>k_is))|k_is
