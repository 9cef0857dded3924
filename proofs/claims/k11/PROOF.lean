import PyProof.Rows.All
import Wide.All
import OpenK.AllK
import Wide.FinOn
import Lean
import PyProof.EqAt
import PyProof.EqKinds
import PyProof.TupleCall
import PySem.Challenge.RW_guesscode_k11_plans
set_option Elab.async false
set_option linter.all false
set_option maxRecDepth 100000
set_option maxHeartbeats 4000000
abbrev wB:=@PySem.wpAny_bind
abbrev wP:=@PySem.wpAny_pure
abbrev iF:=@List.getElem?_eq_getElem
abbrev qF:=@List.getD_eq_getElem?_getD
abbrev iM:=@PySem.Heap.get?_push_of_some
abbrev kf:=@PySem.Heap.get?_push_size
abbrev g0:=@PySem.Heap.lt_size
abbrev j4:=@List.mem_cons_of_mem
abbrev j5:=@List.mem_cons_self
abbrev j6:=@Nat.lt_of_lt_of_le
abbrev AC:=@PySem.Heap.get?_update_other
abbrev Gy:=@PySem.Heap.get?_update_self
abbrev Dq:=@Nat.le_of_lt
abbrev nA:=@Nat.ne_of_lt
abbrev Dr:=@Nat.ne_of_gt
abbrev zA:=@List.getElem?_cons_zero
abbrev zB:=@List.getElem?_cons_succ
abbrev zC:=@List.length_cons
abbrev zD:=@Option.bind_some
abbrev zE:=@List.set_cons_zero
abbrev zF:=@List.set_cons_succ
abbrev zG:=@Option.map_some
abbrev zH:=@List.length_nil
abbrev zI:=@List.map_cons
abbrev zJ:=@List.length_map
abbrev zK:=@List.getElem?_map
abbrev zL:=@List.map_nil
abbrev zM:=@List.size_toArray
abbrev zN:=@Bool.false_eq_true
abbrev Fg:=@PySem.W.Frag
abbrev zO:=@List.map_map
abbrev zP:=@List.mem_map_of_mem
abbrev zQ:=@List.length_append
abbrev zR:=@List.mem_of_find?_eq_some
abbrev zT:=@Nat.lt_irrefl
abbrev zU:=@Nat.zero_le
abbrev zV:=@Option.some.inj
abbrev Q0:=@Option.map_eq_some_iff
abbrev Q1:=@List.cons_append
abbrev Q2:=@Nat.le_refl
abbrev Q3:=@List.nil_append
abbrev Q4:=@List.append_nil
abbrev Q5:=@Bool.and_eq_true
abbrev Q6:=@List.all_eq_true
abbrev Q7:=@Bool.false_ne_true
abbrev Q8:=@List.mem_cons
abbrev Q9:=@List.mem_singleton
abbrev Qa:=@List.getElem?_append_left
abbrev Qb:=@List.getElem?_append_right
abbrev Qc:=@List.length_set
abbrev Qd:=@List.mem_map
abbrev Qe:=@Nat.le_trans
abbrev Qf:=@List.getElem?_replicate
abbrev qG:=@Bool.not_true
abbrev um:=@List.lookup_cons
abbrev uk:=@List.nodup_cons
abbrev Dx:=@List.getElem?_eq_some_iff
abbrev C4:=@List.mem_append_right
abbrev B2:=@Array.length_toList
abbrev Dy:=@List.find?_cons_of_pos
abbrev Dz:=@List.find?_cons_of_neg
abbrev AD:=@List.map_append
abbrev Gr:=@List.length_replicate
abbrev C5:=@List.take_length
abbrev C6:=@List.getElem_mem
abbrev B3:=@PySem.Heap.size_push
abbrev Ds:=@Option.bind_none
abbrev Dt:=@List.length_take
abbrev AG:=@Bool.and_true
abbrev LU:=@List.take_succ_eq_append_getElem
abbrev Du:=@List.mem_append
abbrev EA:=@Nat.lt_succ_self
abbrev JM:=@List.mem_of_getElem?
abbrev JN:=@List.getElem?_set_ne
abbrev Gs:=@List.any_eq_true
abbrev LV:=@Array.getElem?_eq_some_iff
abbrev Gz:=@Nat.le_add_right
abbrev Gu:=@Bool.not_false
abbrev Gv:=@Bool.and_false
abbrev LW:=@List.getElem?_set_self
abbrev LX:=@Array.getElem?_toList
abbrev L3:=@List.drop_eq_getElem_cons
abbrev JO:=@Option.map_none
abbrev L4:=@Option.isSome_iff_exists
abbrev HA:=@List.any_cons
abbrev LY:=@List.length_pos_iff
namespace L2
open PySem PySem.Spec PyProof.Rows
noncomputable abbrev cK:=Sum Int Str
noncomputable def vQ:cK->Value->Bool
 | .inl k,v=>Value.isInt k v
 | .inr x,v=>Value.isStrOf x v
noncomputable def Mu(w:World):cK->Int
 | .inl k=>hashInt k
 | .inr x=>hashStr w x
theorem dE:∀{k:cK} {v:Value},vQ k v=true->(∃i t,k=Sum.inl i/\v=Value.int i t)\/(∃x t,k=Sum.inr x/\v=Value.str x t)
 | .inl i,v,h=>by
  obtain⟨t,e⟩:=Value.isInt_shape (k:=i) (v:=v) h;exact .inl ⟨i,t,rfl,e⟩
 | .inr x,v,h=>by
  obtain⟨t,e⟩:=Value.isStrOf_shape (x:=x) (v:=v) h;exact .inr ⟨x,t,rfl,e⟩
theorem C7(i:Int)(t:Tok):vQ (.inl i) (.int i t)=true:=by simp [vQ,Value.isInt]
theorem C8(x:Str)(t:Tok):vQ (.inr x) (.str x t)=true:=by simp [vQ,Value.isStrOf]
theorem Jq(a b:Int):decide ((Sum.inl a:cK)=Sum.inl b)=(a==b):=by
 by_cases e:a=b
 · subst e;simp
 · have h:¬(Sum.inl a:cK)=Sum.inl b:=λq=>e (Sum.inl.inj q);rw [decide_eq_false h];exact(beq_eq_false_iff_ne.mpr e).symm
theorem Jr(a b:Str):decide ((Sum.inr a:cK)=Sum.inr b)=decide (a=b):=by
 by_cases e:a=b
 · subst e;simp
 · have h:¬(Sum.inr a:cK)=Sum.inr b:=λq=>e (Sum.inr.inj q);rw [decide_eq_false h,decide_eq_false e]
theorem Js(a:Int)(b:Str):decide ((Sum.inl a:cK)=Sum.inr b)=false:=decide_eq_false (λq=>nomatch q)
theorem Jt(a:Str)(b:Int):decide ((Sum.inr a:cK)=Sum.inl b)=false:=decide_eq_false (λq=>nomatch q)
noncomputable def bX(prog:Program)(w:World):PySem.KeyKind prog w cK where
 is:=vQ
 hash:=Mu w
 inj:=λv a b ha hb=>by
  rcases dE ha with ⟨i,t,rfl,rfl⟩|⟨x,t,rfl,rfl⟩
  · rcases dE hb with ⟨j,u,rfl,e⟩|⟨y,u,rfl,e⟩
    · injection e with e1 _;rw [e1]
    · exact nomatch e
  · rcases dE hb with ⟨j,u,rfl,e⟩|⟨y,u,rfl,e⟩
    · exact nomatch e
    · injection e with e1 _;rw [e1]
 byValue:=λk v h=>by
  rcases dE h with ⟨i,t,rfl,rfl⟩|⟨x,t,rfl,rfl⟩<;>rfl
 pyHash:=λhv h=>by
  rcases dE hv with ⟨i,t,rfl,rfl⟩|⟨x,t,rfl,rfl⟩
  · exact wpAny_pyHash_int h
  · exact wpAny_pyHash_str h
 eqBool:=λhu hv h=>by
  rcases dE hu with ⟨i,t,rfl,rfl⟩|⟨x,t,rfl,rfl⟩
  · rcases dE hv with ⟨j,u,rfl,rfl⟩|⟨y,u,rfl,rfl⟩
    · rw [Jq]at h;exact wpAny_eqBool_int h
    · rw [Js]at h;exact SeqAt.EqAt.int_str i t y u _ _ _ _ h
  · rcases dE hv with ⟨j,u,rfl,rfl⟩|⟨y,u,rfl,rfl⟩
    · rw [Jt]at h;exact SeqAt.EqAt.str_int x t j u _ _ _ _ h
    · rw [Jr]at h;exact wpAny_eqBool_str h
 «strs»:=λk x t v h=>by
  rcases dE h with ⟨i,u,rfl,e⟩|⟨y,u,rfl,e⟩
  · exact nomatch e
  · injection e with e1 _
    subst e1;cases v<;>rfl
theorem xm(prog:Program)(w:World)(i:Int)(t:Tok):(bX prog w).is (.inl i) (.int i t)=true:=C7 i t
theorem xn(prog:Program)(w:World)(x:Str)(t:Tok):(bX prog w).is (.inr x) (.str x t)=true:=C8 x t
inductive V where
 |non|bl (b:Bool)|int (i:Int)|str (x:Str)|byt (b:Array UInt8)|flt (b:UInt64)|ref (a:Addr)|ty (n:String)
 deriving DecidableEq
noncomputable def RelV:V->Value->Prop
 | .non,u=>u=Value.none
 | .bl b,u=>u=Value.bool b
 | .int i,u=>∃t,u=Value.int i t
 | .str x,u=>∃t,u=Value.str x t
 | .byt b,u=>∃t,u=Value.bytes b t
 | .flt b,u=>∃t,u=Value.float b t
 | .ref a,u=>u=Value.ref a
 | .ty n,u=>u=Value.type n
abbrev Vals:List V->List Value->Prop:=Paired RelV
theorem Vals.length {xs:List V}{us:List Value}(r:Vals xs us):xs.length=us.length:=Paired.length r
theorem Vals.get:∀{xs:List V} {us:List Value} {i:Nat} {x:V},Vals xs us->xs[i]? =some x->∃u,us[i]? =some u/\RelV x u
 |_,_,_,_,.nil,e=>by simp at e
 |_,_,0,_,.cons r _,e=>by simp at e;subst e;exact⟨_,rfl,r⟩
 |_,_,i+1,x,.cons _ t,e=>by
  obtain⟨u,h1,h2⟩:=Vals.get (i:=i) (x:=x) t (by simpa using e)
  exact⟨u,by simpa using h1,h2⟩
theorem Vals.set {x:V}{u:Value}(r:RelV x u):∀{xs:List V} {us:List Value} (i:Nat),Vals xs us->Vals (xs.set i x) (us.set i u)
 |_,_,_,.nil=>.nil
 |_,_,0,.cons _ t=>.cons r t
 |_,_,i+1,.cons q t=>.cons q (Vals.set r i t)
theorem Vals.append {xs ys:List V}{us ws:List Value}(h:Vals xs us)(s:Vals ys ws):Vals (xs++ys) (us++ws):=by
 induction h with
 |nil=>exact s
 |cons r t ih=>exact .cons r ih
theorem Vals.take:∀{xs:List V} {us:List Value} (n:Nat),Vals xs us->Vals (xs.take n) (us.take n)
 |_,_,0,_=>.nil
 |_,_,_+1,.nil=>.nil
 |_,_,n+1,.cons r t=>.cons r (Vals.take n t)
theorem Vals.drop:∀{xs:List V} {us:List Value} (n:Nat),Vals xs us->Vals (xs.drop n) (us.drop n)
 |_,_,0,r=>r
 |_,_,_+1,.nil=>.nil
 |_,_,n+1,.cons _ t=>Vals.drop n t
noncomputable def RelO:Option V->Option Value->Prop
 |some v,some u=>RelV v u
 |none,none=>True
 |_,_=>False
def KV {κ:Type}:List (κ×V)->List (κ×Value)->Prop:=Paired λ(p:κ×V) (q:κ×Value)=>p.1=q.1/\RelV p.2 q.2
noncomputable def kV:cK->V
 | .inl i=>.int i
 | .inr x=>.str x
inductive HO where
 |lst (xs:List V)
 |tup (xs:List V)
 |dK (kvs:List (cK×V))|dT (kvs:List (List cK×V))
 |set (S:Int->Bool) (n:Nat)
 |ins (C dx:Addr) (fs:List (Str×V))
 |own (x:Addr)
 |xd (fs:List (Str×V))
 |met (f x:Addr)
 |rng (lo hi:Int)
 |frz (o:Obj) (u:HO)
 |tbl (ps:Array Value)
 |ext (φ:Heap->Prop)
noncomputable abbrev Hp:=Addr->Option HO
def bH(H:Hp)(a:Addr)(o:HO):Hp:=λb=>if b=a then some o else H b
theorem aT {H:Hp}{a:Addr}{o:HO}:bH H a o a=some o:=by unfold bH;rw [if_pos rfl]
theorem aN {H:Hp}{a b:Addr}{o:HO}(h:b≠a):bH H a o b=H b:=by unfold bH;rw [if_neg h]
theorem JP {H:Hp}{a b:Addr}{o u:HO}(h:H a=some o)(h':H b=some u)(d:o≠u):a≠b:=by
 intro e;subst e;rw [h]at h';exact d (zV h')
theorem aR {H:Hp}{a b:Addr}{o:HO}(h:H a=some o)(h':H b=none):a≠b:=by
 intro e;subst e;rw [h]at h';cases h'
section
variable (P:Program) (w:World)
noncomputable def ObjOk(H:Hp)(h:Heap)(a:Addr):HO->Prop
 | .lst xs=>xs.length<=sizeLine/\∃(its:List Value) (n:Nat),Vals xs its/\h.get? a=some {cls:=.type "list",data:=.seq its.toArray n}
 | .tup xs=>xs.length<=sizeLine/\∃its:List Value,Vals xs its/\IsTup h a its.toArray/\∃ob,h.get? a=some ob/\ob.dict=none
 | .dK kvs=>kvs.length<=sizeLine/\(a==sysModules)=false/\∃vs,KV kvs vs/\h.DictOf (bX P w) a vs
 | .dT kvs=>kvs.length<=sizeLine/\(a==sysModules)=false/\∃xs:List (List cK×Addr×Value),
  Paired (λ(p:List cK×V) (q:List cK×Addr×Value)=>p.1=q.1/\H q.2.1=some (.tup (p.1.map kV))/\RelV p.2 q.2.2) kvs xs/\
  ∃o es ep,h.get? a=some o/\o.ExactDict/\o.data=.dict es ep/\es.toList=xs.map (entryOfKey (tupleKind (bX P w)))/\(xs.map (·.1)).Nodup/\ep=xs.length
 | .set S n=>h.SetOf (intKind P w) a S n
 | .ins C dx fs=>H dx=some (.own a)/\fs.length<=1000/\dx≠a/\h.get? a=some (PySem.W.instObj C dx)/\
  ∃mA,h.Ns1 dx mA/\(∀f,RelO (fs.lookup f) (mA f))/\PySem.Within mA (fs.map (·.1))
 | .own _=>∃o,h.get? a=some o
 | .xd fs=>∃mA,h.Ns1 a mA/\∀f,RelO (fs.lookup f) (mA f)
 | .rng lo hi=>∃t u v,h.get? a=some {cls:=.type "range",data:=.fields #[.int lo t,.int hi u,.int 1 v]}
 | .frz o u=>h.get? a=some o/\ObjOk H h a u
 | .tbl ps=>h.get? a=some {cls:=.none,data:=.fields #[]}\/∃(c':Addr) (o:Obj) (u:HO) (l c:Value) (q:Str) (t t2:Tok) (vs:Array Value),ps= #[l,c,.str q t]/\h.get? a=some {cls:=.none,data:=.fields #[l,c,.ref c']}/\H c'=some (.frz o u)/\o.data=.fields vs/\vs[1]? =some (.str q t2)
 | .met f x=>h.get? a=some (PySem.W.methodObj (.ref f) (.ref x))
 | .ext φ=>φ h/\(∃o,h.get? a=some o)/\∀h1 h2:Heap,φ h1->(∀o,h1.get? a=some o->h2.get? a=some o)->φ h2
def HOk(H:Hp)(h:Heap):Prop:=∀a o,H a=some o->ObjOk P w H h a o
end
section
variable {P:Program} {w:World} {H H':Hp} {h h':Heap} {a:Addr} {o:HO}
theorem ObjOk.lt(x:ObjOk P w H h a o):a < h.objs.size:=by
 cases o with
 |lst xs=>obtain⟨_,_,_,_,e⟩:=x;exact g0 e
 |tup xs=>obtain⟨_,_,_,p,_⟩:=x;exact p.lt
 |dK kvs=>obtain⟨_,_,_,_,o,_,_,e,_⟩:=x;exact g0 e
 |dT kvs=>obtain⟨_,_,_,_,o,_,_,e,_⟩:=x;exact g0 e
 |set S n=>obtain⟨o,_,_,_,e,_⟩:=x;exact g0 e
 |ins C dx fs=>obtain⟨_,_,_,e,_⟩:=x;exact g0 e
 |own y=>obtain⟨_,e⟩:=x;exact g0 e
 |xd fs=>obtain⟨_,⟨_,_,_,e,_⟩,_⟩:=x;exact g0 e
 |rng lo hi=>obtain⟨_,_,_,e⟩:=x;exact g0 e
 |frz ob u=>obtain⟨e,_⟩:=x;exact g0 e
 |tbl ps=>
  rcases x with e|⟨c',o,u,l,c,q,t,t2,vs,_,e,_⟩
  · exact g0 e
  · exact g0 e
 |met f y=>exact g0 (show h.get? a=some _ from x)
 |ext φ=>obtain⟨_,⟨_,e⟩,_⟩:=x;exact g0 e
theorem Paired.mapP {α β:Type}{F G:α->β->Prop}{l₁:List α}{l₂:List β}(h:Paired F l₁ l₂)(f:∀a b,F a b->G a b):Paired G l₁ l₂:=by
 induction h with
 |nil=>exact .nil
 |cons r t ih=>exact .cons (f _ _ r) ih
theorem ObjOk.stay(x:ObjOk P w H h a o)(k:∀b u,(b=a\/H b=some (.own a))->h.get? b=some u->h'.get? b=some u)
 (ho:∀b,H b=some (.own a)->H' b=some (.own a)) (ht:∀b xs,H b=some (.tup xs)->H' b=some (.tup xs)) (hf:∀b o u,H b=some (.frz o u)->H' b=some (.frz o u)):ObjOk P w H' h' a o:=by
 induction o with
 |lst xs=>obtain⟨z,its,n,r,e⟩:=x;exact⟨z,its,n,r,k _ _ (.inl rfl) e⟩
 |tup xs=>obtain⟨z,its,r,⟨ob,e,c⟩,o2,e2,c2⟩:=x;exact⟨z,its,r,⟨ob,k _ _ (.inl rfl) e,c⟩,o2,k _ _ (.inl rfl) e2,c2⟩
 |dK kvs=>obtain⟨z,y,vs,r,ob,es,ep,e,c⟩:=x;exact⟨z,y,vs,r,ob,es,ep,k _ _ (.inl rfl) e,c⟩
 |dT kvs=>
  obtain⟨z,y,xs,r,ob,es,ep,e,c⟩:=x;exact⟨z,y,xs,Paired.mapP r λp q z=>⟨z.1,ht _ _ z.2.1,z.2.2⟩,ob,es,ep,k _ _ (.inl rfl) e,c⟩
 |set S n=>obtain⟨ob,es,ep,t,e,c⟩:=x;exact⟨ob,es,ep,t,k _ _ (.inl rfl) e,c⟩
 |ins C dx fs=>
  obtain⟨d,z,ne,e,mA,⟨od,es,ep,e2,c⟩,r⟩:=x;exact⟨ho _ d,z,ne,k _ _ (.inl rfl) e,mA,⟨od,es,ep,k _ _ (.inr d) e2,c⟩,r⟩
 |own y=>obtain⟨ob,e⟩:=x;exact⟨ob,k _ _ (.inl rfl) e⟩
 |xd fs=>obtain⟨mA,⟨od,es,ep,e,c⟩,r⟩:=x;exact⟨mA,⟨od,es,ep,k _ _ (.inl rfl) e,c⟩,r⟩
 |rng lo hi=>obtain⟨t,u,v,e⟩:=x;exact⟨t,u,v,k _ _ (.inl rfl) e⟩
 |frz ob u ih=>obtain⟨e,q⟩:=x;exact⟨k _ _ (.inl rfl) e,ih q⟩
 |tbl ps=>
  rcases x with e|⟨c',o,u,l,c,q,t,t2,vs,e1,e2,e3,r⟩
  · exact Or.inl (k _ _ (.inl rfl) e)
  · exact Or.inr ⟨c',o,u,l,c,q,t,t2,vs,e1,k _ _ (.inl rfl) e2,hf _ _ _ e3,r⟩
 |met f y=>
  have e:h.get? a=some (PySem.W.methodObj (.ref f) (.ref y)):=x;show h'.get? a=some (PySem.W.methodObj (.ref f) (.ref y));exact k a _ (.inl rfl) e
 |ext φ=>obtain⟨p,⟨o,e⟩,st⟩:=x;exact⟨st _ _ p λo q=>k _ _ (.inl rfl) q,⟨o,k _ _ (.inl rfl) e⟩,st⟩
theorem HOk.lt(x:HOk P w H h)(e:H a=some o):a < h.objs.size:=(x a o e).lt
theorem HOk.fresh(x:HOk P w H h)(e:h.objs.size<=a):H a=none:=by
 cases q:H a with
 |none=>rfl
 |some u=>exact absurd (j6 (x.lt q) e) (zT _)
theorem HOk.kept(x:HOk P w H h)(k:∀b u,h.get? b=some u->h'.get? b=some u):HOk P w H h':=λa o e=>
 (x a o e).stay (λb u _ q=>k b u q) (λ_ q=>q) (λ_ _ q=>q) λ_ _ _ q=>q
theorem HOk.laid(x:HOk P w H h)(k:∀b u,h.get? b=some u->h'.get? b=some u)(hp:h.objs.size<=a)(new:ObjOk P w (bH H a o) h' a o):HOk P w (bH H a o) h':=λb u e=>by
 have hn:=x.fresh hp
 by_cases hb:b=a
 · subst hb;rw [aT]at e;cases e;exact new
 · rw [aN hb]at e;exact(x b u e).stay (λc v _ q=>k c v q) (λc q=>by rw [aN (aR q hn)];exact q) (λc xs q=>by rw [aN (aR q hn)];exact q) λc ob xs q=>by rw [aN (aR q hn)];exact q
end
def Rd(H:Hp)(a:Addr)(u:HO):Prop:=H a=some u\/∃o,H a=some (.frz o u)
theorem Rd.ok {P:Program}{w:World}{H:Hp}{h:Heap}{a:Addr}{u:HO}(r:Rd H a u)(x:HOk P w H h):ObjOk P w H h a u:=by
 rcases r with r|⟨o,r⟩
 · exact x a u r
 · obtain⟨_,q⟩:=x a _ r;exact q
noncomputable def L5:Option HO->Prop
 |some (.lst _)=>True
 |some (.dK _)=>True
 |some (.dT _)=>True
 |some (.set _ _)=>True
 |some (.ins _ _ _)=>True
 |some (.ext _)=>True
 |_=>False
section
variable {P:Program} {w:World} {H:Hp} {h h':Heap} {x e:Addr} {o':HO}
theorem HOk.write(ok:HOk P w H h)(mu:L5 (H x))(he:e=x\/H e=some (.own x))(k:∀b u,b≠e->h.get? b=some u->h'.get? b=some u)(heo:∃u,h'.get? e=some u)
 (new:ObjOk P w (bH H x o') h' x o'):HOk P w (bH H x o') h':=λb u q=>by
 have nown:∀c y,H c=some (.own y)->c≠x:=λc y r z=>by subst z;rw [r]at mu;exact mu
 have ntup:∀c xs,H c=some (.tup xs)->c≠x:=λc xs r z=>by subst z;rw [r]at mu;exact mu
 have nfrz:∀c ob xs,H c=some (.frz ob xs)->c≠x:=λc ob xs r z=>by subst z;rw [r]at mu;exact mu
 by_cases hb:b=x
 · subst hb;rw [aT]at q;cases q;exact new
 · rw [aN hb]at q
   by_cases hbe:b=e
   · have q':H b=some (.own x):=by
      rcases he with z|z
      · exact absurd (hbe.trans z) hb
      · rw [hbe];exact z
     rw [q]at q';cases q';obtain⟨v,hv⟩:=heo;exact⟨v,by rw [hbe];exact hv⟩
   · refine(ok b u q).stay (λc v hc r=>k c v ?_ r) (λc r=>by rw [aN (nown c b r)];exact r) (λc xs r=>by rw [aN (ntup c xs r)];exact r) λc ob xs r=>by rw [aN (nfrz c ob xs r)];exact r
     rcases hc with rfl|hc
     · exact hbe
     · rintro rfl
       rcases he with z|z
       · exact nown c b hc z
       · rw [hc]at z;cases z;exact hb rfl
end
structure Un (fs ex:List Addr) (H H':Hp) (h h':Heap):Prop where
 keep:∀b o,h.get? b=some o->H b=none->b ∉ fs->b ∉ ex->h'.get? b=some o
 slot:∀b o,h.get? b=some o->H b=none->b∈fs->b ∉ ex->∃sl,h'.get? b=some {o with slots:=sl}
 free:∀b o,h.get? b=some o->H b=none->b ∉ ex->H' b=none
 there:∀b o,h.get? b=some o->b ∉ ex->∃o',h'.get? b=some o'
 tups:∀b xs,H b=some (.tup xs)->H' b=some (.tup xs)
 frzs:∀b o u,H b=some (.frz o u)->H' b=some (.frz o u)
 tbls:∀b ps,H b=some (.tbl ps)->∃more,H' b=some (.tbl (ps++more))
section
variable {fs fs' ex ex':List Addr} {H H1 H2:Hp} {h h1 h2 h':Heap} {a x e:Addr} {o:HO}
theorem Un.any(u:Un fs ex H H1 h h1){b:Addr}{ob:Obj}(q:h.get? b=some ob)(n:H b=none)(hx:b ∉ ex):∃sl,h1.get? b=some {ob with slots:=sl}:=by
 by_cases hb:b∈fs
 · exact u.slot b ob q n hb hx
 · exact⟨ob.slots,u.keep b ob q n hb hx⟩
theorem Un.kept(k:∀b u,h.get? b=some u->h'.get? b=some u):Un fs ex H H h h':=
 ⟨λb ob q _ _ _=>k b ob q,λb ob q _ _ _=>⟨ob.slots,k b ob q⟩,λ_ _ _ n _=>n,λb ob q _=>⟨ob,k b ob q⟩,λ_ _ q=>q,λ_ _ _ q=>q,λ_ ps q=>⟨#[],by rw [q];simp⟩⟩
theorem Un.refl:Un fs ex H H h h:=Un.kept λ_ _ q=>q
theorem Un.laid(k:∀b u,h.get? b=some u->h'.get? b=some u)(hp:h.objs.size<=a)(hn:H a=none):Un fs ex H (bH H a o) h h' where
 keep:=λb u q _ _ _=>k b u q
 slot:=λb u q _ _ _=>⟨u.slots,k b u q⟩
 free:=λb u q n _=>by rw [aN (nA (j6 (g0 q) hp))];exact n
 there:=λb u q _=>⟨u,k b u q⟩
 tups:=λb xs q=>by rw [aN (aR q hn)];exact q
 frzs:=λb u xs q=>by rw [aN (aR q hn)];exact q
 tbls:=λb ps q=>⟨#[],by rw [aN (aR q hn),q];simp⟩
theorem Un.write(mu:L5 (H x))(he:e=x\/H e=some (.own x))(k:∀b u,b≠e->h.get? b=some u->h'.get? b=some u)(heo:∃u,h'.get? e=some u):Un fs ex H (bH H x o) h h':=by
 have hx:∀b,H b=none->b≠x:=λb n z=>by subst z;rw [n]at mu;exact mu
 have hb:∀b,H b=none->b≠e:=λb n z=>by
  subst z
  rcases he with r|r
  · exact hx b n r
  · rw [n]at r;cases r
 have hm:∀b u,H b=some u->¬L5 (some u)->b≠x:=λb u q nm z=>by subst z;rw [q]at mu;exact nm mu
 refine⟨λb u q n _ _=>k b u (hb b n) q,λb u q n _ _=>⟨u.slots,k b u (hb b n) q⟩,λb u q n _=>by rw [aN (hx b n)];exact n,λb u q _=>?_,
  λb xs q=>by rw [aN (hm b _ q λz=>z)];exact q,λb u xs q=>by rw [aN (hm b _ q λz=>z)];exact q,λb ps q=>⟨#[],by rw [aN (hm b _ q λz=>z),q];simp⟩⟩
 by_cases hbe:b=e
 · subst hbe;exact heo
 · exact⟨u,k b u hbe q⟩
end
noncomputable def Mj(h:Heap)(H:Hp):List Addr:=(List.range h.objs.size).filter λa=>(H a).isSome
noncomputable def wW(h:Heap)(H:Hp):Heap:=PySem.W.hideAll h (Mj h H)
theorem C9(h:Heap)(H:Hp):(wW h H).objs.size=h.objs.size:=PySem.W.hideAll_size _ _
theorem sQ {h:Heap}{H:Hp}{b:Addr}{o:Obj}(e:h.get? b=some o)(n:H b=none):(wW h H).get? b=some o:=
 PySem.W.hideAll_get _ e λhm=>by
  have q:(H b).isSome=true:=(List.mem_filter.mp hm).2;rw [n]at q;simp at q
theorem HB {h:Heap}{H:Hp}{b:Addr}{o:Obj}(e:(wW h H).get? b=some o):h.get? b=some o/\H b=none:=by
 have e':h.get? b=some o:=PySem.W.of_hideAll (Mj h H) e;refine⟨e',?_⟩;cases q:H b with
 |none=>rfl
 |some x=>
  have hm:b∈Mj h H:=List.mem_filter.mpr ⟨List.mem_range.mpr (g0 e'),by simp [q]⟩
  have z:(wW h H).get? b=none:=PySem.W.hideAll_none (Mj h H) hm;rw [z]at e;cases e
noncomputable def HC(g h:Heap)(L:Addr):List (Addr×Obj):=(List.range h.objs.size).filterMap λa=>if a=L\/(g.get? a).isSome=true then none else(h.get? a).map λo=>(a,o)
noncomputable def bt(g h:Heap)(L d:Addr):List (Addr×Obj):=(HC g h L).filter λp=>decide (p.1≠d)
structure Mod (K:Fg) (mg:Str->Option Value) (base:Heap):Prop where
 kin:K.In base
 glob:base.Ns mainGlobals mg
 blt:∃mb,base.Ns builtinsNs mb/\∀x:Str,x≠ "__name__"->mb x=bootBuiltins x
 nolimit:base.NoLimit
structure Cx where
 prog:Program
 w:World
 K:Fg
 mg:Str->Option Value
 base:Heap
 A:Around
 N:List Str
 s₀:Shared
 H₀:Hp
 env:Env
 outer:List Env
 stack:List Env
 ex:List Addr
 fn:Str->Bool
 calm:Bool
 pn:List (Addr×Obj)
 xe:Value->Shared->Prop
noncomputable def ku(l:List Env):List Addr:=l.filterMap (·.frame)
noncomputable abbrev Cx.fs (X:Cx):List Addr:=ku X.outer
def L6(sc:Scope)(x:Str):Prop:=sc.names.lookup x=some .local\/sc.names.lookup x=some .cell\/sc.names.lookup x=some .free
def HE(sc:Scope)(x:Str):Prop:=sc.names.lookup x=some .local\/sc.names.lookup x=some .cell
def L7(env:Env)(h:Heap)(m:Str->Option Value)(x:Str)(u:Value):Prop:=
 (env.kindOf x=some .local/\m x=some u)\/((env.kindOf x=some .cell\/env.kindOf x=some .free)/\∃c,env.cells.lookup x=some c/\h.IsCell c (some u))
structure Cx.Ok (X:Cx):Prop where
 mod:Mod X.K X.mg X.base
 kind:X.env.scope.kind=.function
 glob:X.env.globals=mainGlobals
 blt:X.env.builtins=builtinsNs
 above:X.s₀.heap.objs.size<=X.env.locals
 inj:∀x y c,X.env.cells.lookup x=some c->X.env.cells.lookup y=some c->x=y
 has:∀x,(X.env.kindOf x=some .cell\/X.env.kindOf x=some .free)->∃c,X.env.cells.lookup x=some c
 cab:∀x c,X.fn x=true->X.env.cells.lookup x=some c->X.s₀.heap.objs.size<=c
 hd:X.calm=true->X.A.handled=none
 frames:X.A.frames=some X.stack
 stk:X.stack=X.outer\/(X.stack=X.env::X.outer/\X.env.frame=some X.env.locals)
 exf:∀b∈X.ex,b≠X.env.locals/\∀x c,X.env.cells.lookup x=some c->c≠b
 bs:∀b o,X.base.get? b=some o->X.s₀.heap.get? b=some o/\X.H₀ b=none
 bsz:X.base.objs.size<=X.s₀.heap.objs.size
 noex:∀b o,X.base.get? b=some o->b ∉ X.ex
 exfs:∀b∈X.ex,b ∉ X.fs
 funs:X.s₀.heap.FunFrames X.base X.outer
 frf:∀b∈X.fs,X.H₀ b=none
structure Inv (X:Cx) (pins:List (Addr×Obj)) (σ:List (Option V)) (H:Hp) (s:Shared):Prop where
 ok:X.Ok
 os:s.os=X.s₀.os
 bare:AllBare s.gens
 base:Un X.fs X.ex X.H₀ H X.s₀.heap s.heap
 loc:∃m,s.heap.Ns X.env.locals m/\∀(i:Nat) (x:Str) (v:V),X.N[i]? =some x->σ[i]? =some (some v)->L6 X.env.scope x->∃u,RelV v u/\L7 X.env s.heap m x u
 cell:∀x c,X.env.cells.lookup x=some c->∃v,s.heap.IsCell c v
 free:H X.env.locals=none
 freeC:∀x c,X.env.cells.lookup x=some c->H c=none
 pin:∀p∈X.pn++pins,s.heap.get? p.1=some p.2/\H p.1=none/\p.1≠X.env.locals/\p.1 ∉ X.fs/\∀v,p.2.data≠ .cell v
 hok:HOk X.prog X.w H s.heap
 len:σ.length=X.N.length
section
variable {X:Cx} {pins:List (Addr×Obj)} {σ:List (Option V)} {H H':Hp} {s:Shared} {h':Heap}
theorem Cx.Ok.nofr(ok:X.Ok){b:Addr}{o:Obj}(e:X.base.get? b=some o):b ∉ X.fs:=λhb=>by
 have:=(ok.funs.mem hb).1;rw [e]at this;cases this
theorem Inv.bs(I:Inv X pins σ H s):∀b o,X.base.get? b=some o->s.heap.get? b=some o/\H b=none:=λb o e=>
 ⟨I.base.keep b o (I.ok.bs b o e).1 (I.ok.bs b o e).2 (I.ok.nofr e) (I.ok.noex b o e),I.base.free b o (I.ok.bs b o e).1 (I.ok.bs b o e).2 (I.ok.noex b o e)⟩
theorem Inv.bk(I:Inv X pins σ H s):∀b o,X.base.get? b=some o->s.heap.get? b=some o:=λb o e=>(I.bs b o e).1
theorem Inv.mod(I:Inv X pins σ H s):Mod X.K X.mg X.base:=I.ok.mod
theorem Inv.kIn(I:Inv X pins σ H s):X.K.In s.heap:=I.ok.mod.kin.keeps I.bk
theorem Inv.lt(I:Inv X pins σ H s):X.env.locals < s.heap.objs.size:=let ⟨_,hn,_⟩:=I.loc;hn.lt
theorem Inv.sz(I:Inv X pins σ H s):X.s₀.heap.objs.size<=s.heap.objs.size:=Qe I.ok.above (Dq I.lt)
theorem Inv.nofs(I:Inv X pins σ H s){a:Addr}(h:s.heap.objs.size<=a):a ∉ X.fs:=λhb=>by
 obtain⟨_,o,ho,_⟩:=I.ok.funs.mem hb;exact absurd (j6 (g0 ho) (Qe I.sz h)) (zT _)
theorem Inv.cne(I:Inv X pins σ H s):∀x c,X.env.cells.lookup x=some c->c≠X.env.locals:=λx c e z=>by
 obtain⟨v,o,ho,hd⟩:=I.cell x c e;obtain⟨m,⟨o',es,ep,ho',hd',_⟩,_⟩:=I.loc;rw [z,ho']at ho;cases ho;rw [hd']at hd;cases hd
theorem Inv.funs(I:Inv X pins σ H s):s.heap.FunFrames X.base X.outer:=by
 have all:∀(l:List Env),(∀b∈ku l,b∈X.fs)->X.s₀.heap.FunFrames X.base l->s.heap.FunFrames X.base l:=by
  intro l
  induction l with
  |nil=>intro _ _;trivial
  |cons env r ih=>
   intro hs hl;obtain⟨hk,⟨L,o,hf,hn,ho,hd⟩,hr⟩:=hl;have hL:L∈X.fs:=hs L (by unfold ku;rw [List.filterMap_cons,hf];exact j5)
   obtain⟨sl,e⟩:=I.base.slot L o ho (I.ok.frf L hL) hL λz=>I.ok.exfs L z hL;exact⟨hk,⟨L,_,hf,hn,e,hd⟩,ih (λb hb=>hs b (by unfold ku;rw [List.filterMap_cons,hf];exact j4 _ hb)) hr⟩
 exact all X.outer (λ_ hb=>hb) I.ok.funs
theorem Inv.stack(I:Inv X pins σ H s):s.heap.FunFrames X.base X.stack:=by
 rcases I.ok.stk with e|⟨e,hf⟩
 · rw [e];exact I.funs
 · rw [e];obtain⟨m,hn,_⟩:=I.loc;refine .cons (by rw [I.ok.kind];decide) hf hn ?_ I.funs
   exact Heap.get?_none_of_le (Qe I.ok.bsz I.ok.above)
theorem Inv.stkSub(I:Inv X pins σ H s):∀b∈ku X.stack,b∈X.env.locals::X.fs:=λb hb=>by
 rcases I.ok.stk with e|⟨e,hf⟩
 · rw [e]at hb;exact j4 _ hb
 · rw [e]at hb;unfold ku at hb;rw [List.filterMap_cons,hf]at hb;exact hb
theorem Inv.stkFree(I:Inv X pins σ H s):∀b∈ku X.stack,H b=none:=λb hb=>by
 rcases Q8.mp (I.stkSub b hb)with e|hb
 · rw [e];exact I.free
 · obtain⟨_,o,ho,_⟩:=I.ok.funs.mem hb;exact I.base.free b o ho (I.ok.frf b hb) λz=>I.ok.exfs b z hb
theorem Inv.step {g':Array GenState}{t':Nat}{d':Drawn}{ch:List Addr}(I:Inv X pins σ H s)
 (hch:∀b∈ch,(b∈X.ex\/X.s₀.heap.objs.size<=b)/\b≠X.env.locals/\(∀x c,X.env.cells.lookup x=some c->c≠b)/\∀p∈X.pn++pins,p.1≠b)
 (keep:∀b o,b≠X.env.locals->b ∉ X.fs->b ∉ ch->s.heap.get? b=some o->H b=none->h'.get? b=some o)
 (slot:∀b o,b≠X.env.locals->b∈X.fs->b ∉ ch->s.heap.get? b=some o->H b=none->∃sl,h'.get? b=some {o with slots:=sl}) (free:∀b o,b ∉ ch->s.heap.get? b=some o->H b=none->H' b=none)
 (there:∀b o,b ∉ ch->s.heap.get? b=some o->∃o',h'.get? b=some o')
 (tups:∀b xs,H b=some (.tup xs)->H' b=some (.tup xs)) (frzs:∀b o u,H b=some (.frz o u)->H' b=some (.frz o u)) (tbls:∀b ps,H b=some (.tbl ps)->∃more,H' b=some (.tbl (ps++more)))
 (ns:∀m,s.heap.Ns X.env.locals m->h'.Ns X.env.locals m) (hok:HOk X.prog X.w H' h') (hg:AllBare g'):
 Inv X pins σ H' {s with heap:=h',gens:=g',drawn:=d',toks:=t'}:=by
 have neL:∀b o,X.s₀.heap.get? b=some o->b≠X.env.locals:=λb o e=>nA (j6 (g0 e) I.ok.above);have neC:∀b o,X.s₀.heap.get? b=some o->b ∉ X.ex->b ∉ ch:=λb o e hx hb=>by
  rcases(hch b hb).1 with z|z
  · exact hx z
  · exact absurd (j6 (g0 e) z) (zT _)
 have cellK:∀x c,X.env.cells.lookup x=some c->∀v,s.heap.IsCell c v->h'.IsCell c v:=λx c e v ⟨o,ho,hd⟩=>by
  have nch:c ∉ ch:=λz=>(hch c z).2.2.1 x c e rfl
  by_cases hc:c∈X.fs
  · obtain⟨sl,q⟩:=slot c o (I.cne x c e) hc nch ho (I.freeC x c e);exact⟨_,q,hd⟩
  · exact⟨o,keep c o (I.cne x c e) hc nch ho (I.freeC x c e),hd⟩
 refine⟨I.ok,I.os,hg,⟨λb o e n hb hx=>?_,λb o e n hb hx=>?_,λb o e n hx=>?_,λb o e hx=>?_,λb xs e=>tups b xs (I.base.tups b xs e),λb o xs e=>frzs b o xs (I.base.frzs b o xs e),λb ps e=>?_⟩,?_,λx c e=>?_,?_,λx c e=>?_,λp hp=>?_,hok,I.len⟩
 · exact keep b o (neL b o e) hb (neC b o e hx) (I.base.keep b o e n hb hx) (I.base.free b o e n hx)
 · obtain⟨sl,e1⟩:=I.base.slot b o e n hb hx;obtain⟨sl',e2⟩:=slot b _ (neL b o e) hb (neC b o e hx) e1 (I.base.free b o e n hx);exact⟨sl',e2⟩
 · obtain⟨o',e1⟩:=I.base.there b o e hx;exact free b o' (neC b o e hx) e1 (I.base.free b o e n hx)
 · obtain⟨o',e1⟩:=I.base.there b o e hx;exact there b o' (neC b o e hx) e1
 · obtain⟨m1,e1⟩:=I.base.tbls b ps e;obtain⟨m2,e2⟩:=tbls b _ e1;exact⟨m1++m2,by rw [e2,Array.append_assoc]⟩
 · obtain⟨m,hn,hl⟩:=I.loc;refine⟨m,ns m hn,λi x v e1 e2 e3=>?_⟩;obtain⟨u,r,l⟩:=hl i x v e1 e2 e3;refine⟨u,r,?_⟩
   rcases l with l|⟨k,c,e,z⟩
   · exact .inl l
   · exact .inr ⟨k,c,e,cellK x c e _ z⟩
 · obtain⟨v,z⟩:=I.cell x c e;exact⟨v,cellK x c e v z⟩
 · obtain⟨m,⟨o,_,_,ho,_⟩,_⟩:=I.loc;exact free _ o (λz=>(hch _ z).2.1 rfl) ho I.free
 · obtain⟨v,o,ho,hd⟩:=I.cell x c e;exact free c o (λz=>(hch c z).2.2.1 x c e rfl) ho (I.freeC x c e)
 · obtain⟨e,n,ne,nf,d⟩:=I.pin p hp;have nch:p.1 ∉ ch:=λz=>(hch p.1 z).2.2.2 p hp rfl;exact⟨keep p.1 p.2 ne nf nch e n,free p.1 p.2 nch e n,ne,nf,d⟩
theorem Inv.un {t':Nat}(I:Inv X pins σ H s)(u:Un X.fs [] H H' s.heap h')(hok:HOk X.prog X.w H' h'):Inv X pins σ H' {s with heap:=h',toks:=t'}:=by
 obtain⟨m,⟨o,es,ep,ho,r⟩,_⟩:=id I.loc;obtain⟨sl,hL⟩:=u.any ho I.free (by simp)
 exact I.step (g':=s.gens) (d':=s.drawn) (ch:=[]) (λ_ z=>nomatch z) (λb o _ hb _ e n=>u.keep b o e n hb (by simp)) (λb o _ hb _ e n=>u.slot b o e n hb (by simp)) (λb o _ e n=>u.free b o e n (by simp)) (λb o _ e=>u.there b o e (by simp)) u.tups u.frzs u.tbls (λm' hm=>by
  obtain⟨o',es',ep',ho',r'⟩:=hm;rw [ho]at ho';cases ho';exact⟨_,es',ep',hL,r'⟩) hok I.bare
theorem Inv.call {g':Array GenState}{t':Nat}{d':Drawn}{ch:List Addr}(I:Inv X pins σ H s)(u:Un (ku X.stack) ch H H' s.heap h')(hok:HOk X.prog X.w H' h')(hg:AllBare g')
 (hch:∀b∈ch,(b∈X.ex\/X.s₀.heap.objs.size<=b)/\b≠X.env.locals/\(∀x c,X.env.cells.lookup x=some c->c≠b)/\∀p∈X.pn++pins,p.1≠b):
 Inv X pins σ H' {s with heap:=h',gens:=g',drawn:=d',toks:=t'}:=by
 obtain⟨m,⟨o,es,ep,ho,r⟩,_⟩:=id I.loc;obtain⟨sl,hL⟩:=u.any ho I.free λz=>(hch _ z).2.1 rfl;exact I.step (ch:=ch) hch (λb o hL hb hc e n=>u.keep b o e n (λz=>(Q8.mp (I.stkSub b z)).elim hL hb) hc) (λb o _ _ hc e n=>u.any e n hc) (λb o hc e n=>u.free b o e n hc) (λb o hc e=>u.there b o e hc) u.tups u.frzs u.tbls (λm' hm=>by
  obtain⟨o',es',ep',ho',r'⟩:=hm;rw [ho]at ho';cases ho';exact⟨_,es',ep',hL,r'⟩) hok hg
theorem Inv.turned {t':Nat}{it:Addr}(I:Inv X pins σ H s)(k:∀b o,b≠it->s.heap.get? b=some o->h'.get? b=some o)(hn:H it=none)(hL:it≠X.env.locals)
 (h1:it∈X.ex\/X.s₀.heap.objs.size<=it) (h2:∀x c,X.env.cells.lookup x=some c->c≠it) (h3:∀p∈X.pn++pins,p.1≠it):Inv X pins σ H {s with heap:=h',toks:=t'}:=by
 have nit:∀b u,H b=some u->b≠it:=λb u e z=>by rw [z,hn]at e;cases e
 refine I.step (g':=s.gens) (d':=s.drawn) (ch:=[it]) (λb hb=>?_) (λb o _ _ hc e _=>k b o (λz=>hc (by simp [z])) e) (λb o _ _ hc e _=>⟨o.slots,k b o (λz=>hc (by simp [z])) e⟩) (λ_ _ _ _ n=>n)
  (λb o hc e=>⟨o,k b o (λz=>hc (by simp [z])) e⟩) (λ_ _ e=>e) (λ_ _ _ e=>e) (λb ps e=>⟨#[],by rw [e];simp⟩) (λm hm=>?_) (λb u e=>?_) I.bare
 · have e:b=it:=by simpa using hb
   subst e;exact⟨h1,hL,h2,h3⟩
 · obtain⟨o,es,ep,ho,r⟩:=hm;exact⟨o,es,ep,k _ o (Ne.symm hL) ho,r⟩
 · refine(I.hok b u e).stay (λc v hc q=>k c v ?_ q) (λ_ q=>q) (λ_ _ q=>q) λ_ _ _ q=>q
   rcases hc with z|z
   · rw [z];exact nit b u e
   · exact nit c _ z
theorem Inv.tok(I:Inv X pins σ H s)(t:Nat):Inv X pins σ H {s with toks:=t}:=I.un (h':=s.heap) (t':=t) Un.refl I.hok
theorem Inv.kept {t':Nat}(I:Inv X pins σ H s)(k:∀b u,s.heap.get? b=some u->h'.get? b=some u):Inv X pins σ H {s with heap:=h',toks:=t'}:=I.un (Un.kept k) (I.hok.kept k)
theorem Inv.laid {a:Addr}{o:HO}{t':Nat}(I:Inv X pins σ H s)(k:∀b u,s.heap.get? b=some u->h'.get? b=some u)(hp:s.heap.objs.size<=a)(new:ObjOk X.prog X.w (bH H a o) h' a o):
 Inv X pins σ (bH H a o) {s with heap:=h',toks:=t'}:=I.un (Un.laid k hp (I.hok.fresh hp)) (I.hok.laid k hp new)
theorem Inv.write {x e:Addr}{o:HO}{t':Nat}(I:Inv X pins σ H s)(mu:L5 (H x))(he:e=x\/H e=some (.own x))(k:∀b u,b≠e->s.heap.get? b=some u->h'.get? b=some u)(heo:∃u,h'.get? e=some u)
 (new:ObjOk X.prog X.w (bH H x o) h' x o):Inv X pins σ (bH H x o) {s with heap:=h',toks:=t'}:=I.un (Un.write mu he k heo) (I.hok.write mu he k heo new)
theorem Inv.pins_of {pins':List (Addr×Obj)}(I:Inv X pins σ H s)(h:∀p∈pins',s.heap.get? p.1=some p.2/\H p.1=none/\p.1≠X.env.locals/\p.1 ∉ X.fs/\∀v,p.2.data≠ .cell v):Inv X pins' σ H s:=
 ⟨I.ok,I.os,I.bare,I.base,I.loc,I.cell,I.free,I.freeC,λp hp=>(Du.mp hp).elim (λz=>I.pin p (List.mem_append_left _ z)) (h p),I.hok,I.len⟩
theorem sR {N:List Str}(hN:N.Nodup){i j:Nat}{x:Str}(a:N[i]? =some x)(b:N[j]? =some x):i=j:=by
 obtain⟨h1,e1⟩:=Dx.mp a;obtain⟨h2,e2⟩:=Dx.mp b;exact(List.getElem_inj hN).mp (e1.trans e2.symm)
theorem vR {M:Model}{A:Around}{E:Value->Shared->Prop}{i:Nat}{x:Str}{v:V}{u:Value}{Q:Unit->Shared->Prop}(I:Inv X pins σ H s)(hN:X.N.Nodup)(hi:X.N[i]? =some x)(hx:HE X.env.scope x)(r:RelV v u)
 (h:∀s',Inv X pins (σ.set i (some v)) H s'->(∃a,Heap.SameBut a s.heap s'.heap/\(a=X.env.locals\/X.env.cells.lookup x=some a))->Q () s') (hf:X.fn x=true\/X.env.scope.names.lookup x=some .local:=by first|exact .inl rfl|exact .inr rfl|assumption):wpAny M A (storeName X.env x u) Q E s:=by
 obtain⟨m,hn,hl⟩:=id I.loc;have hcls:(X.env.scope.kind== .class||(X.env.scope.kind== .module&&X.env.locals != X.env.globals))=false:=by rw [I.ok.kind];rfl
 have hiσ:i < σ.length:=by rw [I.len];exact(Dx.mp hi).1
 have cne:=I.cne;have tracked:∀{a:Addr} {h':Heap},(∃o,s.heap.get? a=some o/\H a=none)->Heap.SameBut a s.heap h'->HOk X.prog X.w H h':=λ{a h'} ha hs b ob e=>by
  obtain⟨_,_,hfree⟩:=ha;refine(I.hok b ob e).stay (λc w' hc q=>(hs.2 c ?_).trans q) (λ_ q=>q) (λ_ _ q=>q) λ_ _ _ q=>q;rintro rfl
  rcases hc with rfl|hc
  · rw [hfree]at e;cases e
  · rw [hfree]at hc;cases hc
 rcases hx with hk|hk
 · refine wpAny_storeName_local hk hn (λh' hn' hs=>?_) hcls;obtain⟨oL,_,_,hoL,_⟩:=id hn;refine h _ ⟨I.ok,I.os,I.bare,⟨λb o e n hb hx=>?_,λb o e n hb hx=>?_,I.base.free,λb o e hx=>?_,I.base.tups,I.base.frzs,I.base.tbls⟩,⟨_,hn',λj y v' e1 e2 e3=>?_⟩,λy c e=>?_,I.free,I.freeC,λp hp=>?_,tracked ⟨oL,hoL,I.free⟩ hs,by simpa using I.len⟩ ⟨_,hs,.inl rfl⟩
   · exact(hs.2 b (nA (j6 (g0 e) I.ok.above))).trans (I.base.keep b o e n hb hx)
   · obtain⟨sl,e1⟩:=I.base.slot b o e n hb hx;exact⟨sl,(hs.2 b (nA (j6 (g0 e) I.ok.above))).trans e1⟩
   · obtain⟨o',e1⟩:=I.base.there b o e hx;exact⟨o',(hs.2 b (nA (j6 (g0 e) I.ok.above))).trans e1⟩
   · by_cases hj:j=i
     · subst hj;rw [hi]at e1;cases e1;rw [LW hiσ]at e2;cases e2;exact⟨u,r,.inl ⟨hk,by simp⟩⟩
     · rw [JN (Ne.symm hj)]at e2;obtain⟨u',r',q⟩:=hl j y v' e1 e2 e3;refine⟨u',r',?_⟩
       rcases q with ⟨k,e⟩|⟨k,c,e,z⟩
       · refine .inl ⟨k,?_⟩;have:y≠x:=λe=>hj (sR hN e1 (e▸hi));simp [this,e]
       · exact .inr ⟨k,c,e,z.sameBut hs (cne y c e)⟩
   · obtain⟨w',z⟩:=I.cell y c e;exact⟨w',z.sameBut hs (cne y c e)⟩
   · obtain⟨e,n,ne,nf,d⟩:=I.pin p hp;exact⟨(hs.2 p.1 ne).trans e,n,ne,nf,d⟩
 · have hfn:X.fn x=true:=by
    rcases hf with z|z
    · exact z
    · rw [z]at hk;cases hk
   obtain⟨c,hc⟩:=I.ok.has x (.inl hk);obtain⟨w',z⟩:=I.cell x c hc;refine wpAny_storeName_cell I.ok.kind hk hc z (λh' hc' hs=>?_);obtain⟨oc,hoc,hocd⟩:=id z;refine h {s with heap:=h'} ⟨I.ok,I.os,I.bare,⟨λb o e n hb hx=>?_,λb o e n hb hx=>?_,I.base.free,λb o e hx=>?_,I.base.tups,I.base.frzs,I.base.tbls⟩,⟨m,hn.sameBut hs (Ne.symm (cne x c hc)),λj y v' e1 e2 e3=>?_⟩,λy c' e=>?_,I.free,I.freeC,λp hp=>?_,tracked ⟨oc,hoc,I.freeC x c hc⟩ hs,by simpa using I.len⟩ ⟨c,hs,.inr hc⟩
   · exact(hs.2 b (nA (j6 (g0 e) (I.ok.cab x c hfn hc)))).trans (I.base.keep b o e n hb hx)
   · obtain⟨sl,e1⟩:=I.base.slot b o e n hb hx;exact⟨sl,(hs.2 b (nA (j6 (g0 e) (I.ok.cab x c hfn hc)))).trans e1⟩
   · obtain⟨o',e1⟩:=I.base.there b o e hx;exact⟨o',(hs.2 b (nA (j6 (g0 e) (I.ok.cab x c hfn hc)))).trans e1⟩
   · by_cases hj:j=i
     · subst hj;rw [hi]at e1;cases e1;rw [LW hiσ]at e2;cases e2;exact⟨u,r,.inr ⟨.inl hk,c,hc,hc'⟩⟩
     · rw [JN (Ne.symm hj)]at e2;obtain⟨u',r',q⟩:=hl j y v' e1 e2 e3;refine⟨u',r',?_⟩
       rcases q with q|⟨k,c',e,z'⟩
       · exact .inl q
       · refine .inr ⟨k,c',e,z'.sameBut hs ?_⟩;rintro rfl;exact hj (sR hN e1 (I.ok.inj _ _ _ e hc▸hi))
   · by_cases hcc:c'=c
     · subst hcc;exact⟨_,hc'⟩
     · obtain⟨w2,z2⟩:=I.cell y c' e;exact⟨w2,z2.sameBut hs hcc⟩
   · obtain⟨e,n,ne,nf,d⟩:=I.pin p hp;refine⟨(hs.2 p.1 ?_).trans e,n,ne,nf,d⟩;intro q;rw [q,hoc]at e;have q':oc=p.2:=zV e;exact d w' (by rw [<-q'];exact hocd)
theorem oE {M:Model}{A:Around}{E:Value->Shared->Prop}{i:Nat}{x:Str}{v:V}{u:Value}{Q:Unit->Shared->Prop}(I:Inv X pins σ H s)(hN:X.N.Nodup)(hi:X.N[i]? =some x)(hx:HE X.env.scope x)(r:RelV v u)
 (h:∀s',Inv X pins (σ.set i (some v)) H s'->Q () s') (hf:X.fn x=true\/X.env.scope.names.lookup x=some .local:=by first|exact .inl rfl|exact .inr rfl|assumption):wpAny M A (storeName X.env x u) Q E s:=
 vR I hN hi hx r (λs' I' _=>h s' I') hf
theorem Inv.call' {s':Shared}{ch:List Addr}(I:Inv X pins σ H s)(ho:s'.os=s.os)(u:Un (ku X.stack) ch H H' s.heap s'.heap)(hok:HOk X.prog X.w H' s'.heap)(hg:AllBare s'.gens)
 (hch:∀b∈ch,(b∈X.ex\/X.s₀.heap.objs.size<=b)/\b≠X.env.locals/\(∀x c,X.env.cells.lookup x=some c->c≠b)/\∀p∈X.pn++pins,p.1≠b):Inv X pins σ H' s':=by
 obtain⟨h',g',d',t',o'⟩:=s';have e:o'=s.os:=ho;subst e;exact I.call (g':=g') (t':=t') (d':=d') u hok hg hch
end
noncomputable abbrev XK:=Value->Option Addr->Hp->Prop
noncomputable abbrev St:=List (Option V)
noncomputable abbrev VK:=V->Hp->Prop
noncomputable abbrev TE:=St->Hp->VK->Prop
noncomputable abbrev TT:=St->Hp->(Bool->Hp->Prop)->Prop
noncomputable abbrev TA:=St->Hp->(List V->Hp->Prop)->Prop
structure Ends where
 nx:St->Hp->Prop
 rt:VK
 bk:St->Hp->Prop:=λ_ _=>False
 ct:St->Hp->Prop:=λ_ _=>False
noncomputable abbrev TS:=Ends->St->Hp->Prop
def EP(X:Cx)(pins:List (Addr×Obj))(σ:St)(Q:VK)(u:Value)(s':Shared):Prop:=∃v H',Inv X pins σ H' s'/\RelV v u/\Q v H'
def TP(X:Cx)(pins:List (Addr×Obj))(σ:St)(Q:Bool->Hp->Prop)(b:Bool)(s':Shared):Prop:=∃H',Inv X pins σ H' s'/\Q b H'
def AP(X:Cx)(pins:List (Addr×Obj))(σ:St)(Q:List V->Hp->Prop)(us:List Value)(s':Shared):Prop:=∃vs H',Inv X pins σ H' s'/\Vals vs us/\Q vs H'
def SP(X:Cx)(pins:List (Addr×Obj))(D:Ends)(f:Flow)(s':Shared):Prop:=
 match f with
 | .next=>∃σ' H',Inv X pins σ' H' s'/\D.nx σ' H'
 | .brk=>∃σ' H',Inv X pins σ' H' s'/\D.bk σ' H'
 | .cont=>∃σ' H',Inv X pins σ' H' s'/\D.ct σ' H'
 | .ret u=>∃v σ' H',Inv X pins σ' H' s'/\RelV v u/\D.rt v H'
def PE(X:Cx)(e:Expr)(t:TE):Prop:=
 ∀(pins:List (Addr×Obj)) (s:Shared) (σ:St) (H:Hp) (Q:VK),Inv X pins σ H s->t σ H Q->wpAny (model X.prog X.w) X.A (eval e X.env) (EP X pins σ Q) X.xe s
def PT(X:Cx)(e:Expr)(t:TT):Prop:=
 ∀(pins:List (Addr×Obj)) (s:Shared) (σ:St) (H:Hp) (Q:Bool->Hp->Prop),Inv X pins σ H s->t σ H Q->wpAny (model X.prog X.w) X.A (isTrue e X.env (eval e X.env)) (TP X pins σ Q) X.xe s
def PW(X:Cx)(e:Expr)(t:TT):Prop:=
 ∀(whole:Sem Value) (pins:List (Addr×Obj)) (s:Shared) (σ:St) (H:Hp) (Q:Bool->Hp->Prop),Inv X pins σ H s->t σ H Q->wpAny (model X.prog X.w) X.A (isTrue e X.env whole) (TP X pins σ Q) X.xe s
theorem PW.pt {X:Cx}{e:Expr}{t:TT}(h:PW X e t):PT X e t:=h _
def PA(X:Cx)(es:List Expr)(t:TA):Prop:=
 ∀(pos:Pos) (pins:List (Addr×Obj)) (s:Shared) (σ:St) (H:Hp) (Q:List V->Hp->Prop),Inv X pins σ H s->t σ H Q->wpAny (model X.prog X.w) X.A (spliced (backTo pos (starEach es X.env))) (AP X pins σ Q) X.xe s
def PS(X:Cx)(st:Stmt)(t:TS):Prop:=
 ∀(pins:List (Addr×Obj)) (s:Shared) (σ:St) (H:Hp) (D:Ends),Inv X pins σ H s->t D σ H->wpAny (model X.prog X.w) X.A (exec st X.env) (SP X pins D) X.xe s
def PSs(X:Cx)(st:List Stmt)(t:TS):Prop:=
 ∀(pins:List (Addr×Obj)) (s:Shared) (σ:St) (H:Hp) (D:Ends),Inv X pins σ H s->t D σ H->wpAny (model X.prog X.w) X.A (execs st X.env) (SP X pins D) X.xe s
theorem cU {α:Type}{t:Sem α}{Q Q':α->Shared->Prop}{M:Model}{A:Around}{E:Value->Shared->Prop}{s:Shared}(h:wpAny M A t Q E s)(hQ:∀a s,Q a s->Q' a s):wpAny M A t Q' E s:=wpAny_mono h hQ λ_ _ x=>x
section
variable {X:Cx}
def au(i:Nat):TE:=λσ H Q=>∃v,σ[i]? =some (some v)/\Q v H
def tC(v:V):TE:=λ_ H Q=>Q v H
theorem Ju {i:Nat}{x:Str}{pos:Pos}(hN:X.N[i]? =some x)(hv:L6 X.env.scope x)(hd:(x==("__debug__":Str))=false:=by decide)(hcd:(x==("__classdict__":Str))=false:=by decide):PE X (.Name x pos) (au i):=by
 intro pins s σ H Q I h;obtain⟨v,e,h⟩:=h;obtain⟨m,hn,hl⟩:=I.loc;obtain⟨u,r,l⟩:=hl i x v hN e hv;have fin:EP X pins σ Q u s:=⟨v,H,I,r,h⟩
 rcases l with ⟨hk,hm⟩|⟨hk,c,hc,hcell⟩
 · exact wpAny_Name (wpAny_loadName_local I.ok.kind hk hn hm fin) hd
 · rcases hk with hk|hk
   · exact wpAny_Name (wpAny_loadName_cell I.ok.kind hk hc hcell fin) hd
   · exact wpAny_Name (wpAny_loadName_free I.ok.kind hk hc hcell fin hcd) hd
theorem aO {i j pos}:PE X (.Constant (.int i) j pos) (tC (.int i)):=λ_ _ _ H _ I h=>wpAny_Constant_int ⟨.int i,H,I.tok _,⟨_,rfl⟩,h⟩
theorem j7 {b j pos}:PE X (.Constant (.bool b) j pos) (tC (.bl b)):=λ_ _ _ H _ I h=>Constant_bool ⟨.bl b,H,I,rfl,h⟩
theorem lA {j pos}:PE X (.Constant .none j pos) (tC .non):=λ_ _ _ H _ I h=>Constant_none ⟨.non,H,I,rfl,h⟩
theorem AH {x j pos}:PE X (.Constant (.str x) j pos) (tC (.str x)):=λ_ _ _ H _ I h=>Calls.Constant_str ⟨.str x,H,I.tok _,⟨_,rfl⟩,h⟩
def Gl(X:Cx)(x:Str):Prop:=X.env.kindOf x=some .globalImplicit
theorem oF {E:Value->Shared->Prop}{pins:List (Addr×Obj)}{s:Shared}{σ:St}{H:Hp}{x:Str}{u:Value}{pos:Pos}{Q:Value->Shared->Prop}(I:Inv X pins σ H s)(hg:Gl X x)(hm:X.mg x=some u)(h:Q u s)
 (hd:(x==("__debug__":Str))=false:=by decide):wpAny (model X.prog X.w) X.A (eval (.Name x pos) X.env) Q E s:=
 Calls.Name_function_global I.ok.kind hg (Calls.loadGlobal_global (by rw [I.ok.glob];exact I.mod.glob.keeps I.bk) hm h) hd
theorem qH {E:Value->Shared->Prop}{pins:List (Addr×Obj)}{s:Shared}{σ:St}{H:Hp}{x:Str}{u:Value}{pos:Pos}{Q:Value->Shared->Prop}(I:Inv X pins σ H s)(hg:Gl X x)(hm:X.mg x=none)(hv:bootBuiltins x=some u)(h:Q u s)
 (hn:x≠ "__name__":=by decide) (hd:(x==("__debug__":Str))=false:=by decide):wpAny (model X.prog X.w) X.A (eval (.Name x pos) X.env) Q E s:=by
 obtain⟨mb,h1,h2⟩:=I.mod.blt;exact Calls.Name_function_global I.ok.kind hg (Calls.loadGlobal_builtin (by rw [I.ok.glob];exact I.mod.glob.keeps I.bk) hm (by rw [I.ok.blt];exact h1.keeps I.bk) ((h2 x hn).trans hv) h) hd
theorem fj {x:Str}{v:V}{u:Value}{pos:Pos}(hg:Gl X x)(hm:X.mg x=some u)(r:RelV v u)(hd:(x==("__debug__":Str))=false:=by decide):PE X (.Name x pos) (tC v):=
 λ_ _ _ H _ I h=>oF I hg hm ⟨v,H,I,r,h⟩ hd
theorem fq {x:Str}{v:V}{u:Value}{pos:Pos}(hg:Gl X x)(hm:X.mg x=none)(hv:bootBuiltins x=some u)(r:RelV v u)(hn:x≠ "__name__":=by decide)(hd:(x==("__debug__":Str))=false:=by decide):PE X (.Name x pos) (tC v):=
 λ_ _ _ H _ I h=>qH I hg hm hv ⟨v,H,I,r,h⟩ hn hd
variable {a b:Expr} {ta tb:TE} {pos:Pos}
def PC(X:Cx)(op:CmpOp)(a b:Expr)(t:TE):Prop:=
 ∀(pins:List (Addr×Obj)) (s:Shared) (σ:St) (H:Hp) (Q:VK),Inv X pins σ H s->t σ H Q->
  wpAny (model X.prog X.w) X.A (eval a X.env) (λv s₁=>wpAny (model X.prog X.w) X.A (eval b X.env) (λu s₂=>wpAny (model X.prog X.w) X.A (compareOp op v u) (EP X pins σ Q) X.xe s₂) X.xe s₁) X.xe s
def tB(t:TE):TT:=λσ H Q=>t σ H λx H1=>∃c,x=.bl c/\Q c H1
theorem AI {op:CmpOp}{t:TE}(h:PC X op a b t)(h1:behindInMarks op b=false:=by first|exact nobehind _ (by decide) (by decide)|rfl):PT X (.Compare a [op] [b] pos) (tB t):=by
 intro pins s σ H Q I hw;refine wpAny_isTrue_Compare1 (cU (h pins s σ H _ I hw) λv s1 h1=>cU h1 λu s2 h2=>cU h2 λc s3 q_=>?_) h1;obtain⟨x,H1,I1,r1,q1⟩:=q_;obtain⟨d,rfl,q⟩:=q1;cases r1;exact wpAny_truthy_bool ⟨H1,I1,q⟩
variable {tA tB':TT} {bt:List Expr}
def L8(t u:TT):TT:=λσ H Q=>t σ H λc H1=>if c=true then u σ H1 Q else Q false H1
def NY(t u:TT):TT:=λσ H Q=>t σ H λc H1=>if c=true then Q true H1 else u σ H1 Q
def L9(t:TT):TT:=λσ H Q=>t σ H λc H1=>Q (!c) H1
theorem HF(ha:PT X a tA):PW X (.BoolOp .And [a] pos) tA:=by
 intro wh pins s σ H Q I h;refine isTrue_and (cU (ha pins s σ H Q I h) λc s1 e=>?_);cases c with
 |true=>exact isTrue_and_nil e
 |false=>exact e
theorem lB(ha:PT X a tA):PW X (.BoolOp .Or [a] pos) tA:=by
 intro wh pins s σ H Q I h;refine isTrue_or (cU (ha pins s σ H Q I h) λc s1 e=>?_);cases c with
 |false=>exact isTrue_or_nil e
 |true=>exact e
theorem Jv(ha:PT X a tA)(hb:PW X (.BoolOp .And (b::bt) pos) tB'):PW X (.BoolOp .And (a::b::bt) pos) (L8 tA tB'):=by
 intro wh pins s σ H Q I h;refine isTrue_and (cU (ha pins s σ H _ I h) λc s1 q_=>?_);obtain⟨H1,I1,q1⟩:=q_;cases c with
 |true=>exact hb wh pins s1 σ H1 Q I1 q1
 |false=>exact⟨H1,I1,q1⟩
theorem oG(ha:PT X a tA)(hb:PW X (.BoolOp .Or (b::bt) pos) tB'):PW X (.BoolOp .Or (a::b::bt) pos) (NY tA tB'):=by
 intro wh pins s σ H Q I h;refine isTrue_or (cU (ha pins s σ H _ I h) λc s1 q_=>?_);obtain⟨H1,I1,q1⟩:=q_;cases c with
 |true=>exact⟨H1,I1,q1⟩
 |false=>exact hb wh pins s1 σ H1 Q I1 q1
theorem ft(ha:PT X a tA):PT X (.UnaryOp .Not a pos) (L9 tA):=by
 intro pins s σ H Q I h;exact isTrue_not (ha pins s σ H (λc H1=>Q (!c) H1) I h)
def JQ(ta tb:TE):TE:=λσ H Q=>ta σ H λx H1=>∃c,x=.bl c/\if c=true then tb σ H1 Q else Q (.bl false) H1
def HG(ta tb:TE):TE:=λσ H Q=>ta σ H λx H1=>∃c,x=.bl c/\if c=true then Q (.bl true) H1 else tb σ H1 Q
def B4(ta:TE):TE:=λσ H Q=>ta σ H λx H1=>∃c,x=.bl c/\Q (.bl (!c)) H1
theorem nB {op}{t:TE}(h:PE X a t):PE X (.BoolOp op [a] pos) t:=λpins s σ H Q I hw=>BoolOp_one (h pins s σ H Q I hw)
theorem nE(ha:PE X a ta)(hb:PE X (.BoolOp .And (b::bt) pos) tb):PE X (.BoolOp .And (a::b::bt) pos) (JQ ta tb):=by
 intro pins s σ H Q I h;refine BoolOp_and (cU (ha pins s σ H _ I h) λv s1 q_=>?_);obtain⟨x,H1,I1,r1,q1⟩:=q_;obtain⟨c,rfl,q1⟩:=q1;cases r1;refine wpAny_truthy_bool ?_;cases c with
 |true=>exact hb pins s1 σ H1 Q I1 q1
 |false=>exact⟨.bl false,H1,I1,rfl,q1⟩
theorem JR(ha:PE X a ta)(hb:PE X (.BoolOp .Or (b::bt) pos) tb):PE X (.BoolOp .Or (a::b::bt) pos) (HG ta tb):=by
 intro pins s σ H Q I h;refine BoolOp_or (cU (ha pins s σ H _ I h) λv s1 q_=>?_);obtain⟨x,H1,I1,r1,q1⟩:=q_;obtain⟨c,rfl,q1⟩:=q1;cases r1;refine wpAny_truthy_bool ?_;cases c with
 |false=>exact hb pins s1 σ H1 Q I1 q1
 |true=>exact⟨.bl true,H1,I1,rfl,q1⟩
theorem wX(ha:PE X a ta):PE X (.UnaryOp .Not a pos) (B4 ta):=by
 intro pins s σ H Q I h;refine UnaryOp_ (cU (ha pins s σ H _ I h) λv s1 q_=>?_);obtain⟨x,H1,I1,r1,q1⟩:=q_;obtain⟨c,rfl,q1⟩:=q1;cases r1;exact not_of (wpAny_truthy_bool ⟨.bl (!c),H1,I1,rfl,q1⟩)
end
def SqL(K:Fg)(H:Hp)(a:Addr)(xs:List V):Prop:=
 Rd H a (.lst xs)\/
  ∃(o:Obj) (its:Array Value) (n:Nat),K.lookup a=some o/\o.cls=.type "list"/\o.dict=none/\o.data=.seq its n/\its.size<=sizeLine/\Vals xs its.toList
def SqT(K:Fg)(H:Hp)(a:Addr)(xs:List V):Prop:=
 Rd H a (.tup xs)\/
  ∃(o:Obj) (its:Array Value) (n:Nat),K.lookup a=some o/\o.cls=.type "tuple"/\o.data=.seq its n/\its.size<=sizeLine/\Vals xs its.toList
noncomputable def Mw:Value->Option V
 | .none=>some .non
 | .bool b=>some (.bl b)
 | .int i _=>some (.int i)
 | .str x _=>some (.str x)
 | .bytes b _=>some (.byt b)
 | .float b _=>some (.flt b)
 | .ref a=>some (.ref a)
 | .type n=>some (.ty n)
 |_=>none
theorem RelV.abs {x:V}{u:Value}(r:RelV x u):Mw u=some x:=by
 cases x with
 |non=>cases r;rfl
 |bl _=>cases r;rfl
 |int _=>obtain⟨t,rfl⟩:=r;rfl
 |str _=>obtain⟨t,rfl⟩:=r;rfl
 |byt _=>obtain⟨t,rfl⟩:=r;rfl
 |flt _=>obtain⟨t,rfl⟩:=r;rfl
 |ref _=>cases r;rfl
 |ty _=>cases r;rfl
theorem RelV.inj {x y:V}{u:Value}(r:RelV x u)(q:RelV y u):x=y:=zV (r.abs.symm.trans q.abs)
theorem Vals.inj {xs ys:List V}{us:List Value}(h:Vals xs us)(k:Vals ys us):xs=ys:=by
 induction h generalizing ys with
 |nil=>cases k;rfl
 |cons r t ih=>cases k with
  |cons r' t'=>rw [r.inj r',ih t']
section
variable {X:Cx} {pins:List (Addr×Obj)} {σ:St} {H:Hp} {s:Shared} {a:Addr} {xs ys:List V}
theorem SqL.of {K:Fg}(h:H a=some (.lst xs)):SqL K H a xs:=.inl (.inl h)
theorem SqT.of {K:Fg}(h:H a=some (.tup xs)):SqT K H a xs:=.inl (.inl h)
theorem Inv.list(I:Inv X pins σ H s)(h:SqL X.K H a xs):∃its:List Value,Vals xs its/\PlainL s.heap a its.toArray/\xs.length<=sizeLine:=by
 rcases h with h|⟨o,its,n,hk,hc,hd,hs,hz,r⟩
 · obtain⟨z,its,n,r,e⟩:=h.ok I.hok;exact⟨its,r,⟨_,n,e,rfl,rfl,rfl⟩,z⟩
 · refine⟨its.toList,r,⟨o,n,I.kIn a o hk,hc,hd,by simpa using hs⟩,?_⟩
   have e:=r.length;simp only [B2]at e;omega
theorem Inv.tuple(I:Inv X pins σ H s)(h:SqT X.K H a xs):∃its:List Value,Vals xs its/\IsTup s.heap a its.toArray/\xs.length<=sizeLine:=by
 rcases h with h|⟨o,its,n,hk,hc,hs,hz,r⟩
 · obtain⟨z,its,r,p,_⟩:=h.ok I.hok;exact⟨its,r,p,z⟩
 · refine⟨its.toList,r,⟨o,I.kIn a o hk,hc,n,by simpa using hs⟩,?_⟩
   have e:=r.length;simp only [B2]at e;omega
theorem Inv.list_inj(I:Inv X pins σ H s)(h:SqL X.K H a xs)(h':SqL X.K H a ys):xs=ys:=by
 obtain⟨its,r,⟨o,n,e,_,_,d⟩,_⟩:=I.list h;obtain⟨its',r',⟨o',n',e',_,_,d'⟩,_⟩:=I.list h';rw [e]at e';cases e';rw [d]at d';injection d' with d1 _
 have:its=its':=by simpa using congrArg Array.toList d1
 subst this;exact r.inj r'
theorem Inv.tuple_inj(I:Inv X pins σ H s)(h:SqT X.K H a xs)(h':SqT X.K H a ys):xs=ys:=by
 obtain⟨its,r,⟨o,e,_,n,d⟩,_⟩:=I.tuple h;obtain⟨its',r',⟨o',e',_,n',d'⟩,_⟩:=I.tuple h';rw [e]at e';cases e';rw [d]at d';injection d' with d1 _
 have:its=its':=by simpa using congrArg Array.toList d1
 subst this;exact r.inj r'
end
abbrev Cx.wish(X:Cx)(E:Value->Shared->Prop):Cx:={X with xe:=E}
abbrev Cx.nox(X:Cx):Cx:=X.wish λ_ _=>False
theorem Cx.Ok.wish {X:Cx}(ok:X.Ok)(E:Value->Shared->Prop):(X.wish E).Ok:=
 ⟨ok.mod,ok.kind,ok.glob,ok.blt,ok.above,ok.inj,ok.has,ok.cab,ok.hd,ok.frames,ok.stk,ok.exf,ok.bs,ok.bsz,ok.noex,ok.exfs,ok.funs,ok.frf⟩
theorem Cx.Ok.unwish {X:Cx}{E:Value->Shared->Prop}(ok:(X.wish E).Ok):X.Ok:=
 ⟨ok.mod,ok.kind,ok.glob,ok.blt,ok.above,ok.inj,ok.has,ok.cab,ok.hd,ok.frames,ok.stk,ok.exf,ok.bs,ok.bsz,ok.noex,ok.exfs,ok.funs,ok.frf⟩
section
variable {X:Cx} {pins:List (Addr×Obj)} {σ:St} {H:Hp} {s:Shared} {E:Value->Shared->Prop}
theorem Inv.wish(I:Inv X pins σ H s)(E:Value->Shared->Prop):Inv (X.wish E) pins σ H s:=⟨I.ok.wish E,I.os,I.bare,I.base,I.loc,I.cell,I.free,I.freeC,I.pin,I.hok,I.len⟩
theorem Inv.unwish(I:Inv (X.wish E) pins σ H s):Inv X pins σ H s:=⟨I.ok.unwish,I.os,I.bare,I.base,I.loc,I.cell,I.free,I.freeC,I.pin,I.hok,I.len⟩
theorem SP.unwish {D:Ends}{f:Flow}{s':Shared}(h:SP (X.wish E) pins D f s'):SP X pins D f s':=by
 cases f with
 |next=>obtain⟨σ',H',I,q⟩:=h;exact⟨σ',H',I.unwish,q⟩
 |brk=>obtain⟨σ',H',I,q⟩:=h;exact⟨σ',H',I.unwish,q⟩
 |cont=>obtain⟨σ',H',I,q⟩:=h;exact⟨σ',H',I.unwish,q⟩
 |ret u=>obtain⟨v,σ',H',I,r,q⟩:=h;exact⟨v,σ',H',I.unwish,r,q⟩
theorem PSs.nox {st:List Stmt}{t:TS}(h:PSs X.nox st t):PSs X st t:=λpins s σ H D I hw=>
 wpAny_mono (h pins s σ H D (I.wish _) hw) (λ_ _ q=>q.unwish) λ_ _ z=>False.elim z
end
section
variable {X:Cx} {st:Stmt} {bt:List Stmt} {t u:TS} {e:Expr} {te:TE} {pos:Pos}
def ib:TS:=λD σ H=>D.nx σ H
def eF(t u:TS):TS:=λD σ H=>t {D with nx:=u D} σ H
theorem bA:PSs X [] ib:=λ_ _ σ H _ I h=>wpAny_execs_nil ⟨σ,H,I,h⟩
theorem aI(h1:PS X st t)(h2:PSs X bt u):PSs X (st::bt) (eF t u):=by
 intro pins s σ H D I h;refine wpAny_execs_cons (cU (h1 pins s σ H {D with nx:=u D} I h) λf s1 q=>?_)
 cases f with
 |next=>
  obtain⟨σ',H',I',q⟩:=q;exact h2 pins s1 σ' H' D I' q
 |ret v=>exact q
 |brk=>exact q
 |cont=>exact q
theorem aM(h1:PS X st t):PSs X [st] t:=by
 intro pins s σ H D I h;refine wpAny_execs_cons (cU (h1 pins s σ H D I h) λf s1 q=>?_);cases f with
 |next=>exact wpAny_execs_nil q
 |ret v=>exact q
 |brk=>exact q
 |cont=>exact q
def EB:TS:=λD σ H=>D.bk σ H
theorem EC:PS X (.Break pos) EB:=λ_ _ σ H _ I h=>wpAny_Break ⟨σ,H,I,h⟩
theorem Inv.quiet {pins:List (Addr×Obj)}{σ:St}{H:Hp}{s:Shared}(I:Inv X pins σ H s):interactive X.env=false:=by simp [interactive,I.ok.kind]
def jJ(te:TE):TS:=λD σ H=>te σ H λ_ H1=>D.nx σ H1
theorem dY(he:PE X e te)(hs:swapsWith e none pos.line X.env=pure false:=by rfl):PS X (.Expr e pos) (jJ te):=by
 intro pins s σ H D I h;exact wpAny_Expr_any (cU (he pins s σ H _ I h) λv s1 q_=>by obtain⟨x,H1,I1,r1,q1⟩:=q_;exact⟨σ,H1,I1,q1⟩) I.quiet hs
def ju(te:TE):TS:=λD σ H=>te σ H D.rt
theorem aZ(he:PE X e te):PS X (.Return (some e) pos) (ju te):=by
 intro pins s σ H D I h;exact wpAny_Return_some (cU (he pins s σ H _ I h) λv s1 q_=>by obtain⟨x,H1,I1,r1,q1⟩:=q_;exact⟨x,σ,H1,I1,r1,q1⟩)
def nG(c:TT)(t u:TS):TS:=λD σ H=>c σ H λb H1=>if b=true then t D σ H1 else u D σ H1
theorem bu {c:Expr}{a b:List Stmt}{tc:TT}(hc:PT X c tc)(ha:PSs X a t)(hb:PSs X b u):PS X (.If c a b pos) (nG tc t u):=by
 intro pins s σ H D I h;refine wpAny_If (cU (hc pins s σ H _ I h) λd s1 q_=>?_);obtain⟨H1,I1,q1⟩:=q_;cases d with
 |true=>exact ha pins s1 σ H1 D I1 q1
 |false=>exact hb pins s1 σ H1 D I1 q1
def ED:TS:=λ_ _ _=>False
theorem lD:PS X st ED:=λ_ _ _ _ _ _ h=>h.elim
end
noncomputable abbrev TG:=V->St->Hp->(St->Hp->Prop)->Prop
noncomputable abbrev EE:=List V->St->Hp->(St->Hp->Prop)->Prop
def PG(X:Cx)(target:Expr)(t:TG):Prop:=
 ∀(pins:List (Addr×Obj)) (s:Shared) (σ:St) (H:Hp) (v:V) (u:Value) (Q:St->Hp->Prop),Inv X pins σ H s->RelV v u->t v σ H Q->
  wpAny (model X.prog X.w) X.A (assign target X.env u) (λ_ s'=>∃σ' H',Inv X pins σ' H' s'/\Q σ' H') X.xe s
def La(X:Cx)(ts:List Expr)(t:EE):Prop:=
 ∀(pins:List (Addr×Obj)) (s:Shared) (σ:St) (H:Hp) (vs:List V) (us:List Value) (Q:St->Hp->Prop),Inv X pins σ H s->Vals vs us->t vs σ H Q->
  wpAny (model X.prog X.w) X.A (assignInOrder ((assignEach ts X.env).map (·.2)) us) (λ_ s'=>∃σ' H',Inv X pins σ' H' s'/\Q σ' H') X.xe s
noncomputable abbrev Mx:=V->V->Hp->VK->Prop
def N4(X:Cx)(op:Operator)(t:Mx):Prop:=
 ∀(pins:List (Addr×Obj)) (s:Shared) (σ:St) (H:Hp) (x y:V) (v u:Value) (Q:VK),Inv X pins σ H s->RelV x v->RelV y u->t x y H Q->
  wpAny (model X.prog X.w) X.A (inplaceOp op v u) (EP X pins σ Q) X.xe s
section
variable {X:Cx} {pos:Pos}
def cE(i:Nat):TG:=λv σ H Q=>Q (σ.set i (some v)) H
theorem bF {i:Nat}{x:Str}(hN:X.N.Nodup)(hi:X.N[i]? =some x)(hx:HE X.env.scope x)(hf:X.fn x=true\/X.env.scope.names.lookup x=some .local:=by first|exact .inl rfl|exact .inr rfl|assumption):PG X (.Name x pos) (cE i):=by
 intro pins s σ H v u Q I r h;exact wpAny_assign_Name (oE I hN hi hx r (λs' I'=>⟨_,H,I',h⟩) hf)
def Lb:EE:=λvs σ H Q=>vs=[]/\Q σ H
def JS(t:TG)(u:EE):EE:=λvs σ H Q=>∃v r,vs=v::r/\t v σ H λσ' H'=>u r σ' H' Q
theorem wY:La X [] Lb:=by
 intro pins s σ H vs us Q I r h;obtain⟨e,h⟩:=h;subst e;cases r;exact assignInOrder_nil ⟨σ,H,I,h⟩
theorem j8 {e:Expr}{es:List Expr}{t:TG}{u:EE}(h1:PG X e t)(h2:La X es u)
 (hs:(assignEach (e::es) X.env).map (·.2)=assign e X.env::(assignEach es X.env).map (·.2):=by rfl):La X (e::es) (JS t u):=by
 intro pins s σ H vs us Q I r h;obtain⟨v,vr,e1,h⟩:=h;subst e1;cases r with
 |cons r rr=>
  rw [hs];refine assignInOrder_cons (cU (h1 pins s σ H _ _ _ I r h) λ_ s1 q_=>?_);obtain⟨σ1,H1,I1,q1⟩:=q_;exact h2 pins s1 σ1 H1 _ _ Q I1 rr q1
def Jw(K:Fg)(n:Nat)(t:EE):TG:=λv σ H Q=>∃a xs,v=.ref a/\SqT K H a xs/\xs.length=n/\t xs σ H Q
theorem Jx {es:List Expr}{k:Nat}{t:EE}{n:Nat}(hc:X.calm=true)(h:La X es t)
 (hn:(assignEach es X.env).length=n:=by rfl) (hst:(assignEach es X.env).findIdx? (·.1)=none:=by rfl):PG X (.Tuple es k pos) (Jw X.K n t):=by
 intro pins s σ H v u Q I r hw;obtain⟨a,xs,e1,hq,hl,hw⟩:=hw;subst e1;cases r;obtain⟨its,rv,ht,hz⟩:=I.tuple hq;refine assign_Tuple_tuple (I.ok.hd hc) ht (by simp [hn, <-hl,rv.length]) hst λh' hx=>?_
 have I1:Inv X pins σ H {s with heap:=h'}:=I.kept (t':=s.toks) λb o e=>hx b o (nA (g0 e)) e
 exact h pins _ σ H xs _ Q I1 (by simpa using rv) hw
def hV(te:TE)(g:TG):TS:=λD σ H=>te σ H λx H1=>g x σ H1 D.nx
theorem AJ {i:Nat}{x:Str}{e:Expr}{te:TE}{pos':Pos}(hN:X.N.Nodup)(hi:X.N[i]? =some x)(hx:HE X.env.scope x)(he:PE X e te)(hs:swapsWith e (some (.Name x pos')) pos.line X.env=pure false:=by rfl)(hf:X.fn x=true\/X.env.scope.names.lookup x=some .local:=by first|exact .inl rfl|exact .inr rfl|assumption):
 PS X (.Assign [.Name x pos'] e pos) (hV te (cE i)):=by
 intro pins s σ H D I h;refine wpAny_Assign_Name (cU (he pins s σ H _ I h) λv s1 q_=>?_) hs;obtain⟨y,H1,I1,r1,q1⟩:=q_;exact oE I1 hN hi hx r1 (λs2 I2=>⟨_,H1,I2,q1⟩) hf
def Jy(i:Nat)(te:TE)(ti:Mx):TS:=λD σ H=>∃x,σ[i]? =some (some x)/\te σ H λy H1=>ti x y H1 λz H2=>D.nx (σ.set i (some z)) H2
theorem wZ {i:Nat}{x:Str}{e:Expr}{te:TE}{op:Operator}{ti:Mx}{pos':Pos}(hN:X.N.Nodup)(hi:X.N[i]? =some x)(hx:HE X.env.scope x)(he:PE X e te)(ho:N4 X op ti)(hf:X.fn x=true\/X.env.scope.names.lookup x=some .local:=by first|exact .inl rfl|exact .inr rfl|assumption):
 PS X (.AugAssign (.Name x pos') op e pos) (Jy i te ti):=by
 intro pins s σ H D I h;obtain⟨v,e1,h⟩:=h;obtain⟨m,hn,hl⟩:=I.loc;have vis:L6 X.env.scope x:=by rcases hx with k|k;exact .inl k;exact .inr (.inl k)
 obtain⟨u,r,l⟩:=hl i x v hi e1 vis;refine wpAny_AugAssign_Name ?_;have go:wpAny (model X.prog X.w) X.A (eval e X.env) (λw s₂=>wpAny (model X.prog X.w) X.A (inplaceOp op u w) (λr s₃=>wpAny (model X.prog X.w) X.A (storeName X.env x r) (λ_=>SP X pins D .next) X.xe s₃) X.xe s₂) X.xe s:=by
  refine cU (he pins s σ H _ I h) λw s1 q_=>?_;obtain⟨y,H1,I1,r1,q1⟩:=q_;refine cU (ho pins s1 σ H1 v y u w _ I1 r r1 q1) λz s2 q_=>?_;obtain⟨zv,H2,I2,r2,q2⟩:=q_;exact oE I2 hN hi hx r2 (λs3 I3=>⟨_,H2,I3,q2⟩) hf
 rcases l with ⟨hk,hm⟩|⟨hk,c,hc,hcell⟩
 · exact wpAny_loadName_local I.ok.kind hk hn hm go
 · rcases hk with hk|hk
   · exact wpAny_loadName_cell I.ok.kind hk hc hcell go
   · rcases hx with k|k
     · have:X.env.scope.names.lookup x=some .free:=hk;rw [k]at this;cases this
     · have:X.env.scope.names.lookup x=some .free:=hk;rw [k]at this;cases this
end
section
variable {X:Cx} {pos:Pos}
def EF(c:TT)(tb:TS):TS:=λD σ H=>∃W:Nat->St->Hp->Prop,(∃m,W m σ H)/\∀m σ H,W m σ H->
 c σ H λb H1=>if b=true then ∃N:St->Hp->Prop,(∀σ' H',N σ' H'->∃m',m' < m/\W m' σ' H')/\tb {D with nx:=N,ct:=N,bk:=D.nx} σ H1 else D.nx σ H1
theorem EG {c:Expr}{body:List Stmt}{tc:TT}{tb:TS}(hp:PassesOwn (model X.prog X.w) X.A X.env X.xe)(hc:PT X c tc)(hb:PSs X body tb):PS X (.While c body [] pos) (EF tc tb):=by
 intro pins s σ H D I h;obtain⟨W,⟨m0,w0⟩,turn⟩:=h;refine wpAny_While (codeAny_whileLoop (λn s'=>∃σ' H',Inv X pins σ' H' s'/\W n σ' H') ?_ m0 ⟨σ,H,I,w0⟩);rintro n s1 ⟨σ1,H1,I1,w1⟩;refine wpAny_passesOwn hp (cU (hc pins s1 σ1 H1 _ I1 (turn n σ1 H1 w1)) λb s2 q_=>?_);obtain⟨H2,I2,q2⟩:=q_;cases b with
 |true=>
  obtain⟨N,hN,q2⟩:=q2;rw [if_pos rfl];refine wpAny_passesOwn hp (cU (hb pins s2 σ1 H2 _ I2 q2) λf s3 q3=>?_);cases f with
  |next=>
   obtain⟨σ3,H3,I3,n3⟩:=q3;obtain⟨m',hm,w3⟩:=hN σ3 H3 n3;exact⟨m',hm,σ3,H3,I3,w3⟩
  |cont=>
   obtain⟨σ3,H3,I3,n3⟩:=q3;obtain⟨m',hm,w3⟩:=hN σ3 H3 n3;exact⟨m',hm,σ3,H3,I3,w3⟩
  |brk=>exact q3
  |ret v=>exact q3
 |false=>
  rw [if_neg Q7];exact wpAny_execs_nil ⟨σ1,H2,I2,q2⟩
end
structure It where
 go:Nat->Hp->Prop
 yld:Nat->Hp->V->Hp->Prop
 stop:Nat->Hp->Prop
def nH(X:Cx)(pins:List (Addr×Obj))(H:Hp)(b:Addr):Prop:=
 H b=none/\b≠X.env.locals/\b ∉ X.fs/\(b∈X.ex\/X.s₀.heap.objs.size<=b)/\(∀x c,X.env.cells.lookup x=some c->c≠b)/\∀p∈X.pn++pins,p.1≠b
theorem Inv.fpOk {X:Cx}{pins:List (Addr×Obj)}{σ:St}{H H':Hp}{s:Shared}{b:Addr}(I:Inv X pins σ H s)(hb:s.heap.objs.size<=b)(hn:H' b=none):nH X pins H' b:=by
 refine⟨hn,Dr (j6 I.lt hb),I.nofs hb,.inr (Qe I.sz hb),λx c e z=>?_,λp hp z=>?_⟩
 · obtain⟨v,q⟩:=I.cell x c e;exact absurd (j6 q.lt (by rw [z];exact hb)) (zT _)
 · exact absurd (j6 (g0 (I.pin p hp).1) (by rw [z];exact hb)) (zT _)
structure Turn (P:Program) (w:World) (K:Fg) (tg:Expr) (J:It) (fp:List Addr) (it:Addr) (tn:Nat->Heap->Prop):Prop where
 mem:it∈fp
 obj:∀i h,tn i h->∀b∈fp,∃o,h.get? b=some o/\∀v,o.data≠ .cell v
 keep:∀i h h',tn i h->(∀b∈fp,∀o,h.get? b=some o->h'.get? b=some o)->tn i h'
 item:∀(X:Cx),X.prog=P->X.w=w->X.K=K->X.calm=true->∀(i:Nat) (pins:List (Addr×Obj)) (s:Shared) (σ:St) (H:Hp) (E:Value->Shared->Prop),Inv X pins σ H s->(∀b∈fp,nH X pins H b)->tn i s.heap->J.go i H->
  wpAny (model P w) X.A (pyNext (.ref it)) (λr s1=>∃u,r=some u/\
   wpAny (model P w) X.A (letOwnedTupleGo tg (.ref it) u) (λ_ s2=>∃x H',Inv X pins σ H' s2/\RelV x u/\J.yld i H x H'/\tn (i+1) s2.heap/\∀b∈fp,H' b=none) E s1) E s
 done:∀(X:Cx),X.prog=P->X.w=w->X.K=K->X.calm=true->∀(i:Nat) (pins:List (Addr×Obj)) (s:Shared) (σ:St) (H:Hp) (E:Value->Shared->Prop),Inv X pins σ H s->(∀b∈fp,nH X pins H b)->tn i s.heap->J.stop i H->
  wpAny (model P w) X.A (pyNext (.ref it)) (λr s1=>r=none/\Inv X pins σ H s1) E s
 self:∀(A:Around) (i:Nat) (s:Shared) (Q:Value->Shared->Prop) (E:Value->Shared->Prop),tn i s.heap->Q (.ref it) s->wpAny (model P w) A (pyIter (.ref it)) Q E s
noncomputable abbrev TI:=St->Hp->(It->Hp->Prop)->Prop
def My(X:Cx)(pins:List (Addr×Obj))(σ:St)(tg:Expr)(R:It->Hp->Prop)(itv:Value)(s2:Shared):Prop:=
 ∃(it:Addr) (fp:List Addr) (tn:Nat->Heap->Prop) (J:It) (H':Hp),itv=.ref it/\Inv X pins σ H' s2/\Turn X.prog X.w X.K tg J fp it tn/\tn 0 s2.heap/\(∀b∈fp,nH X pins H' b)/\R J H'
def PI(X:Cx)(tg iter:Expr)(wi:TI):Prop:=
 ∀(pins:List (Addr×Obj)) (s:Shared) (σ:St) (H:Hp) (R:It->Hp->Prop),Inv X pins σ H s->wi σ H R->
  wpAny (model X.prog X.w) X.A (eval iter X.env) (λv s1=>wpAny (model X.prog X.w) X.A (pyIter v) (My X pins σ tg R) X.xe s1) X.xe s
theorem B5 {M:Model}{A:Around}{E:Value->Shared->Prop}{s:Shared}{tg:Expr}{it:Addr}{u:Value}{o:Obj}{n:String}{vs:Array Value}{Q:Unit->Shared->Prop}(ho:s.heap.get? it=some o)(hc:o.cls=.type n)(hd:o.data=.fields vs)
 (hn:["enumerate","zip","dict_itemiterator","dict_reverseitemiterator","odict_iterator","itertools.zip_longest","itertools.pairwise"].contains n=false) (hQ:Q () s):wpAny M A (letOwnedTupleGo tg (.ref it) u) Q E s:=by
 unfold letOwnedTupleGo;cases tg<;>first
  |exact wP hQ
  |(cases u<;>first
   |exact wP hQ
   | (refine wB (wpAny_load ho ?_)
      rw [hc,hd];show wpAny M A (if(["enumerate","zip","dict_itemiterator","dict_reverseitemiterator","odict_iterator","itertools.zip_longest","itertools.pairwise"].contains n&&vs[0]? ==some (rawInt _))=true then _ else _) Q E s;rw [if_neg (by intro h;rw [hn,Bool.false_and]at h;cases h)]
      exact wP hQ))
def Mz(K:Fg)(a:Addr):It:=
 ⟨λi H=>∃xs x,SqL K H a xs/\xs[i]? =some x,λi H x H'=>H'=H/\∀xs,SqL K H a xs->xs[i]? =some x,λi H=>∃xs,SqL K H a xs/\xs.length<=i⟩
def NA(K:Fg)(a:Addr):It:=
 ⟨λi H=>∃xs x,SqT K H a xs/\xs[i]? =some x,λi H x H'=>H'=H/\∀xs,SqT K H a xs->xs[i]? =some x,λi H=>∃xs,SqT K H a xs/\xs.length<=i⟩
def Ml(lo:Int)(n:Nat):It:=⟨λi _=>i < n,λi H x H'=>H'=H/\x=.int (lo+i),λi _=>n<=i⟩
theorem Ca {P:Program}{w:World}{K:Fg}{tg:Expr}(a it:Addr):Turn P w K tg (Mz K a) [it] it (λi h=>h.IsListIter it a i) where
 mem:=by simp
 obj:=λi h st b hb=>by
  have e:b=it:=by simpa using hb
  subst e;obtain⟨o,e,c,d⟩:=st;exact⟨o,e,λv z=>by rw [d]at z;cases z⟩
 keep:=λi h h' st k=>st.at λo e=>k it (by simp) o e
 item:=by
  intro X hP hw hK hc i pins s σ H E I hf st hg;subst hP hw hK;obtain⟨xs,x,hq,hx⟩:=hg;obtain⟨its,rv,p,hz⟩:=I.list hq;obtain⟨u,hu,ru⟩:=rv.get hx;obtain⟨f0,f1,f2,f3,f4,f5⟩:=hf it (by simp)
  refine wpAny_pyNext_list_item st p.isList (x:=u) (by simpa using hu) λh' st' sb=>?_
  have I1:Inv X pins σ H {s with heap:=h'}:=I.turned (t':=s.toks) (λb o hb e=>(sb.2 b hb).trans e) f0 f1 f3 f4 f5
  obtain⟨o,e,c,d⟩:=id st';exact⟨u,rfl,B5 (s:={s with heap:=h'}) e c d (by decide) ⟨x,H,I1,ru,⟨rfl,λys hy=>by rw [I.list_inj hy hq];exact hx⟩,st',λb hb=>(hf b hb).1⟩⟩
 done:=by
  intro X hP hw hK hc i pins s σ H E I hf st hg;subst hP hw hK;obtain⟨xs,hq,hx⟩:=hg;obtain⟨its,rv,p,hz⟩:=I.list hq;obtain⟨f0,f1,f2,f3,f4,f5⟩:=hf it (by simp)
  have hl:=rv.length;exact wpAny_pyNext_list_end (I.ok.hd hc) st p.isList (by simp;omega) λh' eb=>⟨rfl,I.turned (t':=s.toks) (λb o hb e=>eb b o hb e) f0 f1 f3 f4 f5⟩
 self:=λ_ _ _ _ _ st h=>wpAny_pyIter_listiter st h
theorem AK {P:Program}{w:World}{K:Fg}{tg:Expr}(a it:Addr):Turn P w K tg (NA K a) [it] it (λi h=>h.IsTupleIter it a i) where
 mem:=by simp
 obj:=λi h st b hb=>by
  have e:b=it:=by simpa using hb
  subst e;obtain⟨o,e,c,d⟩:=st;exact⟨o,e,λv z=>by rw [d]at z;cases z⟩
 keep:=λi h h' st k=>st.at λo e=>k it (by simp) o e
 item:=by
  intro X hP hw hK hc i pins s σ H E I hf st hg;subst hP hw hK;obtain⟨xs,x,hq,hx⟩:=hg;obtain⟨its,rv,p,hz⟩:=I.tuple hq;obtain⟨u,hu,ru⟩:=rv.get hx;obtain⟨f0,f1,f2,f3,f4,f5⟩:=hf it (by simp)
  refine wpAny_pyNext_tuple_item st (show s.heap.IsTuple a its.toArray from p) (x:=u) (by simpa using hu) λh' st' sb=>?_
  have I1:Inv X pins σ H {s with heap:=h'}:=I.turned (t':=s.toks) (λb o hb e=>(sb.2 b hb).trans e) f0 f1 f3 f4 f5
  obtain⟨o,e,c,d⟩:=id st';exact⟨u,rfl,B5 (s:={s with heap:=h'}) e c d (by decide) ⟨x,H,I1,ru,⟨rfl,λys hy=>by rw [I.tuple_inj hy hq];exact hx⟩,st',λb hb=>(hf b hb).1⟩⟩
 done:=by
  intro X hP hw hK hc i pins s σ H E I hf st hg;subst hP hw hK;obtain⟨xs,hq,hx⟩:=hg;obtain⟨its,rv,p,hz⟩:=I.tuple hq;obtain⟨f0,f1,f2,f3,f4,f5⟩:=hf it (by simp)
  have hl:=rv.length;exact wpAny_pyNext_tuple_end (I.ok.hd hc) st (show s.heap.IsTuple a its.toArray from p) (by simp;omega) λh' eb=>⟨rfl,I.turned (t':=s.toks) (λb o hb e=>eb b o hb e) f0 f1 f3 f4 f5⟩
 self:=λ_ _ _ _ _ st h=>wpAny_pyIter_tupleiter st h
theorem AL {P:Program}{w:World}{K:Fg}{tg:Expr}(it:Addr)(lo:Int)(n:Nat):Turn P w K tg (Ml lo n) [it] it (λi h=>IsRangeIter h it (lo+(i:Nat)*1) ((n:Int) - (i:Nat)) 1) where
 mem:=by simp
 obj:=λi h st b hb=>by
  have e:b=it:=by simpa using hb
  subst e;exact⟨_,st,λv z=>by
   have z':Data.fields _=Data.cell v:=z;cases z'⟩
 keep:=λi h h' st k=>k it (by simp) _ st
 item:=by
  intro X hP hw hK hc i pins s σ H E I hf st hg;subst hP hw hK;obtain⟨f0,f1,f2,f3,f4,f5⟩:=hf it (by simp)
  have W:=Walks.range (prog:=X.prog) (w:=X.w) (I.ok.hd hc) it lo 1 n;refine W.item i s _ _ hg st λv h' tk hv st' kk=>?_;obtain⟨t,rfl⟩:=hv;have I1:Inv X pins σ H {s with heap:=h',toks:=tk}:=I.turned (λb o hb e=>kk b o (by simpa using hb) e) f0 f1 f3 f4 f5
  refine⟨_,rfl,B5 (s:={s with heap:=h',toks:=tk}) (n:="range_iterator") st' rfl rfl (by decide) ⟨.int (lo+i),H,I1,⟨t,?_⟩,⟨rfl,rfl⟩,st',λb hb=>(hf b hb).1⟩⟩
  rw [Int.mul_one]
 done:=by
  intro X hP hw hK hc i pins s σ H E I hf st hg;subst hP hw hK;obtain⟨f0,f1,f2,f3,f4,f5⟩:=hf it (by simp)
  exact wpAny_pyNext_range_end (I.ok.hd hc) st (by have:n<=i:=hg;omega) λh' eb=>⟨rfl,I.turned (t':=s.toks) (λb o hb e=>eb b o hb e) f0 f1 f3 f4 f5⟩
 self:=λ_ _ _ _ _ st h=>wpAny_pyIter_rangeiter st h
section
variable {X:Cx} {tg:Expr}
theorem EH {pins:List (Addr×Obj)}{σ:St}{H:Hp}{s:Shared}{R:It->Hp->Prop}{E:Value->Shared->Prop}{lo hi:Int}{t u v:Tok}{tk:Nat}(I:Inv X pins σ H s)(h1: -(2 ^ 62)<=lo)(h2:lo < 2 ^ 62)(h3: -(2 ^ 62)<=hi)(h4:hi < 2 ^ 62)
 (q:R (Ml lo (hi - lo).toNat) H):wpAny (model X.prog X.w) X.A (pyIter (.ref s.heap.objs.size)) (My X pins σ tg R) E {s with heap:=s.heap.push {cls:=.type "range",data:=.fields #[.int lo t,.int hi u,.int 1 v]},toks:=tk}:=by
 refine wpAny_pyIter_range (IsRange.new ..) (small_one h1 h2 h3 h4) ?_;have I1:Inv X pins σ H {s with heap:=s.heap.push {cls:=.type "range",data:=.fields #[.int lo t,.int hi u,.int 1 v]},toks:=tk}:=I.kept λb o e=>iM _ e
 refine⟨(s.heap.push {cls:=.type "range",data:=.fields #[.int lo t,.int hi u,.int 1 v]}).objs.size,[(s.heap.push {cls:=.type "range",data:=.fields #[.int lo t,.int hi u,.int 1 v]}).objs.size],_,_,H,rfl,
  I1.kept (t':=tk) λb o e=>iM _ e,AL _ lo (hi - lo).toNat,?_,λb hb=>?_,q⟩
 · have e1:lo+((0:Nat):Int)*1=lo:=by simp
   have e2:(((hi - lo).toNat:Nat):Int) - ((0:Nat):Int)=Builtin.Range.rangeSize lo hi 1:=by rw [rangeSize_one];split<;>omega
   show IsRangeIter _ _ (lo+((0:Nat):Int)*1) ((((hi - lo).toNat:Nat):Int) - ((0:Nat):Int)) 1;rw [e1,e2];exact kf _ rfl
 · have e:b=(s.heap.push {cls:=.type "range",data:=.fields #[.int lo t,.int hi u,.int 1 v]}).objs.size:=by simpa using hb
   subst e;exact I1.fpOk (Q2 _) (I1.hok.fresh (Q2 _))
def JT(ta:TA):TI:=λσ H R=>ta σ H λvs H1=>∃j:Int,vs=[.int j]/\ -(2 ^ 62)<=j/\j < 2 ^ 62/\R (Ml 0 j.toNat) H1
theorem eU {a:Expr}{ta:TA}{p pos:Pos}(hg:Gl X "range")(hm:X.mg "range"=none)(ha:PA X [a] ta)(hs:starEach [a] X.env=[(false,eval a X.env)]:=by rfl):PI X tg (.Call (.Name "range" p) [a] [] pos) (JT ta):=by
 intro pins s σ H R I h;refine Call_ (qH I hg hm boot_range (PyProof.Rows.callWith_type1 (cU (ha pos pins s σ H _ I h) λus s1 q_=>?_) hs rfl));obtain⟨vs,H1,I1,r1,q1⟩:=q_;obtain⟨j,e,q1,q2,q⟩:=q1;subst e;cases r1 with
 |cons r rr=>
  cases rr;obtain⟨t,rfl⟩:=r;exact call_range_1 (EH I1 (by omega) (by omega) q1 q2 (by simpa using q))
def rP(wi:TI)(g:TG)(tb:TS):TS:=λD σ H=>wi σ H λJ H1=>∃W:Nat->Nat->St->Hp->Prop,(∃m,W 0 m σ H1)/\∀i m σ H,W i m σ H->
 (J.stop i H/\D.nx σ H)\/(J.go i H/\∃N:St->Hp->Prop,(∀σ' H',N σ' H'->∃m',m' < m/\W (i+1) m' σ' H')/\∀x H',J.yld i H x H'->g x σ H' λσ2 H2=>tb {D with nx:=N,ct:=N,bk:=D.nx} σ2 H2)
noncomputable def sS(fp:List Addr)(h:Heap):List (Addr×Obj):=fp.filterMap λb=>(h.get? b).map λo=>(b,o)
theorem jv {fp:List Addr}{h:Heap}{b:Addr}{o:Obj}(hb:b∈fp)(e:h.get? b=some o):(b,o)∈sS fp h:=List.mem_filterMap.mpr ⟨b,hb,by rw [e];rfl⟩
theorem Cb {fp:List Addr}{h:Heap}{p:Addr×Obj}(hp:p∈sS fp h):p.1∈fp/\h.get? p.1=some p.2:=by
 obtain⟨b,hb,e⟩:=List.mem_filterMap.mp hp;cases q:h.get? b with
 |none=>rw [q]at e;cases e
 |some o=>
  rw [q]at e;have e':(b,o)=p:=zV e;subst e';exact⟨hb,q⟩
theorem Inv.pinned {pins:List (Addr×Obj)}{σ:St}{H:Hp}{s:Shared}{fp:List Addr}(I:Inv X pins σ H s)(hf:∀b∈fp,nH X pins H b)(ho:∀b∈fp,∃o,s.heap.get? b=some o/\∀v,o.data≠ .cell v):Inv X (pins++sS fp s.heap) σ H s:=
 I.pins_of λp hp=>(Du.mp hp).elim (λz=>I.pin p (C4 _ z)) λz=>by
  obtain⟨hb,e⟩:=Cb z;obtain⟨f0,f1,f2,_⟩:=hf p.1 hb;obtain⟨o,e',d⟩:=ho p.1 hb;rw [e]at e';cases e';exact⟨e,f0,f1,f2,d⟩
theorem Inv.unpinned {pins pl:List (Addr×Obj)}{σ:St}{H:Hp}{s:Shared}(I:Inv X (pins++pl) σ H s):Inv X pins σ H s:=I.pins_of λp hp=>I.pin p (C4 _ (List.mem_append_left _ hp))
theorem dm {iter:Expr}{body:List Stmt}{wi:TI}{g:TG}{tb:TS}{pos:Pos}(hp:PassesOwn (model X.prog X.w) X.A X.env X.xe)(hc:X.calm=true)(hi:PI X tg iter wi)(hg:PG X tg g)(hb:PSs X body tb)
 (hs:∀x,foldedSetIterable iter X.env x=pure x:=by intro _;rfl):PS X (.For tg iter body [] pos) (rP wi g tb):=by
 intro pins s σ H D I h;refine wpAny_For (cU (hi pins s σ H _ I h) λv s1 h1=>cU h1 λitv s2 h2=>?_) hs;obtain⟨it,fp,tn,J,H2,e,I2,T,st2,f2,W,⟨m0,w0⟩,turn⟩:=h2;subst e;have stat:∀{H':Hp},(∀b∈fp,H' b=none)->∀b∈fp,nH X pins H' b:=λhn b hb=>⟨hn b hb,(f2 b hb).2⟩;refine codeAny_forLoop_any (λn s'=>∃i σ' H',Inv X pins σ' H' s'/\tn i s'.heap/\(∀b∈fp,H' b=none)/\W i n σ' H') ?_ m0 ⟨0,σ,H2,I2,st2,λb hb=>(f2 b hb).1,w0⟩;rintro n s3 ⟨i,σ3,H3,I3,st3,fr3,w3⟩
 rcases turn i n σ3 H3 w3 with ⟨stop,qn⟩|⟨go,N,hN,step⟩
 · refine wpAny_passesOwn hp (cU (T.done X rfl rfl rfl hc i pins s3 σ3 H3 X.xe I3 (stat fr3) st3 stop) λr s4 q_=>?_);obtain⟨hr,I4⟩:=q_;subst hr;exact wpAny_execs_nil ⟨σ3,H3,I4,qn⟩
 · refine wpAny_passesOwn hp (cU (T.item X rfl rfl rfl hc i pins s3 σ3 H3 X.xe I3 (stat fr3) st3 go) λr s4 q_=>?_);obtain⟨u,hr,h4⟩:=q_;subst hr;refine wpAny_passesOwn hp (cU h4 λ_ s5 q_=>?_);obtain⟨x,H5,I5,r5,y5,st5,fr5⟩:=q_;have I5':=I5.pinned (stat fr5) (T.obj _ _ st5);refine wpAny_passesOwn hp (cU (hg _ s5 σ3 H5 x u _ I5' r5 (step x H5 y5)) λ_ s6 q_=>?_);obtain⟨σ6,H6,I6,q6⟩:=q_;refine wpAny_passesOwn hp (cU (hb _ s6 σ6 H6 _ I6 q6) λf s7 q7=>?_);have again:∀{σ7:St} {H7:Hp},Inv X (pins++sS fp s5.heap) σ7 H7 s7->N σ7 H7->∃m,m < n/\∃i σ' H',Inv X pins σ' H' s7/\tn i s7.heap/\(∀b∈fp,H' b=none)/\W i m σ' H':=λ{σ7 H7} I7 n7=>by
    obtain⟨m',hm,w7⟩:=hN σ7 H7 n7;refine⟨m',hm,i+1,σ7,H7,I7.unpinned,T.keep _ _ _ st5 λb hb o e=>(I7.pin (b,o) (C4 _ (C4 _ (jv hb e)))).1,λb hb=>?_,w7⟩;obtain⟨o,e,d⟩:=T.obj _ _ st5 b hb;exact(I7.pin (b,o) (C4 _ (C4 _ (jv hb e)))).2.1
   cases f with
   |next=>obtain⟨σ7,H7,I7,n7⟩:=q7;exact again I7 n7
   |cont=>obtain⟨σ7,H7,I7,n7⟩:=q7;exact again I7 n7
   |brk=>obtain⟨σ7,H7,I7,q7⟩:=q7;exact⟨σ7,H7,I7.unpinned,q7⟩
   |ret v=>obtain⟨x7,σ7,H7,I7,r7,q7⟩:=q7;exact⟨x7,σ7,H7,I7.unpinned,r7,q7⟩
end
noncomputable abbrev R2:=V->V->Hp->VK->Prop
def OpR(X:Cx)(f:Value->Value->Sem Value)(r:R2):Prop:=
 ∀(pins:List (Addr×Obj)) (s:Shared) (σ:St) (H:Hp) (x y:V) (v u:Value) (Q:VK),Inv X pins σ H s->RelV x v->RelV y u->r x y H Q->
  wpAny (model X.prog X.w) X.A (f v u) (EP X pins σ Q) X.xe s
def NB(X:Cx)(f:Value->Sem Value)(r:V->Hp->VK->Prop):Prop:=
 ∀(pins:List (Addr×Obj)) (s:Shared) (σ:St) (H:Hp) (x:V) (v:Value) (Q:VK),Inv X pins σ H s->RelV x v->r x H Q->
  wpAny (model X.prog X.w) X.A (f v) (EP X pins σ Q) X.xe s
def fu(X:Cx)(f:Value)(r:List V->Hp->VK->Prop):Prop:=
 ∀(pins:List (Addr×Obj)) (s:Shared) (σ:St) (H:Hp) (xs:List V) (us:List Value) (Q:VK),Inv X pins σ H s->Vals xs us->r xs H Q->
  wpAny (model X.prog X.w) X.A (call f us) (EP X pins σ Q) X.xe s
def NC(X:Cx)(r:V->Hp->(Bool->Hp->Prop)->Prop):Prop:=
 ∀(pins:List (Addr×Obj)) (s:Shared) (σ:St) (H:Hp) (x:V) (v:Value) (Q:Bool->Hp->Prop),Inv X pins σ H s->RelV x v->r x H Q->
  wpAny (model X.prog X.w) X.A (truthy v) (TP X pins σ Q) X.xe s
def HH(r:R2)(ta tb:TE):TE:=λσ H Q=>ta σ H λx H1=>tb σ H1 λy H2=>r x y H2 Q
def NZ(r:V->Hp->VK->Prop)(ta:TE):TE:=λσ H Q=>ta σ H λx H1=>r x H1 Q
def rI(C:Int->Int->Prop)(g:Int->Int->V):R2:=λx y H Q=>∃i j,x=.int i/\y=.int j/\C i j/\Q (g i j) H
def AE(g:Int->Int->V):R2:=λx y H Q=>∃i j,x=.int i/\y=.int j/\Q (g i j) H
def rU(g:Int->V):V->Hp->VK->Prop:=λx H Q=>∃i,x=.int i/\Q (g i) H
section
variable {X:Cx} {a b c:Expr} {ta tb tc:TE} {pos:Pos}
theorem Jz(ha:PE X a ta)(hb:PE X b tb){pins:List (Addr×Obj)}{s:Shared}{σ:St}{H:Hp}{R:V->V->Hp->Prop}(I:Inv X pins σ H s)
 (h:ta σ H λx H1=>tb σ H1 λy H2=>R x y H2) {Q:Value->Shared->Prop} {f:Value->Value->Sem Value}
 (hf:∀v u s2 x y H2,Inv X pins σ H2 s2->RelV x v->RelV y u->R x y H2->wpAny (model X.prog X.w) X.A (f v u) Q X.xe s2):
 wpAny (model X.prog X.w) X.A (eval a X.env) (λv s₁=>wpAny (model X.prog X.w) X.A (eval b X.env) (λu s₂=>wpAny (model X.prog X.w) X.A (f v u) Q X.xe s₂) X.xe s₁) X.xe s:=by
 refine cU (ha pins s σ H _ I h) λv s1 q_=>?_;obtain⟨x,H1,I1,r1,q1⟩:=q_;refine cU (hb pins s1 σ H1 _ I1 q1) λu s2 q_=>?_;obtain⟨y,H2,I2,r2,q2⟩:=q_;exact hf v u s2 x y H2 I2 r1 r2 q2
theorem cq {op:Operator}{r:R2}(ho:OpR X (binaryOp op) r)(ha:PE X a ta)(hb:PE X b tb):PE X (.BinOp a op b pos) (HH r ta tb):=by
 intro pins s σ H Q I h;exact wpAny_BinOp (Jz ha hb I h λv u s2 x y H2 I2 rx ry q=>ho pins s2 σ H2 x y v u Q I2 rx ry q)
theorem EI {op:UnaryOp}{r:V->Hp->VK->Prop}(ho:NB X (unaryOp op) r)(ha:PE X a ta):PE X (.UnaryOp op a pos) (NZ r ta):=by
 intro pins s σ H Q I h;exact UnaryOp_ (cU (ha pins s σ H _ I h) λv s1 q_=>by obtain⟨x,H1,I1,r1,q1⟩:=q_;exact ho pins s1 σ H1 x v Q I1 r1 q1)
theorem ND {f:Value->Value->Sem Value}{C:Int->Int->Prop}{g:Int->Int->Int}
 (rule:∀(i j:Int) (t u:Tok) (s:Shared) (Q:Value->Shared->Prop) (E:Value->Shared->Prop),C i j->Q (.int (g i j) s.toks) {s with toks:=s.toks+1}->wpAny (model X.prog X.w) X.A (f (.int i t) (.int j u)) Q E s):
 OpR X f (rI C λi j=>.int (g i j)):=by
 intro pins s σ H x y v u Q I rx ry h;obtain⟨i,j,rfl,rfl,hc,q⟩:=h;obtain⟨t,rfl⟩:=rx;obtain⟨t',rfl⟩:=ry;exact rule i j t t' s _ _ hc ⟨.int (g i j),H,I.tok _,⟨_,rfl⟩,q⟩
theorem KA {f:Value->Value->Sem Value}{g:Int->Int->Int}
 (rule:∀(i j:Int) (t u:Tok) (s:Shared) (Q:Value->Shared->Prop) (E:Value->Shared->Prop),Q (.int (g i j) s.toks) {s with toks:=s.toks+1}->wpAny (model X.prog X.w) X.A (f (.int i t) (.int j u)) Q E s):
 OpR X f (AE λi j=>.int (g i j)):=by
 intro pins s σ H x y v u Q I rx ry h;obtain⟨i,j,rfl,rfl,q⟩:=h;obtain⟨t,rfl⟩:=rx;obtain⟨t',rfl⟩:=ry;exact rule i j t t' s _ _ ⟨.int (g i j),H,I.tok _,⟨_,rfl⟩,q⟩
theorem KB {f:Value->Value->Sem Value}{g:Int->Int->Bool}
 (rule:∀(i j:Int) (t u:Tok) (s:Shared) (Q:Value->Shared->Prop) (E:Value->Shared->Prop),Q (.bool (g i j)) s->wpAny (model X.prog X.w) X.A (f (.int i t) (.int j u)) Q E s):
 OpR X f (AE λi j=>.bl (g i j)):=by
 intro pins s σ H x y v u Q I rx ry h;obtain⟨i,j,rfl,rfl,q⟩:=h;obtain⟨t,rfl⟩:=rx;obtain⟨t',rfl⟩:=ry;exact rule i j t t' s _ _ ⟨.bl (g i j),H,I,rfl,q⟩
def CMul(i j:Int):Prop:=(-(2 ^ 64) < i/\i < 2 ^ 64)\/(-(2 ^ 64) < j/\j < 2 ^ 64)
theorem CMul.ok {i j:Int}(h:CMul i j):IntMulOk i j:=by
 rcases h with ⟨h1,h2⟩|⟨h1,h2⟩
 · exact .of_left (intBits_le_64 h1 h2)
 · exact .of_right (intBits_le_64 h1 h2)
theorem KC:OpR X (binaryOp .Add) (AE λi j=>.int (i+j)):=KA λ_ _ _ _ _ _ _ q=>add_int q
theorem qI:OpR X (binaryOp .Sub) (AE λi j=>.int (i - j)):=KA λ_ _ _ _ _ _ _ q=>sub_int q
theorem qJ:OpR X (binaryOp .Mult) (rI CMul λi j=>.int (i*j)):=ND λ_ _ _ _ _ _ _ hc q=>mul_int q hc.ok
theorem w9:OpR X (binaryOp .Mod) (rI (λ_ j=>0 < j) λi j=>.int (i % j)):=ND λi j _ _ _ _ _ hc q=>by
 have h1:(0:Int) < j:=hc;exact mod_int' (by omega) (by rw [Int.fmod_eq_emod_of_nonneg i (by omega)];exact q)
theorem wa:OpR X (inplaceOp .Add) (AE λi j=>.int (i+j)):=KA λ_ _ _ _ _ _ _ q=>iadd_int q
theorem HI:OpR X (inplaceOp .Mult) (rI CMul λi j=>.int (i*j)):=ND λ_ _ _ _ _ _ _ hc q=>imul_int q hc.ok
theorem N5 {f:Value->Sem Value}{g:Int->Int}
 (rule:∀(i:Int) (t:Tok) (s:Shared) (Q:Value->Shared->Prop) (E:Value->Shared->Prop),Q (.int (g i) s.toks) {s with toks:=s.toks+1}->wpAny (model X.prog X.w) X.A (f (.int i t)) Q E s):
 NB X f (rU λi=>.int (g i)):=by
 intro pins s σ H x v Q I rx h;obtain⟨i,rfl,q⟩:=h;obtain⟨t,rfl⟩:=rx;exact rule i t s _ _ ⟨.int (g i),H,I.tok _,⟨_,rfl⟩,q⟩
theorem AM:NB X (unaryOp .USub) (rU λi=>.int (-i)):=N5 λ_ _ _ _ _ q=>neg_int q
end
section
variable {X:Cx} {a b c:Expr} {ta tb tc:TE} {pos:Pos}
theorem EJ {pins:List (Addr×Obj)}{σ:St}{H:Hp}{s:Shared}{Q:VK}{k k':Bool}(I:Inv X pins σ H s)(q:Q (.bl k) H)(e:k=k'):EP X pins σ Q (.bool k') s:=by
 subst e;exact⟨.bl k,H,I,rfl,q⟩
theorem sU:OpR X (compareOp .Lt) (AE λi j=>.bl (decide (i < j))):=KB λ_ _ _ _ _ _ _ q=>lt_int q
theorem EK:OpR X (compareOp .LtE) (AE λi j=>.bl (decide (i<=j))):=KB λ_ _ _ _ _ _ _ q=>le_int q
theorem EL:OpR X (compareOp .Gt) (AE λi j=>.bl (decide (j < i))):=KB λ_ _ _ _ _ _ _ q=>gt_int q
theorem EM:OpR X (compareOp .Is) (λx y H Q=>y=.non/\Q (.bl (decide (x=.non))) H):=by
 intro pins s σ H x y v u Q I rx ry h;obtain⟨rfl,q⟩:=h;cases ry;refine is_none_gen (EJ I q ?_);cases x<;>first
  |(cases rx;rfl)
  |(obtain⟨t,rfl⟩:=rx;rfl)
theorem B6:OpR X (compareOp .IsNot) (λx y H Q=>y=.non/\Q (.bl (!decide (x=.non))) H):=by
 intro pins s σ H x y v u Q I rx ry h;obtain⟨rfl,q⟩:=h;cases ry;refine isnot_none_gen (EJ I q ?_);cases x<;>first
  |(cases rx;rfl)
  |(obtain⟨t,rfl⟩:=rx;rfl)
theorem OpR.or {f:Value->Value->Sem Value}{r r':R2}(h:OpR X f r)(h':OpR X f r'):OpR X f (λx y H Q=>r x y H Q\/r' x y H Q):=by
 intro pins s σ H x y v u Q I rx ry q
 rcases q with q|q
 · exact h pins s σ H x y v u Q I rx ry q
 · exact h' pins s σ H x y v u Q I rx ry q
theorem az(b:Expr){op:CmpOp}(h:op≠ .In:=by decide)(h2:op≠ .NotIn:=by decide):behindInMarks op b=false:=by
 have e1:(op==CmpOp.In)=false:=by cases op<;>first|rfl|exact absurd rfl h
 have e2:(op==CmpOp.NotIn)=false:=by cases op<;>first|rfl|exact absurd rfl h2
 cases b<;>simp [behindInMarks,e1,e2]
theorem iN {op:CmpOp}{r:R2}(ho:OpR X (compareOp op) r)(ha:PE X a ta)(hb:PE X b tb)(hm:behindInMarks op b=false):PE X (.Compare a [op] [b] pos) (HH r ta tb):=by
 intro pins s σ H Q I h;exact wpAny_Compare1 (Jz ha hb I h λv u s2 x y H2 I2 rx ry q=>ho pins s2 σ H2 x y v u Q I2 rx ry q) hm
def xo(t:TE):TT:=λσ H Q=>t σ H λx H'=>∃k,x=.bl k/\Q k H'
theorem aq {op:CmpOp}{r:R2}(ho:OpR X (compareOp op) r)(ha:PE X a ta)(hb:PE X b tb)(hm:behindInMarks op b=false):PT X (.Compare a [op] [b] pos) (xo (HH r ta tb)):=by
 intro pins s σ H Q I h;refine wpAny_isTrue_Compare1 (cU (ha pins s σ H _ I h) λv s1 ⟨x,H1,I1,r1,q1⟩=>cU (hb pins s1 σ H1 _ I1 q1) λu s2 ⟨y,H2,I2,r2,q2⟩=>
  cU (ho pins s2 σ H2 x y v u _ I2 r1 r2 q2) λc s3 ⟨z,H3,I3,r3,k,e,q3⟩=>?_) hm
 subst e;cases r3;exact wpAny_truthy_bool ⟨H3,I3,q3⟩
def EN(r r':R2)(ta tb tc:TE):TE:=λσ H Q=>ta σ H λx H1=>tb σ H1 λy H2=>r x y H2 λz H3=>∃k,z=.bl k/\
 (if k=true then tc σ H3 λw' H4=>r' y w' H4 Q else Q (.bl false) H3)
theorem EO {op op':CmpOp}{r r':R2}(ho:OpR X (compareOp op) r)(ho':OpR X (compareOp op') r')(ha:PE X a ta)(hb:PE X b tb)(hc:PE X c tc)
 (hm:lastMarks [op,op'] [b,c]=false:=by with_unfolding_all rfl):PE X (.Compare a [op,op'] [b,c] pos) (EN r r' ta tb tc):=by
 intro pins s σ H Q I h;refine Compare_chain (cU (ha pins s σ H _ I h) λv s1 ⟨x,H1,I1,r1,q1⟩=>chain_link (cU (hb pins s1 σ H1 _ I1 q1) λu s2 ⟨y,H2,I2,r2,q2⟩=>
  cU (ho pins s2 σ H2 x y v u _ I2 r1 r2 q2) λd s3 ⟨z,H3,I3,r3,k,e,q3⟩=>?_)) hm
 subst e;cases r3;refine wpAny_truthy_bool ?_;cases k with
 |false=>exact ite_ff ⟨.bl false,H3,I3,rfl,q3⟩
 |true=>exact ite_tt (chain_last (cU (hc pins s3 σ H3 _ I3 q3) λw' s4 q_=>by obtain⟨z',H4,I4,r4,q4⟩:=q_;exact ho' pins s4 σ H4 y z' u w' Q I4 r2 r4 q4))
def HJ(K:Fg)(x:V)(H:Hp)(k:Bool):Prop:=
 match x with
 | .non=>k=false
 | .bl b=>k=b
 | .int i=>k=(i != 0)
 | .str y=>y.length<=sizeLine/\k=((y.length:Int) != 0)
 | .byt y=>y.size<=sizeLine/\k=((y.size:Int) != 0)
 | .ref p=>(∃xs,SqL K H p xs/\k= !xs.isEmpty)\/(∃xs,SqT K H p xs/\k= !xs.isEmpty)\/∃kvs,H p=some (.dK kvs)/\k= !kvs.isEmpty
 |_=>False
theorem AN {κ:Type}{kvs:List (κ×V)}{vs:List (κ×Value)}(r:KV kvs vs):(!vs.isEmpty)= !kvs.isEmpty:=by
 cases r<;>rfl
theorem sV {xs:List V}{its:List Value}(r:Vals xs its):(!its.toArray.isEmpty)= !xs.isEmpty:=by
 cases r<;>simp
theorem sW:(sizeLine:Nat) < 2 ^ 63:=by rw [sizeLine_eq];decide
theorem KD:NC X (λx H Q=>∃k,HJ X.K x H k/\Q k H):=by
 intro pins s σ H x v Q I rx h;obtain⟨k,e,q⟩:=h;have hl:=sW;have hs:sizeLine=16777216:=sizeLine_eq;cases x with
 |non=>
  cases rx;have e':k=false:=e;subst e';exact truthy_none ⟨H,I,q⟩
 |bl b=>
  cases rx;have e':k=b:=e;subst e';exact wpAny_truthy_bool ⟨H,I,q⟩
 |int i=>
  obtain⟨t,rfl⟩:=rx;have e':k=(i != 0):=e;subst e';exact PySem.P.truthy_int ⟨H,I,q⟩
 |str y=>
  obtain⟨t,rfl⟩:=rx;obtain⟨hy,e'⟩:y.length<=sizeLine/\k=((y.length:Int) != 0):=e;subst e';exact PySem.P.truthy_str (by omega) ⟨H,I.tok _,q⟩
 |byt y=>
  obtain⟨t,rfl⟩:=rx;obtain⟨hy,e'⟩:y.size<=sizeLine/\k=((y.size:Int) != 0):=e;subst e';exact PySem.W.truthy_bytes (by omega) ⟨H,I.tok _,q⟩
 |ref p=>
  cases rx;have e':(∃xs,SqL X.K H p xs/\k= !xs.isEmpty)\/(∃xs,SqT X.K H p xs/\k= !xs.isEmpty)\/∃kvs,H p=some (.dK kvs)/\k= !kvs.isEmpty:=e
  rcases e' with ⟨xs,hx,e'⟩|⟨xs,hx,e'⟩|⟨kvs,hx,e'⟩
  · subst e';obtain⟨its,r,pl,hz⟩:=I.list hx;have hlen:=r.length;exact wpAny_truthy_list pl.isList (by simp only [zM];omega) ⟨H,I.tok _,by rw [sV r];exact q⟩
  · subst e';obtain⟨its,r,pl,hz⟩:=I.tuple hx;have hlen:=r.length;exact truthy_tuple pl (by simp only [zM];omega) ⟨H,I.tok _,by rw [sV r];exact q⟩
  · subst e';obtain⟨hz,hS,vs,r,m⟩:kvs.length<=sizeLine/\(p==sysModules)=false/\∃vs,KV kvs vs/\s.heap.DictOf (bX X.prog X.w) p vs:=I.hok p _ hx;have hlen:kvs.length=vs.length:=Paired.length r;exact wpAny_truthy_dict hS m (by omega) ⟨H,I.tok _,by rw [AN r];exact q⟩
 |_=>exact(show False from e).elim
theorem EQ(ha:PE X a ta)(he:∀whole,isTrue a X.env whole=(do let v<-whole;standAt a.pos;holding [v] (truthy v))):
 PT X a (λσ H Q=>ta σ H λx H'=>∃k,HJ X.K x H' k/\Q k H'):=by
 intro pins s σ H Q I h;exact isTrue_plain (cU (ha pins s σ H _ I h) λv s1 q_=>by obtain⟨x,H1,I1,r1,q1⟩:=q_;exact KD pins s1 σ H1 x v Q I1 r1 q1) (he _)
theorem AO:OpR X (binaryOp .Add) (λx y H Q=>∃i j,x=.str i/\y=.str j/\i.length+j.length<=sizeLine/\Q (.str (i++j)) H):=by
 intro pins s σ H x y v u Q I rx ry h;obtain⟨i,j,rfl,rfl,hz,q⟩:=h;obtain⟨t,rfl⟩:=rx;obtain⟨t',rfl⟩:=ry;exact add_str (λt' tk=>⟨.str (i++j),H,I.tok _,⟨_,rfl⟩,q⟩) hz
theorem sX {x:V}{us:List Value}(r:Vals [x] us):∃u,us=[u]/\RelV x u:=by
 cases r with
 |cons r1 r2=>cases r2;exact⟨_,rfl,r1⟩
def KE(K:Fg)(x:V)(H:Hp)(n:Nat):Prop:=
 match x with
 | .str y=>y.length<=sizeLine/\n=y.length
 | .byt y=>y.size<=sizeLine/\n=y.size
 | .ref p=>(∃xs,SqL K H p xs/\n=xs.length)\/∃xs,SqT K H p xs/\n=xs.length
 |_=>False
theorem ER:fu X (.builtin "len") (λxs H Q=>∃x n,xs=[x]/\KE X.K x H n/\Q (.int n) H):=by
 intro pins s σ H xs us Q I r h;obtain⟨x,n,rfl,e,q⟩:=h;obtain⟨u,rfl,rx⟩:=sX r;have hl:=sW;have hs:sizeLine=16777216:=sizeLine_eq;cases x with
 |str y=>
  obtain⟨t,rfl⟩:=rx;obtain⟨hy,e'⟩:y.length<=sizeLine/\n=y.length:=e;subst e';exact len_str (by omega) ⟨.int _,H,I.tok _,⟨_,rfl⟩,q⟩
 |byt y=>
  obtain⟨t,rfl⟩:=rx;obtain⟨hy,e'⟩:y.size<=sizeLine/\n=y.size:=e;subst e';exact PySem.W.len_bytes (by omega) ⟨.int _,H,I.tok _,⟨_,rfl⟩,q⟩
 |ref p=>
  cases rx;have e':(∃xs,SqL X.K H p xs/\n=xs.length)\/∃xs,SqT X.K H p xs/\n=xs.length:=e
  rcases e' with ⟨xs,hx,e'⟩|⟨xs,hx,e'⟩
  · subst e';obtain⟨its,r',pl,hz⟩:=I.list hx;have hlen:=r'.length;exact Calls.call_len_list pl.isList (by simp only [zM];omega) ⟨.int xs.length,H,I.tok _,⟨_,by simp only [zM];rw [hlen]⟩,q⟩
  · subst e';obtain⟨its,r',pl,hz⟩:=I.tuple hx;have hlen:=r'.length;exact len_tuple pl (by simp only [zM];omega) ⟨.int xs.length,H,I.tok _,⟨_,by simp only [zM];rw [hlen]⟩,q⟩
 |_=>exact(show False from e).elim
end
structure ObjM (h:Heap) (x dx C:Addr) (mA:Str->Option Value):Prop where
 obj:h.get? x=some (PySem.W.instObj C dx)
 ns:h.Ns1 dx mA
 ne:dx≠x
theorem Cc {h:Heap}{dx:Addr}{mA:Str->Option Value}(n:h.Ns1 dx mA):∃od,h.get? dx=some od/\∀name,PySem.W.lookIn name od=some (mA name):=by
 obtain⟨o,es,ep,ho,hd,hk,_,hm⟩:=n;refine⟨o,ho,λname=>?_⟩;have e:=hm name;unfold nsFind findBy at e;rw [<-Array.find?_toList]at e;unfold PySem.W.lookIn;rw [hd]
 dsimp only
 split
 · rename_i y q;rw [q]at e;exact congrArg some e
 · rename_i q;rw [q]at e;have a:es.toList.any (·.refKey)=false:=by
    rw [List.any_eq_false];intro y hy;obtain⟨z,t,hkey⟩:=hk y (Array.mem_toList_iff.mp hy);simp [DictEntry.refKey,hkey]
   have a':¬es.toList.any (·.refKey)=true:=by rw [a];exact Q7
   rw [if_neg a'];exact congrArg some e
theorem ObjM.look {h:Heap}{x dx C:Addr}{mA:Str->Option Value}(I:ObjM h x dx C mA):∃od,PySem.W.InstAt h x (PySem.W.instObj C dx) C (some od)/\∀name,PySem.W.lookIn name od=some (mA name):=
 let ⟨od,ho,hl⟩:=Cc I.ns
 ⟨od,⟨I.obj,rfl,rfl,ho⟩,hl⟩
section
variable {prog:Program} {w:World} {A:Around} {E:Value->Shared->Prop} {s:Shared} {K:Fg} {x dx C f:Addr} {mA:Str->Option Value} {name:Str} {v:Value}
theorem HK {expr:Bool}{Q:Value->Shared->Prop}(X:K.In s.heap)(I:ObjM s.heap x dx C mA)(hg:PySem.W.plainGet K C name=true)(hh:PySem.W.hasDictIn K C=true)
 (ha:PySem.W.findIn K (.ref C) name=some none) (hv:mA name=some v) (hv':PySem.W.handedIn v=true) (h:Q v {s with toks:=s.toks+1}):
 wpAny (model prog w) A (getAttr (.ref x) name expr) Q E s:=by
 obtain⟨od,J,hl⟩:=I.look;exact PySem.W.get_value X J (PySem.W.plainGet_of hg).1 (PySem.W.findObj_own hh ha rfl (by rw [hl,hv])) hv' h
theorem ES {pl:Sem Bool}{Q:Value×List Value->Shared->Prop}(X:K.In s.heap)(I:ObjM s.heap x dx C mA)(hg:PySem.W.plainGet K C name=true)
 (hf:PySem.W.findIn K (.ref C) name=some (some (.ref f))) (ht:PySem.W.isFn K (.ref f)=true) (hv:mA name=none) (h:Q (.ref f,[.ref x]) s):
 wpAny (model prog w) A (getMethod (.ref x) name pl) Q E s:=by
 obtain⟨od,J,hl⟩:=I.look;exact PySem.W.method_fn X J (PySem.W.plainGet_of hg).1 (PySem.W.plainGet_of hg).2 hf (beq_iff_eq.mp ht) (by show (PySem.W.lookIn name od).map (·.isSome)=some false;rw [hl,hv];rfl) h
theorem HL {ns:List Str}{Q:Unit->Shared->Prop}(X:K.In s.heap)(I:ObjM s.heap x dx C mA)
 (hs:PySem.W.findIn K (.ref C) "__setattr__"=some (some (.builtin "object.__setattr__"))) (hp:PySem.W.plainOver K C=true) (ht:PySem.W.takerIn K C name=some none) (hh:PySem.W.hasDictIn K C=true)
 (hw:PySem.Within mA ns) (hsz:ns.length<=sizeLine)
 (h:∀h',ObjM h' x dx C (λy=>if y=name then some v else mA y)->Heap.SameBut dx s.heap h'->Q () {s with heap:=h',toks:=s.toks+2}):
 wpAny (model prog w) A (setAttr (.ref x) name v) Q E s:=by
 obtain⟨od,J,hl⟩:=I.look;refine PySem.W.set_plain X J hs (PySem.W.osa_open (s:={s with toks:=s.toks+1}) (r:=none) X J hp ht λb=>?_)
 obtain⟨cd,hc,hd'⟩:=PySem.W.any_some hh;have hx:s.heap.get? x=some ⟨.ref C,some dx,.plain, #[]⟩:=I.obj;refine wB (wP (wB (wB (wpAny_loadPart hx (wB (PySem.W.Looks.here (s:={s with toks:=s.toks+1}) (PySem.W.looks_clsIn X hc) ?_))))))
 rw [hd'];refine wP (a:=some dx) (wB (wP (wB ?_)));refine wpAny_nsSet1 (s:={s with toks:=s.toks+1}) I.ns λh' hn2 hs2=>?_
 obtain⟨oD,esD,epD,hoD,hdD,hcD⟩:=hn2.count (PySem.Within.cons name v hw);refine wB (wpAny_lookBehind hoD (by rw [hdD];exact pastItsLine_dict (Qe hcD (by rw [zC];omega))) ?_)
 exact wP (h _ ⟨(hs2.2 _ (Ne.symm I.ne)).trans I.obj,hn2,I.ne⟩ hs2)
theorem ET {R:Result->Shared->Prop}{vs:List Value}{kw:List (Str×Value)}(X:K.In s.heap)(hm:PySem.W.makesIn K C=true)
 (hi:PySem.W.findIn K (.ref C) "__init__"=some (some (.ref f))) (hf:PySem.W.typeIn K (.ref f)=some (.type "function"))
 (h : codeAny (model prog w) (A.under (.builtin "type.__call__" ⟨.ref C :: vs, kw⟩)) (.call (.ref f) ⟨.ref (s.heap.objs.size + 1) :: vs, kw⟩) (PySem.W.InitBack (s.heap.objs.size + 1) R)
  {s with heap:=(s.heap.push PySem.W.emptyDict).push (PySem.W.instObj C s.heap.objs.size)}):
 codeAny (model prog w) A (.call (.ref C) ⟨vs,kw⟩) R s:=by
 obtain⟨hh,g,d,t,os⟩:=s;exact PySem.W.make_core (PySem.W.makes_of X hm) (PySem.W.looks_findIn X hi) (λself=>PySem.W.bind_fn X self hf) (.inl rfl) h
end
noncomputable def mK(f:Str)(v:V):List (Str×V)->List (Str×V)
 |[]=>[(f,v)]
 |(g,x)::r=>if g=f then(g,v)::r else(g,x)::mK f v r
theorem qt(f g:Str)(v:V):∀fs:List (Str×V),(mK f v fs).lookup g=if g=f then some v else fs.lookup g
 |[]=>by
  show List.lookup g [(f,v)]=_
  by_cases h:g=f
  · have hb:(g==f)=true:=beq_iff_eq.mpr h;simp only [List.lookup,hb,if_pos h]
  · have hb:(g==f)=false:=beq_eq_false_iff_ne.mpr h;simp only [List.lookup,hb,if_neg h]
 |(k,x)::r=>by
  have ih:=qt f g v r;rw [show mK f v ((k,x)::r)=(if k=f then(k,v)::r else(k,x)::mK f v r)from rfl]
  by_cases hk:k=f
  · rw [if_pos hk]
    by_cases h:g=k
    · have hb:(g==k)=true:=beq_iff_eq.mpr h;simp only [List.lookup,hb,if_pos (h.trans hk)]
    · have hb:(g==k)=false:=beq_eq_false_iff_ne.mpr h;simp only [List.lookup,hb,if_neg (λe:g=f=>h (e.trans hk.symm))]
  · rw [if_neg hk]
    by_cases h:g=k
    · have hb:(g==k)=true:=beq_iff_eq.mpr h;simp only [List.lookup,hb,if_neg (λe:g=f=>hk (h.symm.trans e))]
    · have hb:(g==k)=false:=beq_eq_false_iff_ne.mpr h;simp only [List.lookup,hb];exact ih
theorem qK(f:Str)(v:V):∀fs:List (Str×V),f∈(mK f v fs).map (·.1)/\∀g,g∈fs.map (·.1)->g∈(mK f v fs).map (·.1)
 |[]=>⟨by simp [mK],λg h=>by simp at h⟩
 |(k,x)::r=>by
  obtain⟨i1,i2⟩:=qK f v r;rw [show mK f v ((k,x)::r)=(if k=f then(k,v)::r else(k,x)::mK f v r)from rfl]
  by_cases hk:k=f
  · rw [if_pos hk];subst hk;exact⟨by simp,λg h=>by simpa using h⟩
  · rw [if_neg hk];refine⟨?_,λg h=>?_⟩
    · rw [zI];exact j4 _ i1
    · rw [zI]at h ⊢
      rcases Q8.mp h with e|e
      · exact Q8.mpr (.inl e)
      · exact j4 _ (i2 g e)
theorem qu(f:Str)(v:V):∀fs:List (Str×V),(mK f v fs).length<=fs.length+1
 |[]=>by simp [mK]
 |(k,x)::r=>by
  have ih:=qu f v r;rw [show mK f v ((k,x)::r)=(if k=f then(k,v)::r else(k,x)::mK f v r)from rfl]
  by_cases hk:k=f
  · rw [if_pos hk,zC,zC];omega
  · rw [if_neg hk,zC,zC];omega
theorem RelO.some_of {v:V}{o:Option Value}(r:RelO (some v) o):∃u,o=some u/\RelV v u:=by
 cases o with
 |none=>exact(show False from r).elim
 |some u=>exact⟨u,rfl,r⟩
theorem RelO.none_of {o:Option Value}(r:RelO none o):o=none:=by
 cases o with
 |none=>rfl
 |some u=>exact(show False from r).elim
theorem Cd {v:V}{u:Value}(r:RelV v u):PySem.W.handedIn u=true:=by
 cases v with
 |non=>cases (show u=Value.none from r);rfl
 |bl b=>cases (show u=Value.bool b from r);rfl
 |int i=>obtain⟨t,e⟩:=(show ∃t,u=Value.int i t from r);cases e;rfl
 |str x=>obtain⟨t,e⟩:=(show ∃t,u=Value.str x t from r);cases e;rfl
 |byt b=>obtain⟨t,e⟩:=(show ∃t,u=Value.bytes b t from r);cases e;rfl
 |flt b=>obtain⟨t,e⟩:=(show ∃t,u=Value.float b t from r);cases e;rfl
 |ref a=>cases (show u=Value.ref a from r);rfl
 |ty n=>cases (show u=Value.type n from r);rfl
section
variable {P:Program} {w:World} {H H':Hp} {h h':Heap} {a C dx:Addr} {fs fs':List (Str×V)}
theorem rq(hok:HOk P w H h)(e:H a=some (.ins C dx fs)):∃mA,ObjM h a dx C mA/\(∀f,RelO (fs.lookup f) (mA f))/\PySem.Within mA (fs.map (·.1))/\fs.length<=1000/\H dx=some (.own a):=by
 obtain⟨d,z,ne,ob,mA,n,r,q⟩:=(show ObjOk P w H h a (.ins C dx fs)from hok a _ e)
 exact⟨mA,⟨ob,n,ne⟩,r,q,z,d⟩
end
structure Cls (K:Fg) (C:Addr):Prop where
 pg:PySem.W.plainGet K C Str.empty=true
 hd:PySem.W.hasDictIn K C=true
 po:PySem.W.plainOver K C=true
 sa:PySem.W.findIn K (.ref C) "__setattr__"=some (some (.builtin "object.__setattr__"))
theorem Cls.get {K:Fg}{C:Addr}(c:Cls K C)(f:Str):PySem.W.plainGet K C f=true:=c.pg
def NoAttr(K:Fg)(C:Addr)(f:Str):Prop:=PySem.W.findIn K (.ref C) f=some none
theorem NoAttr.taker {K:Fg}{C:Addr}{f:Str}(n:NoAttr K C f):PySem.W.takerIn K C f=some none:=by
 unfold PySem.W.takerIn;rw [show PySem.W.findIn K (.ref C) f=some none from n]
 rfl
structure Meth (K:Fg) (C:Addr) (m:Str) (f:Addr):Prop where
 at_:PySem.W.findIn K (.ref C) m=some (some (.ref f))
 fn:PySem.W.isFn K (.ref f)=true
 kp:PySem.W.keepIn K (.ref f)=true
section
variable {X:Cx} {pins:List (Addr×Obj)} {σ:St} {H:Hp} {s:Shared} {a C dx:Addr} {fs:List (Str×V)} {f:Str} {v:V} {A:Around} {E:Value->Shared->Prop}
theorem AQ {b:Bool}{Q:Value->Shared->Prop}(I:Inv X pins σ H s)(e:H a=some (.ins C dx fs))(c:Cls X.K C)(n:NoAttr X.K C f)(l:fs.lookup f=some v)
 (h:∀u s',Inv X pins σ H s'->RelV v u->Q u s'):wpAny (model X.prog X.w) A (getAttr (.ref a) f b) Q E s:=by
 obtain⟨mA,O,r,_,_,_⟩:=rq I.hok e;obtain⟨u,hu,ru⟩:=RelO.some_of (v:=v) (o:=mA f) (by rw [<-l];exact r f)
 exact HK I.kIn O (c.get f) c.hd n hu (Cd ru) (h u _ (I.tok _) ru)
theorem sY {m:Str}{g:Addr}{pl:Sem Bool}{Q:Value×List Value->Shared->Prop}(I:Inv X pins σ H s)(e:H a=some (.ins C dx fs))(c:Cls X.K C)(k:Meth X.K C m g)(l:fs.lookup m=none)
 (h:Q (.ref g,[.ref a]) s):wpAny (model X.prog X.w) A (getMethod (.ref a) m pl) Q E s:=by
 obtain⟨mA,O,r,_,_,_⟩:=rq I.hok e;have hn:mA m=none:=RelO.none_of (by rw [<-l];exact r m)
 exact ES I.kIn O (c.get m) k.at_ k.fn hn h
theorem AR {y:V}{u:Value}{Q:Unit->Shared->Prop}(I:Inv X pins σ H s)(e:H a=some (.ins C dx fs))(c:Cls X.K C)(n:NoAttr X.K C f)(hl:fs.length < 1000)(ry:RelV y u)
 (h:∀s',Inv X pins σ (bH H a (.ins C dx (mK f y fs))) s'->Q () s'):wpAny (model X.prog X.w) A (setAttr (.ref a) f u) Q E s:=by
 obtain⟨mA,O,r,wi,_,ho⟩:=rq I.hok e;have hz:(fs.map (·.1)).length<=sizeLine:=by rw [zJ,sizeLine_eq];omega
 refine HL I.kIn O c.sa c.po n.taker c.hd wi hz λh' O' sb=>h _ ?_;have hd:∃o,h'.get? dx=some o:=let ⟨o,_,_,e',_⟩:=O'.ns;⟨o,e'⟩;refine I.write (x:=a) (e:=dx) (by rw [e];exact True.intro) (.inr ho) (λb q hb z=>(sb.2 b hb).trans z) hd ?_
 refine⟨by rw [aN O.ne];exact ho,?_,O.ne,O'.obj,_,O'.ns,λg=>?_,λg hg=>?_⟩
 · have:=qu f y fs;omega
 · show RelO ((mK f y fs).lookup g) (if g=f then some u else mA g);rw [qt]
   by_cases q:g=f
   · rw [if_pos q,if_pos q];exact ry
   · rw [if_neg q,if_neg q];exact r g
 · by_cases q:g=f
   · rw [q];exact(qK f y fs).1
   · refine(qK f y fs).2 g (wi g λz=>hg ?_);show (if g=f then some u else mA g)=none;rw [if_neg q];exact z
theorem Inv.made(I:Inv X pins σ H s):Inv X pins σ (bH (bH H s.heap.objs.size (.own (s.heap.objs.size+1))) (s.heap.objs.size+1) (.ins C s.heap.objs.size []))
 {s with heap:=(s.heap.push PySem.W.emptyDict).push (PySem.W.instObj C s.heap.objs.size)}:=by
 have e1:(s.heap.push PySem.W.emptyDict).get? s.heap.objs.size=some PySem.W.emptyDict:=kf s.heap rfl;have e2:((s.heap.push PySem.W.emptyDict).push (PySem.W.instObj C s.heap.objs.size)).get? (s.heap.objs.size+1)=some (PySem.W.instObj C s.heap.objs.size):=by
  have:=kf (s.heap.push PySem.W.emptyDict) (o:=PySem.W.instObj C s.heap.objs.size) rfl
  rwa [B3]at this
 have e3:(s.heap.push PySem.W.emptyDict).Ns s.heap.objs.size (λ_=>none):=⟨PySem.W.emptyDict, #[],_,e1,rfl,(λe he=>absurd he (by simp)),λ_=>rfl⟩
 have I1:=I.laid (a:=s.heap.objs.size) (o:=.own (s.heap.objs.size+1)) (h':=s.heap.push PySem.W.emptyDict) (t':=s.toks) (λb u q=>iM _ q) (Q2 _) ⟨_,e1⟩;refine I1.laid (a:=s.heap.objs.size+1) (o:=.ins C s.heap.objs.size []) (t':=s.toks) (λb u q=>iM _ q) (Nat.le_of_eq (B3 _ _)) ?_;have ne:s.heap.objs.size≠s.heap.objs.size+1:=nA (EA _);refine⟨by rw [aN ne,aT],zU _,ne,e2,λ_=>none,(Heap.Ns1.of_empty e3).at λo q=>iM _ q,λ_=>True.intro,λy hy=>absurd rfl hy⟩
theorem HM {prog:Program}{w:World}{env:Env}{e:Expr}{f:Str}{pos:Pos}{s:Shared}{Q:Value->Shared->Prop}(hb:attributeBase e f env (eval e env)=eval e env)
 (h:wpAny (model prog w) A (eval e env) (λo s₁=>wpAny (model prog w) A (getAttr o f true) Q E s₁) E s):wpAny (model prog w) A (eval (.Attribute e f pos) env) Q E s:=
 Attribute_any_ h (by rw [arm_eval_Attribute,hb])
end
def uo(K:Fg)(ta:TE)(f:Str):TE:=λσ H Q=>ta σ H λx H1=>∃a C dx fs v,x=.ref a/\H1 a=some (.ins C dx fs)/\Cls K C/\NoAttr K C f/\fs.lookup f=some v/\Q v H1
def KG(K:Fg)(ta tv:TE)(f:Str):TS:=λD σ H=>tv σ H λy H1=>ta σ H1 λx H2=>∃a C dx fs,x=.ref a/\H2 a=some (.ins C dx fs)/\Cls K C/\NoAttr K C f/\fs.length < 1000/\
 D.nx σ (bH H2 a (.ins C dx (mK f y fs)))
section
variable {X:Cx} {o e value:Expr} {f:Str} {pos pos' tpos:Pos} {ta tv:TE}
theorem wb(he:PE X e ta)(hb:attributeBase e f X.env (eval e X.env)=eval e X.env):PE X (.Attribute e f pos) (uo X.K ta f):=by
 intro pins s σ H Q I h;refine HM hb (cU (he pins s σ H _ I h) λu s1 q_=>?_);obtain⟨x,H1,I1,rx,a,C,dx,fs,v,ex,ea,c,n,l,q⟩:=q_;subst ex;obtain rfl:u=Value.ref a:=rx;exact AQ I1 ea c n l λu' s2 I2 ru=>⟨v,H1,I2,ru,q⟩
theorem EU(ha:PE X o ta)(hv:PE X value tv)(hs:swapsWith value (some (.Attribute o f pos')) pos.line X.env=pure false):PS X (.Assign [.Attribute o f pos'] value pos) (KG X.K ta tv f):=by
 intro pins s σ H D I h;refine plainObj_wpAny_Assign_Attribute (cU (hv pins s σ H _ I h) λu s1 ⟨y,H1,I1,ry,q⟩=>cU (ha pins s1 σ H1 _ I1 q) λov s2 q_=>?_) hs;obtain⟨x,H2,I2,rx,a,C,dx,fs,ex,ea,c,n,l,q2⟩:=q_;subst ex;obtain rfl:ov=Value.ref a:=rx;exact AR I2 ea c n l ry λs3 I3=>⟨σ,_,I3,q2⟩
theorem JU {pl:Sem Bool}{m:Str}{apos:Pos}{args:List Expr}{pins:List (Addr×Obj)}{s:Shared}{σ:St}{H:Hp}{Q:Value->Shared->Prop}{te:TE}(he:PE X e te)(I:Inv X pins σ H s)
 (h : te σ H λ x H1 => ∃ a C dx fs g, x = .ref a /\ H1 a = some (.ins C dx fs) /\ Cls X.K C /\ Meth X.K C m g /\ fs.lookup m = none /\
  ∀s1,Inv X pins σ H1 s1->wpAny (model X.prog X.w) X.A (callWith pos (.ref g) [.ref a] (backTo pos (starEach args X.env)) (backToKw pos (keywordEach [] X.env))) Q X.xe s1)
 (ht : eval (.Call (.Attribute e m apos) args [] pos) X.env = (do
  let ov<-eval e X.env
  standAt apos.atName
  let (f,first)<-holding [ov] (getMethod ov m pl)
  callWith pos f first (backTo pos (starEach args X.env)) (backToKw pos (keywordEach [] X.env)))):
 wpAny (model X.prog X.w) X.A (eval (.Call (.Attribute e m apos) args [] pos) X.env) Q X.xe s:=by
 refine PySem.W.methodCall_KW (pl:=pl) (cU (he pins s σ H _ I h) λu s1 q_=>?_) ht;obtain⟨x,H1,I1,rx,a,C,dx,fs,g,ex,ea,c,k,l,q⟩:=q_;subst ex;obtain rfl:u=Value.ref a:=rx;exact sY I1 ea c k l (q s1 I1)
end
section
variable {X:Cx} {pins:List (Addr×Obj)} {σ:St} {H:Hp} {s:Shared} {A:Around} {E:Value->Shared->Prop} {Q:Value->Shared->Prop} {c:Value} {b:Bool}
inductive TyOf (K:Fg) (H:Hp):V->Value->Prop where
 |non:TyOf K H .non (.type "NoneType")
 |bl (x:Bool):TyOf K H (.bl x) (.type "bool")
 |int (i:Int):TyOf K H (.int i) (.type "int")
 |str (x:Str):TyOf K H (.str x) (.type "str")
 |flt (x:UInt64):TyOf K H (.flt x) (.type "float")
 |lst {a:Addr} {xs:List V} (e:H a=some (.lst xs)):TyOf K H (.ref a) (.type "list")
 |frz {a:Addr} {o:Obj} {xs:List V} (e:H a=some (.frz o (.lst xs))):TyOf K H (.ref a) (.type "list")
 |tup {a:Addr} {xs:List V} (e:H a=some (.tup xs)):TyOf K H (.ref a) (.type "tuple")
 |dK {a:Addr} {kvs:List (cK×V)} (e:H a=some (.dK kvs)):TyOf K H (.ref a) (.type "dict")
 |dT {a:Addr} {kvs:List (List cK×V)} (e:H a=some (.dT kvs)):TyOf K H (.ref a) (.type "dict")
 |ins {a C dx:Addr} {fs:List (Str×V)} (e:H a=some (.ins C dx fs)) (cl:Cls K C) (ha:PySem.W.findIn K (.ref C) "__class__"=some (some (.builtin "object.__class__")))
  (hn:PySem.W.specialIn K (.builtin "object.__class__") "__get__"=some (some (.builtin "getset_descriptor.__get__"))) (htk:PySem.W.takesIn K (.builtin "object.__class__")=some true)
  (hm:PySem.W.mroIn K C (.type "object")=some true):TyOf K H (.ref a) (.ref C)
theorem iW {x:V}{u t:Value}(I:Inv X pins σ H s)(rx:RelV x u)(ty:TyOf X.K H x t)(e:PySem.W.kitOne X.K t c=some b)(h:∀tk,Q (.bool b) {s with toks:=tk}):
 wpAny (model X.prog X.w) A (call (.builtin "isinstance") [u,c]) Q E s:=by
 cases ty with
 |non=>cases (show u=Value.none from rx);exact PySem.W.kia_one PySem.W.kitx_none I.kIn True.intro e (λz=>nomatch z) h
 |bl y=>cases (show u=Value.bool y from rx);exact PySem.W.kia_one PySem.W.kitx_bool I.kIn True.intro e (λz=>nomatch z) h
 |int i=>obtain⟨t,q⟩:=(show ∃t,u=Value.int i t from rx);cases q;exact PySem.W.kia_one PySem.W.kitx_int I.kIn True.intro e (λz=>nomatch z) h
 |str y=>obtain⟨t,q⟩:=(show ∃t,u=Value.str y t from rx);cases q;exact PySem.W.kia_one PySem.W.kitx_str I.kIn True.intro e (λz=>nomatch z) h
 |flt y=>obtain⟨t,q⟩:=(show ∃t,u=Value.float y t from rx);cases q;exact PySem.W.kia_one PySem.W.kitx_float I.kIn True.intro e (λz=>nomatch z) h
 | @lst a xs ea=>
  cases (show u=Value.ref a from rx)
  obtain⟨_,_,n,_,h1⟩:=(show ObjOk X.prog X.w H s.heap a (.lst xs)from I.hok a _ ea)
  exact PySem.W.kia_one PySem.W.kitx_list I.kIn ⟨_,h1,rfl⟩ e (λz=>nomatch z) h
 | @frz a ob xs ea=>
  cases (show u=Value.ref a from rx)
  obtain⟨_,_,_,n,_,h1⟩:=(show ObjOk X.prog X.w H s.heap a (.frz ob (.lst xs))from I.hok a _ ea)
  exact PySem.W.kia_one PySem.W.kitx_list I.kIn ⟨_,h1,rfl⟩ e (λz=>nomatch z) h
 | @tup a xs ea=>
  cases (show u=Value.ref a from rx)
  obtain⟨_,_,_,p,_⟩:=(show ObjOk X.prog X.w H s.heap a (.tup xs)from I.hok a _ ea)
  obtain⟨o,h1,h2,_⟩:=p;exact PySem.W.kia_one PySem.W.kitx_tuple I.kIn ⟨o,h1,h2⟩ e (λz=>nomatch z) h
 | @dK a kvs ea=>
  cases (show u=Value.ref a from rx)
  obtain⟨_,_,vs,_,p⟩:=(show ObjOk X.prog X.w H s.heap a (.dK kvs)from I.hok a _ ea)
  obtain⟨o,es,ep,h1,h2,_⟩:=p;exact PySem.W.kia_one PySem.W.kitx_dict I.kIn ⟨o,h1,h2.1⟩ e (λz=>nomatch z) h
 | @dT a kvs ea=>
  cases (show u=Value.ref a from rx)
  obtain⟨_,_,xs,_,o,es,ep,h1,h2,_⟩:=(show ObjOk X.prog X.w H s.heap a (.dT kvs)from I.hok a _ ea)
  exact PySem.W.kia_one PySem.W.kitx_dict I.kIn ⟨o,h1,h2.1⟩ e (λz=>nomatch z) h
 | @ins a C dx fs ea cl ha hn htk hm=>
  cases (show u=Value.ref a from rx)
  obtain⟨mA,O,_⟩:=rq I.hok ea;obtain⟨od,J,_⟩:=O.look;exact PySem.W.kia_one (PySem.W.kitx_own (cl.get _) cl.hd ha hn htk hm) I.kIn J e (λz=>nomatch z) h
end
structure Room (k:Nat) (A:Around):Prop where
 hd:A.handled=none
 dp:A.depth+3*k+5 < recursionLimit
 un:A.units+16*k+200 < cLine
theorem Room.mono {j k:Nat}{A:Around}(r:Room k A)(h:j<=k):Room j A:=⟨r.hd,by have:=r.dp;omega,by have:=r.un;omega⟩
theorem Room.deeper {k:Nat}{A:Around}(r:Room (k+1) A)(env:Env):Room k (A.deeper env):=
 ⟨r.hd,by have:=r.dp;show A.depth+1+3*k+5 < _;omega,by have:=r.un;show A.units+3+16*k+200 < _;omega⟩
theorem Room.in1 {k:Nat}{A:Around}(r:Room (k+1) A):Room k A.in1:=
 ⟨r.hd,by have:=r.dp;show A.depth+3*k+5 < _;omega,by have:=r.un;show A.units+1+16*k+200 < _;omega⟩
theorem AS {A:Around}{C:Addr}{us:List Value}{kw:List (Str×Value)}:(A.under (.builtin "type.__call__" ⟨.ref C::us,kw⟩)).depth=A.depth+1:=by
 first|rfl|simp [Around.under,Code.weight,Code.isCreation,Code.isGuard,Code.isCaller,Code.frames,Code.isFrame,guardIds]
theorem AT {A:Around}{C:Addr}{us:List Value}{kw:List (Str×Value)}:(A.under (.builtin "type.__call__" ⟨.ref C::us,kw⟩)).units=A.units+1:=by
 first|rfl|simp [Around.under,Code.cUnits,Code.frames,Code.isFrame]
theorem Room.make {k:Nat}{A:Around}(r:Room (k+1) A)(C:Addr)(us:List Value)(kw:List (Str×Value)):Room k (A.under (.builtin "type.__call__" ⟨.ref C::us,kw⟩)):=
 ⟨r.hd,by have:=r.dp;rw [AS];omega,by have:=r.un;rw [AT];omega⟩
theorem Room.depth {k:Nat}{A:Around}(r:Room k A):A.depth < recursionLimit:=by have:=r.dp;omega
theorem Room.units {k:Nat}{A:Around}(r:Room k A):A.units+64 < cLine:=by have:=r.un;omega
def dZ:TA:=λ_ H Q=>Q [] H
def bG(ta:TE)(tr:TA):TA:=λσ H Q=>ta σ H λx H1=>tr σ H1 λxs H2=>Q (x::xs) H2
section
variable {X:Cx} {e:Expr} {es:List Expr} {te:TE} {t:TA} {pos:Pos}
theorem aH:PA X [] dZ:=λ_ _ _ _ H Q I h=>Calls.spliced_nil ⟨[],H,I,.nil,h⟩
theorem aA(ha:PE X e te)(hr:PA X es t)(hs:starEach (e::es) X.env=(false,eval e X.env)::starEach es X.env:=by rfl):PA X (e::es) (bG te t):=by
 intro pos pins s σ H Q I h;rw [hs];show wpAny _ _ (spliced ((false,eval e X.env)::backTo pos (starEach es X.env))) _ _ s;refine Calls.spliced_cons (cU (ha pins s σ H _ I h) λu s1 q_=>?_);obtain⟨x,H1,I1,r1,q1⟩:=q_;exact cU (hr pos pins s1 σ H1 _ I1 q1) λus s2 q_=>by obtain⟨xs,H2,I2,r2,q2⟩:=q_;exact⟨x::xs,H2,I2,.cons r1 r2,q2⟩
def HN(t:TA):TE:=λσ H Q=>t σ H λxs H1=>xs.length<=sizeLine/\∀p,H1 p=none->Q (.ref p) (bH H1 p (.tup xs))
def oH(t:TA):TE:=λσ H Q=>t σ H λxs H1=>xs.length<=sizeLine/\∀p,H1 p=none->Q (.ref p) (bH H1 p (.lst xs))
theorem gA {x1}(h:PA X es t):PE X (.Tuple es x1 pos) (HN t):=by
 intro pins s σ H Q I hq;refine wpAny_Tuple_spliced (cU (h pos pins s σ H _ I hq) λus s1 ⟨xs,H1,I1,r,z,q⟩=>⟨by rw [<-r.length];exact z,?_⟩)
 have hf:H1 s1.heap.objs.size=none:=I1.hok.fresh (Q2 _);refine⟨.ref s1.heap.objs.size,bH H1 s1.heap.objs.size (.tup xs),I1.laid (t':=s1.toks) (λb u e=>iM _ e) (Q2 _) ?_,rfl,q _ hf⟩;exact⟨z,us,r,⟨_,kf _ rfl,rfl,_,rfl⟩,_,kf _ rfl,rfl⟩
theorem cw(h:PA X es t):PE X (.List es pos) (oH t):=by
 intro pins s σ H Q I hq;refine wpAny_List_spliced (cU (h pos pins s σ H _ I hq) λus s1 ⟨xs,H1,I1,r,z,q⟩=>⟨by rw [<-r.length];exact z,?_⟩)
 have hf:H1 s1.heap.objs.size=none:=I1.hok.fresh (Q2 _);refine⟨.ref s1.heap.objs.size,bH H1 s1.heap.objs.size (.lst xs),I1.laid (t':=s1.toks) (λb u e=>iM _ e) (Q2 _) ?_,rfl,q _ hf⟩;exact⟨z,us,0,r,kf _ rfl⟩
end
noncomputable abbrev Sp:=List V->Hp->VK->XK->Prop
noncomputable abbrev Ce:=List Env->Hp->Shared->XK->Value->Shared->Prop
structure Env0 (P:Program) (w:World) (K:Fg) (mg:Str->Option Value) (base:Heap) (A:Around) (outer:List Env) (s:Shared) (H:Hp):Prop where
 frames:A.frames=some outer
 mod:Mod K mg base
 bs:∀b o,base.get? b=some o->s.heap.get? b=some o/\H b=none
 bsz:base.objs.size<=s.heap.objs.size
 funs:s.heap.FunFrames base outer
 frf:∀b∈ku outer,H b=none
 hok:HOk P w H s.heap
 bare:AllBare s.gens
def CE(outer:List Env)(P:Program)(w:World)(H:Hp)(s:Shared)(Q:VK)(u:Value)(s':Shared):Prop:=
 ∃v H',s'.os=s.os/\AllBare s'.gens/\Un (ku outer) [] H H' s.heap s'.heap/\HOk P w H' s'.heap/\RelV v u/\Q v H'
def CR(CX:Ce)(outer:List Env)(P:Program)(w:World)(H:Hp)(s:Shared)(Q:VK)(E:XK)(r:Result)(s':Shared):Prop:=
 match r with
 | .ok (.ret u)=>CE outer P w H s Q u s'
 | .ok _=>False
 | .error e=>CX outer H s E e s'
structure FnOk (P:Program) (w:World) (K:Fg) (mg:Str->Option Value) (base:Heap) (CX:Ce) (k:Nat) (f:Addr) (fd:FuncData) (ps:List Str) (sp:Sp):Prop where
 len:∀vs H Q E,sp vs H Q E->vs.length=ps.length
 run:∀(A:Around) (outer:List Env) (s:Shared) (H:Hp) (args:Args) (us:List Value) (vs:List V) (Q:VK) (E:XK),Room k A->Env0 P w K mg base A outer s H->BindsTo s fd args (ps.zip us)->Vals vs us->sp vs H Q E->
  codeAny (model P w) A (.call (.ref f) args) (CR CX outer P w H s Q E) s
theorem FnOk.imp {P:Program}{w:World}{K:Fg}{mg:Str->Option Value}{base:Heap}{CX:Ce}{k:Nat}{f:Addr}{fd:FuncData}{ps:List Str}{sp sp':Sp}(F:FnOk P w K mg base CX k f fd ps sp)
 (h:∀vs H Q E,sp' vs H Q E->sp vs H Q E):FnOk P w K mg base CX k f fd ps sp':=
 ⟨λvs H Q E q=>F.len vs H Q E (h _ _ _ _ q),λA outer s H args us vs Q E hr he hb hv hs=>F.run A outer s H args us vs Q E hr he hb hv (h _ _ _ _ hs)⟩
theorem Env0.make {P:Program}{w:World}{K:Fg}{mg:Str->Option Value}{base:Heap}{A:Around}{outer:List Env}{s:Shared}{H:Hp}(e:Env0 P w K mg base A outer s H)(C:Addr)(us:List Value)(kw:List (Str×Value)):
 Env0 P w K mg base (A.under (.builtin "type.__call__" ⟨.ref C::us,kw⟩)) outer s H:=⟨by first|exact e.frames|(simpa [Around.under,Code.envs,Code.isFrame,pushEnvs]using e.frames),e.mod,e.bs,e.bsz,e.funs,e.frf,e.hok,e.bare⟩
theorem Env0.in1 {P:Program}{w:World}{K:Fg}{mg:Str->Option Value}{base:Heap}{A:Around}{outer:List Env}{s:Shared}{H:Hp}(e:Env0 P w K mg base A outer s H):
 Env0 P w K mg base A.in1 outer s H:=⟨e.frames,e.mod,e.bs,e.bsz,e.funs,e.frf,e.hok,e.bare⟩
section
variable {X:Cx} {pins:List (Addr×Obj)} {σ:St} {H:Hp} {s s':Shared}
theorem Inv.env0(I:Inv X pins σ H s):Env0 X.prog X.w X.K X.mg X.base X.A X.stack s H:=
 ⟨I.ok.frames,I.ok.mod,I.bs,Qe I.ok.bsz I.sz,I.stack,I.stkFree,I.hok,I.bare⟩
theorem Inv.after {Q:VK}{u:Value}(I:Inv X pins σ H s)(h:CE X.stack X.prog X.w H s Q u s'):EP X pins σ Q u s':=by
 obtain⟨v,H',os,bare,un,hok,r,q⟩:=h;obtain⟨hh,g,d,t,os'⟩:=s';obtain rfl:os'=s.os:=os;exact⟨v,H',I.call (h':=hh) (g':=g) (d':=d) (t':=t) (ch:=[]) un hok bare (λb z=>absurd z (by simp)),r,q⟩
end
def oJ(sp:Sp)(dvs:List V)(E:XK)(t:TA):TE:=λσ H Q=>t σ H λvs H1=>sp (vs++dvs) H1 Q E
def qv(C:Addr)(m:Str)(sp:Sp)(dvs:List V)(E:XK)(ta:TE)(t:TA):TE:=λσ H Q=>ta σ H λx H1=>∃a dx fs,x=.ref a/\H1 a=some (.ins C dx fs)/\fs.lookup m=none/\
 t σ H1 λvs H2=>sp (x::(vs++dvs)) H2 Q E
def JV(C:Addr)(sp:Sp)(dvs:List V)(E:XK)(t:TA):TE:=λσ H Q=>t σ H λvs H1=>∀x dx,H1 x=none->H1 dx=none->dx≠x->
 sp (.ref x::(vs++dvs)) (bH (bH H1 dx (.own x)) x (.ins C dx [])) (λv H2=>v=.non/\Q (.ref x) H2) E
def Binds(K:Fg)(fd:FuncData)(ps:List Str)(ds:List Value):Prop:=
 ∀(s:Shared) (us:List Value),K.In s.heap->(us++ds).length=ps.length->BindsTo s fd ⟨us,[]⟩ (ps.zip (us++ds))
theorem Binds.all {K:Fg}{fd:FuncData}{ps:List Str}(h:∀us:List Value,us.length=ps.length->bindArgs fd ⟨us,[]⟩=pure (ps.zip us)):Binds K fd ps []:=λs us _ hl=>by
 rw [Q4]at hl ⊢;exact .of_eq (h us hl)
def jw(CX:Ce)(X:Cx)(E:XK):Prop:=∀(pins:List (Addr×Obj)) (σ:St) (H:Hp) (s:Shared) (e:Value) (s':Shared),Inv X pins σ H s->CX X.stack H s E e s'->X.xe e s'
section
variable {X:Cx} {CX:Ce} {k:Nat} {f C:Addr} {fd:FuncData} {ps:List Str} {sp:Sp} {dvs:List V} {ds:List Value} {E:XK} {x m:Str} {p pos apos:Pos} {e o:Expr} {es:List Expr} {ta:TE} {t:TA}
theorem AU {pins:List (Addr×Obj)}{σ:St}{H:Hp}{s:Shared}{Q:VK}{us:List Value}{vs:List V}(F:FnOk X.prog X.w X.K X.mg X.base CX k f fd ps sp)(hr:Room k X.A)(hb:Binds X.K fd ps ds)(hd:Vals dvs ds)(hx:jw CX X E)
 (I:Inv X pins σ H s) (r:Vals vs us) (h:sp (vs++dvs) H Q E):wpAny (model X.prog X.w) X.A (call (.ref f) us) (EP X pins σ Q) X.xe s:=by
 have r2:Vals (vs++dvs) (us++ds):=r.append hd;have hl:(us++ds).length=ps.length:=by rw [<-r2.length];exact F.len _ _ _ _ h
 refine wpAny_call (codeAny_mono (F.run X.A X.stack s H ⟨us,[]⟩ (us++ds) (vs++dvs) Q E hr I.env0 (hb s us I.kIn hl) r2 h) λr s' hq=>?_);cases r with
 |error e=>exact hx pins σ H s e s' I hq
 |ok fl=>
  cases fl with
  |ret u=>exact I.after hq
  |next=>exact False.elim hq
  |brk=>exact False.elim hq
  |cont=>exact False.elim hq
theorem B7(F:FnOk X.prog X.w X.K X.mg X.base CX k f fd ps sp)(hr:Room k X.A)(hg:Gl X x)(hm:X.mg x=some (.ref f))(hk:PySem.W.keepIn X.K (.ref f)=true)(hb:Binds X.K fd ps ds)(hd:Vals dvs ds)(hx:jw CX X E)
 (ha:PA X (e::es) t) (hdb:(x==("__debug__":Str))=false:=by decide) (he:starEach (e::es) X.env=(false,eval e X.env)::starEach es X.env:=by rfl) (hpl:(backTo pos (starEach es X.env)).any (·.1)=false:=by rfl):
 PE X (.Call (.Name x p) (e::es) [] pos) (oJ sp dvs E t):=by
 intro pins s σ H Q I h;refine wpAny_Call_Name_kw (oF I hg hm ?_ hdb);refine PySem.W.callWith_K (h₀:=X.base) I.ok.mod.kin hk (cU (ha pos pins s σ H _ I h) λus s1 ⟨vs,H1,I1,r,q⟩=>⟨I1.kIn,?_⟩) he hpl;exact AU F hr hb hd hx I1 r q
theorem lq {pl:Sem Bool}(he:PE X o ta)(c:Cls X.K C)(hm:Meth X.K C m f)(F:FnOk X.prog X.w X.K X.mg X.base CX k f fd ps sp)(hr:Room k X.A)(hb:Binds X.K fd ps ds)(hd:Vals dvs ds)(hx:jw CX X E)(ha:PA X (e::es) t)
 (hst:starEach (e::es) X.env=(false,eval e X.env)::starEach es X.env:=by rfl) (hpl:(backTo pos (starEach es X.env)).any (·.1)=false:=by rfl)
 (ht : eval (.Call (.Attribute o m apos) (e :: es) [] pos) X.env = (do
  let ov<-eval o X.env
  standAt apos.atName
  let (f,first)<-holding [ov] (getMethod ov m pl)
  callWith pos f first (backTo pos (starEach (e::es) X.env)) (backToKw pos (keywordEach [] X.env))):=by rfl):
 PE X (.Call (.Attribute o m apos) (e::es) [] pos) (qv C m sp dvs E ta t):=by
 intro pins s σ H Q I h;refine PySem.W.methodCall_KW (pl:=pl) (cU (he pins s σ H _ I h) λu s1 q_=>?_) ht;obtain⟨x,H1,I1,rx,a,dx,fs,ex,ea,l,q⟩:=q_;subst ex;obtain rfl:u=Value.ref a:=rx;refine sY I1 ea c hm l ?_;refine PySem.W.callWith_K (first:=[.ref a]) (h₀:=X.base) I.ok.mod.kin hm.kp (cU (ha pos pins s1 σ H1 _ I1 q) λus s2 ⟨vs,H2,I2,r,q2⟩=>⟨I2.kIn,?_⟩) hst hpl
 exact AU (us:=.ref a::us) (vs:=.ref a::vs) F hr hb hd hx I2 (.cons rfl r) q2
structure Mk (K:Fg) (C f:Addr):Prop where
 makes:PySem.W.makesIn K C=true
 init:PySem.W.findIn K (.ref C) "__init__"=some (some (.ref f))
 fn:PySem.W.isFn K (.ref f)=true
 kp:PySem.W.keepIn K (.ref C)=true
theorem EV {pins:List (Addr×Obj)}{σ:St}{H:Hp}{s:Shared}{Q:VK}{us:List Value}{vs:List V}(M:Mk X.K C f)(F:FnOk X.prog X.w X.K X.mg X.base CX k f fd ps sp)(hr:Room (k+1) X.A)(hb:Binds X.K fd ps ds)(hd:Vals dvs ds)
 (hx:jw CX X E) (I:Inv X pins σ H s) (r:Vals vs us)
 (h:∀x dx,H x=none->H dx=none->dx≠x->sp (.ref x::(vs++dvs)) (bH (bH H dx (.own x)) x (.ins C dx [])) (λv H2=>v=.non/\Q (.ref x) H2) E):
 wpAny (model X.prog X.w) X.A (call (.ref C) us) (EP X pins σ Q) X.xe s:=by
 have hq:=h (s.heap.objs.size+1) s.heap.objs.size (I.hok.fresh (Nat.le_succ _)) (I.hok.fresh (Q2 _)) (nA (EA _));have I2:=Inv.made (C:=C) I;have r2:Vals (V.ref (s.heap.objs.size+1)::(vs++dvs)) (Value.ref (s.heap.objs.size+1)::(us++ds)):=.cons rfl (r.append hd);have hl:(Value.ref (s.heap.objs.size+1)::us++ds).length=ps.length:=by
  have e:=r2.length;rw [F.len _ _ _ _ hq]at e;exact e.symm
 refine wpAny_call (ET (f:=f) I.kIn M.makes M.init (beq_iff_eq.mp M.fn) (codeAny_mono (F.run _ X.stack _ _ ⟨Value.ref (s.heap.objs.size+1)::us,[]⟩ (Value.ref (s.heap.objs.size+1)::(us++ds)) _ _ E (hr.make C us [])
  (I2.env0.make C us []) (hb _ (Value.ref (s.heap.objs.size+1)::us) I2.kIn hl) r2 hq) λr s' hq'=>?_))
 cases r with
 |error e=>exact hx pins σ _ _ e s' I2 hq'
 |ok fl=>
  cases fl with
  |ret u=>
   obtain⟨v,H',I3,rv,ev,q3⟩:=I2.after hq';subst ev;exact⟨rv,⟨V.ref (s.heap.objs.size+1),H',I3,rfl,q3⟩⟩
  |next=>exact False.elim hq'
  |brk=>exact False.elim hq'
  |cont=>exact False.elim hq'
theorem HP(M:Mk X.K C f)(F:FnOk X.prog X.w X.K X.mg X.base CX k f fd ps sp)(hr:Room (k+1) X.A)(hg:Gl X x)(hm:X.mg x=some (.ref C))(hb:Binds X.K fd ps ds)(hd:Vals dvs ds)(hx:jw CX X E)
 (ha:PA X (e::es) t) (hdb:(x==("__debug__":Str))=false:=by decide) (he:starEach (e::es) X.env=(false,eval e X.env)::starEach es X.env:=by rfl) (hpl:(backTo pos (starEach es X.env)).any (·.1)=false:=by rfl):
 PE X (.Call (.Name x p) (e::es) [] pos) (JV C sp dvs E t):=by
 intro pins s σ H Q I h;refine wpAny_Call_Name_kw (oF I hg hm ?_ hdb);refine PySem.W.callWith_K (h₀:=X.base) I.ok.mod.kin M.kp (cU (ha pos pins s σ H _ I h) λus s1 ⟨vs,H1,I1,r,q⟩=>⟨I1.kIn,?_⟩) he hpl;exact EV M F hr hb hd hx I1 r q
end
section
variable {X:Cx} {CX:Ce} {k:Nat} {f C:Addr} {fd:FuncData} {ps ks:List Str} {sp:Sp} {E:XK} {x m:Str} {p pos apos kpos:Pos} {e o:Expr} {es:List Expr} {kws:List Keyword} {te ta:TE} {t tk:TA} {nm:Option Str}
variable {g:List Value->List Value->List Value} {gV:List V->List V->List V}
end
structure FnScope (N P:List Str) (sc:Scope):Prop where
 kind:sc.kind=.function
 co:sc.isCoroutine=false
 gen:sc.isGenerator=false
 nd:N.Nodup
 pre:N.take P.length=P
 par:∀x∈P,sc.names.lookup x=some .local\/sc.names.lookup x=some .cell
 nofree:∀y∈sc.names,y.2≠ .free
theorem vS {kindOf:Str->Option NameKind}{x:Str}:∀{binds:List (Str×Value)} {m:Str->Option Value},(∀v,(x,v) ∉ binds)->bindL kindOf binds m x=m x
 |[],_,_=>rfl
 |(n,v)::r,m,h=>by
  unfold bindL;rw [vS λw hw=>h w (j4 _ hw)];split
  · have:x≠n:=by rintro rfl;exact h v j5
    simp [this]
  · rfl
theorem vT {kindOf:Str->Option NameKind}{x:Str}:∀{binds:List (Str×Value)} {m:Str->Option Value},(∀v,(x,v) ∉ binds)->bindC kindOf binds m x=m x
 |[],_,_=>rfl
 |(n,v)::r,m,h=>by
  unfold bindC;rw [vT λw hw=>h w (j4 _ hw)];split
  · rfl
  · have:x≠n:=by rintro rfl;exact h v j5
    simp [this]
theorem vU {kindOf:Str->Option NameKind}{x:Str}{v:Value}:∀{P:List Str} {vs:List Value} {i:Nat} {m:Str->Option Value},P.Nodup->P[i]? =some x->vs[i]? =some v->kindOf x=some .local->
 bindL kindOf (P.zip vs) m x=some v
 |[],_,_,_,_,h,_,_=>by simp at h
 |_::_,[],_,_,_,_,h,_=>by simp at h
 |p::P,w::vs,0,m,nd,h1,h2,hk=>by
  simp at h1 h2;subst h1;subst h2;show bindL kindOf ((p,w)::P.zip vs) m p=_;unfold bindL;rw [vS λv hv=>(uk.mp nd).1 (List.of_mem_zip hv).1,if_pos hk]
  simp
 |p::P,w::vs,i+1,m,nd,h1,h2,hk=>by
  show bindL kindOf ((p,w)::P.zip vs) m x=_;unfold bindL;exact vU (i:=i) (uk.mp nd).2 (by simpa using h1) (by simpa using h2) hk
theorem vV {kindOf:Str->Option NameKind}{x:Str}{v:Value}:∀{P:List Str} {vs:List Value} {i:Nat} {m:Str->Option Value},P.Nodup->P[i]? =some x->vs[i]? =some v->kindOf x≠some .local->
 bindC kindOf (P.zip vs) m x=some v
 |[],_,_,_,_,h,_,_=>by simp at h
 |_::_,[],_,_,_,_,h,_=>by simp at h
 |p::P,w::vs,0,m,nd,h1,h2,hk=>by
  simp at h1 h2;subst h1;subst h2;show bindC kindOf ((p,w)::P.zip vs) m p=_;unfold bindC;rw [vT λv hv=>(uk.mp nd).1 (List.of_mem_zip hv).1,if_neg hk]
  simp
 |p::P,w::vs,i+1,m,nd,h1,h2,hk=>by
  show bindC kindOf ((p,w)::P.zip vs) m x=_;unfold bindC;exact vV (i:=i) (uk.mp nd).2 (by simpa using h1) (by simpa using h2) hk
def dL(N:List Str)(vs:List V):St:=vs.map some++List.replicate (N.length - vs.length) none
noncomputable def nI(CX:Ce)(P:Program)(w:World)(K:Fg)(mg:Str->Option Value)(base:Heap)(N:List Str)(qual:Str)(scope:Scope)(f:Addr)(cd:Value)(A:Around)(outer:List Env)(s:Shared)(H:Hp)(E:XK):Cx where
 prog:=P
 w:=w
 K:=K
 mg:=mg
 base:=base
 A:=A.deeper (envOfC qual scope s.heap.objs.size f cd)
 N:=N
 s₀:=s
 H₀:=H
 env:=envOfC qual scope s.heap.objs.size f cd
 outer:=outer
 stack:=envOfC qual scope s.heap.objs.size f cd::outer
 ex:=[]
 calm:=true
 fn:=λ_=>true
 pn:=[]
 xe:=λe s'=>wpAny (model P w) (A.deeper (envOfC qual scope s.heap.objs.size f cd)) (leaving (envOfC qual scope s.heap.objs.size f cd) e) (λ_ s''=>CX outer H s E e s'') (λe' s''=>CX outer H s E e' s'') s'
theorem xp {sc:Scope}{n:Nat}{x:Str}(h:sc.names.lookup x=some .cell):∃c,(cellsFrom n sc.names []).lookup x=some c:=by
 have q:=PySem.W.cellsFrom_some sc.names n [] (.inl h);exact L4.mp q
theorem Cf {CX:Ce}{P:Program}{w:World}{K:Fg}{mg:Str->Option Value}{base:Heap}{N ps:List Str}{qual:Str}{scope:Scope}{f:Addr}{cd:Value}{A:Around}{outer:List Env}{s s1:Shared}{H:Hp}{E:XK}{us:List Value}{vs:List V}
 (S:FnScope N ps scope) (hd:A.handled=none) (e0:Env0 P w K mg base A outer s H) (hl:vs.length=ps.length) (r:Vals vs us)
 (x:InCallC s s.heap.objs.size (bindL (envOfC qual scope s.heap.objs.size f cd).kindOf (ps.zip us) λ_=>none) (cellsFrom (s.heap.objs.size+1) scope.names []) (bindC (envOfC qual scope s.heap.objs.size f cd).kindOf (ps.zip us) λ_=>none) s1):
 Inv (nI CX P w K mg base N qual scope f cd A outer s H E) [] (dL N vs) H s1:=by
 have hpl:ps.length<=N.length:=by have:=congrArg List.length S.pre;rw [Dt]at this;omega
 obtain⟨h1,tk,rfl,hk⟩:=x.done;have noA:∀b:Addr,b ∉ (nI CX P w K mg base N qual scope f cd A outer s H E).ex:=λb z=>absurd (show b∈([]:List Addr)from z) (by simp)
 refine⟨⟨e0.mod,S.kind,rfl,rfl,Q2 _,λy z c h1 h2=>?_,λy hy=>?_,λy c _ h=>?_,λ_=>hd,Around.frames_deeper e0.frames,.inr ⟨rfl,rfl⟩,λb z=>absurd z (noA b),e0.bs,e0.bsz,λb _ _=>noA b,λb z=>absurd z (noA b),e0.funs,e0.frf⟩,
  rfl,e0.bare,Un.kept hk,⟨_,x.toInCall.ns,λi y v h1 h2 h3=>?_⟩,λy c h=>⟨_,x.cell y c h⟩,e0.hok.fresh (Q2 _),λy c h=>?_,λp hp=>absurd (show p∈([]:List (Addr×Obj))from hp) (by simp),e0.hok.kept hk,?_⟩
 · exact name_of_addr x.apart (PySem.mem_of_lookup h1) (PySem.mem_of_lookup h2)
 · have hy:scope.names.lookup y=some .cell\/scope.names.lookup y=some .free:=hy
   rcases hy with hy|hy
   · exact xp hy
   · exact absurd rfl (S.nofree _ (PySem.mem_of_lookup hy))
 · exact Dq (x.above y c (PySem.mem_of_lookup h))
 · have hi:i < vs.length:=by
    unfold dL at h2
    by_cases hi:i < vs.length
    · exact hi
    · rw [Qb (by simpa using hi)]at h2
      rw [Qf]at h2;split at h2<;>cases h2
   have ha:vs[i]? =some v:=by
    unfold dL at h2;rw [Qa (by simpa using hi),zK]at h2
    cases e:vs[i]? with
    |none=>rw [e]at h2;cases h2
    |some a=>rw [e]at h2;cases h2;rfl
   obtain⟨u,hu,rv⟩:=r.get ha;have hp:ps[i]? =some y:=by
    rw [<-S.pre,List.getElem?_take_of_lt (by omega)];exact h1
   have ndP:ps.Nodup:=by rw [<-S.pre];exact S.nd.sublist (List.take_sublist _ _)
   refine⟨u,rv,?_⟩
   rcases S.par y (JM hp)with k|k
   · exact .inl ⟨k,vU ndP hp hu k⟩
   · obtain⟨c,e⟩:=xp (n:=s.heap.objs.size+1) k;refine .inr ⟨.inl k,c,e,?_⟩;have q:=x.cell y c e;rw [vV ndP hp hu (by show scope.names.lookup y≠_;rw [k];decide)]at q
     exact q
 · exact e0.hok.fresh (Dq (x.above y c (PySem.mem_of_lookup h)))
 · unfold dL;show _=N.length;rw [zQ,zJ,Gr];omega
theorem JW {CX:Ce}{P:Program}{w:World}{K:Fg}{mg:Str->Option Value}{base:Heap}{k:Nat}{f:Addr}{name qual:Str}{params:Arguments}{body:List Stmt}{scope:Scope}{dV kV doc pm cdv ct oc:Value}{an od:Option Addr}
 {osl:Array (Option Value)} {N ps:List Str} {sp:Sp} (lk:K.lookup f=some ⟨oc,od,.func (PySem.W.fnOf name qual params body scope dV kV doc pm an cdv ct),osl⟩) (hcd:PySem.W.codeIn K cdv qual=true) (S:FnScope N ps scope)
 (len:∀vs H Q E,sp vs H Q E->vs.length=ps.length)
 (hbody : ∀ (A : Around) (outer : List Env) (s : Shared) (H : Hp) (vs : List V) (Q : VK) (E : XK), Room k (A.deeper (envOfC qual scope s.heap.objs.size f cdv)) -> sp vs H Q E ->
  ∃t,PSs (nI CX P w K mg base N qual scope f cdv A outer s H E) body t/\t {nx:=λ_ H'=>Q .non H',rt:=Q} (dL N vs) H):
 FnOk P w K mg base CX (k+1) f (PySem.W.fnOf name qual params body scope dV kV doc pm an cdv ct) ps sp:=by
 refine⟨len,λA outer s H args us vs Q E hr e0 hb r hsp=>?_⟩;have hl:=len _ _ _ _ hsp;have KX:K.In s.heap:=e0.mod.kin.keeps λb o e=>(e0.bs b o e).1;have lim:s.heap.NoLimit:=e0.mod.nolimit.keeps λb o e=>(e0.bs b o e).1;have hkind:∀y∈ps.zip us,scope.names.lookup y.1=some .local\/(scope.names.lookup y.1=some .cell/\((cellsFrom (s.heap.objs.size+1) scope.names []).lookup y.1).isSome=true):=λ⟨n,v⟩ hy=>by
  rcases S.par n (List.of_mem_zip hy).1 with q|q
  · exact .inl q
  · exact .inr ⟨q,PySem.W.cellsFrom_some _ _ _ (.inl q)⟩
 refine codeAny_call_function hr.depth (KX _ _ lk) rfl S.co S.gen rfl (PySem.W.codeRec_of KX hcd) (hb _ _ _ _ ?_);refine wpAny_newFunctionEnv_cells S.kind hkind λenv he s1 x=>?_;subst he;refine⟨lim.keeps x.toInCall.keep,codeAny_func ?_⟩;obtain⟨t,ht,hq⟩:=hbody A outer s H vs Q E (hr.deeper _) hsp;have I:Inv (nI CX P w K mg base N qual scope f cdv A outer s H E) [] (dL N vs) H s1:=Cf S hr.hd e0 hl r x;refine wpAny_mono (ht [] s1 (dL N vs) H _ I hq) (λfl s' hs=>?_) λe s' hs=>hs;have fin:∀{σ':St} {H':Hp} {v:V} {u:Value},Inv (nI CX P w K mg base N qual scope f cdv A outer s H E) [] σ' H' s'->RelV v u->Q v H'->CE outer P w H s Q u s':=
  λ{σ' H' v u} J rv q=>⟨v,H',J.os,J.bare,J.base,J.hok,rv,q⟩
 cases fl with
 |ret u=>
  obtain⟨v,σ',H',J,rv,q⟩:=hs;exact fin J rv q
 |next=>
  obtain⟨σ',H',J,q⟩:=hs;exact fin (v:=V.non) (u:=Value.none) J rfl q
 |brk=>
  obtain⟨_,_,_,q⟩:=hs;exact False.elim q
 |cont=>
  obtain⟨_,_,_,q⟩:=hs;exact False.elim q
section
variable {X:Cx} {x:Str} {p pos:Pos} {e:Expr} {es:List Expr} {t:TA} {id T:String} {r:List V->Hp->VK->Prop}
def KH(r:List V->Hp->VK->Prop)(t:TA):TE:=λσ H Q=>t σ H λvs H1=>r vs H1 Q
theorem ai(hc:fu X (.builtin id) r)(hg:Gl X x)(hm:X.mg x=none)(hv:bootBuiltins x=some (.builtin id))(ha:PA X (e::es) t)(hn:x≠ "__name__":=by decide)(hdb:(x==("__debug__":Str))=false:=by decide)
 (he:starEach (e::es) X.env=(false,eval e X.env)::starEach es X.env:=by rfl) (hpl:(backTo pos (starEach es X.env)).any (·.1)=false:=by rfl):PE X (.Call (.Name x p) (e::es) [] pos) (KH r t):=by
 intro pins s σ H Q I h;refine wpAny_Call_Name_kw (qH I hg hm hv ?_ hn hdb);exact PyProof.Rows.callWith_builtin1 (cU (ha pos pins s σ H _ I h) λus s1 q_=>by obtain⟨vs,H1,I1,r1,q1⟩:=q_;exact hc pins s1 σ H1 vs us Q I1 r1 q1) he hpl
theorem j9(hc:fu X (.type T) r)(hg:Gl X x)(hm:X.mg x=none)(hv:bootBuiltins x=some (.type T))(ha:PA X (e::es) t)(hn:x≠ "__name__":=by decide)(hdb:(x==("__debug__":Str))=false:=by decide)
 (he:starEach (e::es) X.env=(false,eval e X.env)::starEach es X.env:=by rfl) (hpl:(backTo pos (starEach es X.env)).any (·.1)=false:=by rfl):PE X (.Call (.Name x p) (e::es) [] pos) (KH r t):=by
 intro pins s σ H Q I h;refine wpAny_Call_Name_kw (qH I hg hm hv ?_ hn hdb);exact PyProof.Rows.callWith_type1 (cU (ha pos pins s σ H _ I h) λus s1 q_=>by obtain⟨vs,H1,I1,r1,q1⟩:=q_;exact hc pins s1 σ H1 vs us Q I1 r1 q1) he hpl
end
end L2
namespace HT
open PySem PyProof.Rows
section
open PySem.SeqAt
open PySem.AutoSeq1 (wpAny_loadPart')
open PySem.MeetsSeq PySem.MeetsSeq2 PySem.MeetsSeq3
end
section
variable {prog:Program} {w:World} {A:Around} {E:Value->Shared->Prop} {s:Shared}
theorem HQ {t b:Addr}{vs ws:List Value}{Q:Value->Shared->Prop}(ht:IsTup s.heap t vs.toArray)(hb:IsTup s.heap b ws.toArray)(hv:vs≠[])
 (h1:ws=[]->Q (.ref t) s) (h2:ws≠[]->Q (.ref s.heap.objs.size) {s with heap:=s.heap.push {cls:=.type "tuple",data:=.seq (vs++ws).toArray}})
 (hsz:vs.length+ws.length<=sizeLine):wpAny (model prog w) A (binaryOp .Add (.ref t) (.ref b)) Q E s:=by
 obtain⟨⟨cls,dd,data,sl⟩,ho,hc,n,hd⟩:=id ht;obtain⟨⟨cls2,dd2,data2,sl2⟩,ho2,hc2,n2,hd2⟩:=id hb;simp only at hc hd hc2 hd2;subst hc hd hc2 hd2;have e:vs.toArray++ws.toArray=(vs++ws).toArray:=by simp
 by_cases hw:ws=[]
 · exact concat_meets ⟨_,ho,rfl⟩ ⟨_,ho2,rfl⟩ noFill_tuple_add seq_tuple_add PySem.F.slot_tuple_add PySem.F.entry_tuple_add (PySem.F.args_tuple_add_2 _ _)
    (tuple_addW1 t b vs.toArray ws.toArray n n2 dd dd2 sl sl2 (by simpa using hv) (by simp [hw])) ⟨ho,ho2,h1 hw⟩
 · refine concat_meets ⟨_,ho,rfl⟩ ⟨_,ho2,rfl⟩ noFill_tuple_add seq_tuple_add PySem.F.slot_tuple_add PySem.F.entry_tuple_add (PySem.F.args_tuple_add_2 _ _)
    (tuple_addW2 t b vs.toArray ws.toArray n n2 dd dd2 sl sl2 (by simpa using hv) (by simpa using hw) (by rw [zM,zM];exact hsz)) ⟨ho,ho2,?_⟩
   rw [e];exact h2 hw
noncomputable def fK(n d:Nat):Option Int->Nat
 |none=>d
 |some v=>if v < 0 then(v+(n:Int)).toNat else min v.toNat n
theorem KI(n d:Nat)(hd:d<=n)(o:Option Int):fK n d o<=n:=by
 cases o with
 |none=>exact hd
 |some v=>
  show (if v < 0 then(v+(n:Int)).toNat else min v.toNat n)<=n
  by_cases hv:v < 0
  · rw [if_pos hv];omega
  · rw [if_neg hv];exact Nat.min_le_right _ _
theorem B8(v:Int)(n d:Nat):(if v < 0 then max (v+(n:Int)) 0 else min v (n:Int))=((fK n d (some v):Nat):Int):=by
 show (if v < 0 then max (v+(n:Int)) 0 else min v (n:Int))=(((if v < 0 then(v+(n:Int)).toNat else min v.toNat n):Nat):Int)
 by_cases hv:v < 0
 · simp only [if_pos hv];omega
 · simp only [if_neg hv];omega
theorem AV(lo hi:Option Int)(n:Nat):Builtin.Slice.sliceAdjust lo hi 1 (n:Int)=(((fK n 0 lo:Nat):Int),((fK n n hi:Nat):Int)):=by
 have h1:¬((1:Int) < 0):=by omega
 unfold Builtin.Slice.sliceAdjust;simp only [h1,if_false];refine Prod.ext ?_ ?_
 · cases lo with
   |none=>rfl
   |some v=>exact B8 v n 0
 · cases hi with
   |none=>rfl
   |some v=>exact B8 v n n
theorem AW(i j:Nat):Builtin.Slice.slicePlaces (i:Int) (j:Int) 1=j - i:=by
 unfold Builtin.Slice.slicePlaces;have h1:(1:Int) > 0:=by omega
 simp only [h1,if_true,Int.ediv_one];split<;>omega
theorem sZ {v:Value}{o:Option Int}{Q:Option Int->Shared->Prop}(p:IsPart v o)(h:Q o s):wpAny (model prog w) A (Builtin.Slice.slicePartIndex v) Q E s:=by
 cases p with
 |none=>exact slicePart_none h
 |int i t=>exact slicePart_int h
theorem ja {sl:Addr}{vl vu:Value}{lo hi:Option Int}{n:Nat}{Q:Int×Int×Nat->Shared->Prop}(hs:s.heap.IsSliceOf sl vl vu .none)(pl:IsPart vl lo)(pu:IsPart vu hi)
 (h:Q (((fK n 0 lo:Nat):Int),1,fK n n hi - fK n 0 lo) s):wpAny (model prog w) A (Builtin.Slice.sliceApplied (.ref sl) (pure (n:Int))) Q E s:=by
 obtain⟨os,hos,hcs,hds⟩:=id hs;unfold Builtin.Slice.sliceApplied Builtin.Slice.sliceFields;refine wB (wB (wpAny_field hos hds (x:=vl) rfl (wB (wpAny_field hos hds (x:=vu) rfl (wB (wpAny_field hos hds (x:=.none) rfl (wP ?_)))))));refine wB (slicePart_none ?_);show wpAny _ _ (if((1:Int)==0)=true then _ else _) _ _ s;rw [if_neg (by decide)]
 refine wB (sZ pl (wB (sZ pu (wB (wP ?_)))));show wpAny _ _ (match Builtin.Slice.sliceAdjust lo hi 1 (n:Int)with|(lo,hi)=>pure (lo,(1:Int),Builtin.Slice.slicePlaces lo hi 1)) _ _ s
 rw [AV lo hi n];show wpAny _ _ (pure (((fK n 0 lo:Nat):Int),(1:Int),Builtin.Slice.slicePlaces ((fK n 0 lo:Nat):Int) ((fK n n hi:Nat):Int) 1)) _ _ s;rw [AW];exact wP h
theorem EW(xs:Array Value)(i k:Nat):((List.range k).filterMap λ(m:Nat)=>xs[((i:Int)+(m:Int)*1).toNat]?).toArray=((xs.toList.drop i).take k).toArray:=by
 have e:(λ(m:Nat)=>xs[((i:Int)+(m:Int)*1).toNat]?)=λm=>xs[i+m]? :=by
  funext m
  have:((i:Int)+(m:Int)*1).toNat=i+m:=by omega
  rw [this]
 rw [e];have:=pick_run xs i k;rw [List.filterMap_map]at this;have e2:((λx=>xs[x]?)∘ λx=>i+x)=λm=>xs[i+m]? :=rfl;rw [e2]at this;rw [this]
theorem oK {t sl:Addr}{items:Array Value}{vl vu:Value}{lo hi:Option Int}{Q:Value->Shared->Prop}(ht:IsTup s.heap t items)(hs:s.heap.IsSliceOf sl vl vu .none)(pl:IsPart vl lo)(pu:IsPart vu hi)
 (hw:¬(fK items.size 0 lo=0/\fK items.size items.size hi=items.size))
 (h:Q (.ref s.heap.objs.size) {s with heap:=s.heap.push {cls:=.type "tuple",data:=.seq ((items.toList.drop (fK items.size 0 lo)).take (fK items.size items.size hi - fK items.size 0 lo)).toArray}})
 (hsz:items.size<=sizeLine):wpAny (model prog w) A (getItem (.ref t) (.ref sl)) Q E s:=by
 have htake:sizeOk (.seq ((items.toList.drop (fK items.size 0 lo)).take (fK items.size items.size hi - fK items.size 0 lo)).toArray):=by
  show ((items.toList.drop (fK items.size 0 lo)).take (fK items.size items.size hi - fK items.size 0 lo)).toArray.size<=sizeLine;rw [zM,Dt,List.length_drop,B2];omega
 have hj:fK items.size items.size hi<=items.size:=KI _ _ (Q2 _) hi;obtain⟨os,hos,hcs,hds⟩:=id hs;have hTs:s.TypeIs (.ref sl) "slice":=⟨os,hos,hcs⟩;unfold getItem
 try with_reducible refine wpAny_holding ?_
 first|refine wB (wP ?_)|skip
 refine wB (wpAny_sequenceKey ht.typeIs (by decide) ?_)
 refine wB (wpAny_callSpecial?_slot (name:=Str.ofString "__getitem__") ht.typeIs PyProof.Rows.slot_tuple_getitem
  (wpAny_call_entry PyProof.Rows.slot_tuple_getitem ht.typeIs entry_tuple_getitem ?_ (args_tuple_getitem _ _)))
 show wpAny _ _ (Builtin.Tuple.tupleItemsOf (.ref t) >>=_) _ _ s;refine wB (tupleItemsOf_ ht ?_);refine wB (wpAny_typeOf hTs ?_);rw [if_pos (by decide)]
 refine wB (ja hs pl pu ?_);have hno:¬((((fK items.size 0 lo:Nat):Int)==0&&(1:Int)==1&&(fK items.size items.size hi - fK items.size 0 lo)==items.size)=true):=by
  intro q;rw [Q5,Q5]at q;have q1:((fK items.size 0 lo:Nat):Int)=0:=eq_of_beq q.1.1;have q2:fK items.size items.size hi - fK items.size 0 lo=items.size:=eq_of_beq q.2;exact hw ⟨by omega,by omega⟩
 show wpAny _ _ (if(((fK items.size 0 lo:Nat):Int)==0&&(1:Int)==1&&(fK items.size items.size hi - fK items.size 0 lo)==items.size)=true then _ else _) _ _ s;rw [if_neg hno,EW]
 first
  |exact wB (m:=Builtin.Tuple.tupleExact _) (wpAny_newObj_type (wP ⟨_,rfl,wP h⟩) htake)
  |exact wB (m:=Builtin.Tuple.tupleExact _) (wpAny_newObj_type (wB (wP (wP ⟨_,rfl,wP h⟩))) htake)
  |exact wB (wB (m:=Builtin.Tuple.tupleExact _) (wpAny_newObj_type (wP (wP ⟨_,rfl,wP h⟩)) htake))
  |exact wB (wB (m:=Builtin.Tuple.tupleExact _) (wpAny_newObj_type (wP ⟨_,rfl,wP h⟩) htake))
end
end HT
namespace L2
open PySem PySem.Spec PyProof.Rows
noncomputable abbrev TO:=St->Hp->(Option Int->Hp->Prop)->Prop
def PO(X:Cx)(e:Option Expr)(t:TO):Prop:=
 ∀(pins:List (Addr×Obj)) (s:Shared) (σ:St) (H:Hp) (Q:Option Int->Hp->Prop),Inv X pins σ H s->t σ H Q->
  wpAny (model X.prog X.w) X.A (evalPart e X.env) (λu s'=>∃o H',Inv X pins σ H' s'/\IsPart u o/\Q o H') X.xe s
noncomputable def B9:TO:=λ_ H Q=>Q none H
noncomputable def JX(t:TE):TO:=λσ H Q=>t σ H λx H1=>∃i,x=.int i/\Q (some i) H1
section
variable {X:Cx} {e:Expr} {te:TE} {lo hi:Option Expr} {tl th:TO} {pos p2:Pos}
theorem HR:PO X none B9:=by
 intro pins s σ H Q I h;rw [evalPart_none];exact wP ⟨none,H,I,.none,h⟩
theorem HS(h:PE X e te):PO X (some e) (JX te):=by
 intro pins s σ H Q I hw;rw [evalPart_some];refine cU (h pins s σ H _ I hw) λu s1 q_=>?_;obtain⟨x,H1,I1,r1,q1⟩:=q_;obtain⟨i,rfl,q⟩:=q1;obtain⟨t,rfl⟩:=r1;exact⟨some i,H1,I1,.int i t,q⟩
def SlR(X:Cx)(r:V->Option Int->Option Int->Hp->VK->Prop):Prop:=
 ∀(pins:List (Addr×Obj)) (s:Shared) (σ:St) (H:Hp) (x:V) (v vl vu:Value) (lo hi:Option Int) (sl:Addr) (Q:VK),Inv X pins σ H s->RelV x v->s.heap.IsSliceOf sl vl vu .none->IsPart vl lo->IsPart vu hi->r x lo hi H Q->
  ∃T id,typeLookup (.type T) "__getitem__"=pure (some (.builtin id))/\s.TypeIs v T/\wpAny (model X.prog X.w) X.A (getItem v (.ref sl)) (EP X pins σ Q) X.xe s
theorem SlR.or {r r':V->Option Int->Option Int->Hp->VK->Prop}(h:SlR X r)(h':SlR X r'):SlR X (λx lo hi H Q=>r x lo hi H Q\/r' x lo hi H Q):=by
 intro pins s σ H x v vl vu lo hi sl Q I rx hs pl pu q
 rcases q with q|q
 · exact h pins s σ H x v vl vu lo hi sl Q I rx hs pl pu q
 · exact h' pins s σ H x v vl vu lo hi sl Q I rx hs pl pu q
def N0(r:V->Option Int->Option Int->Hp->VK->Prop)(te:TE)(tl th:TO):TE:=λσ H Q=>te σ H λx H1=>tl σ H1 λl H2=>th σ H2 λu H3=>r x l u H3 Q
theorem EX {r:V->Option Int->Option Int->Hp->VK->Prop}(hr:SlR X r)(he:PE X e te)(hl:PO X lo tl)(hu:PO X hi th):PE X (.Subscript e (.Slice lo hi none p2) pos) (N0 r te tl th):=by
 intro pins s σ H Q I h;refine Subscript_ (cU (he pins s σ H _ I h) λv s1 q_=>?_);obtain⟨x,H1,I1,r1,q1⟩:=q_;refine wpAny_Slice (cU (hl pins s1 σ H1 _ I1 q1) λvl s2 ⟨l,H2,I2,pl,q2⟩=>cU (hu pins s2 σ H2 _ I2 q2) λvu s3 q_=>?_);obtain⟨u,H3,I3,pu,q3⟩:=q_;rw [evalPart_none];refine wP ?_;have I4:Inv X pins σ H3 {s3 with heap:=s3.heap.push {cls:=.type "slice",data:=.fields #[vl,vu,.none]}}:=I3.kept (t':=s3.toks) λb ob q=>iM _ q
 obtain⟨T,id,hT,ht,hg⟩:=hr pins {s3 with heap:=s3.heap.push {cls:=.type "slice",data:=.fields #[vl,vu,.none]}} σ H3 x v vl vu l u s3.heap.objs.size Q I4 r1 (Heap.IsSliceOf.new ..) pl pu q3
 show wpAny (model X.prog X.w) X.A (subscriptTail e (.Slice lo hi none p2) v (.ref s3.heap.objs.size)) (EP X pins σ Q) X.xe {s3 with heap:=s3.heap.push {cls:=.type "slice",data:=.fields #[vl,vu,.none]}}
 exact tail_any (ops:=[.ref s3.heap.objs.size,v]) ht hT hg (by with_unfolding_all rfl)
noncomputable def xq(xs:List V)(lo hi:Option Int):List V:=(xs.drop (HT.fK xs.length 0 lo)).take (HT.fK xs.length xs.length hi - HT.fK xs.length 0 lo)
theorem qw(xs:List V)(lo hi:Option Int):(xq xs lo hi).length<=xs.length:=by
 unfold xq;rw [Dt,List.length_drop];omega
def Lc(K:Fg):V->Option Int->Option Int->Hp->VK->Prop:=λx lo hi H Q=>∃a xs,x=.ref a/\SqT K H a xs/\
 ¬(HT.fK xs.length 0 lo=0/\HT.fK xs.length xs.length hi=xs.length)/\∀p,H p=none->Q (.ref p) (bH H p (.tup (xq xs lo hi)))
theorem KJ:SlR X (Lc X.K):=by
 intro pins s σ H x v vl vu lo hi sl Q I rx hs pl pu h;obtain⟨a,xs,rfl,hx,hw,q⟩:=h;cases rx;obtain⟨its,r,ht,hz⟩:=I.tuple hx;have hlen:its.toArray.size=xs.length:=by rw [zM];exact r.length.symm
 refine⟨"tuple",_,PyProof.Rows.slot_tuple_getitem.lookup,ht.typeIs,?_⟩;refine HT.oK ht hs pl pu (by rw [hlen];exact hw) ?_ (by rw [hlen];exact hz)
 rw [hlen];refine⟨.ref s.heap.objs.size,_,I.laid (t':=s.toks) (o:=.tup (xq xs lo hi)) (λb ob q=>iM _ q) (Q2 _) ?_,rfl,q _ (I.hok.fresh (Q2 _))⟩;exact⟨Qe (qw xs lo hi) hz,_,(r.drop (HT.fK xs.length 0 lo)).take (HT.fK xs.length xs.length hi - HT.fK xs.length 0 lo),IsTup.new _ _,_,kf _ rfl,rfl⟩
def Ld(K:Fg):R2:=λx y H Q=>∃a b xs ys,x=.ref a/\y=.ref b/\SqT K H a xs/\SqT K H b ys/\xs≠[]/\xs.length+ys.length<=sizeLine/\
 (ys=[]->Q (.ref a) H)/\(ys≠[]->∀p,H p=none->Q (.ref p) (bH H p (.tup (xs++ys))))
theorem Vals.nil_iff {xs:List V}{us:List Value}(r:Vals xs us):us=[]↔xs=[]:=by
 cases r with
 |nil=>simp
 |cons _ _=>simp
theorem HU:OpR X (binaryOp .Add) (Ld X.K):=by
 intro pins s σ H x y v u Q I rx ry h;obtain⟨a,b,xs,ys,rfl,rfl,ha,hb,hx,hz,q1,q2⟩:=h;cases rx;cases ry;obtain⟨its,r1,p1,_⟩:=I.tuple ha;obtain⟨its2,r2,p2,_⟩:=I.tuple hb;refine HT.HQ p1 p2 (λz=>hx (r1.nil_iff.mp z)) (λz=>⟨.ref a,H,I,rfl,q1 (r2.nil_iff.mp z)⟩) (λz=>?_) (by rw [<-r1.length, <-r2.length];exact hz)
 refine⟨.ref s.heap.objs.size,_,I.laid (t':=s.toks) (o:=.tup (xs++ys)) (λb ob q=>iM _ q) (Q2 _) ?_,rfl,q2 (λw=>z (r2.nil_iff.mpr w)) _ (I.hok.fresh (Q2 _))⟩;exact⟨by rw [zQ];exact hz,_,r1.append r2,IsTup.new _ _,_,kf _ rfl,rfl⟩
end
noncomputable def KK(n:Nat)(i:Int):Option Nat:=if 0<=i then(if i < n then some i.toNat else none)else if -(n:Int)<=i then some (i+n).toNat else none
noncomputable def uq {α:Type}(xs:List α)(i:Int):Option α:=(KK xs.length i).bind λj=>xs[j]?
theorem HV {n:Nat}{i:Int}{j:Nat}(h:KK n i=some j):seqIndex? i n=some j/\j < n/\ -(n:Int)<=i/\i < n:=by
 unfold KK at h
 by_cases h0:0<=i
 · rw [if_pos h0]at h
   by_cases h1:i < n
   · rw [if_pos h1]at h;have e:i.toNat=j:=zV h;exact⟨by rw [seqIndex_of h0 h1,e],by omega,by omega,h1⟩
   · rw [if_neg h1]at h;cases h
 · rw [if_neg h0]at h
   by_cases h1: -(n:Int)<=i
   · rw [if_pos h1]at h;have e:(i+n).toNat=j:=zV h;exact⟨by rw [seqIndex_neg (by omega) h1,e],by omega,h1,by omega⟩
   · rw [if_neg h1]at h;cases h
theorem wc {α:Type}{xs:List α}{i:Int}{v:α}(h:uq xs i=some v):∃j,seqIndex? i xs.length=some j/\xs[j]? =some v/\j < xs.length/\ -(xs.length:Int)<=i/\i < xs.length:=by
 unfold uq at h;cases e:KK xs.length i with
 |none=>rw [e]at h;cases h
 |some j=>
  rw [e]at h;obtain⟨h1,h2,h3,h4⟩:=HV e;exact⟨j,h1,h,h2,h3,h4⟩
theorem Ba {α:Type}{xs:List α}{j:Nat}{v:α}(h:xs[j]? =some v):uq xs (j:Int)=some v:=by
 have hj:j < xs.length:=(Dx.mp h).1;have e:KK xs.length (j:Int)=some j:=by
  unfold KK;rw [if_pos (by omega),if_pos (by omega)];simp
 unfold uq;rw [e];exact h
def HW(b:Expr):Prop:=∀o i,subscripted b false o i=operate [o,i] (getItem o i)
def IxR(X:Cx)(r:R2):Prop:=
 ∀(value slice:Expr) (pins:List (Addr×Obj)) (s:Shared) (σ:St) (H:Hp) (x y:V) (v u:Value) (Q:VK),Inv X pins σ H s->RelV x v->RelV y u->r x y H Q->
  subscripted slice false v u=operate [v,u] (getItem v u)->wpAny (model X.prog X.w) X.A (subscriptTail value slice v u) (EP X pins σ Q) X.xe s
def N6(X:Cx)(id:String)(r:V->List V->Hp->VK->Prop):Prop:=
 ∀(pins:List (Addr×Obj)) (s:Shared) (σ:St) (H:Hp) (x:V) (xs:List V) (v:Value) (us:List Value) (Q:VK),Inv X pins σ H s->RelV x v->Vals xs us->r x xs H Q->
  wpAny (model X.prog X.w) X.A (call (.builtin id) (v::us)) (EP X pins σ Q) X.xe s
section
variable {X:Cx} {a b:Expr} {ta tb:TE} {pos:Pos}
theorem IxR.or {r r':R2}(h:IxR X r)(h':IxR X r'):IxR X (λx y H Q=>r x y H Q\/r' x y H Q):=by
 intro value slice pins s σ H x y v u Q I rx ry q hs
 rcases q with q|q
 · exact h value slice pins s σ H x y v u Q I rx ry q hs
 · exact h' value slice pins s σ H x y v u Q I rx ry q hs
theorem ba {r:R2}(hr:IxR X r)(ha:PE X a ta)(hb:PE X b tb)(hs:HW b):PE X (.Subscript a b pos) (HH r ta tb):=by
 intro pins s σ H Q I h;exact Subscript_ (Jz ha hb I h λv u s2 x y H2 I2 rx ry q=>hr a b pins s2 σ H2 x y v u Q I2 rx ry q (hs _ _))
def Le(K:Fg):R2:=λx y H Q=>∃p xs i v,x=.ref p/\y=.int i/\SqL K H p xs/\uq xs i=some v/\Q v H
def Lf(K:Fg):R2:=λx y H Q=>∃p xs i v,x=.ref p/\y=.int i/\SqT K H p xs/\uq xs i=some v/\Q v H
def Lg:R2:=λx y H Q=>∃z i c,x=.str z/\y=.int i/\z.length<=sizeLine/\uq z.cps.toList i=some c/\Q (.str ⟨#[c]⟩) H
theorem HX:IxR X (Le X.K):=by
 intro value slice pins s σ H x y v u Q I rx ry h hs;obtain⟨p,xs,i,z,rfl,rfl,hq,he,q⟩:=h;cases rx;obtain⟨t,rfl⟩:=ry;obtain⟨its,r,pl,hz⟩:=I.list hq;obtain⟨j,h1,h2,h3,h4,h5⟩:=wc he;obtain⟨w,ew,rw'⟩:=r.get h2;have hl:=r.length;have hn:=sW;have fin:EP X pins σ Q w s:=⟨z,H,I,rw',q⟩
 by_cases h0:0<=i
 · have hj:i.toNat=j:=by
    rw [seqIndex_of h0 h5]at h1;exact zV h1
   exact item_listR pl.isList h0 (by omega) (by rw [hj];simpa using ew) fin hs
 · have hj:(i+(its.toArray.size:Int)).toNat=j:=by
    rw [seqIndex_neg (by omega) h4]at h1
    rw [zM, <-hl];exact zV h1
   exact subscriptTail_builtinR (x:=w) pl.isList.typeIs slot_list_getitem.lookup
    (wpAny_getItem_list_neg (Q:=λr s'=>r=w/\EP X pins σ Q r s') pl.isList (by omega) (by rw [zM]<;>omega) (by omega) (by rw [hj];simpa using ew) ⟨rfl,fin⟩) hs
theorem KL:IxR X (Lf X.K):=by
 intro value slice pins s σ H x y v u Q I rx ry h hs;obtain⟨p,xs,i,z,rfl,rfl,hq,he,q⟩:=h;cases rx;obtain⟨t,rfl⟩:=ry;obtain⟨its,r,pl,hz⟩:=I.tuple hq;obtain⟨j,h1,h2,h3,h4,h5⟩:=wc he;obtain⟨w,ew,rw'⟩:=r.get h2;have hl:=r.length;have hn:=sW;have fin:EP X pins σ Q w s:=⟨z,H,I,rw',q⟩;exact subscriptTail_builtinR (x:=w) pl.typeIs slot_tuple_getitem.lookup
  (getItem_tuple (j:=j) (Q:=λr s'=>r=w/\EP X pins σ Q r s') pl (by omega) (by omega) (by rw [zM, <-hl];exact h1) (by simpa using ew) ⟨rfl,fin⟩) hs
theorem KM:IxR X Lg:=by
 intro value slice pins s σ H x y v u Q I rx ry h hs;obtain⟨z,i,c,rfl,rfl,hz,he,q⟩:=h;obtain⟨t,rfl⟩:=rx;obtain⟨t',rfl⟩:=ry;obtain⟨j,h1,h2,h3,h4,h5⟩:=wc he;have hl:z.cps.toList.length=z.length:=by simp [Str.length]
 rw [hl]at h1 h4 h5;have hn:=sW;exact tail_any (typeIs_str s z t) slot_str_getitem.lookup (getItem_str (c:=c) (by
  have e1:decide (i < -(2 ^ 63:Int))=false:=decide_eq_false (by omega)
  have e2:decide (i>=2 ^ 63)=false:=decide_eq_false (by omega)
  rw [e1,e2,Bool.or_false]) (by rw [h1];simpa using h2) ⟨.str ⟨#[c]⟩,H,I.tok _,⟨_,rfl⟩,q⟩) hs
def Mm(K:Fg):R2:=λx y H Q=>Le K x y H Q\/Lf K x y H Q\/Lg x y H Q
theorem KN:IxR X (Mm X.K):=HX.or (KL.or KM)
theorem we(lo hi:Option Int)(n:Nat):(sliceBounds lo hi none n).1=((HT.fK n 0 lo:Nat):Int)/\(sliceBounds lo hi none n).2.1=((HT.fK n n hi:Nat):Int)/\(sliceBounds lo hi none n).2.2=1:=by
 refine⟨?_,?_,rfl⟩
 · cases lo with
   |none=>simp [sliceBounds,HT.fK]
   |some i=>
    simp only [sliceBounds,HT.fK,Option.getD_none,show (1:Int) > 0 by decide,if_true]
    by_cases h:i < 0
    · simp only [h,if_true]<;>omega
    · simp only [h,if_false]<;>omega
 · cases hi with
   |none=>simp [sliceBounds,HT.fK]
   |some i=>
    simp only [sliceBounds,HT.fK,Option.getD_none,show (1:Int) > 0 by decide,if_true]
    by_cases h:i < 0
    · simp only [h,if_true]<;>omega
    · simp only [h,if_false]<;>omega
theorem ur(its:List Value)(lo hi:Option Int):slicePick its.toArray lo hi none=((its.drop (HT.fK its.length 0 lo)).take (HT.fK its.length its.length hi - HT.fK its.length 0 lo)).toArray:=by
 obtain⟨h1,h2,h3⟩:=we lo hi its.toArray.size;unfold slicePick;rw [h1,h2,h3];simp only [sliceRange_one,pick_run,zM]<;>rfl
def Lh(K:Fg):V->Option Int->Option Int->Hp->VK->Prop:=λx lo hi H Q=>∃a xs,x=.ref a/\SqL K H a xs/\∀p,H p=none->Q (.ref p) (bH H p (.lst (xq xs lo hi)))
theorem HY:SlR X (Lh X.K):=by
 intro pins s σ H x v vl vu lo hi sl Q I rx hs pl pu h;obtain⟨a,xs,rfl,hx,q⟩:=h;cases rx;obtain⟨its,r,ht,hz⟩:=I.list hx;have hlen:=r.length;refine⟨"list",_,slot_list_getitem.lookup,ht.isList.typeIs,?_⟩;refine wpAny_getItem_list_slice ht.isList hs pl pu .none (by simp) ?_ (by rw [zM]<;>omega)
 rw [ur, <-hlen];refine⟨.ref s.heap.objs.size,_,I.laid (t':=s.toks) (o:=.lst (xq xs lo hi)) (λb ob q=>iM _ q) (Q2 _) ?_,rfl,q _ (I.hok.fresh (Q2 _))⟩;exact⟨Qe (qw xs lo hi) hz,_,0,(r.drop (HT.fK xs.length 0 lo)).take (HT.fK xs.length xs.length hi - HT.fK xs.length 0 lo),kf _ rfl⟩
noncomputable def mV:V->Bool
 | .non=>true
 | .bl _=>true
 | .int _=>true
 | .str _=>true
 |_=>false
noncomputable def Cg:V->V->Bool
 | .non,.non=>true
 | .bl a,.bl b=>a==b
 | .bl a,.int b=>(if a then 1 else 0)==b
 | .int a,.bl b=>a==(if b then 1 else 0)
 | .int a,.int b=>a==b
 | .str a,.str b=>a==b
 |_,_=>false
theorem KO {A:Around}{s:Shared}{y x:V}{u v:Value}(ry:RelV y u)(rx:RelV x v)(fy:mV y=true)(fx:mV x=true):SeqAt.EqAt A s u v (Cg y x):=by
 cases y with
 |non=>
  cases ry;cases x with
  |non=>cases rx;exact SeqAt.EqAt.same _
  |bl b=>cases rx;exact SeqAt.EqAt.none_bool b
  |int b=>obtain⟨t,rfl⟩:=rx;exact SeqAt.EqAt.none_int b t
  |str b=>obtain⟨t,rfl⟩:=rx;exact SeqAt.EqAt.none_str b t
  |_=>exact absurd (show false=true from fx) Q7
 |bl a=>
  cases ry;cases x with
  |non=>cases rx;exact SeqAt.EqAt.bool_none a
  |bl b=>cases rx;exact SeqAt.EqAt.bool_bool a b
  |int b=>obtain⟨t,rfl⟩:=rx;exact SeqAt.EqAt.bool_int a b t
  |str b=>obtain⟨t,rfl⟩:=rx;exact SeqAt.EqAt.bool_str a b t
  |_=>exact absurd (show false=true from fx) Q7
 |int a=>
  obtain⟨t',rfl⟩:=ry;cases x with
  |non=>cases rx;exact SeqAt.EqAt.int_none a t'
  |bl b=>cases rx;exact SeqAt.EqAt.int_bool a t' b
  |int b=>obtain⟨t,rfl⟩:=rx;exact SeqAt.EqAt.int_int a t' b t
  |str b=>obtain⟨t,rfl⟩:=rx;exact SeqAt.EqAt.int_str a t' b t
  |_=>exact absurd (show false=true from fx) Q7
 |str a=>
  obtain⟨t',rfl⟩:=ry;cases x with
  |non=>cases rx;exact SeqAt.EqAt.str_none a t'
  |bl b=>cases rx;exact SeqAt.EqAt.str_bool a t' b
  |int b=>obtain⟨t,rfl⟩:=rx;exact SeqAt.EqAt.str_int a t' b t
  |str b=>obtain⟨t,rfl⟩:=rx;exact SeqAt.EqAt.str_str a t' b t
  |_=>exact absurd (show false=true from fx) Q7
 |_=>exact absurd (show false=true from fy) Q7
noncomputable def Dv(x:V)(u:Value):Bool:=match u with
 | .none=>Cg .non x
 | .bool b=>Cg (.bl b) x
 | .int i _=>Cg (.int i) x
 | .str z _=>Cg (.str z) x
 |_=>false
theorem EY {x y:V}{u:Value}(r:RelV y u)(f:mV y=true):Dv x u=Cg y x:=by
 cases y with
 |non=>cases r;rfl
 |bl b=>cases r;rfl
 |int i=>obtain⟨t,rfl⟩:=r;rfl
 |str z=>obtain⟨t,rfl⟩:=r;rfl
 |_=>exact absurd (show false=true from f) Q7
theorem Bb {x:V}{xs:List V}{us:List Value}(h:Vals xs us)(f:xs.all mV=true):us.any (Dv x)=xs.any λy=>Cg y x:=by
 induction h with
 |nil=>rfl
 |cons r t ih=>
  rw [List.all_cons,Q5]at f;rw [HA,HA,EY r f.1,ih f.2]
theorem xr {A:Around}{s:Shared}{x:V}{v:Value}(rx:RelV x v)(fx:mV x=true){xs:List V}{us:List Value}(h:Vals xs us)(f:xs.all mV=true):∀u∈us,SeqAt.EqAt A s u v (Dv x u):=by
 induction h with
 |nil=>exact λu hu=>by cases hu
 |cons r t ih=>
  intro u' hu;rw [List.all_cons,Q5]at f
  rcases Q8.mp hu with rfl|hu
  · rw [EY r f.1];exact KO r rx f.1 fx
  · exact ih f.2 u' hu
noncomputable def Mn(x:V)(xs:List V):Bool:=xs.any λy=>Cg y x
def NE(K:Fg)(neg:Bool):R2:=λx y H Q=>∃p xs,y=.ref p/\(SqL K H p xs\/SqT K H p xs)/\mV x=true/\xs.all mV=true/\Q (.bl (if neg then !Mn x xs else Mn x xs)) H
theorem Ch:OpR X (compareOp .In) (NE X.K false):=by
 intro pins s σ H x y v u Q I rx ry h;obtain⟨p,xs,rfl,hq,fx,fs,q⟩:=h;cases ry
 rcases hq with hq|hq
 · obtain⟨its,r,pl,hz⟩:=I.list hq;refine SeqAt.in_listAt (Dv x) pl.isList (λw hw=>xr rx fx r fs w (by simpa using hw)) ⟨.bl _,H,I,rfl,?_⟩
   rw [show its.toArray.any (Dv x)=its.any (Dv x)by simp,Bb r fs]
   exact q
 · obtain⟨its,r,pl,hz⟩:=I.tuple hq;refine SeqAt.in_tupleAt (Dv x) pl (λw hw=>xr rx fx r fs w (by simpa using hw)) ⟨.bl _,H,I,rfl,?_⟩
   rw [show its.toArray.any (Dv x)=its.any (Dv x)by simp,Bb r fs]
   exact q
theorem wg:fu X (.type "list") (λxs H Q=>∃p ys,xs=[.ref p]/\(SqL X.K H p ys\/SqT X.K H p ys)/\∀l,H l=none->Q (.ref l) (bH H l (.lst ys))):=by
 intro pins s σ H xs us Q I r h;obtain⟨p,ys,rfl,hq,q⟩:=h;obtain⟨u,rfl,rx⟩:=sX r;cases rx;have fin:∀(its:List Value),Vals ys its->ys.length<=sizeLine->∀(h':Heap) (c':Nat),(∀b o',s.heap.get? b=some o'->h'.get? b=some o')->
  h'.get? s.heap.objs.size=some {cls:=.type "list",dict:=none,data:=.seq its.toArray c',slots:= #[]}->EP X pins σ Q (.ref s.heap.objs.size) {s with heap:=h'}:=λits r' hz h' c' kp e=>
  ⟨.ref s.heap.objs.size,_,I.laid (t':=s.toks) kp (Q2 _) (show ObjOk X.prog X.w _ h' _ (.lst ys)from ⟨hz,its,c',r',e⟩),rfl,q _ (I.hok.fresh (Q2 _))⟩
 rcases hq with hq|hq
 · obtain⟨its,r',pl,hz⟩:=I.list hq;have hlen:=r'.length;obtain⟨o,ho,hc,n,hd⟩:=pl.isList;exact call_list_seq p (.inl rfl) ho hc hd (λh' c' kp e=>fin its r' hz h' c' kp e) (by simp only [zM]<;>omega)
 · obtain⟨its,r',pl,hz⟩:=I.tuple hq;have hlen:=r'.length;obtain⟨o,ho,hc,n,hd⟩:=pl;exact call_list_seq p (.inr rfl) ho hc hd (λh' c' kp e=>fin its r' hz h' c' kp e) (by simp only [zM]<;>omega)
theorem ut:fu X (.type "tuple") (λxs H Q=>∃p ys,xs=[.ref p]/\((SqL X.K H p ys/\∀l,H l=none->Q (.ref l) (bH H l (.tup ys)))\/(SqT X.K H p ys/\Q (.ref p) H))):=by
 intro pins s σ H xs us Q I r h;obtain⟨p,ys,rfl,h⟩:=h;obtain⟨u,rfl,rx⟩:=sX r;cases rx
 rcases h with ⟨hq,q⟩|⟨hq,q⟩
 · obtain⟨its,r',pl,hz⟩:=I.list hq;have hlen:=r'.length;refine call_tuple_list pl.isList (λh' kp=>?_) (by simp only [zM]<;>omega)
   have I1:Inv X pins σ H {s with heap:=h'}:=I.kept (t':=s.toks) kp
   have I2:Inv X pins σ (bH H h'.objs.size (.tup ys)) {s with heap:=h'.push {cls:=.type "tuple",data:=.seq its.toArray}}:=
    I1.laid (t':=s.toks) (λb o e=>iM _ e) (Q2 _) (show ObjOk X.prog X.w _ _ _ (.tup ys)from ⟨hz,its,r',IsTup.new _ _,_,kf _ rfl,rfl⟩)
   exact⟨.ref h'.objs.size,_,I2,rfl,q _ (I1.hok.fresh (Q2 _))⟩
 · obtain⟨its,r',pl,hz⟩:=I.tuple hq;exact call_tuple_same pl ⟨.ref p,H,I,rfl,q⟩
def NF(K:Fg)(T:String)(x:V)(H:Hp):Prop:=match x with
 | .str _=>T="str"
 | .int _=>T="int"
 | .ref p=>(T="list"/\∃xs,SqL K H p xs)\/(T="tuple"/\∃o,K.lookup p=some o/\o.cls=.type "tuple"/\o.dict=none)\/
  (T="dict"/\((∃kvs,H p=some (.dK kvs))\/∃kvs,H p=some (.dT kvs)))\/(T="set"/\∃S n,H p=some (.set S n))
 |_=>False
theorem KP {pins:List (Addr×Obj)}{σ:St}{H:Hp}{s:Shared}{T:String}{x:V}{v:Value}(I:Inv X pins σ H s)(r:RelV x v)(ty:NF X.K T x H):
 s.TypeIs v T/\∀a,v=.ref a->∃ob,s.heap.get? a=some ob/\ob.dict=none:=by
 cases x with
 |str z=>
  obtain⟨t,rfl⟩:=r;cases (show T="str" from ty)
  exact⟨typeIs_str s z t,λ_ e=>nomatch e⟩
 |int i=>
  obtain⟨t,rfl⟩:=r;cases (show T="int" from ty)
  exact⟨typeIs_int s i t,λ_ e=>nomatch e⟩
 |ref p=>
  cases r
  rcases ty with ⟨rfl,xs,hq⟩|⟨rfl,o,hk,hc,hd⟩|⟨rfl,hk⟩|⟨rfl,S,n,hk⟩
  · obtain⟨its,_,pl,_⟩:=I.list hq;refine⟨pl.isList.typeIs,λa e=>?_⟩;cases e;obtain⟨o,n,e,c,hd,_⟩:=pl;exact⟨o,e,hd⟩
  · refine⟨⟨o,I.kIn p o hk,hc⟩,λa e=>?_⟩;cases e;exact⟨o,I.kIn _ o hk,hd⟩
  · have z:∃o,s.heap.get? p=some o/\o.ExactDict:=by
     rcases hk with ⟨kvs,hk⟩|⟨kvs,hk⟩
     · obtain⟨_,_,_,_,o,_,_,e,ex,_⟩:=I.hok p _ hk;exact⟨o,e,ex⟩
     · obtain⟨_,_,_,_,o,_,_,e,ex,_⟩:=I.hok p _ hk;exact⟨o,e,ex⟩
    obtain⟨o,e,ex⟩:=z;refine⟨⟨o,e,ex.1⟩,λa e2=>?_⟩;cases e2;exact⟨o,e,ex.2.1⟩
  · obtain⟨o,_,_,_,e,ex,_⟩:=I.hok p _ hk;refine⟨⟨o,e,ex.1⟩,λa e2=>?_⟩;cases e2;exact⟨o,e,ex.2.1⟩
 |_=>exact False.elim ty
def EZ(K:Fg)(T:String)(r:V->List V->Hp->VK->Prop)(to:TE)(t:TA):TE:=λσ H Q=>to σ H λx H1=>NF K T x H1/\t σ H1 λxs H2=>r x xs H2 Q
variable {o e:Expr} {es:List Expr} {to:TE} {t:TA} {name:Str} {apos cpos:Pos} {T id:String} {r:V->List V->Hp->VK->Prop}
theorem mX(pa:PlainAttrs T)(slot:Slot T name id)(hty:typeOf (.builtin id)=pure (.type "method_descriptor"))(hm:N6 X id r)(ho:PE X o to)(ha:PA X (e::es) t)
 (hbase:attributeBase o name X.env (eval o X.env)=eval o X.env:=by rfl)
 (hfew : ((backTo cpos (starEach (e :: es) X.env)).all (λ x => !x.1) && (backToKw cpos (keywordEach [] X.env)).all (λ x => x.1.isSome)
  &&decide ((e::es).length+([]:List Keyword).length+(if([]:List Keyword).isEmpty then 0 else 1) < 30))=true:=by rfl)
 (hline:(apos.endLine==cpos.line)=true:=by rfl) (hs:starEach (e::es) X.env=(false,eval e X.env)::starEach es X.env:=by rfl) (hplain:(backTo cpos (starEach es X.env)).any (·.1)=false:=by rfl):
 PE X (.Call (.Attribute o name apos) (e::es) [] cpos) (EZ X.K T r to t):=by
 intro pins s σ H Q I h;refine wpAny_Call_method_late hbase hfew hline rfl (cU (ho pins s σ H _ I h) λv s1 q_=>?_);obtain⟨x,H1,I1,r1,ty,q1⟩:=q_;obtain⟨h1,h2⟩:=KP I1 r1 ty;refine⟨T,id,pa,slot,hty,h1,h2,?_⟩;have hA:=ha cpos pins s1 σ H1 _ I1 q1;rw [hs]at hA ⊢;refine Calls.callWith_builtin (by show (false||(backTo cpos (starEach es X.env)).any (·.1))=false;rw [hplain]<;>rfl) (Calls.evalArgs_plain ?_)
 exact cU hA λus s2 q_=>by obtain⟨vs,H2,I2,r2,q2⟩:=q_;exact hm pins s2 σ H2 x vs v us Q I2 r1 r2 q2
end
def NG(X:Cx)(id:String)(r:V->List V->Hp->VK->Prop):Prop:=
 ∀(pins:List (Addr×Obj)) (s:Shared) (σ:St) (H:Hp) (x:V) (xs:List V) (v:Value) (us:List Value) (Q:VK),Inv X pins σ H s->RelV x v->Vals xs us->r x xs H Q->
  wpAny (model X.prog X.w) X.A (call (.builtin id) (v::us)) (EP X pins σ Q) X.xe s
theorem Vals.one:∀{x:V} {us:List Value},Vals [x] us->∃u,us=[u]/\RelV x u
 |_,_,h=>by cases h with|cons r t=>cases t;exact⟨_,rfl,r⟩
theorem Vals.two:∀{x y:V} {us:List Value},Vals [x,y] us->∃u v,us=[u,v]/\RelV x u/\RelV y v
 |_,_,_,h=>by
  cases h with
  |cons r t=>
   obtain⟨v,e,q⟩:=Vals.one t;subst e;exact⟨_,_,rfl,r,q⟩
section
variable {X:Cx} {pins:List (Addr×Obj)} {σ:St} {H:Hp} {s:Shared} {l b:Addr} {xs ys zs:List V}
theorem Inv.lset {its its':List Value}{n:Nat}{f:Array Value->Array Value}{t':Nat}(I:Inv X pins σ H s)(hH:H l=some (.lst xs))
 (e:s.heap.get? l=some {cls:=.type "list",data:=.seq its.toArray n}) (hf:f its.toArray=its'.toArray) (hv:Vals ys its') (hz:ys.length<=sizeLine):
 Inv X pins σ (bH H l (.lst ys)) {s with heap:=s.heap.update l (Obj.mapSeq f),toks:=t'}:=by
 have q:=PySem.IsL.update e f;rw [hf]at q;refine I.write (x:=l) (e:=l) (by rw [hH];exact trivial) (.inl rfl) (λb' u hb hu=>(AC s.heap (Obj.mapSeq f) (Ne.symm hb)).trans hu) ⟨_,q⟩ ?_
 exact⟨hz,its',_,hv,q⟩
theorem Inv.lnew {its:List Value}{t':Nat}(I:Inv X pins σ H s)(hv:Vals ys its)(hz:ys.length<=sizeLine):
 Inv X pins σ (bH H s.heap.objs.size (.lst ys)) {s with heap:=s.heap.push {cls:=.type "list",data:=.seq its.toArray},toks:=t'}:=
 I.laid (λ_ _ q=>iM _ q) (Q2 _) ⟨hz,its,0,hv,kf _ rfl⟩
theorem Inv.fresh(I:Inv X pins σ H s):H s.heap.objs.size=none:=I.hok.fresh (Q2 _)
theorem Inv.lstM(I:Inv X pins σ H s)(hH:H l=some (.lst xs)):xs.length<=sizeLine/\∃(its:List Value) (n:Nat),Vals xs its/\xs.length=its.length/\s.heap.get? l=some {cls:=.type "list",data:=.seq its.toArray n}:=by
 obtain⟨z,its,n,r,e⟩:=I.hok l _ hH;exact⟨z,its,n,r,r.length,e⟩
theorem E1 {n:Nat}(h:n<=sizeLine):Builtin.List.listTooLong n=false:=by
 unfold Builtin.List.listTooLong;exact decide_eq_false (by omega)
end
section
variable {X:Cx}
def gr:V->List V->Hp->VK->Prop:=λx vs H Q=>∃l xs y,x=.ref l/\vs=[y]/\H l=some (.lst xs)/\xs.length < sizeLine/\Q .non (bH H l (.lst (xs++[y])))
theorem fU:NG X "list.append" gr:=by
 intro pins s σ H x vs v us Q I rx rv h;obtain⟨l,xs,y,rfl,rfl,hH,hz,q⟩:=h;cases rx;obtain⟨u,rfl,ru⟩:=rv.one;obtain⟨z,its,n,r,hl,e⟩:=I.lstM hH;refine call_meets F.slot_list_append ⟨_,e,rfl⟩ F.entry_list_append (F.args_list_append_2 _ _) (PySem.list_append l its.toArray n u (by rw [zM];omega)) ⟨e,?_⟩
 refine⟨.non,_,I.lset (its':=its++[u]) hH e (by simp) (r.append (.cons ru .nil)) ?_,rfl,q⟩
 rw [zQ,List.length_singleton];omega
def Bc:V->List V->Hp->VK->Prop:=λx vs H Q=>∃l b xs zs,x=.ref l/\vs=[.ref b]/\H l=some (.lst xs)/\H b=some (.lst zs)/\xs.length+zs.length<=sizeLine/\Q .non (bH H l (.lst (xs++zs)))
theorem Ci:NG X "list.extend" Bc:=by
 intro pins s σ H x vs v us Q I rx rv h;obtain⟨l,b,xs,zs,rfl,rfl,hH,hB,hz,q⟩:=h;cases rx;obtain⟨u,rfl,ru⟩:=rv.one;cases ru;obtain⟨z,its,n,r,hl,e⟩:=I.lstM hH;obtain⟨z2,its2,n2,r2,hl2,e2⟩:=I.lstM hB;have hsz:its.toArray.size+its2.toArray.size<=sizeLine:=by rw [zM,zM];omega
 have hlong:¬(!its.toArray.isEmpty&&Builtin.List.listTooLong (its.toArray.size+its2.toArray.size))=true:=by
  rw [E1 hsz,Gv];exact Q7
 refine call_meets F.slot_list_extend ⟨_,e,rfl⟩ F.entry_list_extend (F.args_list_extend_2 _ _)
  (AutoSeq1.list_extend_list_list_0 l its.toArray n b its2.toArray n2 hlong (by rw [zM];omega) (by omega)) ⟨e,e2,?_⟩
 refine⟨.non,_,I.lset (its':=its++its2) hH e (by simp) (r.append r2) ?_,rfl,q⟩
 rw [zQ];omega
def Li:R2:=λx y H Q=>∃l b xs zs,x=.ref l/\y=.ref b/\H l=some (.lst xs)/\H b=some (.lst zs)/\xs.length+zs.length<=sizeLine/\∀p,H p=none->Q (.ref p) (bH H p (.lst (xs++zs)))
theorem KQ:OpR X (binaryOp .Add) Li:=by
 intro pins s σ H x y v u Q I rx ry h;obtain⟨l,b,xs,zs,rfl,rfl,hH,hB,hz,q⟩:=h;cases rx;cases ry;obtain⟨z,its,n,r,hl,e⟩:=I.lstM hH;obtain⟨z2,its2,n2,r2,hl2,e2⟩:=I.lstM hB;refine PySem.P.add_list e e2 ?_ (by rw [zM,zM];omega)
 have ea:its.toArray++its2.toArray=(its++its2).toArray:=by simp
 rw [ea];exact⟨.ref _,_,I.lnew (t':=s.toks) (r.append r2) (by rw [zQ];omega),rfl,q _ I.fresh⟩
end
section
variable {prog:Program} {w:World} {A:Around} {E:Value->Shared->Prop} {s:Shared}
end
section
variable {X:Cx}
end
end L2
namespace Att
open PySem PySem.W PySem.Calls PyProof.Rows
theorem rQ {P:Params}{h:Heap}:∀(ns:List Int) (vs:List Value),WellAll P h vs (ns.map WData.int)->IntsAre vs ns:=by
 intro ns
 induction ns with
 |nil=>
  intro vs w;rw [zL]at w;cases w;exact .nil
 |cons n ns ih=>
  intro vs w;rw [zI]at w;cases w with
  |cons a b=>
   cases a;exact .cons _ _ (ih _ b)
theorem Cj {l:OpenLaw}{n:Nat}(hn:l.most=some n){P:Params}{h:Heap}{args:List WData}{vals:List Value}
 (hpre:l.row.toRowW.claim.pre args=true) (hwl:WellAll P h vals args):
 ∃a vs ns,vals=[Value.ref a]/\args=[WData.list (ns.map WData.int)]/\h.get? a=some {cls:=.type "list",data:=.seq vs.toArray}/\IntsAre vs ns/\ns.length<=n:=by
 have hsh:WShape.hasAll [] args [.list .int]=true:=(pre_splitW hpre).1;have hc:l.pre.holds [] {args:=args}=true:=(pre_splitW hpre).2;obtain⟨d,r,rfl,h1,h2⟩:=hasAllW_cons hsh;obtain rfl:=hasAllW_nil h2;obtain⟨xs,rfl,h3⟩:=hasW_list h1;obtain⟨ns,rfl⟩:=items_int h3;have hlen:ns.length<=n:=by
  unfold OpenLaw.pre at hc;have h4:(WTm.not (.lt (.lit (.int (n:Int))) (.len (.arg 0)))).holds [] {args:=[.list (ns.map .int)]}=true:=by
   have h4:=(holds_andW hc).1;rw [hn]at h4;exact h4
  have h5:=condW_of h4 (w_not (w_lt w_lit (w_len_list (w_arg rfl))));rw [zJ]at h5;refine Nat.le_of_not_lt λq=>?_;have q':(n:Int) < ((ns.length:Nat):Int):=by omega
  first
   |(rw [decide_eq_true q']at h5;exact absurd h5 (by decide))
   |(simp at h5;omega)
 cases hwl with
 |cons w1 w2=>
  cases w2;cases w1 with
  |list ho hall=>exact⟨_,_,ns,rfl,rfl,ho,rQ ns _ hall,hlen⟩
theorem Ck(l:OpenLaw)(args:List WData):l.row.toRowW.claim.post args (.bool true) args=true:=
 postW_of (r:=l.row.toRowW) (X:=(true==true))
  (show WShape.has [] (.bool true) .bool=true by first|rfl|decide|simp [WShape.has,WShape.arms,WShape.armsAll])
  (show (WTm.eq .res (.lit (.bool true))).value [] {args:=args,res:=some (.bool true),after:=args}=some (.bool (true==true))from w_eq_bool (w_res rfl) w_lit) rfl
theorem xt {l:OpenLaw}{n:Nat}{q:Program}{loose:List Str}{XP:(Str->Option Value)->Heap->Prop}{YP:World->Heap->Prop}{d:DefRec}
 (hn:l.most=some n) (hdf:d.params.defaults=[])
 (call : ∀ (w : World) (s₀ s₁ : Shared) (mg mb : Str -> Option Value) (fa : Addr) (o : Obj) (pm cd doc : Value) (a : Addr) (vs : List Value) (ns : List Int),
  Ground q loose [] XP w s₀ mg mb s₁.heap->YP w s₁.heap->
  s₁.heap.get? fa=some o->o.data=.func (docDef d.name d.params d.body d.scope pm cd doc)->s₁.heap.CodeRec cd d.name->mg d.name=some (.ref fa)->
  s₁.heap.get? a=some {cls:=.type "list",data:=.seq vs.toArray}->IntsAre vs ns->ns.length<=n->s₁.gens= #[]->
  codeAny (model l.prog w) callerA (.call (.ref fa) ⟨[.ref a],[]⟩) (λr s'=>r=.ok (.ret (.bool true))/\OldK s₁.heap s'.heap/\s'.os=s₁.os/\AllBare s'.gens) s₁):
 WalkO q loose XP YP l.row.toRowW d [] (λf vs=>PySem.call f vs):=by
 intro w s₀ s₁ mg mb G Y fa o pm cd doc dV kV ho hd hcd hD hmg hg args vals as hpre hlay hrd hwl hlo;obtain rfl:dV=.none:=Dflts.none hD hdf;obtain rfl:kV=.none:=Dflts.noKw hD;obtain⟨a,vs,ns,rfl,rfl,hobj,hints,hlen⟩:=Cj hn hpre hwl;refine enter_call (codeAny_mono (call w s₀ s₁ mg mb fa o pm cd doc a vs ns G Y ho (fd_plain hd) hcd hmg hobj hints hlen hg) λr s' hq=>?_);obtain⟨rfl,h2,h3,h4⟩:=hq;exact⟨.inl ⟨.bool true,.bool true,[],rfl,λ_=>rfl,.bool true,Ck l _,λ_=>⟨List.Pairwise.nil,λ_ hm=>(nomatch hm)⟩⟩,h2,h3,h4⟩
section
variable {prog:Program} {w:World} {A:Around} {E:Value->Shared->Prop} {s:Shared} {K:Frag}
noncomputable def sf(h:Heap):Heap:={h with objs:= #[]}
theorem nJ(h:Heap)(b:Addr):(sf h).get? b=none:=by
 cases e:(sf h).get? b with
 |none=>rfl
 |some o=>exact absurd (g0 e) (Nat.not_lt_zero _)
noncomputable def nK(h:Heap)(L d:Addr):List (Addr×Obj):=(List.range h.objs.size).filterMap λa=>if a=L\/a=d then none else(h.get? a).map λo=>(a,o)
theorem ic {h:Heap}{L d a:Addr}{o:Obj}:(a,o)∈nK h L d↔a≠L/\a≠d/\h.get? a=some o:=by
 unfold nK;rw [List.mem_filterMap]
 constructor
 · rintro⟨b,_,e⟩;split at e
   · cases e
   · rename_i hb;obtain⟨o',ho,e'⟩:=Q0.mp e;cases e';exact⟨λq=>hb (.inl q),λq=>hb (.inr q),ho⟩
 · rintro⟨n1,n2,ho⟩;refine⟨a,List.mem_range.mpr (g0 ho),?_⟩;rw [if_neg (show ¬(a=L\/a=d)from λq=>q.elim n1 n2),ho]<;>rfl
theorem qx {h:Heap}{L d:Addr}{od:Obj}(hne:d≠L)(ho:h.get? d=some od):News (sf h) L h ([]++(d,od)::nK h L d):=by
 rintro⟨a,o⟩ hp
 rcases Q8.mp hp with e|hp
 · cases e;exact⟨ho,hne,nJ _ _⟩
 · obtain⟨n1,n2,e⟩:=ic.mp hp;exact⟨e,n1,nJ _ _⟩
theorem E3 {h:Heap}{L:Addr}{m:Str->Option Value}(n:h.Ns L m):Fr (sf h) L h m:=
 ⟨n,λb o e=>(by rw [nJ]at e;cases e),zU _⟩
end
end Att
namespace L2
open PySem PySem.Spec PyProof.Rows
theorem Cm {vs:List Value}{ns:List Int}(h:IntsAre vs ns):Vals (ns.map V.int) vs:=by
 induction h with
 |nil=>exact .nil
 |cons n t h ih=>exact .cons ⟨t,rfl⟩ ih
noncomputable def iO(s:Stmt):Arguments:=match s with
 | .FunctionDef _ a _ _ _ _ _ _ _ _=>a
 |_=>{posonlyargs:=[],args:=[],vararg:=none,kwonlyargs:=[],kw_defaults:=[],kwarg:=none,defaults:=[]}
noncomputable def eV(s:Stmt):List Stmt:=match s with
 | .FunctionDef _ _ b _ _ _ _ _ _ _=>b
 |_=>[]
noncomputable def aS(s:Stmt):Scope:=match s with
 | .FunctionDef _ _ _ _ _ _ sc _ _ _=>sc
 |_=>{kind:=.function,names:=[],isGenerator:=false,isCoroutine:=false}
abbrev fZ:Ce:=λ_ _ _ _ _ _=>False
abbrev E0:XK:=λ_ _ _=>False
theorem oM {X:Cx}:jw fZ X E0:=λ_ _ _ _ _ _ _ h=>h.elim
structure Fun (K:Fg) (x qual:Str) (st:Stmt) (f:Addr) (fd:FuncData):Prop where
 ex:∃(oc:Value) (od:Option Addr) (kV doc pm:Value) (an:Option Addr) (cdv ct:Value) (osl:Array (Option Value)),
  fd=PySem.W.fnOf x qual (iO st) (eV st) (aS st) .none kV doc pm an cdv ct/\K.lookup f=some ⟨oc,od,.func fd,osl⟩/\PySem.W.codeIn K cdv qual=true
 kp:PySem.W.keepIn K (.ref f)=true
section
variable {P:Program} {w:World} {K:Fg} {mg:Str->Option Value} {base:Heap}
theorem Fun.ok {x qual:Str}{st:Stmt}{f:Addr}{fd:FuncData}{N ps:List Str}{k:Nat}{sp:Sp}(F:Fun K x qual st f fd)(S:FnScope N ps (aS st))(len:∀vs H Q E,sp vs H Q E->vs.length=ps.length)
 (hbody : ∀ (cdv : Value) (A : Around) (outer : List Env) (s : Shared) (H : Hp) (vs : List V) (Q : VK) (E : XK), Room k (A.deeper (envOfC qual (aS st) s.heap.objs.size f cdv)) -> sp vs H Q E ->
  ∃t,PSs (nI fZ P w K mg base N qual (aS st) f cdv A outer s H E).nox (eV st) t/\t {nx:=λ_ H'=>Q .non H',rt:=Q} (dL N vs) H):FnOk P w K mg base fZ (k+1) f fd ps sp:=by
 obtain⟨oc,od,kV,doc,pm,an,cdv,ct,osl,rfl,lk,hcd⟩:=F.ex;refine JW lk hcd S len λA outer s H vs Q E hr hsp=>?_;obtain⟨t,h,q⟩:=hbody cdv A outer s H vs Q E hr hsp;exact⟨t,h.nox,q⟩
theorem Fun.binds {x qual:Str}{st:Stmt}{f:Addr}{fd:FuncData}{ps:List Str}(F:Fun K x qual st f fd)
 (h:∀(kV doc pm:Value) (an:Option Addr) (cdv ct:Value) (us:List Value),us.length=ps.length->bindArgs (PySem.W.fnOf x qual (iO st) (eV st) (aS st) .none kV doc pm an cdv ct) ⟨us,[]⟩=pure (ps.zip us)):Binds K fd ps []:=by
 obtain⟨oc,od,kV,doc,pm,an,cdv,ct,osl,rfl,lk,hcd⟩:=F.ex;exact .all (h kV doc pm an cdv ct)
theorem bI {x qual:Str}{st:Stmt}{f:Addr}{oc:Value}{od an:Option Addr}{osl:Array (Option Value)}{kV doc pm cdv ct:Value}(l:K.lookup f=some ⟨oc,od,.func (PySem.W.fnOf x qual (iO st) (eV st) (aS st) .none kV doc pm an cdv ct),osl⟩)
 (c:PySem.W.codeIn K cdv qual=true) (k:PySem.W.keepIn K (.ref f)=true):Fun K x qual st f (PySem.W.fnOf x qual (iO st) (eV st) (aS st) .none kV doc pm an cdv ct):=⟨⟨oc,od,kV,doc,pm,an,cdv,ct,osl,rfl,l,c⟩,k⟩
end
theorem sg {A:Around}{k:Nat}(hr:Room k A):A.units+1 < cLine:=Nat.lt_of_le_of_lt (Nat.add_le_add_left (by decide:1<=64) _) hr.units
theorem Co {n:Nat}(h:n<=1000):n < sizeLine:=Nat.lt_of_le_of_lt h (by decide)
section
variable {X:Cx}
theorem pv(i:Nat){x:Str}{pos:Pos}(hN:X.N[i]? =some x:=by rfl)(hv:L6 X.env.scope x:=by first|exact Or.inl rfl|exact Or.inr (Or.inl rfl)|exact Or.inr (Or.inr rfl))(hd:(x==("__debug__":Str))=false:=by decide)
 (hcd:(x==("__classdict__":Str))=false:=by decide):PE X (.Name x pos) (au i):=Ju hN hv hd hcd
end
theorem mL {A B:Prop}(h:B):if false=true then A else B:=by
 rw [if_neg Q7];exact h
theorem mM {A B:Prop}(h:A):if true=true then A else B:=by
 rw [if_pos rfl];exact h
def Same(H H':Hp):Prop:=∀b o,H b=some o->H' b=some o
theorem Same.refl(H:Hp):Same H H:=λ_ _ h=>h
theorem Same.trans {H H1 H2:Hp}(a:Same H H1)(b:Same H1 H2):Same H H2:=λc o h=>b c o (a c o h)
theorem Same.free {H H':Hp}(e:Same H H'){l:Addr}(h:H' l=Option.none):H l=Option.none:=by
 cases q:H l with
 |none=>rfl
 |some o=>
  rw [e l o q]at h;cases h
theorem Same.seq {K:Fg}{H H':Hp}{a:Addr}{xs:List V}(e:Same H H')(h:SqL K H a xs):SqL K H' a xs:=by
 rcases h with (h|⟨o,h⟩)|h
 · exact .inl (.inl (e _ _ h))
 · exact .inl (.inr ⟨o,e _ _ h⟩)
 · exact .inr h
noncomputable def g9(env:Env):List (Str×NameKind)->List (Str×Addr)->List (Str×Addr)
 |[],acc=>acc
 |(n,k)::r,acc=>if k== .free then g9 env r ((n,(env.cells.lookup n).getD 0)::acc)else g9 env r acc
theorem wj {env:Env}:∀(names:List (Str×NameKind)) (acc:List (Str×Addr)),(∀y∈names,y.2=.free->∃c,env.cells.lookup y.1=some c)->
 (forIn (m:=Sem) names acc λ(x:Str×NameKind) cs=>(if(x.2== .free)=true then do let c<-cellOf env x.1;pure (ForInStep.yield ((x.1,c)::cs))else pure (ForInStep.yield cs)))=pure (g9 env names acc)
 |[],acc,_=>rfl
 |(n,k)::r,acc,h=>by
  have hr:∀y∈r,y.2=.free->∃c,env.cells.lookup y.1=some c:=λy hy=>h y (j4 _ hy);rw [List.forIn_cons]
  by_cases e:k=.free
  · subst e;obtain⟨c,hc⟩:=h (n,.free) j5 rfl;have hc':env.cells.lookup n=some c:=hc;have e1:cellOf env n=pure c:=by unfold cellOf;rw [hc']
    show ((if(NameKind.free==NameKind.free)=true then _ else _) >>=_)=pure (if(NameKind.free==NameKind.free)=true then _ else _);rw [if_pos (by rfl),if_pos (by rfl),e1,hc']
    exact wj r _ hr
  · have e':(k==NameKind.free)=false:=by simpa using e
    show ((if(k==NameKind.free)=true then _ else _) >>=_)=pure (if(k==NameKind.free)=true then _ else _);rw [e',if_neg (by simp),if_neg (by simp)]
    exact wj r _ hr
theorem mY {scope:Scope}{env:Env}(h:∀y∈scope.names,y.2=.free->∃c,env.cells.lookup y.1=some c):closureFor scope env=pure (g9 env scope.names []):=by
 have q:=wj scope.names [] h;unfold closureFor;show (forIn (m:=Sem) scope.names [] _ >>= λr=>pure r)=_;refine Eq.trans ?_ q;exact bind_pure _
theorem lE {env:Env}:∀{names:List (Str×NameKind)} {acc:List (Str×Addr)} {x:Str} {c:Addr},(∀y∈names,y.2=.free->∃c,env.cells.lookup y.1=some c)->(x,c)∈g9 env names acc->(x,c)∈acc\/env.cells.lookup x=some c
 |[],acc,x,c,_,m=>.inl m
 |(n,k)::r,acc,x,c,h,m=>by
  have hr:∀y∈r,y.2=.free->∃c,env.cells.lookup y.1=some c:=λy hy=>h y (j4 _ hy)
  by_cases e:k=.free
  · subst e;obtain⟨d,hd⟩:=h (n,.free) j5 rfl;have hd':env.cells.lookup n=some d:=hd;have m':(x,c)∈g9 env r ((n,(env.cells.lookup n).getD 0)::acc):=m
    rcases lE hr m' with q|q
    · rcases Q8.mp q with q|q
      · rw [hd']at q;injection q with q1 q2
        subst q1 q2;exact .inr hd'
      · exact .inl q
    · exact .inr q
  · have e':(k==NameKind.free)=false:=by simpa using e
    have m':(x,c)∈(if(k==NameKind.free)=true then g9 env r ((n,(env.cells.lookup n).getD 0)::acc)else g9 env r acc):=m;rw [e',if_neg (by simp)]at m'
    exact lE hr m'
theorem oN {env:Env}:∀{names:List (Str×NameKind)} {acc:List (Str×Addr)} {x:Str},((x,NameKind.free)∈names\/∃c,(x,c)∈acc)->∃c,(x,c)∈g9 env names acc
 |[],acc,x,h=>by
  rcases h with h|h
  · simp at h
  · exact h
 |(n,k)::r,acc,x,h=>by
  by_cases e:k=.free
  · subst e;show ∃c,(x,c)∈g9 env r ((n,(env.cells.lookup n).getD 0)::acc);refine oN ?_
    rcases h with h|⟨c,h⟩
    · rcases Q8.mp h with h|h
      · injection h with h1 _
        subst h1;exact .inr ⟨_,j5⟩
      · exact .inl h
    · exact .inr ⟨c,j4 _ h⟩
  · have e':(k==NameKind.free)=false:=by simpa using e
    show ∃c,(x,c)∈(if(k==NameKind.free)=true then g9 env r ((n,(env.cells.lookup n).getD 0)::acc)else g9 env r acc);rw [e',if_neg (by simp)]
    refine oN ?_
    rcases h with h|h
    · rcases Q8.mp h with h|h
      · injection h with _ h2
        exact absurd h2.symm e
      · exact .inl h
    · exact .inr h
theorem jZ {β:Type}:∀{l:List (Str×β)} {x:Str} {c:β},(x,c)∈l->∃d,l.lookup x=some d
 |(n,k)::r,x,c,h=>by
  by_cases e:x=n
  · subst e;exact⟨k,by simp⟩
  · rcases Q8.mp h with q|q
    · injection q with q1 _;exact absurd q1 e
    · obtain⟨d,hd⟩:=jZ q
      exact ⟨d, by rw [um]; have : (x == n) = false := by simpa using e
                   rw [this];exact hd⟩
def Lj(X:Cx)(cs:List Expr)(t:TT):Prop:=
 ∀(pins:List (Addr×Obj)) (s:Shared) (σ:St) (H:Hp) (Q:Bool->Hp->Prop),Inv X pins σ H s->t σ H Q->
  wpAny (model X.prog X.w) X.A (forIn cs true λc r=>if r=true then do let ok<-isTrue c X.env (eval c X.env);pure (ForInStep.yield ok)else pure (ForInStep.yield r)) (TP X pins σ Q) X.xe s
def Lk:TT:=λ_ H Q=>Q true H
theorem lr {X:Cx}:Lj X [] Lk:=λpins s σ H Q I h=>wpAny_tests_nil ⟨H,I,h⟩
theorem oO {X:Cx}{c:Expr}{t:TT}(h:PT X c t):Lj X [c] t:=λpins s σ H Q I q=>wpAny_tests_one (h pins s σ H Q I q)
def E6(n:Nat)(fr:List (Str×Nat))(σ:St):St:=List.replicate n none++fr.map λp=>(σ[p.2]?).join
def E7(n:Nat)(fr:List (Str×Nat))(wi:TI)(g:TG)(tc:TT)(te:TE):TE:=λσ H Q=>wi σ H λJ H1=>∀acc,H1 acc=none->
 ∃W:Nat->Nat->St->Hp->Prop,(∃m,W 0 m (E6 n fr σ) (bH H1 acc (.lst [])))/\∀i m σ' H',W i m σ' H'->
  (J.stop i H' /\ Q (.ref acc) H') \/ (J.go i H' /\ ∃ Nx : St -> Hp -> Prop, (∀ σ2 H2, Nx σ2 H2 -> ∃ m', m' < m /\ W (i + 1) m' σ2 H2) /\
   ∀x H2,J.yld i H' x H2->g x σ' H2 λσ2 H3=>tc σ2 H3 λb H4=>if b=true then te σ2 H4 λy H5=>∃ys,H5 acc=some (.lst ys)/\ys.length < sizeLine/\Nx σ2 (bH H5 acc (.lst (ys++[y])))else Nx σ2 H4)
section
variable {prog:Program} {w:World} {A:Around} {R:Result->Shared->Prop} {s:Shared}
theorem xu {elt target iter:Expr}{ifs:List Expr}{scope:Scope}{pos:Pos}{it acc:Value}{env:Env}(I:Nat->Shared->Prop)
 (turn : ∀ n s, I n s -> wpAny (model prog w) A (pyNext it) (λ r s₁ => match r with
  |none=>R (.ok .next) s₁
  |some v=>wpAny (model prog w) A (letOwnedTupleGo target it v) (λ_ s₂=>wpAny (model prog w) A (assign target env v) (λ_ s₂=>
   wpAny (model prog w) A (forIn ifs true λc r=>if r=true then do let ok<-isTrue c env (eval c env);pure (ForInStep.yield ok)else pure (ForInStep.yield r)) (λok s₃=>
    if ok=true then wpAny (model prog w) A (eval elt env) (λx s₄=>
     wpAny (model prog w) A (call (.builtin "list.append") [acc,x]) (λ_ s₅=>∃m,m < n/\I m s₅) (λ_ _=>False) s₄) (λ_ _=>False) s₃
    else ∃m,m < n/\I m s₃) (λ_ _=>False) s₂) (λ_ _=>False) s₂) (λ_ _=>False) s₁) (λ_ _=>False) s)
 (n:Nat) (h:I n s):
 codeAny (model prog w) A (.compLoop (.ListComp elt [⟨target,iter,ifs,0⟩] scope pos) 0 it acc env) R s:=by
 refine codeAny_loop rfl I (λn s hI=>?_) n h;show wpAny _ A ((compTurn (.ListComp elt [⟨target,iter,ifs,0⟩] scope pos) 0 it acc env).onRaise (λx=>do noteFrame x env;theTreesLotGoes x)) _ _ s
 refine wpAny_noted ?_;rw [compTurn_list];refine wB (wpAny_standAt (wB (wpAny_mono (turn n s hI) (λr s₁ h₁=>?_) λ_ _ h'=>h'.elim)));cases r with
 |none=>exact wP h₁
 |some v=>
  refine wB (wpAny_mono h₁ (λ_ s₂ h₂=>?_) λ_ _ h'=>h'.elim);refine wB (wpAny_mono h₂ (λ_ s₂ h₂=>wB (wpAny_mono h₂ (λok s₃ h₃=>?_) λ_ _ h'=>h'.elim)) λ_ _ h'=>h'.elim);cases ok with
  |false=>exact wP ⟨rfl,h₃⟩
  |true=>
   exact wB (wB (wpAny_mono h₃ (λx s₄ h₄=>wB (wpAny_mono h₄ (λ_ s₅ h₅=>wP (wP ⟨rfl,h₅⟩)) λ_ _ h'=>h'.elim)) λ_ _ h'=>h'.elim))
end
theorem HOk.sameBut {P:Program}{w:World}{H:Hp}{h h':Heap}{C:Addr}(x:HOk P w H h)(n:H C=none)(sb:Heap.SameBut C h h'):HOk P w H h':=λa o e=>
 (x a o e).stay (λ b u q z => (sb.2 b (by
  rcases q with q|q
  · subst q;exact aR e n
  · exact aR q n)).trans z) (λ_ q=>q) (λ_ _ q=>q) λ_ _ _ q=>q
theorem si {env:Env}:∀{names:List (Str×NameKind)} {x:Str},names.lookup x=some .free->
 (((names.map λ (n, k) => if (k == NameKind.free && env.scope.kind == .function && env.kindOf n == some .cell) then (n, NameKind.cell) else (n, k)).lookup x = some .cell) \/
  ((names.map λ(n,k)=>if(k==NameKind.free&&env.scope.kind== .function&&env.kindOf n==some .cell)then(n,NameKind.cell)else(n,k)).lookup x=some .free))
 |[],x,h=>by simp at h
 |(n,k)::r,x,h=>by
  have e1:((n,k)::r).map (λ(n,k)=>if(k==NameKind.free&&env.scope.kind== .function&&env.kindOf n==some .cell)=true then(n,NameKind.cell)else(n,k))=
   (if(k==NameKind.free&&env.scope.kind== .function&&env.kindOf n==some .cell)=true then(n,NameKind.cell)else(n,k))::r.map (λ(n,k)=>if(k==NameKind.free&&env.scope.kind== .function&&env.kindOf n==some .cell)=true then(n,NameKind.cell)else(n,k)):=rfl
  rw [e1];cases hx:x==n with
  |true=>
   simp only [um,hx]at h;have hk:k=.free:=zV h
   by_cases c:(k==NameKind.free&&env.scope.kind== .function&&env.kindOf n==some .cell)=true
   · rw [if_pos c];left;simp [um,hx]
   · rw [if_neg c];right;simp [um,hx,hk]
  |false=>
   simp only [um,hx]at h;have q:=si (env:=env) h
   by_cases c:(k==NameKind.free&&env.scope.kind== .function&&env.kindOf n==some .cell)=true
   · rw [if_pos c];simpa only [um,hx]using q
   · rw [if_neg c];simpa only [um,hx]using q
section
variable {X:Cx}
theorem HZ {n:Nat}{fr:List (Str×Nat)}{own:List Str}{σ:St}{i:Nat}{x:Str}{v:V}(hn:own.length=n)(h1:(own++fr.map (·.1))[i]? =some x)(h2:(E6 n fr σ)[i]? =some (some v)):
 ∃p∈fr,p.1=x/\σ[p.2]? =some (some v):=by
 unfold E6 at h2
 by_cases hi:i < n
 · rw [Qa (by simpa using hi),Qf,if_pos hi]at h2
   cases h2
 · rw [Qb (by simpa using hi)]at h2
   rw [Qb (by omega)]at h1
   rw [Gr,zK]at h2;rw [hn,zK]at h1;cases e:fr[i - n]? with
   |none=>rw [e]at h1;cases h1
   |some p=>
    rw [e]at h1 h2;refine⟨p,JM e,zV h1,?_⟩;have h3:(σ[p.2]?).join=some v:=zV h2;cases q:σ[p.2]? with
    |none=>rw [q]at h3;cases h3
    |some z=>rw [q]at h3;exact congrArg some h3
end
open AutoSeq1 (wpAny_loadPart')
section
variable {prog:Program} {w:World} {A:Around} {E:Value->Shared->Prop} {s:Shared}
theorem E8 {it t:Addr}{i:Nat}{its:Array Value}{x:Value}{Q:Value->Shared->Prop}(hit:s.heap.IsTupleIter it t i)(ht:s.heap.IsTuple t its)(hx:its[i]? =some x)
 (k:∀h',h'.IsTupleIter it t (i+1)->Heap.SameBut it s.heap h'->Q x {s with heap:=h'}):wpAny (model prog w) A (Builtin.SmallTypes.nextOf (.ref it)) Q E s:=by
 have ty:=hit.typeIs;obtain⟨ob,eo,ec,ed⟩:=hit;obtain⟨ot,et,_,n,edt⟩:=ht;unfold Builtin.SmallTypes.nextOf;refine wB (wpAny_callSpecial?_slot (name:=Str.ofString "__next__") ty F.slot_tuple_iterator_next (wpAny_call_entry F.slot_tuple_iterator_next ty F.entry_tuple_iterator_next ?_ (F.args_tuple_iterator_next_1 _)));show wpAny _ _ (field (.ref it) 0 >>=_) _ _ s;refine wB (wpAny_field eo ed (x:=.ref t) rfl ?_);show wpAny _ _ (if(Value.ref t==Value.none)=true then _ else _) _ _ s;rw [if_neg (show ¬((Value.ref t==Value.none)=true)from Q7)]
 show wpAny _ _ (field (.ref it) 1 >>=_) _ _ s;refine wB (wpAny_field eo ed (x:=.int i 0) rfl ?_);show wpAny _ _ (seqItems? (.ref t) >>=_) _ _ s;refine wB (wpAny_seqItems et edt ?_);simp only [Int.toNat_natCast,hx];refine wB (wpAny_setField eo ed (by simp) (wP ⟨x,rfl,wP (k _ ⟨_,Gy _ eo (Obj.isFreed_of_fields (Obj.data_mapFields ed _)),(Obj.cls_mapFields ..).trans ec,?_⟩ (Heap.SameBut.update ..))⟩))
 rw [Obj.data_mapFields ed];simp [rawInt]
theorem Hb {it t:Addr}{i:Nat}{its:Array Value}{Q:Value->Shared->Prop}(hh:A.handled=none)(hit:s.heap.IsTupleIter it t i)(ht:s.heap.IsTuple t its)(hx:its[i]? =none)
 (k:∀h' e,Heap.ExtBut it s.heap h'->(∃o,h'.get? e=some o/\o.cls=.type "StopIteration")->E (.ref e) {s with heap:=h'}):wpAny (model prog w) A (Builtin.SmallTypes.nextOf (.ref it)) Q E s:=by
 have ty:=hit.typeIs;obtain⟨ob,eo,ec,ed⟩:=hit;obtain⟨ot,et,_,n,edt⟩:=ht;unfold Builtin.SmallTypes.nextOf;refine wB (wpAny_callSpecial?_slot (name:=Str.ofString "__next__") ty F.slot_tuple_iterator_next (wpAny_call_entry F.slot_tuple_iterator_next ty F.entry_tuple_iterator_next ?_ (F.args_tuple_iterator_next_1 _)));show wpAny _ _ (field (.ref it) 0 >>=_) _ _ s;refine wB (wpAny_field eo ed (x:=.ref t) rfl ?_);show wpAny _ _ (if(Value.ref t==Value.none)=true then _ else _) _ _ s;rw [if_neg (show ¬((Value.ref t==Value.none)=true)from Q7)]
 show wpAny _ _ (field (.ref it) 1 >>=_) _ _ s;refine wB (wpAny_field eo ed (x:=.int i 0) rfl ?_);show wpAny _ _ (seqItems? (.ref t) >>=_) _ _ s;refine wB (wpAny_seqItems et edt ?_);simp only [Int.toNat_natCast,hx];refine wB (wpAny_rule (wB (wpAny_setField eo ed (by simp) ?_)))
 show wpAny _ _ (newExc (.type "StopIteration") [] >>=_) _ _ _;refine wB ?_;simp only [newExc,newTuple];refine wB (wpAny_newObj_type ?_ (by size_fits))
 refine wB (m:=firstArgMember _ _) (wpAny_of_eq (a:=Value.none) (by first|rfl|(simp only [firstArgMember];rfl)) ?_)
 refine wpAny_newObj_type ?_ (by size_fits)
 simp only [raiseNew];refine wB (wpAny_handled ?_)
 first|rw [show A.in1.handled=none from hh]|rw [hh]
 exact wB (wP (wpAny_throw (k _ _ (((Heap.SameBut.update ..).extBut.push _).push _) ⟨_,kf _ rfl,rfl⟩)))
end
theorem N7 {prog:Program}{w:World}{A:Around}(hh:A.handled=none)(it t:Addr)(ne:t≠it)(its:Array Value):
 Draws prog w A it [it,t] its.size (λi v=>its[i]? =some v) (λi h=>h.IsTupleIter it t i/\h.IsTuple t its) where
 live:=λ_ _ st=>by obtain⟨⟨o,e,_⟩,_⟩:=st;exact⟨o,e⟩
 frame:=λ_ _ _ st k=>⟨st.1.at λo e=>k it (by simp) o e,st.2.at λo e=>k t (by simp) o e⟩
 item:=λi s Q E hi st k=>E8 st.1 st.2 (x:=its[i]) (by simp [hi]) λh' a b=>k _ h' s.toks (by simp [hi]) ⟨a,st.2.extBut b.extBut ne⟩ b
 done:=λs Q E st k=>Hb hh st.1 st.2 (by simp) k
theorem He(l:Addr)(its:Array Value)(n:Nat)(dct:Option Addr)(sl:Array (Option Value)):
 Meets (Builtin.«enumerate.__new__» ⟨[.type "enumerate",.ref l],[]⟩) (λ_ R s=>s.heap.get? l=some {cls:=.type "tuple",dict:=dct,data:=.seq its n,slots:=sl}/\
  R (.ok (.ret (.ref (s.heap.push {cls:=.type "tuple_iterator",data:=.fields #[.ref l,.int 0 0]}).objs.size)))
   {s with heap:=(s.heap.push {cls:=.type "tuple_iterator",data:=.fields #[.ref l,.int 0 0]}).push {cls:=.type "enumerate",data:=.fields #[.none,.bool false,.ref s.heap.objs.size,rawInt 0,.none,.none]}}):=
 .of_wp λprog w A R s h=>by
  obtain⟨hp,g,d,tk,os⟩:=s;obtain⟨hl,h⟩:=h;have hsub:=sub_enumerate;have hT:Heap.IsTuple (Shared.heap ⟨hp,g,d,tk,os⟩) l its:=⟨_,hl,rfl,n,rfl⟩
  wp_walk using wpAny_loadPart' hl
  refine wpAny_stack_any λst=>wP ?_;split
  · rename_i c _ _ _ _ _;cases (c==Value.type "enumerate")<;>(wp_walk using wpAny_loadPart' hl,wpAny_pyIter_tuple hT;exact⟨_,rfl,h⟩)
  · wp_walk using wpAny_loadPart' hl,wpAny_pyIter_tuple hT
    exact⟨_,rfl,h⟩
section
variable {prog:Program} {w:World} {A:Around} {E:Value->Shared->Prop} {s:Shared}
theorem E9 {l:Addr}{its:Array Value}{Q:Value->Shared->Prop}(hL:s.heap.IsTuple l its)
 (k:∀h',IsEnum h' (s.heap.objs.size+1) s.heap.objs.size 0 .none->h'.IsTupleIter s.heap.objs.size l 0->h'.objs.size=s.heap.objs.size+2->(∀b o,s.heap.get? b=some o->h'.get? b=some o)->Q (.ref (s.heap.objs.size+1)) {s with heap:=h'}):
 wpAny (model prog w) A (call (.type "enumerate") [.ref l]) Q E s:=by
 obtain⟨⟨c,dct,dt,sl⟩,hl,hc,n,hd⟩:=hL;have hc':c=.type "tuple":=hc;have hd':dt=.seq its n:=hd;subst hc' hd';refine callType_new F.called_enumerate (by decide) (F.typeCall_enumerate_1 _) (F.newCall_enumerate_1 _) (λobj=>F.args_object_init_2 obj _) F.entry_enumerate_new (He l its n dct sl) ⟨hl,?_⟩
 generalize hg:s.heap.push {cls:=.type "tuple_iterator",data:=.fields #[.ref l,.int 0 0]}=g1;have z1:g1.objs.size=s.heap.objs.size+1:=by rw [<-hg];exact B3 ..
 have he:IsEnum (g1.push {cls:=.type "enumerate",data:=.fields #[.none,.bool false,.ref s.heap.objs.size,rawInt 0,.none,.none]}) (s.heap.objs.size+1) s.heap.objs.size 0 .none:=by
  rw [<-z1];exact kf _ rfl
 show _/\_;rw [z1];refine⟨⟨_,he,rfl⟩,k _ he ⟨_,iM _ (by rw [<-hg];exact kf _ rfl),rfl,rfl⟩ (by rw [B3,z1]) λb o x=>iM _ (by rw [<-hg];exact iM _ x)⟩
end
open AutoSeq1 (wpAny_loadPart')
structure ZA (z TI TO i1 i2:Addr) (f1 f2:List Addr):Prop where
 a1:TI≠z
 a2:TO≠z
 a3:i1≠z
 a4:i2≠z
 a5:TO≠i1
 a6:TO≠i2
 b1:z ∉ f1
 b2:z ∉ f2
 b3:TO ∉ f1
 b4:TO ∉ f2
 b5:i2 ∉ f1
 b6:i1 ∉ f2
section
variable {prog:Program} {w:World} {A:Around} {E:Value->Shared->Prop} {s:Shared}
theorem xw {T:Addr}{a b x:Value}{k:Nat}{Q:Unit->Shared->Prop}(hT:IsPair s.heap T a b)
 (h:∀h',h'.get? T=some {cls:=.type "tuple",data:=.seq ((#[a,b]:Array Value).setIfInBounds k x)}->Heap.SameBut T s.heap h'->Q () {s with heap:=h'}):wpAny (model prog w) A (updateSeq T (·.setIfInBounds k x)) Q E s:=wpAny_updateSeq_pair hT h
variable {z TI TO i1 i2:Addr} {f1 f2:List Addr} {n1 n2 k:Nat} {P1 P2:Nat->Value->Prop} {S1 S2:Nat->Heap->Prop} {a b:Value}
theorem Cp {Q:Value->Shared->Prop}(D1:Draws prog w A i1 f1 n1 P1 S1)(D2:Draws prog w A i2 f2 n2 P2 S2)(ap:ZA z TI TO i1 i2 f1 f2)
 (hz:IsZip s.heap z TI TO .none) (hTI:IsPair s.heap TI (.ref i1) (.ref i2)) (hTO:IsPair s.heap TO a b) (h1:S1 k s.heap) (h2:S2 k s.heap) (l1:k < n1) (l2:k < n2)
 (K : ∀ x y h' tk, P1 k x -> P2 k y -> IsZip h' z TI TO (rawInt s.heap.objs.size) -> IsPair h' TO x y -> S1 (k + 1) h' -> S2 (k + 1) h' -> IsPair h' s.heap.objs.size x y -> h'.objs.size = s.heap.objs.size + 1 ->
  (∀c o,c≠z->c≠TO->c≠i1->c≠i2->s.heap.get? c=some o->h'.get? c=some o)->Q (.ref s.heap.objs.size) {s with heap:=h',toks:=tk}):
 wpAny (model prog w) A (Builtin.«zip.__next__» ⟨[.ref z],[]⟩) (λfin s'=>∃v,fin=.done (.ret v)/\Q v s') E s:=by
 obtain⟨hp,g,d,tk0,os⟩:=s;obtain⟨o1,e1⟩:=D1.live _ _ h1;obtain⟨o2,e2⟩:=D2.live _ _ h2;show wpAny _ _ (field (.ref z) 2 >>=_) _ _ _;refine wB (wpAny_field hz rfl (x:=.bool false) rfl ?_);show wpAny _ _ (field (.ref z) 3 >>=_) _ _ _;refine wB (wpAny_field hz rfl (x:=.ref TI) rfl ?_);refine wB (wpAny_seqItems hTI rfl ?_);show wpAny _ _ (Builtin.SmallTypes.ownedTupleIsFree (.ref z) >>=_) _ _ _;refine wB ?_;unfold Builtin.SmallTypes.ownedTupleIsFree;refine wB (wpAny_field hz rfl (x:=.none) rfl (wP ?_));simp only [if_true];refine wB (wpAny_rule ?_);refine wB (wpAny_field hz rfl (x:=.ref TO) rfl ?_);refine wB (wpAny_setField_rec hz (by simp) λg1 z1 c1=>?_)
 have z1:IsZip g1 z TI TO .ellipsis:=z1;have c1:Heap.SameBut z hp g1:=c1;refine wB ?_;simp only [List.zipIdx_cons,List.zipIdx_nil,List.forIn_cons,List.forIn_nil];refine wB (wB (wpAny_onRaise ?_));show wpAny _ _ (Builtin.SmallTypes.nextOf (.ref i1) >>=_) _ _ _;refine wB (D1.item k _ _ _ l1 (D1.frame _ _ _ h1 λq hq o e=>(c1.2 q λy=>ap.b1 (y▸hq)).trans e) λx g2 t2 px s2 c2=>wP ?_);have c2:Heap.SameBut i1 g1 g2:=c2;have p2:IsPair g2 TO a b:=(c2.2 _ ap.a5).trans ((c1.2 _ ap.a2).trans hTO);refine wB (wpAny_seqItems p2 rfl ?_);refine wB (xw p2 λg3 p3 c3=>?_);have p3:IsPair g3 TO x b:=p3;have c3:Heap.SameBut TO g2 g3:=c3;refine wB (wpAny_letGo (wP ?_));refine wB (wB (wpAny_onRaise ?_));show wpAny _ _ (Builtin.SmallTypes.nextOf (.ref i2) >>=_) _ _ _;have m2:S2 k g3:=D2.frame _ _ _ h2 λq hq o e=>(c3.2 q λy=>ap.b4 (y▸hq)).trans ((c2.2 q λy=>ap.b6 (y▸hq)).trans ((c1.2 q λy=>ap.b2 (y▸hq)).trans e));refine wB (D2.item k _ _ _ l2 m2 λy g4 t4 py s4 c4=>wP ?_);have c4:Heap.SameBut i2 g3 g4:=c4;have p4:IsPair g4 TO x b:=(c4.2 _ ap.a6).trans p3;refine wB (wpAny_seqItems p4 rfl ?_);refine wB (xw p4 λg5 p5 c5=>?_);have p5:IsPair g5 TO x y:=p5;have c5:Heap.SameBut TO g4 g5:=c5;refine wB (wpAny_letGo (wP (wP ?_)));refine wB (wpAny_seqItems p5 rfl ?_);refine wB (wpAny_newTuple ?_);have zz:g5.objs.size=hp.objs.size:=by rw [c5.1,c4.1,c3.1,c2.1,c1.1]
 have z5:IsZip g5 z TI TO .ellipsis:=(c5.2 _ ap.a2.symm).trans ((c4.2 _ ap.a4.symm).trans ((c3.2 _ ap.a2.symm).trans ((c2.2 _ ap.a3.symm).trans z1)));have k5:∀c o,c≠z->c≠TO->c≠i1->c≠i2->hp.get? c=some o->g5.get? c=some o:=λc o n1 n2 n3 n4 e=>(c5.2 _ n2).trans ((c4.2 _ n4).trans ((c3.2 _ n2).trans ((c2.2 _ n3).trans ((c1.2 _ n1).trans e))));have w1:S1 (k+1) g5:=D1.frame _ _ _ s2 λq hq o e=>(c5.2 q λy=>ap.b3 (y▸hq)).trans ((c4.2 q λy=>ap.b5 (y▸hq)).trans ((c3.2 q λy=>ap.b3 (y▸hq)).trans e));have w2:S2 (k+1) g5:=D2.frame _ _ _ s4 λq hq o e=>(c5.2 q λy=>ap.b4 (y▸hq)).trans e;have zl:z < g5.objs.size:=g0 z5;show wpAny _ _ (Builtin.SmallTypes.ownedTupleHandOut (.ref z) (.ref g5.objs.size) >>=_) _ _ _;refine wB ?_;unfold Builtin.SmallTypes.ownedTupleHandOut;have z6:IsZip (g5.push {cls:=.type "tuple",data:=.seq #[x,y]}) z TI TO .ellipsis:=iM _ z5;refine wB (wpAny_setField_rec z6 (by simp) λg7 z7 c7=>?_)
 have z7:IsZip g7 z TI TO (rawInt g5.objs.size):=z7;have c7:Heap.SameBut z (g5.push {cls:=.type "tuple",data:=.seq #[x,y]}) g7:=c7;refine wpAny_setField_rec z7 (by simp) λg8 z8 c8=>?_
 have z8:IsZip g8 z TI TO (rawInt g5.objs.size):=z8;have c8:Heap.SameBut z g7 g8:=c8;have up:∀c o,c≠z->g5.get? c=some o->g8.get? c=some o:=λc o n e=>(c8.2 _ n).trans ((c7.2 _ n).trans (iM _ e));have t8:IsPair g8 g5.objs.size x y:=(c8.2 _ (Dr zl)).trans ((c7.2 _ (Dr zl)).trans (kf _ rfl));have l8:g8.objs.size=g5.objs.size+1:=by rw [c8.1,c7.1,B3]
 rw [zz]at z8 t8 l8;refine wP ⟨_,rfl,?_⟩;show Q (.ref g5.objs.size) _;rw [zz];exact K x y g8 _ px py z8 (up _ _ ap.a2 p5) (D1.frame _ _ _ w1 λq hq o e=>up q o (λy=>ap.b1 (y▸hq)) e) (D2.frame _ _ _ w2 λq hq o e=>up q o (λy=>ap.b2 (y▸hq)) e) t8 l8 λc o n1 n2 n3 n4 e=>up c o n1 (k5 c o n1 n2 n3 n4 e)
theorem Ea {Q:Fin->Shared->Prop}(D1:Draws prog w A i1 f1 n1 P1 S1)(ap:ZA z TI TO i1 i2 f1 f2)
 (hz:IsZip s.heap z TI TO .none) (hTI:IsPair s.heap TI (.ref i1) (.ref i2)) (hTO:IsPair s.heap TO a b) (h1:S1 n1 s.heap)
 (K:∀h' e,(∀c o,c≠z->c≠i1->s.heap.get? c=some o->h'.get? c=some o)->(∃o,h'.get? e=some o/\o.cls=.type "StopIteration")->E (.ref e) {s with heap:=h'}):
 wpAny (model prog w) A (Builtin.«zip.__next__» ⟨[.ref z],[]⟩) Q E s:=by
 show wpAny _ _ (field (.ref z) 2 >>=_) _ _ _;refine wB (wpAny_field hz rfl (x:=.bool false) rfl ?_);show wpAny _ _ (field (.ref z) 3 >>=_) _ _ _;refine wB (wpAny_field hz rfl (x:=.ref TI) rfl ?_);refine wB (wpAny_seqItems hTI rfl ?_);show wpAny _ _ (Builtin.SmallTypes.ownedTupleIsFree (.ref z) >>=_) _ _ _;refine wB ?_;unfold Builtin.SmallTypes.ownedTupleIsFree;refine wB (wpAny_field hz rfl (x:=.none) rfl (wP ?_));simp only [if_true];refine wB (wpAny_rule ?_);refine wB (wpAny_field hz rfl (x:=.ref TO) rfl ?_);refine wB (wpAny_setField_rec hz (by simp) λg1 z1 c1=>?_)
 have z1:IsZip g1 z TI TO .ellipsis:=z1;have c1:Heap.SameBut z s.heap g1:=c1;refine wB ?_;simp only [List.zipIdx_cons,List.zipIdx_nil,List.forIn_cons,List.forIn_nil];refine wB (wB (wpAny_onRaise ?_));show wpAny _ _ (Builtin.SmallTypes.nextOf (.ref i1) >>=_) _ _ _;refine wB (D1.done _ _ _ (D1.frame _ _ _ h1 λq hq o e=>(c1.2 q λy=>ap.b1 (y▸hq)).trans e) λg2 e c2 st=>?_);have c2:Heap.ExtBut i1 g1 g2:=c2;obtain⟨oe,ho,hc⟩:=st;have z2:IsZip g2 z TI TO .ellipsis:=c2 _ _ ap.a3.symm z1;have ne:e≠z:=λy=>by
  subst y;have:g2.get? e=some oe:=ho;rw [z2]at this;cases this;simp at hc
 refine wpAny_setField_rec z2 (by simp) λg3 _ c3=>?_
 have c3:Heap.SameBut z g2 g3:=c3;exact K g3 e (λc o n1 n2 y=>(c3.2 _ n1).trans (c2 _ _ n2 ((c1.2 _ n1).trans y))) ⟨oe,(c3.2 _ ne).trans ho,hc⟩
theorem AX {Q:Option Value->Shared->Prop}(D1:Draws prog w A.in1 i1 f1 n1 P1 S1)(D2:Draws prog w A.in1 i2 f2 n2 P2 S2)(ap:ZA z TI TO i1 i2 f1 f2)
 (hz:IsZip s.heap z TI TO .none) (hTI:IsPair s.heap TI (.ref i1) (.ref i2)) (hTO:IsPair s.heap TO a b) (h1:S1 k s.heap) (h2:S2 k s.heap) (l1:k < n1) (l2:k < n2)
 (K : ∀ x y h' tk, P1 k x -> P2 k y -> IsZip h' z TI TO (rawInt s.heap.objs.size) -> IsPair h' TO x y -> S1 (k + 1) h' -> S2 (k + 1) h' -> IsPair h' s.heap.objs.size x y -> h'.objs.size = s.heap.objs.size + 1 ->
  (∀c o,c≠z->c≠TO->c≠i1->c≠i2->s.heap.get? c=some o->h'.get? c=some o)->Q (some (.ref s.heap.objs.size)) {s with heap:=h',toks:=tk}):
 wpAny (model prog w) A (pyNext (.ref z)) Q E s:=by
 have ty:s.TypeIs (.ref z) "zip":=⟨_,hz,rfl⟩;unfold pyNext;exact wB (wpAny_attempt (wpAny_callSpecial?_slot (name:=Str.ofString "__next__") ty F.slot_zip_next (wpAny_call_entry F.slot_zip_next ty F.entry_zip_next
  (Cp D1 D2 ap hz hTI hTO h1 h2 l1 l2 λx y h' tk q1 q2 q3 q4 q5 q6 q7 q8 q9=>wP (K x y h' tk q1 q2 q3 q4 q5 q6 q7 q8 q9)) (F.args_zip_next_1 _))))
theorem Cq {Q:Option Value->Shared->Prop}(D1:Draws prog w A.in1 i1 f1 n1 P1 S1)(ap:ZA z TI TO i1 i2 f1 f2)
 (hz:IsZip s.heap z TI TO .none) (hTI:IsPair s.heap TI (.ref i1) (.ref i2)) (hTO:IsPair s.heap TO a b) (h1:S1 n1 s.heap)
 (K:∀h',(∀c o,c≠z->c≠i1->s.heap.get? c=some o->h'.get? c=some o)->Q none {s with heap:=h'}):wpAny (model prog w) A (pyNext (.ref z)) Q E s:=by
 have ty:s.TypeIs (.ref z) "zip":=⟨_,hz,rfl⟩;unfold pyNext;refine wB (wpAny_attempt (wpAny_callSpecial?_slot (name:=Str.ofString "__next__") ty F.slot_zip_next (wpAny_call_entry F.slot_zip_next ty F.entry_zip_next (Ea D1 ap hz hTI hTO h1 λh' e q st=>?_) (F.args_zip_next_1 _))));obtain⟨o,ho,hc⟩:=st;exact wB (wpAny_isInstance (T:="StopIteration") (b:=true) ⟨o,ho,hc⟩ isSubtype_stop (wP (K _ q)))
end
theorem Eb(l1 l2:Addr)(xs ys:Array Value):
 Meets (Builtin.«zip.__new__» ⟨[.type "zip",.ref l1,.ref l2],[]⟩) (λ_ R s=>s.heap.IsTuple l1 xs/\s.heap.IsTuple l2 ys/\
  ∀g1 g2 g3 g4 g5,g1=s.heap.push {cls:=.type "tuple_iterator",data:=.fields #[.ref l1,.int 0 0]}->g2=g1.push {cls:=.type "tuple_iterator",data:=.fields #[.ref l2,.int 0 0]}->
   g3=g2.push {cls:=.type "tuple",data:=.seq #[.ref s.heap.objs.size,.ref g1.objs.size]}->g4=g3.push {cls:=.type "tuple",data:=.seq #[.none,.none]}->
   g5=g4.push {cls:=.type "zip",data:=.fields #[.none,.bool false,.bool false,.ref g2.objs.size,.ref g3.objs.size]}->R (.ok (.ret (.ref g4.objs.size))) {s with heap:=g5}):=
 .of_wp λprog w A R s h=>by
  obtain⟨hp,g,d,tk,os⟩:=s;obtain⟨h1,h2,h⟩:=h;have hsub:=sub_zip;have m1:Heap.IsTuple (Shared.heap ⟨hp,g,d,tk,os⟩) l1 xs:=h1;have m2:Heap.IsTuple (Shared.heap ⟨hp.push {cls:=.type "tuple_iterator",data:=.fields #[.ref l1,.int 0 0]},g,d,tk,os⟩) l2 ys:=Heap.IsTuple.push h2 _
  wp_walk using wpAny_pyIter_tuple m1,wpAny_pyIter_tuple m2
  exact⟨_,rfl,h _ _ _ _ _ rfl rfl rfl rfl rfl⟩
section
variable {prog:Program} {w:World} {A:Around} {E:Value->Shared->Prop} {s:Shared}
theorem Cr {l1 l2:Addr}{xs ys:Array Value}{Q:Value->Shared->Prop}(h1:s.heap.IsTuple l1 xs)(h2:s.heap.IsTuple l2 ys)
 (k : ∀ h', IsZip h' (s.heap.objs.size + 4) (s.heap.objs.size + 2) (s.heap.objs.size + 3) .none -> IsPair h' (s.heap.objs.size + 2) (.ref s.heap.objs.size) (.ref (s.heap.objs.size + 1)) -> IsPair h' (s.heap.objs.size + 3) .none .none ->
  h'.IsTupleIter s.heap.objs.size l1 0->h'.IsTupleIter (s.heap.objs.size+1) l2 0->h'.objs.size=s.heap.objs.size+5->(∀c o,s.heap.get? c=some o->h'.get? c=some o)->Q (.ref (s.heap.objs.size+4)) {s with heap:=h'}):
 wpAny (model prog w) A (call (.type "zip") [.ref l1,.ref l2]) Q E s:=by
 refine callType_new F.called_zip (by decide) (F.typeCall_zip_2 _ _) (F.newCall_zip_2 _ _) (λobj=>F.args_object_init_3 obj _ _) F.entry_zip_new (Eb l1 l2 xs ys) ⟨h1,h2,?_⟩
 intro g1 g2 g3 g4 g5 e1 e2 e3 e4 e5;have z1:g1.objs.size=s.heap.objs.size+1:=by rw [e1];exact B3 ..
 have z2:g2.objs.size=s.heap.objs.size+2:=by rw [e2,B3,z1]
 have z3:g3.objs.size=s.heap.objs.size+3:=by rw [e3,B3,z2]
 have z4:g4.objs.size=s.heap.objs.size+4:=by rw [e4,B3,z3]
 have z5:g5.objs.size=s.heap.objs.size+5:=by rw [e5,B3,z4]
 have u2:∀{c o},g1.get? c=some o->g2.get? c=some o:=λe=>by rw [e2];exact iM _ e
 have u3:∀{c o},g2.get? c=some o->g3.get? c=some o:=λe=>by rw [e3];exact iM _ e
 have u4:∀{c o},g3.get? c=some o->g4.get? c=some o:=λe=>by rw [e4];exact iM _ e
 have u5:∀{c o},g4.get? c=some o->g5.get? c=some o:=λe=>by rw [e5];exact iM _ e
 have q5:IsZip g5 (s.heap.objs.size+4) (s.heap.objs.size+2) (s.heap.objs.size+3) .none:=by rw [<-z4, <-z3, <-z2,e5];exact kf _ rfl
 have q4:IsPair g5 (s.heap.objs.size+3) .none .none:=by rw [<-z3];exact u5 (by rw [e4];exact kf _ rfl)
 have q3:IsPair g5 (s.heap.objs.size+2) (.ref s.heap.objs.size) (.ref (s.heap.objs.size+1)):=by rw [<-z2, <-z1];exact u5 (u4 (by rw [e3];exact kf _ rfl))
 have q2:g5.IsTupleIter (s.heap.objs.size+1) l2 0:=⟨_,by rw [<-z1];exact u5 (u4 (u3 (by rw [e2];exact kf _ rfl))),rfl,rfl⟩
 have q1:g5.IsTupleIter s.heap.objs.size l1 0:=⟨_,u5 (u4 (u3 (u2 (by rw [e1];exact kf _ rfl)))),rfl,rfl⟩
 rw [z4];exact⟨⟨_,q5,rfl⟩,k _ q5 q3 q4 q1 q2 z5 λc o x=>u5 (u4 (u3 (u2 (by rw [e1];exact iM _ x))))⟩
end
section
variable {X:Cx} {pins:List (Addr×Obj)} {σ:St} {H:Hp} {s:Shared}
theorem Inv.turnedN {ch:List Addr}{h':Heap}{t':Nat}{p:Addr}{o:HO}(I:Inv X pins σ H s)(hf:∀b∈ch,nH X pins H b)(k:∀b u,b ∉ ch->s.heap.get? b=some u->h'.get? b=some u)
 (hp:s.heap.objs.size<=p) (new:ObjOk X.prog X.w (bH H p o) h' p o):Inv X pins σ (bH H p o) {s with heap:=h',toks:=t'}:=by
 have hn:H p=none:=I.hok.fresh hp;have nit:∀b u,H b=some u->b ∉ ch:=λb u e z=>by rw [(hf b z).1]at e;cases e
 have old:∀b u,s.heap.get? b=some u->b≠p:=λb u e=>nA (j6 (g0 e) hp);refine I.step (g':=s.gens) (d':=s.drawn) (ch:=ch) (λb hb=>⟨(hf b hb).2.2.2.1,(hf b hb).2.1,(hf b hb).2.2.2.2.1,(hf b hb).2.2.2.2.2⟩) (λb o _ _ hc e _=>k b o hc e) (λb o _ _ hc e _=>⟨o.slots,k b o hc e⟩)
  (λb u _ e n=>by rw [aN (old b u e)];exact n) (λb o hc e=>⟨o,k b o hc e⟩) (λb xs e=>by rw [aN (aR e hn)];exact e) (λb u xs e=>by rw [aN (aR e hn)];exact e)
  (λb ps e=>⟨#[],by rw [aN (aR e hn),e];simp⟩) (λm hm=>?_) (λb u e=>?_) I.bare
 · obtain⟨ob,es,ep,ho,r⟩:=hm;exact⟨ob,es,ep,k _ ob (λz=>(hf _ z).2.1 rfl) ho,r⟩
 · by_cases hb:b=p
   · subst hb;rw [aT]at e;cases e;exact new
   · rw [aN hb]at e;refine(I.hok b u e).stay (λc v hc q=>k c v ?_ q) (λc q=>by rw [aN (aR q hn)];exact q) (λc xs q=>by rw [aN (aR q hn)];exact q) λc ob xs q=>by rw [aN (aR q hn)];exact q
     rcases hc with z|z
     · rw [z];exact nit b u e
     · exact nit c _ z
theorem Inv.turned0 {ch:List Addr}{h':Heap}{t':Nat}(I:Inv X pins σ H s)(hf:∀b∈ch,nH X pins H b)(k:∀b u,b ∉ ch->s.heap.get? b=some u->h'.get? b=some u):Inv X pins σ H {s with heap:=h',toks:=t'}:=by
 have nit:∀b u,H b=some u->b ∉ ch:=λb u e z=>by rw [(hf b z).1]at e;cases e
 refine I.step (g':=s.gens) (d':=s.drawn) (ch:=ch) (λb hb=>⟨(hf b hb).2.2.2.1,(hf b hb).2.1,(hf b hb).2.2.2.2.1,(hf b hb).2.2.2.2.2⟩) (λb o _ _ hc e _=>k b o hc e) (λb o _ _ hc e _=>⟨o.slots,k b o hc e⟩)
  (λ_ _ _ _ n=>n) (λb o hc e=>⟨o,k b o hc e⟩) (λ_ _ e=>e) (λ_ _ _ e=>e) (λb ps e=>⟨#[],by rw [e];simp⟩) (λm hm=>?_) (λb u e=>?_) I.bare
 · obtain⟨ob,es,ep,ho,r⟩:=hm;exact⟨ob,es,ep,k _ ob (λz=>(hf _ z).2.1 rfl) ho,r⟩
 · refine(I.hok b u e).stay (λc v hc q=>k c v ?_ q) (λ_ q=>q) (λ_ _ q=>q) λ_ _ _ q=>q
   rcases hc with z|z
   · rw [z];exact nit b u e
   · exact nit c _ z
end
structure Src (P:Program) (w:World) (K:Fg) (a it:Addr) (S:Hp->List V->Prop) (IT:Nat->Heap->Prop):Prop where
 inj:∀(X:Cx),X.K=K->∀(pins:List (Addr×Obj)) (σ:St) (H:Hp) (s:Shared) (xs ys:List V),Inv X pins σ H s->S H xs->S H ys->xs=ys
 at_:∀i h h',IT i h->(∀o,h.get? it=some o->h'.get? it=some o)->IT i h'
 ob:∀i h,IT i h->∃o n,h.get? it=some o/\o.cls=.type n/\n≠ "list"/\n≠ "tuple"/\n≠ "enumerate"/\n≠ "zip"/\∀v,o.data≠ .cell v
 dr:∀(X:Cx),X.prog=P->X.w=w->X.K=K->∀(pins:List (Addr×Obj)) (σ:St) (H:Hp) (s:Shared) (xs:List V),Inv X pins σ H s->S H xs->∃(its:List Value) (SA:Heap->Prop),Vals xs its/\SA s.heap/\
  (∃o n,s.heap.get? a=some o/\o.cls=.type n/\(n="list"\/n="tuple"))/\∀A:Around,A.handled=none->a≠it->Draws P w A it [it,a] its.toArray.size (λi v=>its.toArray[i]? =some v) λi h=>IT i h/\SA h
theorem KR {P:Program}{w:World}{K:Fg}(a it:Addr):Src P w K a it (λH xs=>SqT K H a xs) (λi h=>h.IsTupleIter it a i) where
 inj:=λX hK pins σ H s xs ys I h1 h2=>by subst hK;exact I.tuple_inj h1 h2
 at_:=λi h h' x e=>x.at e
 ob:=λi h x=>by obtain⟨o,e,c,d⟩:=x;exact⟨o,_,e,c,by decide,by decide,by decide,by decide,λv z=>by rw [d]at z;cases z⟩
 dr:=λX hP hw hK pins σ H s xs I h=>by
  subst hP hw hK;obtain⟨its,rv,p,hz⟩:=I.tuple h;refine⟨its,λh=>h.IsTuple a its.toArray,rv,p,?_,λA hh ne=>N7 hh it a ne its.toArray⟩;obtain⟨o,e,c,_⟩:=p;exact⟨o,_,e,c,.inr rfl⟩
theorem NH {P:Program}{w:World}{K:Fg}(a it:Addr):Src P w K a it (λH xs=>SqL K H a xs) (λi h=>h.IsListIter it a i) where
 inj:=λX hK pins σ H s xs ys I h1 h2=>by subst hK;exact I.list_inj h1 h2
 at_:=λi h h' x e=>x.at e
 ob:=λi h x=>by obtain⟨o,e,c,d⟩:=x;exact⟨o,_,e,c,by decide,by decide,by decide,by decide,λv z=>by rw [d]at z;cases z⟩
 dr:=λX hP hw hK pins σ H s xs I h=>by
  subst hP hw hK;obtain⟨its,rv,p,hz⟩:=I.list h;refine⟨its,λh=>h.IsList a its.toArray,rv,p.isList,?_,λA hh ne=>Draws.list hh it a ne its.toArray⟩;obtain⟨o,e,c,_⟩:=p.isList;exact⟨o,_,e,c,.inl rfl⟩
theorem bY {h:Heap}{a b:Addr}{o u:Obj}{n m:String}(e:h.get? a=some o)(c:o.cls=.type n)(e':h.get? b=some u)(c':u.cls=.type m)(d:n≠m):a≠b:=λz=>by
 subst z;rw [e]at e';cases e';rw [c]at c';exact d (by injection c')
def Mo(S:Hp->List V->Prop):It:=
 ⟨λi H=>∃xs x,S H xs/\xs[i]? =some x,λi H x H'=>∃p v,H p=none/\x=.ref p/\H'=bH H p (.tup [.int (i:Nat),v])/\∀xs,S H xs->xs[i]? =some v,λi H=>∃xs,S H xs/\xs.length=i⟩
theorem vW {P:Program}{w:World}{K:Fg}{es:List Expr}{k1:Nat}{tp:Pos}{a e it:Addr}{S:Hp->List V->Prop}{IT:Nat->Heap->Prop}(R:Src P w K a it S IT):
 Turn P w K (.Tuple es k1 tp) (Mo S) [e,it] e (λi h=>(∃old,IsEnum h e it (i:Nat) old)/\IT i h) where
 mem:=by simp
 obj:=λi h st b hb=>by
  obtain⟨⟨old,he⟩,hi⟩:=st;have hb':b=e\/b=it:=by simpa using hb
  rcases hb' with z|z
  · subst z;exact⟨_,he,λv z=>by cases z⟩
  · subst z;obtain⟨o,n,q,_,_,_,_,_,d⟩:=R.ob _ _ hi;exact⟨o,q,d⟩
 keep:=λi h h' st k=>by
  obtain⟨⟨old,he⟩,hi⟩:=st;exact⟨⟨old,k e (by simp) _ he⟩,R.at_ _ _ _ hi λo q=>k it (by simp) o q⟩
 item:=by
  intro X hP hw hK hc i pins s σ H E I hf st hg;obtain⟨xs,x,hq,hx⟩:=hg;obtain⟨⟨old,he⟩,hi⟩:=st;obtain⟨its,SA,rv,sa,⟨oa,na,ea,ca,da⟩,dr⟩:=R.dr X hP hw hK pins σ H s xs I hq;obtain⟨oi,ni,ei,ci,d1,d2,d3,_,_⟩:=R.ob _ _ hi;have nai:a≠it:=bY ea ca ei ci (by rcases da with z|z<;>(subst z;first|exact d1.symm|exact d2.symm))
  have nea:e≠a:=bY he rfl ea ca (by rcases da with z|z<;>(subst z;decide))
  have nei:e≠it:=bY he rfl ei ci (Ne.symm d3);obtain⟨u,hu,ru⟩:=rv.get hx;have hh:X.A.in1.handled=none:=I.ok.hd hc;have hlt:i < its.toArray.size:=by have:=(Dx.mp hu).1;simpa using this
  subst hP hw;refine wpAny_pyNext_enum_itemD (dr _ hh nai) he ⟨hi,sa⟩ hlt nei (by simp [nei,nea]) λy h' tk py heo st' ht hsz hk=>?_
  have ey:y=u:=by
   have:its[i]? =some y:=by simpa using py
   rw [hu]at this;exact(zV this).symm
  subst ey;refine⟨_,rfl,wpAny_letOwnedTupleGo_enum heo λh2 he2 c2=>?_⟩;have c2:Heap.SameBut e h' h2:=c2;have el:e < s.heap.objs.size:=g0 he;have t2:h2.get? s.heap.objs.size=some {cls:=.type "tuple",data:=.seq #[.int i tk,y]}:=(c2.2 _ (Dr el)).trans ht;have I2:Inv X pins σ (bH H s.heap.objs.size (.tup [.int (i:Nat),x])) {s with heap:=h2,toks:=tk+1}:=I.turnedN (ch:=[e,it]) hf (λb o hb q=>by
   have hb':b≠e/\b≠it:=by simpa using hb
   exact(c2.2 _ hb'.1).trans (hk b o hb'.1 hb'.2 q)) (Q2 _) ⟨by show 2<=sizeLine;decide,[.int i tk,y],.cons ⟨tk,rfl⟩ (.cons ru .nil),⟨_,t2,rfl,_,rfl⟩,_,t2,rfl⟩
  have hn:H s.heap.objs.size=none:=I.hok.fresh (Q2 _);refine⟨.ref s.heap.objs.size,_,I2,rfl,⟨_,x,hn,rfl,rfl,λys hy=>by rw [R.inj X hK pins σ H s ys xs I hy hq];exact hx⟩,⟨⟨_,by simpa using he2⟩,R.at_ _ _ _ st'.1 λo q=>(c2.2 _ nei.symm).trans q⟩,λb hb=>?_⟩
  have lb:b < s.heap.objs.size:=by
   have hb':b=e\/b=it:=by simpa using hb
   rcases hb' with z|z
   · rw [z];exact el
   · rw [z];exact g0 ei
  rw [aN (nA lb)];exact(hf b hb).1
 done:=by
  intro X hP hw hK hc i pins s σ H E I hf st hg;obtain⟨xs,hq,hx⟩:=hg;obtain⟨⟨old,he⟩,hi⟩:=st;obtain⟨its,SA,rv,sa,⟨oa,na,ea,ca,da⟩,dr⟩:=R.dr X hP hw hK pins σ H s xs I hq;obtain⟨oi,ni,ei,ci,d1,d2,d3,_,_⟩:=R.ob _ _ hi;have nai:a≠it:=bY ea ca ei ci (by rcases da with z|z<;>(subst z;first|exact d1.symm|exact d2.symm))
  have hh:X.A.in1.handled=none:=I.ok.hd hc;subst hP hw;have hl:its.toArray.size=i:=by rw [<-hx,rv.length];simp
  refine wpAny_pyNext_enum_endD (dr _ hh nai) he (by rw [hl];exact⟨hi,sa⟩) λh' eb=>⟨rfl,I.turned0 (t':=s.toks) (ch:=[e,it]) hf λb u hb q=>?_⟩
  have hb':b≠e/\b≠it:=by simpa using hb
  exact eb b u hb'.2 q
 self:=λA i s Q E st h=>by
  obtain⟨⟨old,he⟩,hi⟩:=st;exact wpAny_pyIter_enum he h
def NI(S1 S2:Hp->List V->Prop):It:=
 ⟨λ i H => ∃ xs ys x y, S1 H xs /\ S2 H ys /\ xs[i]? = some x /\ ys[i]? = some y,
  λi H x H'=>∃p v u,H p=none/\x=.ref p/\H'=bH H p (.tup [v,u])/\(∀xs,S1 H xs->xs[i]? =some v)/\∀ys,S2 H ys->ys[i]? =some u,
  λi H=>∃xs,S1 H xs/\xs.length=i⟩
theorem Ec {P:Program}{w:World}{K:Fg}{es:List Expr}{k1:Nat}{tp:Pos}{a1 a2 z TI TO i1 i2:Addr}{S1 S2:Hp->List V->Prop}{IT1 IT2:Nat->Heap->Prop}(R1:Src P w K a1 i1 S1 IT1)(R2:Src P w K a2 i2 S2 IT2)(n12:i1≠i2)(nT:TI≠TO):
 Turn P w K (.Tuple es k1 tp) (NI S1 S2) [z,TI,TO,i1,i2] z (λi h=>IsZip h z TI TO .none/\IsPair h TI (.ref i1) (.ref i2)/\(∃a b,IsPair h TO a b)/\IT1 i h/\IT2 i h/\a1≠TO/\a2≠TO) where
 mem:=by simp
 obj:=λi h st b hb=>by
  obtain⟨hz,hTI,⟨a,b',hTO⟩,h1,h2,_,_⟩:=st;have hb':b=z\/b=TI\/b=TO\/b=i1\/b=i2:=by simpa using hb
  rcases hb' with q|q|q|q|q
  · subst q;exact⟨_,hz,λv z=>by cases z⟩
  · subst q;exact⟨_,hTI,λv z=>by cases z⟩
  · subst q;exact⟨_,hTO,λv z=>by cases z⟩
  · subst q;obtain⟨o,n,q,_,_,_,_,_,d⟩:=R1.ob _ _ h1;exact⟨o,q,d⟩
  · subst q;obtain⟨o,n,q,_,_,_,_,_,d⟩:=R2.ob _ _ h2;exact⟨o,q,d⟩
 keep:=λi h h' st k=>by
  obtain⟨hz,hTI,⟨a,b',hTO⟩,h1,h2,q1,q2⟩:=st;exact⟨k z (by simp) _ hz,k TI (by simp) _ hTI,⟨a,b',k TO (by simp) _ hTO⟩,R1.at_ _ _ _ h1 λo q=>k i1 (by simp) o q,R2.at_ _ _ _ h2 λo q=>k i2 (by simp) o q,q1,q2⟩
 item:=by
  intro X hP hw hK hc i pins s σ H E I hf st hg;obtain⟨xs,ys,x,y,hq1,hq2,hx,hy⟩:=hg;obtain⟨hz,hTI,⟨a,b',hTO⟩,h1,h2,q1,q2⟩:=st;obtain⟨is1,SA1,rv1,sa1,⟨oa1,na1,ea1,ca1,da1⟩,dr1⟩:=R1.dr X hP hw hK pins σ H s xs I hq1;obtain⟨is2,SA2,rv2,sa2,⟨oa2,na2,ea2,ca2,da2⟩,dr2⟩:=R2.dr X hP hw hK pins σ H s ys I hq2;obtain⟨o1,n1,e1,c1,d11,d12,d13,d14,_⟩:=R1.ob _ _ h1;obtain⟨o2,n2,e2,c2,d21,d22,d23,d24,_⟩:=R2.ob _ _ h2;have s11:a1≠i1:=bY ea1 ca1 e1 c1 (by rcases da1 with z|z<;>(subst z;first|exact d11.symm|exact d12.symm))
  have s22:a2≠i2:=bY ea2 ca2 e2 c2 (by rcases da2 with z|z<;>(subst z;first|exact d21.symm|exact d22.symm))
  have s12:a1≠i2:=bY ea1 ca1 e2 c2 (by rcases da1 with z|z<;>(subst z;first|exact d21.symm|exact d22.symm))
  have s21:a2≠i1:=bY ea2 ca2 e1 c1 (by rcases da2 with z|z<;>(subst z;first|exact d11.symm|exact d12.symm))
  have sz1:a1≠z:=bY ea1 ca1 hz rfl (by rcases da1 with z|z<;>(subst z;decide))
  have sz2:a2≠z:=bY ea2 ca2 hz rfl (by rcases da2 with z|z<;>(subst z;decide))
  have tz:TI≠z:=bY hTI rfl hz rfl (by decide)
  have oz:TO≠z:=bY hTO rfl hz rfl (by decide)
  have iz1:i1≠z:=bY e1 c1 hz rfl d14;have iz2:i2≠z:=bY e2 c2 hz rfl d24;have oi1:TO≠i1:=bY hTO rfl e1 c1 (Ne.symm d12);have oi2:TO≠i2:=bY hTO rfl e2 c2 (Ne.symm d22);have ti1:TI≠i1:=bY hTI rfl e1 c1 (Ne.symm d12);have ti2:TI≠i2:=bY hTI rfl e2 c2 (Ne.symm d22);obtain⟨u,hu,ru⟩:=rv1.get hx;obtain⟨v,hv,rv⟩:=rv2.get hy;have hh:X.A.in1.handled=none:=I.ok.hd hc;have l1:i < is1.toArray.size:=by have:=(Dx.mp hu).1;simpa using this
  have l2:i < is2.toArray.size:=by have:=(Dx.mp hv).1;simpa using this
  subst hP hw;have ap:ZA z TI TO i1 i2 [i1,a1] [i2,a2]:=⟨tz,oz,iz1,iz2,oi1,oi2,by simp [iz1.symm,sz1.symm],by simp [iz2.symm,sz2.symm],by simp [oi1,q1.symm],by simp [oi2,q2.symm],by simp [n12.symm,s12.symm],by simp [n12,s21.symm]⟩
  refine AX (dr1 _ hh s11) (dr2 _ hh s22) ap hz hTI hTO ⟨h1,sa1⟩ ⟨h2,sa2⟩ l1 l2 λx' y' h' tk p1 p2 z' to' w1 w2 t' sz' hk=>?_;have ex:x'=u:=by
   have:is1[i]? =some x':=by simpa using p1
   rw [hu]at this;exact(zV this).symm
  have ey:y'=v:=by
   have:is2[i]? =some y':=by simpa using p2
   rw [hv]at this;exact(zV this).symm
  subst ex ey;refine⟨_,rfl,wpAny_letOwnedTupleGo_zip z' λg2 z2 cc=>?_⟩;have cc:Heap.SameBut z h' g2:=cc;have zl:z < s.heap.objs.size:=g0 hz;have t2:IsPair g2 s.heap.objs.size x' y':=(cc.2 _ (Dr zl)).trans t';have I2:Inv X pins σ (bH H s.heap.objs.size (.tup [x,y])) {s with heap:=g2,toks:=tk}:=I.turnedN (ch:=[z,TI,TO,i1,i2]) hf (λb o hb q=>by
   have hb':b≠z/\b≠TI/\b≠TO/\b≠i1/\b≠i2:=by simpa using hb
   exact(cc.2 _ hb'.1).trans (hk b o hb'.1 hb'.2.2.1 hb'.2.2.2.1 hb'.2.2.2.2 q)) (Q2 _) ⟨by show 2<=sizeLine;decide,[x',y'],.cons ru (.cons rv .nil),⟨_,t2,rfl,_,rfl⟩,_,t2,rfl⟩
  have hn:H s.heap.objs.size=none:=I.hok.fresh (Q2 _);refine⟨.ref s.heap.objs.size,_,I2,rfl,⟨_,x,y,hn,rfl,rfl,λzs hz'=>by rw [R1.inj X hK pins σ H s zs xs I hz' hq1];exact hx,λzs hz'=>by rw [R2.inj X hK pins σ H s zs ys I hz' hq2];exact hy⟩,
   ⟨z2,(cc.2 _ tz).trans (hk _ _ tz nT ti1 ti2 hTI),⟨_,_,(cc.2 _ oz).trans to'⟩,R1.at_ _ _ _ w1.1 λo q=>(cc.2 _ iz1).trans q,R2.at_ _ _ _ w2.1 λo q=>(cc.2 _ iz2).trans q,q1,q2⟩,λb hb=>?_⟩
  have lb:b < s.heap.objs.size:=by
   have hb':b=z\/b=TI\/b=TO\/b=i1\/b=i2:=by simpa using hb
   rcases hb' with q|q|q|q|q<;>rw [q]
   · exact zl
   · exact g0 hTI
   · exact g0 hTO
   · exact g0 e1
   · exact g0 e2
  rw [aN (nA lb)];exact(hf b hb).1
 done:=by
  intro X hP hw hK hc i pins s σ H E I hf st hg;obtain⟨xs,hq1,hx⟩:=hg;obtain⟨hz,hTI,⟨a,b',hTO⟩,h1,h2,q1,q2⟩:=st;obtain⟨is1,SA1,rv1,sa1,⟨oa1,na1,ea1,ca1,da1⟩,dr1⟩:=R1.dr X hP hw hK pins σ H s xs I hq1;obtain⟨o1,n1,e1,c1,d11,d12,d13,d14,_⟩:=R1.ob _ _ h1;obtain⟨o2,n2,e2,c2,d21,d22,d23,d24,_⟩:=R2.ob _ _ h2;have s11:a1≠i1:=bY ea1 ca1 e1 c1 (by rcases da1 with z|z<;>(subst z;first|exact d11.symm|exact d12.symm))
  have s12:a1≠i2:=bY ea1 ca1 e2 c2 (by rcases da1 with z|z<;>(subst z;first|exact d21.symm|exact d22.symm))
  have sz1:a1≠z:=bY ea1 ca1 hz rfl (by rcases da1 with z|z<;>(subst z;decide))
  have tz:TI≠z:=bY hTI rfl hz rfl (by decide)
  have oz:TO≠z:=bY hTO rfl hz rfl (by decide)
  have iz1:i1≠z:=bY e1 c1 hz rfl d14;have iz2:i2≠z:=bY e2 c2 hz rfl d24;have oi1:TO≠i1:=bY hTO rfl e1 c1 (Ne.symm d12);have oi2:TO≠i2:=bY hTO rfl e2 c2 (Ne.symm d22);have hh:X.A.in1.handled=none:=I.ok.hd hc;subst hP hw;have hl:is1.toArray.size=i:=by rw [<-hx,rv1.length];simp
  have ap:ZA z TI TO i1 i2 [i1,a1] []:=⟨tz,oz,iz1,iz2,oi1,oi2,by simp [iz1.symm,sz1.symm],by simp,by simp [oi1,q1.symm],by simp,by simp [n12.symm,s12.symm],by simp⟩
  refine Cq (dr1 _ hh s11) ap hz hTI hTO (by rw [hl];exact⟨h1,sa1⟩) λh' eb=>⟨rfl,I.turned0 (t':=s.toks) (ch:=[z,TI,TO,i1,i2]) hf λb u hb q=>?_⟩
  have hb':b≠z/\b≠TI/\b≠TO/\b≠i1/\b≠i2:=by simpa using hb
  exact eb b u hb'.1 hb'.2.2.2.1 q
 self:=λA i s Q E st h=>wpAny_pyIter_zip st.1 h
section
variable {X:Cx} {es:List Expr} {k1:Nat} {tp:Pos}
def Ed(K:Fg)(ta:TA):TI:=λσ H R=>ta σ H λvs H1=>∃a b,vs=[.ref a,.ref b]/\(∃xs,SqT K H1 a xs)/\(∃ys,SqT K H1 b ys)/\R (NI (λH xs=>SqT K H a xs) λH xs=>SqT K H b xs) H1
theorem Hf {a b:Expr}{ta:TA}{p pos:Pos}(hg:Gl X "zip")(hm:X.mg "zip"=none)(ha:PA X [a,b] ta)(hs:starEach [a,b] X.env=[(false,eval a X.env),(false,eval b X.env)]:=by rfl)(hs2:starEach [b] X.env=[(false,eval b X.env)]:=by rfl):
 PI X (.Tuple es k1 tp) (.Call (.Name "zip" p) [a,b] [] pos) (Ed X.K ta):=by
 intro pins s σ H R I h;refine Call_ (qH I hg hm boot_zip (PyProof.Rows.callWith_type1 (cU (ha pos pins s σ H _ I h) λus s1 q_=>?_) (by rw [hs,hs2]) (by rw [hs2];rfl)))
 obtain⟨vs,H1,I1,r1,q1⟩:=q_;obtain⟨c,d,e,⟨xs,hx⟩,⟨ys,hy⟩,q⟩:=q1;subst e;cases r1 with
 |cons r rr=>
  cases rr with
  |cons r' rr=>
   cases rr;cases r;cases r';obtain⟨its,rv,pt,hz⟩:=I1.tuple hx;obtain⟨its2,rv2,pt2,hz2⟩:=I1.tuple hy;refine Cr (show s1.heap.IsTuple c its.toArray from pt) (show s1.heap.IsTuple d its2.toArray from pt2) λh' q1 q2 q3 q4 q5 q6 q7=>?_
   have lc:=pt.lt;have ld:=pt2.lt;refine wpAny_pyIter_zip q1 ⟨_,[_,_,_,_,_],_,_,H1,rfl,I1.kept (t':=s1.toks) q7,Ec (TI:=s1.heap.objs.size+2) (TO:=s1.heap.objs.size+3) (KR c s1.heap.objs.size) (KR d (s1.heap.objs.size+1)) (nA (EA _)) (nA (EA _)),⟨q1,q2,⟨_,_,q3⟩,q4,q5,nA (j6 lc (Gz _ _)),nA (j6 ld (Gz _ _))⟩,λb hb=>?_,q⟩;have hb':b=s1.heap.objs.size+4\/b=s1.heap.objs.size+2\/b=s1.heap.objs.size+3\/b=s1.heap.objs.size\/b=s1.heap.objs.size+1:=by simpa using hb
   have hle:s1.heap.objs.size<=b:=by
    rcases hb' with z|z|z|z|z<;>rw [z]
    all_goals first|exact Q2 _|exact Gz _ _
   exact I1.fpOk hle (I1.hok.fresh hle)
end
mutual
noncomputable def IsD(K:Fg)(H:Hp)(x:V):PyData->Prop
 | .none=>x=.non
 | .bool b=>x=.bl b
 | .int i=>x=.int i
 | .str y=>x=.str y
 | .list ds=>∃a xs,x=.ref a/\SqL K H a xs/\AllD K H xs ds
 | .tuple ds=>∃a xs,x=.ref a/\SqT K H a xs/\AllD K H xs ds
 | .dict _=>False
noncomputable def AllD(K:Fg)(H:Hp)(xs:List V):List PyData->Prop
 |[]=>xs=[]
 |d::ds=>∃x r,xs=x::r/\IsD K H x d/\AllD K H r ds
end
theorem bv {H:Hp}{p:Addr}(h:H p=none)(o:HO):Same H (bH H p o):=λb u q=>by rw [aN (aR q h)];exact q
section
variable {X:Cx} {pins:List (Addr×Obj)} {σ:St} {H:Hp} {s:Shared}
mutual
theorem IsD.reads(I:Inv X pins σ H s):∀{x:V} {u:Value} (d:PyData),IsD X.K H x d->RelV x u->∃as,Reads s.heap u d as
 |_,_,.none,h,r=>by rw [show _=V.non from h]at r;cases r;exact⟨_,.none⟩
 |_,_,.bool b,h,r=>by rw [show _=V.bl b from h]at r;cases r;exact⟨_,.bool b⟩
 |_,_,.int i,h,r=>by rw [show _=V.int i from h]at r;obtain⟨t,rfl⟩:=r;exact⟨_,.int i t⟩
 |_,_,.str y,h,r=>by rw [show _=V.str y from h]at r;obtain⟨t,rfl⟩:=r;exact⟨_,.str y t⟩
 |_,_,.list ds,h,r=>by
  obtain⟨a,xs,e,q,al⟩:=h;subst e;cases r;obtain⟨its,rv,p,_⟩:=I.list q;obtain⟨o,h1,h2,n,h3⟩:=p.isList;obtain⟨as,ra⟩:=AllD.reads I ds al rv;exact⟨_,.list h1 h2 h3 (by simpa using ra)⟩
 |_,_,.tuple ds,h,r=>by
  obtain⟨a,xs,e,q,al⟩:=h;subst e;cases r;obtain⟨its,rv,p,_⟩:=I.tuple q;obtain⟨o,h1,h2,n,h3⟩:=p;obtain⟨as,ra⟩:=AllD.reads I ds al rv;exact⟨_,.tuple h1 h2 h3 (by simpa using ra)⟩
 |_,_,.dict _,h,_=>h.elim
theorem AllD.reads(I:Inv X pins σ H s):∀{xs:List V} {us:List Value} (ds:List PyData),AllD X.K H xs ds->Vals xs us->∃as,ReadsAll s.heap us ds as
 |_,_,[],h,r=>by rw [show _=[]from h]at r;cases r;exact⟨_,.nil⟩
 |_,_,d::ds,h,r=>by
  obtain⟨x,rr,e,q,al⟩:=h;subst e;cases r with
  |cons r1 r2=>
   obtain⟨as,ra⟩:=IsD.reads I d q r1;obtain⟨bs,rb⟩:=AllD.reads I ds al r2;exact⟨_,.cons ra rb⟩
end
def vX(d:PyData):Prop:=d.canLay0=true/\d.depth<=60
def Ct(K:Fg)(neg:Bool):R2:=λx y H Q=>∃da db,IsD K H x da/\IsD K H y db/\vX da/\vX db/\Q (.bl (if neg then !PyData.eqv da db else PyData.eqv da db)) H
theorem KS(hu:X.A.units+64 < cLine):OpR X (compareOp .Eq) (Ct X.K false):=by
 intro pins s σ H x y v u Q I rx ry h;obtain⟨da,db,hx,hy,ca,cb,q⟩:=h;obtain⟨as,ra⟩:=hx.reads I _ rx;obtain⟨bs,rb⟩:=hy.reads I _ ry;exact SeqAt.compareEq_reads ra rb ca.1 cb.1 (by have:=ca.2;omega) ⟨.bl _,H,I,rfl,q⟩
theorem KU(hu:X.A.units+64 < cLine):OpR X (compareOp .NotEq) (Ct X.K true):=by
 intro pins s σ H x y v u Q I rx ry h;obtain⟨da,db,hx,hy,ca,cb,q⟩:=h;obtain⟨as,ra⟩:=hx.reads I _ rx;obtain⟨bs,rb⟩:=hy.reads I _ ry;exact SeqAt.compareNe_reads ra rb ca.1 cb.1 (by have:=ca.2;omega) ⟨.bl _,H,I,rfl,q⟩
def KW(K:Fg):List V->Hp->VK->Prop:=λxs H Q=>∃(p:Addr) (bs:List Bool),xs=[.ref p]/\SqL K H p (bs.map V.bl)/\Q (.bl (bs.all id)) H
theorem Cu {bs:List Bool}:(List.range bs.length).all (λi=>bs.getD i true)=bs.all id:=by
 rw [Bool.eq_iff_iff,Q6,Q6]
 constructor
 · intro h x hx;obtain⟨i,hi,e⟩:=List.mem_iff_getElem.mp hx;have:=h i (by simpa using hi)
   rw [qF,iF hi,e]at this;exact this
 · intro h i hi;have hi':i < bs.length:=by simpa using hi
   rw [qF,iF hi'];exact h _ (C6 hi')
theorem Ee(hc:X.calm=true):fu X (.builtin "all") (KW X.K):=by
 intro pins s σ H xs us Q I rv h;obtain⟨p,bs,rfl,hq,q⟩:=h;obtain⟨u,rfl,r⟩:=rv.one;cases r;obtain⟨its,rr,pl,hz⟩:=I.list hq;have hl:its.length=bs.length:=by rw [<-rr.length,zJ]
 have hh:X.A.in1.handled=none:=I.ok.hd hc;have lp:p < s.heap.objs.size:=by obtain⟨o,e,_⟩:=pl.isList;exact g0 e
 refine call_all_walk (wpAny_pyIter_list pl.isList ⟨_,_,_,_,_,_,λi=>bs.getD i true,rfl,Walks.list hh s.heap.objs.size p (nA lp) its.toArray,⟨⟨_,kf _ rfl,rfl,rfl⟩,pl.isList.push _⟩,?_,λh' tk k=>?_⟩)
 · intro i v s' Q' E' hP hQ;have hP':its[i]? =some v:=by simpa using hP
   have hi:i < its.length:=(Dx.mp hP').1;have hb:(bs.map V.bl)[i]? =some (.bl (bs[i]'(by omega))):=by rw [zK,iF (by omega)];rfl
   obtain⟨u,hu,ru⟩:=rr.get hb;rw [hP']at hu;cases hu;cases ru;have e:bs.getD i true=bs[i]'(by omega):=by rw [qF,iF (by omega)];rfl
   have hQ':Q' (bs.getD i true) s':=hQ;rw [e]at hQ';exact wpAny_truthy_bool hQ'
 · have e:(List.range its.toArray.size).all (λi=>bs.getD i true)=bs.all id:=by rw [zM,hl,Cu]
   rw [e];refine⟨.bl _,H,?_,rfl,q⟩;refine I.kept λb o eb=>k b o ?_ (iM _ eb);simp only [Q9];exact nA (g0 eb)
def Bd:V->List V->Hp->VK->Prop:=λx vs H Q=>∃(l:Addr) (ns:List Int) (n:Int),x=.ref l/\vs=[.int n]/\H l=some (.lst (ns.map V.int))/\n∈ns/\Q .non (bH H l (.lst ((ns.erase n).map V.int)))
theorem Cv(n:Int)(ns:List Int):∀{us:List Value},Vals (ns.map V.int) us->n∈ns->∃j,∃(hj:j < us.length),Dv (.int n) us[j]=true/\(∀m (hm:m < us.length),m < j->Dv (.int n) us[m]=false)/\Vals ((ns.erase n).map V.int) (us.eraseIdx j):=by
 induction ns with
 |nil=>intro us _ h;simp at h
 |cons a r ih=>
  intro us rv h;cases rv with
  | @cons _ b _ l2 r1 r2=>
   obtain⟨t,rfl⟩:=(show ∃t,b=Value.int a t from r1)
   by_cases e:a=n
   · subst e;refine⟨0,by simp,?_,λm _ hm=>absurd hm (Nat.not_lt_zero _),?_⟩
     · show Cg (.int a) (.int a)=true;simp [Cg]
     · simpa using r2
   · have hr:n∈r:=by
      rcases Q8.mp h with z|z
      · exact absurd z.symm e
      · exact z
     obtain⟨j,hj,h1,h2,h3⟩:=ih r2 hr;refine⟨j+1,by simpa using hj,by simpa using h1,λm hm hmj=>?_,?_⟩
     · cases m with
       |zero=>
        show Cg (.int a) (.int n)=false;simp [Cg,e]
       |succ m=>simpa using h2 m (by simpa using hm) (by omega)
     · rw [List.erase_cons_tail (by simpa using e)]
       exact .cons ⟨t,rfl⟩ h3
theorem vY:NG X "list.remove" Bd:=by
 intro pins s σ H x vs v us Q I rx rv h;obtain⟨l,ns,n,rfl,rfl,hH,hm,q⟩:=h;cases rx;obtain⟨u,rfl,ru⟩:=rv.one;obtain⟨z,its,k,r,hl,e⟩:=I.lstM hH;obtain⟨t,rfl⟩:=(show ∃t,u=Value.int n t from ru)
 obtain⟨j,hj,h1,h2,h3⟩:=Cv n ns r hm;have hz:its.length<=sizeLine:=by rw [<-hl];exact z
 refine call_meets F.slot_list_remove ⟨_,e,rfl⟩ F.entry_list_remove (F.args_list_remove_2 _ _) (MeetsSeq.list_remove l its.toArray k (.int n t) (Dv (.int n)) ?_ j (by simpa using hj) (by simpa using h1) (λm hm hmj=>by simpa using h2 m (by simpa using hm) hmj) (by rw [zM];exact hz)) ⟨e,?_⟩
 · intro y hy;have hy':y∈its:=by simpa using hy
   obtain⟨i,hi,ei⟩:=List.mem_iff_getElem.mp hy';have hl':(ns.map V.int).length=its.length:=r.length;have hi':i < ns.length:=by rw [zJ]at hl';omega
   obtain⟨u,hu,ru⟩:=r.get (i:=i) (x:=.int ns[i]) (by rw [zK,iF hi']<;>rfl)
   rw [iF hi,ei]at hu;cases hu;obtain⟨t',rfl⟩:=ru;exact MeetsSeq.EqGives.int ns[i] n t' t
 · refine⟨.non,_,I.lset (its':=its.eraseIdx j) hH e (by simp [Array.eraseIdxIfInBounds,hj]) h3 ?_,rfl,q⟩
   rw [zJ];have:=List.length_erase_le (a:=n) (l:=ns);rw [zJ]at z;omega
end
section
variable {prog:Program} {w:World} {A:Around} {E:Value->Shared->Prop} {s:Shared}
theorem Cw {t sl:Addr}{items:Array Value}{vl vu:Value}{lo hi:Option Int}{Q:Value->Shared->Prop}(ht:IsTup s.heap t items)(hs:s.heap.IsSliceOf sl vl vu .none)(pl:IsPart vl lo)(pu:IsPart vu hi)
 (hw:HT.fK items.size 0 lo=0/\HT.fK items.size items.size hi=items.size) (h:Q (.ref t) s):wpAny (model prog w) A (getItem (.ref t) (.ref sl)) Q E s:=by
 obtain⟨os,hos,hcs,hds⟩:=id hs;have hTs:s.TypeIs (.ref sl) "slice":=⟨os,hos,hcs⟩;unfold getItem
 try with_reducible refine wpAny_holding ?_
 first|refine wB (wP ?_)|skip
 refine wB (wpAny_sequenceKey ht.typeIs (by decide) ?_)
 refine wB (wpAny_callSpecial?_slot (name:=Str.ofString "__getitem__") ht.typeIs PyProof.Rows.slot_tuple_getitem (wpAny_call_entry PyProof.Rows.slot_tuple_getitem ht.typeIs entry_tuple_getitem ?_ (args_tuple_getitem _ _)));show wpAny _ _ (Builtin.Tuple.tupleItemsOf (.ref t) >>=_) _ _ s;refine wB (tupleItemsOf_ ht ?_);refine wB (wpAny_typeOf hTs ?_);rw [if_pos (by decide)]
 refine wB (HT.ja hs pl pu ?_);rw [hw.1,hw.2];show wpAny _ _ (if(((0:Nat):Int)==0&&(1:Int)==1&&(items.size - 0)==items.size)=true then _ else _) _ _ s;rw [if_pos (by simp)]
 show wpAny _ _ (Builtin.Tuple.tupleIsExact (.ref t) >>=_) _ _ s;refine wB ?_;unfold Builtin.Tuple.tupleIsExact;refine wB (wpAny_typeOf ht.typeIs (wP ?_))
 first
  |exact wB (wpAny_rule (wP ⟨_,rfl,wP h⟩))
  |(simp only [beq_self_eq_true,if_true];exact wB (wpAny_rule (wB (wP (wP ⟨_,rfl,wP h⟩)))))
  |(simp only [beq_self_eq_true,if_true];exact wB (wpAny_rule (wP ⟨_,rfl,wP h⟩)))
end
section
variable {X:Cx}
def Ll(K:Fg):V->Option Int->Option Int->Hp->VK->Prop:=λx lo hi H Q=>∃a xs,x=.ref a/\SqT K H a xs/\HT.fK xs.length 0 lo=0/\HT.fK xs.length xs.length hi=xs.length/\Q (.ref a) H
theorem Hg:SlR X (Ll X.K):=by
 intro pins s σ H x v vl vu lo hi sl Q I rx hs pl pu h;obtain⟨a,xs,rfl,hx,h1,h2,q⟩:=h;cases rx;obtain⟨its,r,ht,hz⟩:=I.tuple hx;have hlen:its.toArray.size=xs.length:=by rw [zM];exact r.length.symm
 refine⟨"tuple",_,PyProof.Rows.slot_tuple_getitem.lookup,ht.typeIs,Cw ht hs pl pu (by rw [hlen];exact⟨h1,h2⟩) ⟨.ref a,H,I,rfl,q⟩⟩
end
section
variable {prog:Program} {w:World} {A:Around} {E:Value->Shared->Prop} {s:Shared}
theorem Hh {t b:Addr}{vs ws:List Value}{Q:Value->Shared->Prop}(ht:IsTup s.heap t vs.toArray)(hb:IsTup s.heap b ws.toArray)(hv:vs=[])(h:Q (.ref b) s):wpAny (model prog w) A (binaryOp .Add (.ref t) (.ref b)) Q E s:=by
 obtain⟨⟨cls,dd,data,sl⟩,ho,hc,n,hd⟩:=id ht;obtain⟨⟨cls2,dd2,data2,sl2⟩,ho2,hc2,n2,hd2⟩:=id hb;simp only at hc hd hc2 hd2;subst hc hd hc2 hd2;exact concat_meets ⟨_,ho,rfl⟩ ⟨_,ho2,rfl⟩ noFill_tuple_add seq_tuple_add PySem.F.slot_tuple_add PySem.F.entry_tuple_add (PySem.F.args_tuple_add_2 _ _) (tuple_addW0 t b vs.toArray ws.toArray n n2 dd dd2 sl sl2 (by simp [hv])) ⟨ho,ho2,h⟩
end
section
variable {X:Cx}
end
structure Own (P:Program) (w:World) (K:Fg) (mg:Str->Option Value) (base:Heap) (k:Nat) (x:Str) (ps:List Str) (sp:Sp):Prop where
 ex:∃(f:Addr) (fd:FuncData),FnOk P w K mg base fZ k f fd ps sp/\mg x=some (.ref f)/\PySem.W.keepIn K (.ref f)=true/\Binds K fd ps []
section
variable {X:Cx}
theorem aX {k n:Nat}{x:Str}{ps:List Str}{sp:Sp}{p pos:Pos}{e:Expr}{es:List Expr}{t:TA}(O:Own X.prog X.w X.K X.mg X.base k x ps sp)(hr:Room n X.A)(ha:PA X (e::es) t)(hkn:k<=n:=by decide)(hg:Gl X x:=by rfl)
 (hdb:(x==("__debug__":Str))=false:=by decide) (he:starEach (e::es) X.env=(false,eval e X.env)::starEach es X.env:=by rfl) (hpl:(backTo pos (starEach es X.env)).any (·.1)=false:=by rfl):
 PE X (.Call (.Name x p) (e::es) [] pos) (oJ sp [] E0 t):=by
 obtain⟨f,fd,F,m,kp,b⟩:=O.ex;exact B7 F (hr.mono hkn) hg m kp b .nil oM ha hdb he hpl
end
structure Bt (mg:Str->Option Value):Prop where
 len:mg "len"=none
 isinstance:mg "isinstance"=none
 range:mg "range"=none
 int:mg "int"=none
 bool:mg "bool"=none
 tuple:mg "tuple"=none
 list:mg "list"=none
 all:mg "all"=none
 enumerate:mg "enumerate"=none
 zip:mg "zip"=none
 sum:mg "sum"=none
 sorted:mg "sorted"=none
 max:mg "max"=none
 min:mg "min"=none
 set:mg "set"=none
 str:mg "str"=none
theorem cV:bootBuiltins "isinstance"=some (.builtin "isinstance"):=by decide+kernel
theorem sj {n:Nat}(h:n<=1000):n<=sizeLine:=Dq (Co h)
section
variable {X:Cx}
end
section
variable {X:Cx}
theorem JY(K:Fg)(h:X.K=K:=by rfl):OpR X (compareOp .In) (NE K false):=h▸Ch
theorem dG(K:Fg)(hu:X.A.units+64 < cLine)(h:X.K=K:=by rfl):OpR X (compareOp .Eq) (Ct K false):=h▸KS hu
theorem nL(K:Fg)(hu:X.A.units+64 < cLine)(h:X.K=K:=by rfl):OpR X (compareOp .NotEq) (Ct K true):=h▸KU hu
def Be(K:Fg):List V->Hp->VK->Prop:=λxs H Q=>∃p ys,xs=[.ref p]/\(SqL K H p ys\/SqT K H p ys)/\∀l,H l=none->Q (.ref l) (bH H l (.lst ys))
def xx(K:Fg):List V->Hp->VK->Prop:=λxs H Q=>∃p ys,xs=[.ref p]/\((SqL K H p ys/\∀l,H l=none->Q (.ref l) (bH H l (.tup ys)))\/(SqT K H p ys/\Q (.ref p) H))
theorem Hi(K:Fg)(h:X.K=K:=by rfl):fu X (.type "list") (Be K):=h▸wg
theorem oP(K:Fg)(h:X.K=K:=by rfl):fu X (.type "tuple") (xx K):=h▸ut
theorem Ef(K:Fg)(h:X.K=K:=by rfl)(hc:X.calm=true:=by rfl):fu X (.builtin "all") (KW K):=h▸Ee hc
theorem KY {es:List Expr}{k1:Nat}{tp:Pos}{a b:Expr}{ta:TA}{p pos:Pos}(K:Fg)(hm:X.mg "zip"=none)(ha:PA X [a,b] ta)(h:X.K=K:=by rfl)(hg:Gl X "zip":=by rfl)(hs:starEach [a,b] X.env=[(false,eval a X.env),(false,eval b X.env)]:=by rfl)(hs2:starEach [b] X.env=[(false,eval b X.env)]:=by rfl):
 PI X (.Tuple es k1 tp) (.Call (.Name "zip" p) [a,b] [] pos) (Ed K ta):=h▸Hf hg hm ha hs hs2
theorem wk {es:List Expr}{k1:Nat}{t:EE}{n:Nat}{pos:Pos}(K:Fg)(h2:La X es t)(h:X.K=K:=by rfl)(hc:X.calm=true:=by rfl)(hn:(assignEach es X.env).length=n:=by rfl)(hst:(assignEach es X.env).findIdx? (·.1)=none:=by rfl):PG X (.Tuple es k1 pos) (Jw K n t):=h▸Jx hc h2 hn hst
def Lm(K:Fg)(ta:TE):TT:=λσ H Q=>ta σ H λx H'=>∃k,HJ K x H' k/\Q k H'
theorem fL {a:Expr}{ta:TE}(K:Fg)(ha:PE X a ta)(h:X.K=K:=by rfl)(he:∀whole,isTrue a X.env whole=(do let v<-whole;standAt a.pos;holding [v] (truthy v)):=by intro _;rfl):PT X a (Lm K ta):=h▸EQ ha he
end
theorem Bf(c:Int):∀u:List Int,Mn (.int c) (u.map V.int)=decide (c∈u)
 |[]=>rfl
 |a::u=>by
  have ih:=Bf c u;show (Cg (.int a) (.int c)||Mn (.int c) (u.map V.int))=_
  rw [ih];show ((a==c)||decide (c∈u))=_
  by_cases e:a=c
  · subst e;simp
  · have e':¬c=a:=λz=>e z.symm;have:(a==c)=false:=by simpa using e
    rw [this];simp [e']
theorem vZ:∀u:List Int,(u.map V.int).all mV=true
 |[]=>rfl
 |_::u=>by
  show (true&&(u.map V.int).all mV)=true;rw [vZ u];rfl
theorem ls:∀{names:List (Str×NameKind)} {n:Nat} {acc:List (Str×Addr)} {x:Str} {c:Addr},(x,c)∈cellsFrom n names acc->(x,c)∈acc\/(n<=c/\(x,NameKind.cell)∈names)
 |[],n,acc,x,c,h=>.inl h
 |(y,k)::r,n,acc,x,c,h=>by
  unfold cellsFrom at h
  by_cases hk:(k== .cell)=true
  · rw [if_pos hk]at h;have hk':k=.cell:=by simpa using hk
    rcases ls h with q|⟨q1,q2⟩
    · rcases Q8.mp q with q|q
      · injection q with q1 q2
        subst q1 q2;exact .inr ⟨Q2 _,by rw [hk'];exact j5⟩
      · exact .inl q
    · exact .inr ⟨Nat.le_of_succ_le q1,j4 _ q2⟩
  · rw [if_neg hk]at h
    rcases ls h with q|⟨q1,q2⟩
    · exact .inl q
    · exact .inr ⟨q1,j4 _ q2⟩
theorem qL:∀{names:List (Str×NameKind)} {n:Nat} {acc:List (Str×Addr)} {x y:Str} {c:Addr},(∀z∈acc,z.2 < n)->(x,c)∈cellsFrom n names acc->(y,c)∈cellsFrom n names acc->n<=c->x=y
 |[],n,acc,x,y,c,ha,h1,_,hc=>absurd (ha _ h1) (Nat.not_lt.mpr hc)
 |(z,k)::r,n,acc,x,y,c,ha,h1,h2,hc=>by
  unfold cellsFrom at h1 h2
  by_cases hk:(k== .cell)=true
  · rw [if_pos hk]at h1 h2;have ha':∀w∈(z,n)::acc,w.2 < n+1:=λw hw=>by
     rcases Q8.mp hw with q|q
     · rw [q];exact EA _
     · exact Nat.lt_succ_of_lt (ha w q)
    by_cases e:c=n
    · subst e;have only:∀{u:Str},(u,c)∈cellsFrom (c+1) r ((z,c)::acc)->u=z:=λ{u} hu=>by
       rcases ls hu with q|⟨q,_⟩
       · rcases Q8.mp q with q|q
         · injection q
         · exact absurd (ha _ q) (zT _)
       · exact absurd q (Nat.not_succ_le_self _)
      rw [only h1,only h2]
    · exact qL ha' h1 h2 (Nat.succ_le_of_lt (Nat.lt_of_le_of_ne hc (λq=>e q.symm)))
  · rw [if_neg hk]at h1 h2;exact qL ha h1 h2 hc
theorem qM {lo:Nat}:∀{names:List (Str×NameKind)} {n:Nat} {acc:List (Str×Addr)} {x:Str} {c:Addr},lo<=n->(names.lookup x=some .cell\/∃c0,acc.lookup x=some c0/\lo<=c0)->(cellsFrom n names acc).lookup x=some c->lo<=c
 |[],n,acc,x,c,hn,h,e=>by
  rcases h with h|⟨c0,h1,h2⟩
  · simp at h
  · have e':acc.lookup x=some c:=e;rw [h1]at e';cases e';exact h2
 |(y,k)::r,n,acc,x,c,hn,h,e=>by
  unfold cellsFrom at e
  by_cases hk:(k== .cell)=true
  · rw [if_pos hk]at e;refine qM (Nat.le_succ_of_le hn) ?_ e;cases hx:x==y with
    |true=>exact .inr ⟨n,by simp [um,hx],hn⟩
    |false=>
     rcases h with h|⟨c0,h1,h2⟩
     · exact .inl (by simpa only [um,hx]using h)
     · exact .inr ⟨c0,by simpa only [um,hx]using h1,h2⟩
  · rw [if_neg hk]at e;refine qM hn ?_ e
    rcases h with h|h
    · cases hx:x==y with
      |true=>
       simp only [um,hx]at h;have:k=.cell:=zV h;rw [this]at hk;exact absurd rfl hk
      |false=>exact .inl (by simpa only [um,hx]using h)
    · exact .inr h
theorem qN:∀{names:List (Str×NameKind)} {n:Nat} {acc:List (Str×Addr)} {x:Str},(∀y∈names,y.1=x->y.2≠ .cell)->(cellsFrom n names acc).lookup x=acc.lookup x
 |[],_,_,_,_=>rfl
 |(y,k)::r,n,acc,x,h=>by
  have hr:∀z∈r,z.1=x->z.2≠ .cell:=λz hz=>h z (j4 _ hz);unfold cellsFrom
  by_cases hk:(k== .cell)=true
  · rw [if_pos hk,qN hr];have hk':k=.cell:=by simpa using hk
    have hx:(x==y)=false:=by
     have:y≠x:=λq=>h (y,k) j5 q hk';simpa using λq:x=y=>this q.symm
    simp only [um,hx]
  · rw [if_neg hk,qN hr]
theorem nM:∀{names:List (Str×NameKind)} {h:Heap} {acc:List (Str×Addr)} {x:Str} {c:Addr},(∀z∈acc,z.2 < h.objs.size)->(x,c)∈cellsFrom h.objs.size names acc->h.objs.size<=c->(pushCells h names).IsCell c none
 |[],h,acc,x,c,ha,hm,hc=>absurd (ha _ hm) (Nat.not_lt.mpr hc)
 |(y,k)::r,h,acc,x,c,ha,hm,hc=>by
  unfold cellsFrom at hm;unfold pushCells
  by_cases hk:(k== .cell)=true
  · rw [if_pos hk]at hm ⊢;have z:(h.push {cls:=.type "cell",data:=.cell none}).objs.size=h.objs.size+1:=B3 ..;have ha':∀w∈(y,h.objs.size)::acc,w.2 < (h.push {cls:=.type "cell",data:=.cell none}).objs.size:=λw hw=>by
     rw [z]
     rcases Q8.mp hw with q|q
     · rw [q];exact EA _
     · exact Nat.lt_succ_of_lt (ha w q)
    by_cases e:c=h.objs.size
    · exact⟨_,pushCells_keeps _ _ _ _ (by rw [e];exact kf _ rfl),rfl⟩
    · rw [<-z]at hm;exact nM ha' hm (by rw [z];exact Nat.succ_le_of_lt (Nat.lt_of_le_of_ne hc λq=>e q.symm))
  · rw [if_neg hk]at hm ⊢;exact nM ha hm hc
theorem xy {env:Env}:∀{names:List (Str×NameKind)} {x:Str},
 (((names.map λ (n, k) => if (k == NameKind.free && env.scope.kind == .function && env.kindOf n == some .cell) then (n, NameKind.cell) else (n, k)).lookup x = some .cell) \/
  ((names.map λ(n,k)=>if(k==NameKind.free&&env.scope.kind== .function&&env.kindOf n==some .cell)then(n,NameKind.cell)else(n,k)).lookup x=some .free))->
 names.lookup x=some .cell\/names.lookup x=some .free
 |[],x,h=>by rcases h with h|h<;>simp at h
 |(n,k)::r,x,h=>by
  have e1:((n,k)::r).map (λ(n,k)=>if(k==NameKind.free&&env.scope.kind== .function&&env.kindOf n==some .cell)=true then(n,NameKind.cell)else(n,k))=
   (if(k==NameKind.free&&env.scope.kind== .function&&env.kindOf n==some .cell)=true then(n,NameKind.cell)else(n,k))::r.map (λ(n,k)=>if(k==NameKind.free&&env.scope.kind== .function&&env.kindOf n==some .cell)=true then(n,NameKind.cell)else(n,k)):=rfl
  rw [e1]at h;cases hx:x==n with
  |true=>
   by_cases c:(k==NameKind.free&&env.scope.kind== .function&&env.kindOf n==some .cell)=true
   · have:k=.free:=by
      simp only [Q5]at c;simpa using c.1.1
     subst this
     right
     simp [um,hx]
   · rw [if_neg c]at h;simpa only [um,hx]using h
  |false=>
   have:((r.map λ(n,k)=>if(k==NameKind.free&&env.scope.kind== .function&&env.kindOf n==some .cell)=true then(n,NameKind.cell)else(n,k)).lookup x=some .cell)\/
    ((r.map λ(n,k)=>if(k==NameKind.free&&env.scope.kind== .function&&env.kindOf n==some .cell)=true then(n,NameKind.cell)else(n,k)).lookup x=some .free):=by
    by_cases c:(k==NameKind.free&&env.scope.kind== .function&&env.kindOf n==some .cell)=true
    · rw [if_pos c]at h;simpa only [um,hx]using h
    · rw [if_neg c]at h;simpa only [um,hx]using h
   have q:=xy this;simpa only [um,hx]using q
section
variable {M:Model} {A:Around} {E:Value->Shared->Prop} {s:Shared}
theorem Cy {scope:Scope}{cl:List (Str×Addr)}{env:Env}{Q:Env->Shared->Prop}
 (hQ : Q { scope := scope, locals := s.heap.objs.size, globals := env.globals, cells := cellsFrom (s.heap.objs.size + 1) scope.names cl, qual := env.qual, func := none, code := env.code, frame := env.frame, builtins := env.builtins }
  {s with heap:=pushCells (s.heap.push {cls:=.type "dict",data:=.dict #[]}) scope.names}):wpAny M A (newFunctionEnv scope env.globals cl [] env.qual none .none (some env)) Q E s:=by
 simp only [newFunctionEnv,Option.isSome_some,if_true];refine wB (wpAny_alloc ?_);refine wB (wpAny_layCells _ (λname kind cells=>by cases hkc:kind==NameKind.cell<;>simp [hkc]) _ _ _ _ ?_)
 rw [show ({s with heap:=s.heap.push {cls:=.type "dict",data:=.dict #[]}}:Shared).heap.objs.size=s.heap.objs.size+1 from B3 ..]
 simp only [List.forIn_nil];exact wB (wP (wP hQ))
end
noncomputable def jb(X:Cx)(N:List Str)(sc:Scope)(C:Addr)(fp:List Addr)(s:Shared)(H:Hp):Cx:=
 {X with N:=N,s₀:=s,H₀:=H,env:=compEnvC sc (cellsFrom (C+1) sc.names (g9 X.env sc.names [])) C X.env,outer:=X.stack,ex:=fp,fn:=λx=>sc.names.lookup x==some .cell,pn:=[],xe:=λ_ _=>False}
section
variable {X:Cx}
theorem xz {pins:List (Addr×Obj)}{σ:St}{H:Hp}{s:Shared}{sc:Scope}(I:Inv X pins σ H s)(hfree:∀y∈sc.names,y.2=.free->X.env.kindOf y.1=some .cell\/X.env.kindOf y.1=some .free){x:Str}{c:Addr}
 (e:(x,c)∈cellsFrom (s.heap.objs.size+2) sc.names (g9 X.env sc.names [])):(X.env.cells.lookup x=some c/\c < s.heap.objs.size)\/s.heap.objs.size+2<=c:=by
 have hcl:∀y∈sc.names,y.2=.free->∃c,X.env.cells.lookup y.1=some c:=λy hy e=>I.ok.has _ (hfree y hy e)
 rcases ls e with q|⟨q,_⟩
 · rcases lE hcl q with q|q
   · simp at q
   · obtain⟨v,hv⟩:=I.cell x c q;obtain⟨o,ho,_⟩:=hv;exact .inl ⟨q,g0 ho⟩
 · exact .inr q
theorem Eg {pins:List (Addr×Obj)}{σ:St}{H:Hp}{s:Shared}{sc:Scope}(I:Inv X pins σ H s)(hfree:∀y∈sc.names,y.2=.free->X.env.kindOf y.1=some .cell\/X.env.kindOf y.1=some .free):
 ∀z∈g9 X.env sc.names [],z.2 < s.heap.objs.size:=λz hz=>by
 have hcl:∀y∈sc.names,y.2=.free->∃c,X.env.cells.lookup y.1=some c:=λy hy e=>I.ok.has _ (hfree y hy e)
 rcases lE (x:=z.1) (c:=z.2) hcl hz with q|q
 · simp at q
 · obtain⟨v,hv⟩:=I.cell _ _ q;obtain⟨o,ho,_⟩:=hv;exact g0 ho
theorem Ln {pins:List (Addr×Obj)}{σ:St}{H:Hp}{s:Shared}{N:List Str}{sc:Scope}{fp:List Addr}(I:Inv X pins σ H s)(hk:sc.kind=.function)
 (hfree:∀y∈sc.names,y.2=.free->X.env.kindOf y.1=some .cell\/X.env.kindOf y.1=some .free) (hf:∀b∈fp,nH X pins H b) (hb:∀b∈fp,b < s.heap.objs.size):
 (jb X N sc (s.heap.objs.size+1) fp s H).Ok:=by
 have cc:∀x c,(cellsFrom (s.heap.objs.size+2) sc.names (g9 X.env sc.names [])).lookup x=some c->(X.env.cells.lookup x=some c/\c < s.heap.objs.size)\/s.heap.objs.size+2<=c:=λx c e=>xz I hfree (PySem.mem_of_lookup e);have ca:∀z∈g9 X.env sc.names [],z.2 < s.heap.objs.size+2:=λz hz=>j6 (Eg I hfree z hz) (Gz _ _);exact {
  mod:=I.ok.mod
  kind:=hk
  glob:=I.ok.glob
  blt:=I.ok.blt
  above:=Nat.le_succ _
  inj:=λx y c h1 h2=>by
   have h1':(cellsFrom (s.heap.objs.size+2) sc.names (g9 X.env sc.names [])).lookup x=some c:=h1;have h2':(cellsFrom (s.heap.objs.size+2) sc.names (g9 X.env sc.names [])).lookup y=some c:=h2
   rcases cc x c h1' with ⟨q1,l1⟩|q1
   · rcases cc y c h2' with ⟨q2,_⟩|q2
     · exact I.ok.inj x y c q1 q2
     · exact absurd (j6 l1 (Qe (Gz _ 2) q2)) (zT _)
   · exact qL ca (PySem.mem_of_lookup h1') (PySem.mem_of_lookup h2') q1
  has:=λx h=>by
   have h':=xy h;have q:((cellsFrom (s.heap.objs.size+2) sc.names (g9 X.env sc.names [])).lookup x).isSome=true:=by
    rcases h' with h'|h'
    · exact PySem.W.cellsFrom_some _ _ _ (.inl h')
    · obtain⟨c,hc⟩:=oN (env:=X.env) (acc:=[]) (.inl (PySem.mem_of_lookup h'));obtain⟨d,hd⟩:=jZ hc;exact PySem.W.cellsFrom_some _ _ _ (.inr (by rw [hd];rfl))
   exact L4.mp q
  cab:=λx c h e=>by
   have h':sc.names.lookup x=some .cell:=by simpa [jb]using h
   exact Qe (Gz _ 2) (qM (Q2 _) (.inl h') e)
  hd:=I.ok.hd
  frames:=I.ok.frames
  stk:=.inl rfl
  exf:=λb hb'=>⟨nA (Nat.lt_succ_of_lt (hb b hb')),λx c e=>by
   rcases cc x c e with ⟨q,_⟩|q
   · exact(hf b hb').2.2.2.2.1 x c q
   · exact Dr (j6 (hb b hb') (Qe (Gz _ 2) q))⟩
  bs:=I.bs
  bsz:=Qe I.ok.bsz I.sz
  noex:=λb o e hb'=>by
   rcases(hf b hb').2.2.2.1 with q|q
   · exact I.ok.noex b o e q
   · exact absurd (j6 (g0 e) (Qe I.ok.bsz q)) (zT _)
  exfs:=λb hb' hs=>by
   have q:=I.stkSub b hs
   rcases Q8.mp q with q|q
   · exact(hf b hb').2.1 q
   · exact(hf b hb').2.2.1 q
  funs:=I.stack
  frf:=I.stkFree}
theorem Eh {pins:List (Addr×Obj)}{σ:St}{H:Hp}{s:Shared}{h1:Heap}{own:List Str}{fr:List (Str×Nat)}{n:Nat}{sc:Scope}{fp:List Addr}{m:Str->Option Value}{t':Nat}(I:Inv X pins σ H s)(hk:sc.kind=.function)
 (hfree:∀y∈sc.names,y.2=.free->X.env.kindOf y.1=some .cell\/X.env.kindOf y.1=some .free) (hfr:∀p∈fr,X.N[p.2]? =some p.1/\sc.names.lookup p.1=some .free/\∀y∈sc.names,y.1=p.1->y.2≠ .cell) (hn:own.length=n) (hf:∀b∈fp,nH X pins H b) (hb:∀b∈fp,b < s.heap.objs.size)
 (ns:h1.Ns (s.heap.objs.size+1) m) (hD:h1.get? s.heap.objs.size=some {cls:=.type "list",data:=.seq ([]:List Value).toArray}) (old:∀b o,s.heap.get? b=some o->h1.get? b=some o)
 (hnc:∀x c,(x,c)∈cellsFrom (s.heap.objs.size+2) sc.names (g9 X.env sc.names [])->s.heap.objs.size+2<=c->h1.IsCell c none):
 Inv (jb X (own++fr.map (·.1)) sc (s.heap.objs.size+1) fp s H) [] (E6 n fr σ) (bH H s.heap.objs.size (.lst [])) {s with heap:=h1,toks:=t'}:=by
 have hcl:∀y∈sc.names,y.2=.free->∃c,X.env.cells.lookup y.1=some c:=λy hy e=>I.ok.has _ (hfree y hy e);have look:∀x c,(g9 X.env sc.names []).lookup x=some c->X.env.cells.lookup x=some c:=λx c e=>by
  rcases lE hcl (PySem.mem_of_lookup e)with q|q
  · simp at q
  · exact q
 have cellK:∀{c v},s.heap.IsCell c v->h1.IsCell c v:=λ{c v} q=>by
  obtain⟨o,ho,r⟩:=q;exact⟨o,old _ _ ho,r⟩
 have cc:∀x c,(cellsFrom (s.heap.objs.size+2) sc.names (g9 X.env sc.names [])).lookup x=some c->(X.env.cells.lookup x=some c/\c < s.heap.objs.size)\/s.heap.objs.size+2<=c:=λx c e=>xz I hfree (PySem.mem_of_lookup e);have hnD:H s.heap.objs.size=none:=I.hok.fresh (Q2 _);have hnC:H (s.heap.objs.size+1)=none:=I.hok.fresh (Nat.le_succ _);refine⟨Ln I hk hfree hf hb,rfl,I.bare,Un.laid old (Q2 _) hnD,⟨m,ns,λi x v h1' h2 h3=>?_⟩,λx c e=>?_,?_,λx c e=>?_,λp hp=>?_,I.hok.laid old (Q2 _) ?_,?_⟩
 · obtain⟨p,hp,e,q⟩:=HZ hn h1' h2;subst e;obtain⟨hN,hl,hno⟩:=hfr p hp;obtain⟨m0,_,q0⟩:=I.loc;have kk:=hfree (p.1,.free) (PySem.mem_of_lookup hl) rfl;obtain⟨u,ru,lk⟩:=q0 p.2 p.1 v hN q (.inr kk);refine⟨u,ru,.inr ⟨si hl,?_⟩⟩
   rcases lk with ⟨k1,_⟩|⟨_,c,e1,e2⟩
   · rcases kk with kk|kk
     · have kk':X.env.kindOf p.1=some .cell:=kk;rw [k1]at kk';cases kk'
     · have kk':X.env.kindOf p.1=some .free:=kk;rw [k1]at kk';cases kk'
   · obtain⟨d,hd⟩:=oN (env:=X.env) (acc:=[]) (.inl (PySem.mem_of_lookup hl));obtain⟨d',hd'⟩:=jZ hd;have e3:=look _ _ hd';rw [e1]at e3;cases e3;refine⟨c,?_,cellK e2⟩;show (cellsFrom (s.heap.objs.size+2) sc.names (g9 X.env sc.names [])).lookup p.1=some c;rw [qN hno];exact hd'
 · rcases cc x c e with ⟨q,_⟩|q
   · obtain⟨v,hv⟩:=I.cell x c q;exact⟨v,cellK hv⟩
   · exact⟨none,hnc x c (PySem.mem_of_lookup e) q⟩
 · show bH H s.heap.objs.size _ (s.heap.objs.size+1)=none;rw [aN (Nat.succ_ne_self _)];exact hnC
 · show bH H s.heap.objs.size _ c=none
   rcases cc x c e with ⟨q,l⟩|q
   · rw [aN (nA l)];exact I.freeC x c q
   · rw [aN (Dr (j6 (Nat.lt_succ_of_lt (EA _)) q))];exact I.hok.fresh (Qe (Gz _ 2) q)
 · exact absurd (show p∈([]:List (Addr×Obj))from hp) (by simp)
 · exact⟨by show 0<=sizeLine;decide,[],_,.nil,hD⟩
 · show (E6 n fr σ).length=(own++fr.map (·.1)).length
   unfold E6;simp [hn]
theorem yA {elt target iter:Expr}{ifs:List Expr}{sc:Scope}{pos:Pos}(own:List Str)(fr:List (Str×Nat)){g:TG}{tc:TT}{te:TE}(hc:X.calm=true)
 (hk:sc.kind=.function) (hfree:∀y∈sc.names,y.2=.free->X.env.kindOf y.1=some .cell\/X.env.kindOf y.1=some .free)
 (hfr:∀p∈fr,X.N[p.2]? =some p.1/\sc.names.lookup p.1=some .free/\∀y∈sc.names,y.1=p.1->y.2≠ .cell)
 (hg:∀C fp s H,PG (jb X (own++fr.map (·.1)) sc C fp s H) target g) (ht:∀C fp s H,Lj (jb X (own++fr.map (·.1)) sc C fp s H) ifs tc) (he:∀C fp s H,PE (jb X (own++fr.map (·.1)) sc C fp s H) elt te)
 {pins:List (Addr×Obj)} {σ:St} {s2:Shared} {RR:Value->Addr->Result->Shared->Prop} {Q:V->Hp->Prop} {itv:Value}
 (h2 : My X pins σ target (λ J H1 => ∀ acc, H1 acc = none ->
  ∃W:Nat->Nat->St->Hp->Prop,(∃m,W 0 m (E6 own.length fr σ) (bH H1 acc (.lst [])))/\∀i m σ' H',W i m σ' H'->
   (J.stop i H' /\ Q (.ref acc) H') \/ (J.go i H' /\ ∃ Nx : St -> Hp -> Prop, (∀ σ2 H2, Nx σ2 H2 -> ∃ m', m' < m /\ W (i + 1) m' σ2 H2) /\
    ∀x H2,J.yld i H' x H2->g x σ' H2 λσ2 H3=>tc σ2 H3 λb H4=>if b=true then te σ2 H4 λy H5=>∃ys,H5 acc=some (.lst ys)/\ys.length < sizeLine/\Nx σ2 (bH H5 acc (.lst (ys++[y])))else Nx σ2 H4)) itv s2)
 (hRR : ∀ (D C : Addr) (s4 : Shared) (H3 : Hp) (m4 : Str -> Option Value), s2.heap.objs.size <= C -> s4.heap.Ns C m4 -> H3 C = none -> Q (.ref D) H3 ->
  (∀h':Heap,(∀b,b≠C->h'.get? b=s4.heap.get? b)->Inv X pins σ H3 {s4 with heap:=h'})->RR (.ref D) C (.ok .next) s4):
 wpAny (model X.prog X.w) X.A (newList []) (λacc s₃=>wpAny (model X.prog X.w) X.A (newFunctionEnv sc X.env.globals (g9 X.env sc.names []) [] X.env.qual none .none (some X.env)) (λcenv s₄=>
  codeAny (model X.prog X.w) X.A (.compStart (.ListComp elt [⟨target,iter,ifs,0⟩] sc pos) 0 itv acc {cenv with scope:=relabel sc X.env}) (RR acc cenv.locals) s₄) X.xe s₃) X.xe s2:=by
 obtain⟨it,fp,tn,J,H2,e,I2,T,st2,f2,r⟩:=h2;subst e;refine wpAny_newObj_type (Cy ?_)
 dsimp only
 generalize hH2:s2.heap.push {cls:=.type "list",dict:=none,data:=.seq ([]:List Value).toArray}=G2;have hC:G2.objs.size=s2.heap.objs.size+1:=by rw [<-hH2,B3]
 have z3:(G2.push {cls:=.type "dict",data:=.dict #[]}).objs.size=s2.heap.objs.size+2:=by rw [B3,hC]
 generalize hh1:pushCells (G2.push {cls:=.type "dict",data:=.dict #[]}) sc.names=h₁;have kp:∀b o,(G2.push {cls:=.type "dict",data:=.dict #[]}).get? b=some o->h₁.get? b=some o:=λb o e=>by rw [<-hh1];exact pushCells_keeps _ _ b o e
 have old:∀b o,s2.heap.get? b=some o->h₁.get? b=some o:=λb o e=>kp b o (iM _ (hH2▸iM _ e));have hD:h₁.get? s2.heap.objs.size=some {cls:=.type "list",data:=.seq ([]:List Value).toArray}:=kp _ _ (iM _ (hH2▸kf _ rfl));have hns₁:h₁.Ns (s2.heap.objs.size+1) (λ_=>none):=by
  rw [<-hC];exact(Heap.Ns.new G2 (.type "dict")).keeps kp
 have hnc:∀x c,(x,c)∈cellsFrom (s2.heap.objs.size+2) sc.names (g9 X.env sc.names [])->s2.heap.objs.size+2<=c->h₁.IsCell c none:=λx c hm hc'=>by
  rw [<-hh1];refine nM (acc:=g9 X.env sc.names []) (x:=x) (λz hz=>?_) (by rw [z3];exact hm) (by rw [z3];exact hc')
  rw [z3];exact j6 (Eg I2 hfree z hz) (Gz _ _)
 rw [hC];have below:∀b,b < s2.heap.objs.size->b≠s2.heap.objs.size+1:=λb hb=>nA (Nat.lt_succ_of_lt hb);have hb:∀b∈fp,b < s2.heap.objs.size:=λb hb=>by
  obtain⟨o,e,_⟩:=T.obj _ _ st2 b hb;exact g0 e
 have st1:tn 0 h₁:=T.keep _ _ _ st2 λb _ o e=>old b o e;obtain⟨W,⟨m0,w0⟩,turn⟩:=r s2.heap.objs.size (I2.hok.fresh (Q2 _));have J0:∀t',Inv (jb X (own++fr.map (·.1)) sc (s2.heap.objs.size+1) fp s2 H2) [] (E6 own.length fr σ) (bH H2 s2.heap.objs.size (.lst [])) {s2 with heap:=h₁,toks:=t'}:=λt'=>
  Eh I2 hk hfree hfr rfl f2 hb hns₁ hD old hnc
 have fpn:∀b∈fp,bH H2 s2.heap.objs.size (.lst []) b=none:=λb hb'=>by rw [aN (nA (hb b hb'))];exact(f2 b hb').1
 have stat:∀{H':Hp},(∀b∈fp,H' b=none)->∀b∈fp,nH (jb X (own++fr.map (·.1)) sc (s2.heap.objs.size+1) fp s2 H2) [] H' b:=λ{H'} hn b hb'=>
  have ok:=(J0 0).ok
  ⟨hn b hb',(ok.exf b hb').1,ok.exfs b hb',.inl hb',(ok.exf b hb').2,λp hp=>absurd (show p∈([]:List (Addr×Obj))from hp) (by simp)⟩
 have loop:∀s3:Shared,s3={s2 with heap:=h₁}->
  codeAny (model X.prog X.w) X.A (.compLoop (.ListComp elt [⟨target,iter,ifs,0⟩] sc pos) 0 (.ref it) (.ref s2.heap.objs.size) (compEnvC sc (cellsFrom (s2.heap.objs.size+1+1) sc.names (g9 X.env sc.names [])) (s2.heap.objs.size+1) X.env))
   (RR (.ref s2.heap.objs.size) (s2.heap.objs.size+1)) s3:=by
  rintro s3 rfl;refine xu (λn s'=>∃i σ' H',Inv (jb X (own++fr.map (·.1)) sc (s2.heap.objs.size+1) fp s2 H2) [] σ' H' s'/\tn i s'.heap/\(∀b∈fp,H' b=none)/\W i n σ' H') ?_ m0 ⟨0,_,_,J0 _,st1,fpn,w0⟩
  rintro n s3 ⟨i,σ3,H3,I3,st3,fr3,w3⟩
  rcases turn i n σ3 H3 w3 with ⟨stop,qn⟩|⟨go,N,hN,step⟩
  · refine cU (T.done (jb X (own++fr.map (·.1)) sc (s2.heap.objs.size+1) fp s2 H2) rfl rfl rfl hc i [] s3 σ3 H3 (λ_ _=>False) I3 (stat fr3) st3 stop) λr s4 q_=>?_
    obtain⟨hr,I4⟩:=q_;subst hr;obtain⟨m4,ns4,_⟩:=I4.loc;have hCn:H3 (s2.heap.objs.size+1)=none:=I4.free;refine hRR _ _ s4 H3 m4 (Nat.le_succ _) ns4 hCn qn λh' sb=>?_;have u:Un (ku X.stack) fp H2 H3 s2.heap s4.heap:=I4.base;have u':Un (ku X.stack) fp H2 H3 s2.heap h':={
     keep:=λb o e n1 n2 n3=>(sb b (below b (g0 e))).trans (u.keep b o e n1 n2 n3)
     slot:=λb o e n1 n2 n3=>by
      obtain⟨sl,q⟩:=u.slot b o e n1 n2 n3;exact⟨sl,(sb b (below b (g0 e))).trans q⟩
     free:=u.free
     there:=λb o e n1=>by
      obtain⟨o',q⟩:=u.there b o e n1;exact⟨o',(sb b (below b (g0 e))).trans q⟩
     tups:=u.tups
     frzs:=u.frzs
     tbls:=u.tbls}
    have hok':HOk X.prog X.w H3 h':=λa o e=>(I4.hok a o e).stay (λb u q z=>(sb b (by
     rcases q with q|q
     · subst q;exact aR e hCn
     · exact aR q hCn)).trans z) (λ_ q=>q) (λ_ _ q=>q) λ_ _ _ q=>q
    exact I2.call' (s':={s4 with heap:=h'}) (ch:=fp) I4.os u' hok' I4.bare λb hb'=>⟨(f2 b hb').2.2.2.1,(f2 b hb').2.1,(f2 b hb').2.2.2.2.1,(f2 b hb').2.2.2.2.2⟩
  · refine cU (T.item (jb X (own++fr.map (·.1)) sc (s2.heap.objs.size+1) fp s2 H2) rfl rfl rfl hc i [] s3 σ3 H3 (λ_ _=>False) I3 (stat fr3) st3 go) λr s4 q_=>?_
    obtain⟨u,hr,h4⟩:=q_;subst hr;refine cU h4 λ_ s5 q_=>?_;obtain⟨x,H5,I5,r5,y5,st5,fr5⟩:=q_;have I5':=I5.pinned (stat fr5) (T.obj _ _ st5);refine cU (hg _ _ _ _ _ s5 σ3 H5 x u _ I5' r5 (step x H5 y5)) λ_ s6 q_=>?_;obtain⟨σ6,H6,I6,q6⟩:=q_;refine cU (ht _ _ _ _ _ s6 σ6 H6 _ I6 q6) λb s7 q_=>?_;obtain⟨H7,I7,q7⟩:=q_;have again:∀{σ7:St} {H7:Hp} {s7:Shared},Inv (jb X (own++fr.map (·.1)) sc (s2.heap.objs.size+1) fp s2 H2) ([]++sS fp s5.heap) σ7 H7 s7->N σ7 H7->
     ∃m,m < n/\∃i σ' H',Inv (jb X (own++fr.map (·.1)) sc (s2.heap.objs.size+1) fp s2 H2) [] σ' H' s7/\tn i s7.heap/\(∀b∈fp,H' b=none)/\W i m σ' H':=λ{σ7 H7 s7} I7 n7=>by
     obtain⟨m',hm,w7⟩:=hN σ7 H7 n7;refine⟨m',hm,i+1,σ7,H7,I7.unpinned,T.keep _ _ _ st5 λb hb o e=>(I7.pin (b,o) (C4 _ (C4 _ (jv hb e)))).1,λb hb=>?_,w7⟩;obtain⟨o,e,d⟩:=T.obj _ _ st5 b hb;exact(I7.pin (b,o) (C4 _ (C4 _ (jv hb e)))).2.1
    cases b with
    |false=>
     have q7':N σ6 H7:=q7;rw [if_neg (by simp)]
     exact again I7 q7'
    |true=>
     rw [if_pos rfl];refine cU (he _ _ _ _ _ s7 σ6 H7 _ I7 q7) λyv s8 q_=>?_;obtain⟨y,H8,I8,r8,ys,e8,z8,n8⟩:=q_;refine cU (fU (X:=jb X (own++fr.map (·.1)) sc (s2.heap.objs.size+1) fp s2 H2) _ s8 σ6 H8 (.ref s2.heap.objs.size) [y] _ [yv] (λv H'=>v=.non/\H'=bH H8 s2.heap.objs.size (.lst (ys++[y]))) I8 rfl (.cons r8 .nil) ⟨_,ys,y,rfl,rfl,e8,z8,rfl,rfl⟩) λ_ s9 q_=>?_
     obtain⟨v,H9,I9,_,e1,e9⟩:=q_;subst e9;exact again I9 n8
 exact codeAny_compStart_list (loop _ rfl) (T.self X.A 0 _ _ _ st1 (loop _ rfl))
theorem va {sc:Scope}{fr:List (Str×Nat)}(hfree:(sc.names.all λy=>y.2 != .free||(X.env.kindOf y.1==some .cell||X.env.kindOf y.1==some .free))=true)
 (hfr:(fr.all λp=>X.N[p.2]? ==some p.1&&sc.names.lookup p.1==some .free&&sc.names.all λy=>y.1 != p.1||y.2 != .cell)=true) (hnm:(sc.names.all λy=>y.2 != .local||sc.names.lookup y.1==some .local)=true):
 (∀y∈sc.names,y.2=.free->X.env.kindOf y.1=some .cell\/X.env.kindOf y.1=some .free)/\(∀p∈fr,X.N[p.2]? =some p.1/\sc.names.lookup p.1=some .free/\∀y∈sc.names,y.1=p.1->y.2≠ .cell)/\∀x∈sc.names,x.2=.local->sc.names.lookup x.1=some .local:=by
 refine⟨λy hy e=>?_,λp hp=>?_,λy hy e=>?_⟩
 · have:=Q6.mp hfree y hy;rw [e]at this;simpa using this
 · have:=Q6.mp hfr p hp;rw [Q5,Q5,Q6]at this;obtain⟨⟨h1,h2⟩,h3⟩:=this;refine⟨by simpa using h1,by simpa using h2,λy hy e z=>?_⟩
   have:=h3 y hy;rw [e,z]at this;simp at this
 · have:=Q6.mp hnm y hy;rw [e]at this;simpa using this
theorem gD {elt target iter:Expr}{ifs:List Expr}{sc:Scope}{pos:Pos}(own:List Str)(fr:List (Str×Nat)){wi:TI}{g:TG}{tc:TT}{te:TE}(hi:PI X target iter wi)
 (hg:∀C fp s H,PG (jb X (own++fr.map (·.1)) sc C fp s H) target g) (ht:∀C fp s H,Lj (jb X (own++fr.map (·.1)) sc C fp s H) ifs tc) (he:∀C fp s H,PE (jb X (own++fr.map (·.1)) sc C fp s H) elt te)
 (hc:X.calm=true:=by rfl) (hk:sc.kind=.function:=by rfl)
 (hfree:(sc.names.all λy=>y.2 != .free||(X.env.kindOf y.1==some .cell||X.env.kindOf y.1==some .free))=true:=by rfl)
 (hfr:(fr.all λp=>X.N[p.2]? ==some p.1&&sc.names.lookup p.1==some .free&&sc.names.all λy=>y.1 != p.1||y.2 != .cell)=true:=by rfl) (hnm:(sc.names.all λy=>y.2 != .local||sc.names.lookup y.1==some .local)=true:=by rfl)
 (hs:∀x,foldedSetIterable iter X.env x=pure x:=by intro _;rfl):
 PE X (.ListComp elt [⟨target,iter,ifs,0⟩] sc pos) (E7 own.length fr wi g tc te):=by
 obtain⟨c1,c2,c3⟩:=va hfree hfr hnm;intro pins s σ H Q I h;rw [eval_ListComp];have hcl:∀y∈sc.names,y.2=.free->∃c,X.env.cells.lookup y.1=some c:=λy hy e=>I.ok.has _ (c1 y hy e);refine wpAny_comprehension_free (use:=none) rfl hs (mY hcl) hk c3 (cU (hi pins s σ H _ I h) λxv s₁ h₁=>cU h₁ λitv s2 h2=>?_);refine yA (RR:=λacc C=>compPost (model X.prog X.w) X.A X.xe none (EP X pins σ Q) acc C) own fr hc hk c1 c2 hg ht he h2 ?_;intro D C s4 H3 m4 hC ns4 hCn q inv;exact⟨m4,ns4,λh' sb=>⟨.ref D,H3,inv h' λb hb=>sb.2 b hb,rfl,q⟩⟩
theorem Bg {i:Nat}{x:Str}{elt target iter:Expr}{ifs:List Expr}{sc:Scope}{pos spos:Pos}{pos':Pos}(own:List Str)(fr:List (Str×Nat)){wi:TI}{g:TG}{tc:TT}{te:TE}(hN:X.N.Nodup)(hx1:X.N[i]? =some x)(hx:HE X.env.scope x)(hi:PI X target iter wi)
 (hg:∀C fp s H,PG (jb X (own++fr.map (·.1)) sc C fp s H) target g) (ht:∀C fp s H,Lj (jb X (own++fr.map (·.1)) sc C fp s H) ifs tc) (he:∀C fp s H,PE (jb X (own++fr.map (·.1)) sc C fp s H) elt te)
 (hsw:swapsWith (.ListComp elt [⟨target,iter,ifs,0⟩] sc pos) (some (.Name x pos')) spos.line X.env=pure true:=by rfl)
 (hc:X.calm=true:=by rfl) (hk:sc.kind=.function:=by rfl)
 (hfree:(sc.names.all λy=>y.2 != .free||(X.env.kindOf y.1==some .cell||X.env.kindOf y.1==some .free))=true:=by rfl)
 (hfr:(fr.all λp=>X.N[p.2]? ==some p.1&&sc.names.lookup p.1==some .free&&sc.names.all λy=>y.1 != p.1||y.2 != .cell)=true:=by rfl) (hnm:(sc.names.all λy=>y.2 != .local||sc.names.lookup y.1==some .local)=true:=by rfl)
 (hs:∀x,foldedSetIterable iter X.env x=pure x:=by intro _;rfl) (hl:X.env.scope.names.lookup x=some .local:=by rfl):
 PS X (.Assign [.Name x pos'] (.ListComp elt [⟨target,iter,ifs,0⟩] sc pos) spos) (hV (E7 own.length fr wi g tc te) (cE i)):=by
 obtain⟨c1,c2,c3⟩:=va hfree hfr hnm;intro pins s σ H D I h;rw [exec_Assign_Name_used _ _ _ _ hsw];refine wB (wpAny_standAt (wB ?_));show wpAny _ X.A (do let _<-comprehension (.ListComp elt [⟨target,iter,ifs,0⟩] sc pos) sc X.env _ (newList []) false (eval iter X.env) (some (assign (.Name x pos') X.env))) _ _ s
 have hcl:∀y∈sc.names,y.2=.free->∃c,X.env.cells.lookup y.1=some c:=λy hy e=>I.ok.has _ (c1 y hy e);refine wB (wpAny_mono (wpAny_comprehension_free (use:=some (assign (.Name x pos') X.env)) (Q:=λ_ s'=>SP X pins D .next s') rfl hs (mY hcl) hk c3 (cU (hi pins s σ H _ I h) λxv s₁ h₁=>cU h₁ λitv s2 h2=>?_)) (λ_ s' hq=>wP (wP hq)) λ_ _ e=>e);refine yA (RR:=λacc C=>compPost (model X.prog X.w) X.A X.xe (some (assign (.Name x pos') X.env)) (λ_ s'=>SP X pins D .next s') acc C) (pins:=pins) (σ:=σ) (Q:=λx H1=>cE i x σ H1 D.nx) own fr hc hk c1 c2 hg ht he h2 ?_;intro Da C s4 H3 m4 hC ns4 hCn q inv;have I4:Inv X pins σ H3 s4:=inv s4.heap λb _=>rfl;have lC:X.env.locals≠C:=by
  intro z;obtain⟨it,fp,tn,J,H2,e,I2,_⟩:=h2;exact absurd (j6 I2.lt (by rw [z];exact hC)) (zT _)
 have cC:∀y c,X.env.cells.lookup y=some c->c≠C:=λy c e z=>by
  obtain⟨it,fp,tn,J,H2,e',I2,_⟩:=h2;obtain⟨v,hv⟩:=I2.cell y c e;exact absurd (j6 hv.lt (by rw [z];exact hC)) (zT _)
 show wpAny _ X.A (assign (.Name x pos') X.env (.ref Da)) _ _ _;refine wpAny_assign_Name (vR I4 hN hx1 hx (v:=.ref Da) rfl (λs5 I5 q_=>?_) (.inr hl));obtain⟨a,sb,ha⟩:=q_;have aC:C≠a:=λz=>by
  rcases ha with q1|q1
  · exact lC (q1.symm.trans z.symm)
  · exact cC x a q1 z.symm
 refine⟨m4,ns4.sameBut sb aC,λh' sb'=>⟨_,H3,?_,q⟩⟩;obtain⟨m5,n5,l5⟩:=I5.loc;exact {
  ok:=I5.ok
  os:=I5.os
  bare:=I5.bare
  base:={
   keep:=λb o e n1 n2 n3=>(sb'.2 b λz=>by
    obtain⟨it,fp,tn,J,H2,e',I2,_⟩:=h2;exact absurd (j6 (g0 e) (Qe I2.sz (by rw [z];exact hC))) (zT _)).trans (I5.base.keep b o e n1 n2 n3)
   slot:=λb o e n1 n2 n3=>by
    obtain⟨sl,q⟩:=I5.base.slot b o e n1 n2 n3;refine⟨sl,(sb'.2 b λz=>?_).trans q⟩;obtain⟨it,fp,tn,J,H2,e',I2,_⟩:=h2;exact absurd (j6 (g0 e) (Qe I2.sz (by rw [z];exact hC))) (zT _)
   free:=I5.base.free
   there:=λb o e n1=>by
    obtain⟨o',q⟩:=I5.base.there b o e n1;refine⟨o',(sb'.2 b λz=>?_).trans q⟩;obtain⟨it,fp,tn,J,H2,e',I2,_⟩:=h2;exact absurd (j6 (g0 e) (Qe I2.sz (by rw [z];exact hC))) (zT _)
   tups:=I5.base.tups
   frzs:=I5.base.frzs
   tbls:=I5.base.tbls}
  loc:=⟨m5,n5.sameBut sb' lC,λj y v h1 h2' h3=>by
   obtain⟨u,ru,lk⟩:=l5 j y v h1 h2' h3;refine⟨u,ru,?_⟩
   rcases lk with ⟨k1,k2⟩|⟨k1,c,k2,k3⟩
   · exact .inl ⟨k1,k2⟩
   · exact .inr ⟨k1,c,k2,k3.sameBut sb' (cC y c k2)⟩⟩
  cell:=λy c e=>by
   obtain⟨v,hv⟩:=I5.cell y c e;exact⟨v,hv.sameBut sb' (cC y c e)⟩
  free:=I5.free
  freeC:=I5.freeC
  pin:=λp hp=>by
   obtain⟨q1,q2⟩:=I5.pin p hp;refine⟨(sb'.2 p.1 λz=>?_).trans q1,q2⟩;obtain⟨it,fp,tn,J,H2,e',I2,_⟩:=h2;exact absurd (j6 (g0 (I2.pin p hp).1) (by rw [z];exact hC)) (zT _)
  hok:=λa o e=>(I5.hok a o e).stay (λb u q z=>(sb'.2 b (by
   rcases q with q|q
   · subst q;exact aR e hCn
   · exact aR q hCn)).trans z) (λ_ q=>q) (λ_ _ q=>q) λ_ _ _ q=>q
  len:=I5.len}
end
end L2
namespace PySem
open Sem (wp)
theorem Obj.dict_mapFields(o:Obj)(f):(o.mapFields f).dict=o.dict:=by
 unfold Obj.mapFields;split<;>rfl
namespace Heap
def TracedD(h base:Heap)(e:Addr)(cls:Value)(a0:Option Addr):Prop:=
 ∃oe vs T oT ts,h.get? e=some oe/\(oe.cls=cls/\oe.dict=a0)/\oe.data=.fields vs/\vs[1]? =some (.ref T)/\base.get? T=none/\T≠e/\h.get? T=some oT/\oT.data=.fields ts/\ts[3]? =some .none
def TracedAtD(h base:Heap)(e:Addr)(cls:Value)(a0:Option Addr)(fl:Value):Prop:=
 ∃oe vs T oT ts,h.get? e=some oe/\(oe.cls=cls/\oe.dict=a0)/\oe.data=.fields vs/\vs[1]? =some (.ref T)/\base.get? T=none/\T≠e/\h.get? T=some oT/\oT.data=.fields ts/\ts[3]? =some fl
theorem TracedD.at {h base:Heap}{e:Addr}{cls:Value}{a0:Option Addr}(x:h.TracedD base e cls a0):h.TracedAtD base e cls a0 .none:=x
def Ei(base:Heap)(l:List Env)(e:Addr)(cls:Value)(a0:Option Addr)(fl:Value)(h h':Heap):Prop:=
 base.StaysIn h'/\h'.FunFrames base l/\h'.TracedAtD base e cls a0 fl/\∀b o,h.get? b=some o->(∀vs,o.data≠ .fields vs)->∃sl,h'.get? b=some {o with slots:=sl}
end Heap
section
variable {M:Model} {A:Around} {E:Value->Shared->Prop} {s:Shared}
def Heap.LeftD(base:Heap)(l:List Env)(e:Addr)(cls:Value)(a0:Option Addr)(h h':Heap):Prop:=
 base.StaysIn h'/\h'.FunFrames base l/\h'.TracedD base e cls a0/\
  ∀b o,h.get? b=some o->(∀vs,o.data≠ .fields vs)->∃sl,h'.get? b=some {o with slots:=sl}
theorem kg {base:Heap}{env:Env}{outer:List Env}{L e:Addr}{oe:Obj}{vs:Array Value}{head:Value}{a0:Option Addr}{hadNext:Bool}{Q:Unit->Shared->Prop}
 (hfr:A.frames=some (env::outer)) (hl:s.heap.FunFrames base (env::outer)) (hf:env.frame=some L)
 (he:s.heap.get? e=some oe) (hkb:base.StaysIn s.heap) (hen:base.get? e=none) (hd:oe.data=.fields vs) (hsz:1 < vs.size) (h0:oe.dict=a0)
 (h:∀h',Heap.LeftD base (env::outer) e oe.cls a0 s.heap h'->Q () {s with heap:=h'}):
 wpAny M A (do let a<-frameOf env;let pl<-entryPlaceOf L hadNext;let b<-EntryCells.newEntry head a .none (rawInt L) .none pl;setField (.ref e) 1 b) (λ_ s'=>wpAny M A (setFlight (.ref e) none) Q E s') E s:=by
 have hene:e ∉ (env::outer).filterMap (·.frame):=λhm=>by
  obtain⟨_,o,ho,hnf⟩:=hl.mem hm;rw [he]at ho;injection ho with ho;subst ho;exact hnf vs hd
 refine wB (wpAny_frameOf_fun hfr hl hf λh₁ hs₁=>?_);refine wB (wpAny_entryPlaceOf λpl hpl=>?_);unfold EntryCells.newEntry newFields;refine wB (wpAny_newObj_type ?_ (hpl.sizeOk5 _ _ _ _ _));have he₁:h₁.get? e=some oe:=(hs₁.2.1 e hene).trans he;have kb₁:base.StaysIn h₁:=λb o hbo=>(hs₁.2.1 b λhm=>by rw [(hl.mem hm).1]at hbo;cases hbo).trans (hkb b o hbo)
 have he₂:=iM (h:=h₁) {cls:=.type "traceback",dict:=none,data:=.fields ([head,.ref L,.none,rawInt L,.none]++(if pl.isEmpty then List.replicate 6 Value.none else pl)).toArray} he₁;refine wpAny_setField he₂ hd hsz ?_;have hTe:h₁.objs.size≠e:=Dr (g0 he₁);have hd₃:=Obj.data_mapFields hd (·.setIfInBounds 1 (Value.ref h₁.objs.size))
 have he₃:=Gy (Obj.mapFields (·.setIfInBounds 1 (Value.ref h₁.objs.size))) he₂ (Obj.isFreed_of_fields hd₃)
 have hT₃:=(AC (h₁.push {cls:=.type "traceback",dict:=none,data:=.fields ([head,.ref L,.none,rawInt L,.none]++(if pl.isEmpty then List.replicate 6 Value.none else pl)).toArray})
  (Obj.mapFields (·.setIfInBounds 1 (Value.ref h₁.objs.size))) (Ne.symm hTe)).trans (kf h₁ rfl)
 unfold setFlight;refine wB (wpAny_field he₃ hd₃ (x:=.ref h₁.objs.size) (by simp [hsz]) ?_)
 rw [if_pos (show (Value.ref h₁.objs.size != Value.none)=true from by simp)]
 refine wpAny_setField hT₃ rfl (by simp only [zM,zQ,zC,zH]<;>omega) (h _ ?_)
 have keep:∀b o,b≠e->h₁.get? b=some o->
  (((h₁.push { cls := .type "traceback", dict := none, data := .fields ([head, .ref L, .none, rawInt L, .none] ++ (if pl.isEmpty then List.replicate 6 Value.none else pl)).toArray }).update e (Obj.mapFields (·.setIfInBounds 1 (Value.ref h₁.objs.size)))).update h₁.objs.size
   (Obj.mapFields (·.setIfInBounds 3 ((none:Option Addr).elim Value.none λf=>rawInt f)))).get? b=some o:=λb o hbe hb=>by
  have hbT:h₁.objs.size≠b:=Dr (g0 hb);rw [AC _ _ hbT,AC _ _ (Ne.symm hbe)];exact iM _ hb
 have noRecord:∀b o,s.heap.get? b=some o->(∀vs,o.data≠ .fields vs)->b≠e:=λb o hb hnf q=>by
  rw [q,he]at hb;injection hb with hb;subst hb;exact hnf vs hd
 refine⟨λb o hbo=>keep b o (λq=>by rw [q,hen]at hbo;cases hbo) (kb₁ b o hbo),hl.of_keeps λb o hb hnf=>?_,?_,λb o hb hnf=>?_⟩
 · obtain⟨sl,hs⟩:=hs₁.2.2 b o hb;exact⟨_,keep b _ (noRecord b o hb hnf) hs,rfl⟩
 · refine⟨_,_,h₁.objs.size,_,_,?_,⟨Obj.cls_mapFields _ _,(Obj.dict_mapFields _ _).trans h0⟩,hd₃,by simp [hsz],kb₁.fresh,hTe,Gy _ hT₃ (Obj.isFreed_of_fields (Obj.data_mapFields rfl _)),Obj.data_mapFields rfl _,by first|(simp;done)|(rcases hpl with rfl|⟨_,_,_,_,_,_,_,rfl⟩<;>simp)⟩
   rw [AC _ _ hTe];exact he₃
 · obtain⟨sl,hs⟩:=hs₁.2.2 b o hb;exact⟨sl,keep b _ (noRecord b o hb hnf) hs⟩
theorem lF {base:Heap}{env:Env}{outer:List Env}{L e:Addr}{oe:Obj}{vs:Array Value}{a0:Option Addr}{Q:Unit->Shared->Prop}
 (hfr:A.frames=some (env::outer)) (hl:s.heap.FunFrames base (env::outer)) (hf:env.frame=some L)
 (he:s.heap.get? e=some oe) (hkb:base.StaysIn s.heap) (hen:base.get? e=none) (hd:oe.data=.fields vs) (h1:vs[1]? =some .none) (h0:oe.dict=a0)
 (h:∀h',Heap.LeftD base (env::outer) e oe.cls a0 s.heap h'->Q () {s with heap:=h'}):wpAny M A (leaving env (.ref e)) Q E s:=by
 unfold leaving noteFrame;simp only [hf];refine wB (wB (wpAny_field he hd h1 ?_));rw [if_neg (by decide)]
 exact kg hfr hl hf he hkb hen hd (LV.mp h1).1 h0 h
theorem mO {base:Heap}{env:Env}{outer:List Env}{L e:Addr}{cls:Value}{a0:Option Addr}{Q:Unit->Shared->Prop}
 (hfr:A.frames=some (env::outer)) (hl:s.heap.FunFrames base (env::outer)) (hf:env.frame=some L) (ht:s.heap.TracedD base e cls a0) (hkb:base.StaysIn s.heap) (hen:base.get? e=none)
 (h:∀h',Heap.LeftD base (env::outer) e cls a0 s.heap h'->Q () {s with heap:=h'}):wpAny M A (leaving env (.ref e)) Q E s:=by
 obtain⟨oe,vs,T,oT,ts,he,⟨hcls,h0⟩,hd,h1,hnT,hTe,hT,hdT,h3⟩:=ht;subst hcls;unfold leaving noteFrame;simp only [hf];refine wB (wB (wpAny_field he hd h1 ?_));rw [if_pos (show (Value.ref T != Value.none)=true from by simp)]
 refine wB (wpAny_field hT hdT h3 ?_);rw [if_neg (show ¬((Value.none==rawInt L)=true)from by simp [rawInt])]
 refine wB (wpAny_setField hT hdT (LV.mp h3).1 ?_);have other:∀b,b≠T->(s.heap.update T (Obj.mapFields (·.setIfInBounds 3 Value.none))).get? b=s.heap.get? b:=λb hb=>AC _ _ (Ne.symm hb)
 have noRecord:∀b o,s.heap.get? b=some o->(∀vs,o.data≠ .fields vs)->b≠T:=λb o hb hnf q=>by
  rw [q,hT]at hb;injection hb with hb;subst hb;exact hnf ts hdT
 refine kg hfr (hl.of_keeps λb o hb hnf=>⟨o,(other b (noRecord b o hb hnf)).trans hb,rfl⟩) hf ((other e (Ne.symm hTe)).trans he)
  (λb o hbo=>(other b λq=>by rw [q,hnT]at hbo;cases hbo).trans (hkb b o hbo)) hen hd (LV.mp h1).1 h0
  λh' ⟨x1,x2,x3,x4⟩=>h h' ⟨x1,x2,x3,λb o hb hnf=>x4 b o ((other b (noRecord b o hb hnf)).trans hb) hnf⟩
def Heap.FlyingD(base:Heap)(l:List Env)(e:Addr)(cls:Value)(a0:Option Addr)(h:Heap):Prop:=
 base.StaysIn h/\base.get? e=none/\h.FunFrames base l/\h.TracedD base e cls a0
theorem Heap.FlyingD.there {base h:Heap}{l:List Env}{e:Addr}{cls:Value}{a0:Option Addr}(x:Heap.FlyingD base l e cls a0 h):∃ob,h.get? e=some ob/\ob.cls=cls:=by
 obtain⟨_,_,_,oe,_,_,_,_,he,hc,_⟩:=x;exact⟨oe,he,hc.1⟩
theorem qO {base:Heap}{env:Env}{outer:List Env}{L e:Addr}{cls:Value}{a0:Option Addr}{Q:Unit->Shared->Prop}
 (hfr:A.frames=some (env::outer)) (hf:env.frame=some L) (hfl:Heap.FlyingD base (env::outer) e cls a0 s.heap)
 (hQ:∀h',Heap.FlyingD base outer e cls a0 h'->s.heap.UpToSlots h'->Q () {s with heap:=h'}):wpAny M A (leaving env (.ref e)) Q E s:=by
 obtain⟨f1,f2,f3,f4⟩:=hfl;refine mO hfr f3 hf f4 f1 f2 λh' hL=>?_;obtain⟨k1,⟨_,_,k2⟩,k3,k4⟩:=hL;exact hQ h' ⟨k1,f2,k2,k3⟩ k4
theorem wl {base:Heap}{env:Env}{outer:List Env}{L e:Addr}{oe:Obj}{vs:Array Value}{head:Value}{a0:Option Addr}{hadNext:Bool}{Q:Unit->Shared->Prop}
 (hfr:A.frames=some (env::outer)) (hl:s.heap.FunFrames base (env::outer)) (hf:env.frame=some L)
 (he:s.heap.get? e=some oe) (hkb:base.StaysIn s.heap) (hen:base.get? e=none) (hd:oe.data=.fields vs) (hsz:1 < vs.size) (h0:oe.dict=a0)
 (h:∀h',Heap.Ei base (env::outer) e oe.cls a0 (rawInt L) s.heap h'->Q () {s with heap:=h'}):
 wpAny M A (do let a<-frameOf env;let pl<-entryPlaceOf L hadNext;let b<-EntryCells.newEntry head a .none (rawInt L) .none pl;setField (.ref e) 1 b) Q E s:=by
 have hene:e ∉ (env::outer).filterMap (·.frame):=λhm=>by
  obtain⟨_,o,ho,hnf⟩:=hl.mem hm;rw [he]at ho;injection ho with ho;subst ho;exact hnf vs hd
 refine wB (wpAny_frameOf_fun hfr hl hf λh₁ hs₁=>?_);refine wB (wpAny_entryPlaceOf λpl hpl=>?_);unfold EntryCells.newEntry newFields;refine wB (wpAny_newObj_type ?_ (hpl.sizeOk5 _ _ _ _ _));have he₁:h₁.get? e=some oe:=(hs₁.2.1 e hene).trans he;have kb₁:base.StaysIn h₁:=λb o hbo=>(hs₁.2.1 b λhm=>by rw [(hl.mem hm).1]at hbo;cases hbo).trans (hkb b o hbo)
 have he₂:=iM (h:=h₁) {cls:=.type "traceback",dict:=none,data:=.fields ([head,.ref L,.none,rawInt L,.none]++(if pl.isEmpty then List.replicate 6 Value.none else pl)).toArray} he₁;refine wpAny_setField he₂ hd hsz (h _ ?_);have hTe:h₁.objs.size≠e:=Dr (g0 he₁);have hd₃:=Obj.data_mapFields hd (·.setIfInBounds 1 (Value.ref h₁.objs.size))
 have he₃:=Gy (Obj.mapFields (·.setIfInBounds 1 (Value.ref h₁.objs.size))) he₂ (Obj.isFreed_of_fields hd₃)
 have hT₃:=(AC (h₁.push {cls:=.type "traceback",dict:=none,data:=.fields ([head,.ref L,.none,rawInt L,.none]++(if pl.isEmpty then List.replicate 6 Value.none else pl)).toArray})
  (Obj.mapFields (·.setIfInBounds 1 (Value.ref h₁.objs.size))) (Ne.symm hTe)).trans (kf h₁ rfl)
 have keep:∀b o,b≠e->h₁.get? b=some o->
  ((h₁.push {cls:=.type "traceback",dict:=none,data:=.fields ([head,.ref L,.none,rawInt L,.none]++(if pl.isEmpty then List.replicate 6 Value.none else pl)).toArray}).update e (Obj.mapFields (·.setIfInBounds 1 (Value.ref h₁.objs.size)))).get? b=some o:=
  λb o hbe hb=>by
   rw [AC _ _ (Ne.symm hbe)];exact iM _ hb
 have noRecord:∀b o,s.heap.get? b=some o->(∀vs,o.data≠ .fields vs)->b≠e:=λb o hb hnf q=>by
  rw [q,he]at hb;injection hb with hb;subst hb;exact hnf vs hd
 refine⟨λb o hbo=>keep b o (λq=>by rw [q,hen]at hbo;cases hbo) (kb₁ b o hbo),hl.of_keeps λb o hb hnf=>?_,?_,λb o hb hnf=>?_⟩
 · obtain⟨sl,hs⟩:=hs₁.2.2 b o hb;exact⟨_,keep b _ (noRecord b o hb hnf) hs,rfl⟩
 · exact⟨_,_,h₁.objs.size,_,_,he₃,⟨Obj.cls_mapFields _ _,(Obj.dict_mapFields _ _).trans h0⟩,hd₃,by simp [hsz],kb₁.fresh,hTe,hT₃,rfl,by first|(simp;done)|(rcases hpl with rfl|⟨_,_,_,_,_,_,_,rfl⟩<;>simp)⟩
 · obtain⟨sl,hs⟩:=hs₁.2.2 b o hb;exact⟨sl,keep b _ (noRecord b o hb hnf) hs⟩
theorem mP {base:Heap}{env:Env}{outer:List Env}{L e:Addr}{cls:Value}{a0:Option Addr}{Q:Unit->Shared->Prop}
 (hfr:A.frames=some (env::outer)) (hl:s.heap.FunFrames base (env::outer)) (hf:env.frame=some L) (ht:s.heap.TracedD base e cls a0) (hkb:base.StaysIn s.heap) (hen:base.get? e=none)
 (h:∀h',Heap.Ei base (env::outer) e cls a0 (rawInt L) s.heap h'->Q () {s with heap:=h'}):wpAny M A (noteFrame (.ref e) env) Q E s:=by
 obtain⟨oe,vs,T,oT,ts,he,⟨hcls,h0⟩,hd,h1,hnT,hTe,hT,hdT,h3⟩:=ht;subst hcls;unfold noteFrame;simp only [hf];refine wB (wpAny_field he hd h1 ?_);rw [if_pos (show (Value.ref T != Value.none)=true from by simp)]
 refine wB (wpAny_field hT hdT h3 ?_);rw [if_neg (show ¬((Value.none==rawInt L)=true)from by simp [rawInt])]
 refine wB (wpAny_setField hT hdT (LV.mp h3).1 ?_);have other:∀b,b≠T->(s.heap.update T (Obj.mapFields (·.setIfInBounds 3 Value.none))).get? b=s.heap.get? b:=λb hb=>AC _ _ (Ne.symm hb)
 have noRecord:∀b o,s.heap.get? b=some o->(∀vs,o.data≠ .fields vs)->b≠T:=λb o hb hnf q=>by
  rw [q,hT]at hb;injection hb with hb;subst hb;exact hnf ts hdT
 refine wl hfr (hl.of_keeps λb o hb hnf=>⟨o,(other b (noRecord b o hb hnf)).trans hb,rfl⟩) hf ((other e (Ne.symm hTe)).trans he)
  (λb o hbo=>(other b λq=>by rw [q,hnT]at hbo;cases hbo).trans (hkb b o hbo)) hen hd (LV.mp h1).1 h0
  λh' ⟨x1,x2,x3,x4⟩=>h h' ⟨x1,x2,x3,λb o hb hnf=>x4 b o ((other b (noRecord b o hb hnf)).trans hb) hnf⟩
theorem gd {base:Heap}{l:List Env}{e:Addr}{cls:Value}{a0:Option Addr}{fl:Value}{Q:Unit->Shared->Prop}
 (hkb:base.StaysIn s.heap) (hl:s.heap.FunFrames base l) (ht:s.heap.TracedAtD base e cls a0 fl)
 (h:∀h',base.StaysIn h'->h'.FunFrames base l->h'.TracedD base e cls a0->(∀b o,s.heap.get? b=some o->(∀vs,o.data≠ .fields vs)->h'.get? b=some o)->Q () {s with heap:=h'}):
 wpAny M A (setFlight (.ref e) none) Q E s:=by
 obtain⟨oe,vs,T,oT,ts,he,hcls,hd,h1,hnT,hTe,hT,hdT,h3⟩:=ht;have hsz3:3 < ts.size:=(LV.mp h3).1;have other:∀b,b≠T->(s.heap.update T (Obj.mapFields (·.setIfInBounds 3 ((none:Option Addr).elim Value.none λf=>rawInt f)))).get? b=s.heap.get? b:=
  λb hb=>AC _ _ (Ne.symm hb)
 have noRecord:∀b o,s.heap.get? b=some o->(∀vs,o.data≠ .fields vs)->b≠T:=λb o hb hnf q=>by
  rw [q,hT]at hb;injection hb with hb;subst hb;exact hnf ts hdT
 unfold setFlight;refine wB (wpAny_field he hd h1 ?_);rw [if_pos (show (Value.ref T != Value.none)=true from by simp)]
 refine wpAny_setField hT hdT hsz3 (h _ (λb o hbo=>(other b λq=>by rw [q,hnT]at hbo;cases hbo).trans (hkb b o hbo))
  (hl.of_keeps λb o hb hnf=>⟨o,(other b (noRecord b o hb hnf)).trans hb,rfl⟩) ?_ λb o hb hnf=>(other b (noRecord b o hb hnf)).trans hb)
 exact⟨oe,vs,T,_,_,(other e (Ne.symm hTe)).trans he,hcls,hd,h1,hnT,hTe,Gy _ hT (Obj.isFreed_of_fields (Obj.data_mapFields hdT _)),Obj.data_mapFields hdT _,by simp [hsz3]⟩
def Heap.HeldD(base:Heap)(l:List Env)(e:Addr)(cls:Value)(a0:Option Addr)(L:Addr)(h:Heap):Prop:=
 base.StaysIn h/\base.get? e=none/\h.FunFrames base l/\h.TracedAtD base e cls a0 (rawInt L)
theorem rR {base:Heap}{env:Env}{outer:List Env}{L e:Addr}{cls:Value}{a0:Option Addr}{Q:Unit->Shared->Prop}
 (hfr:A.frames=some (env::outer)) (hf:env.frame=some L) (hfl:Heap.FlyingD base (env::outer) e cls a0 s.heap)
 (hQ:∀h',Heap.HeldD base (env::outer) e cls a0 L h'->s.heap.UpToSlots h'->Q () {s with heap:=h'}):wpAny M A (noteFrame (.ref e) env) Q E s:=by
 obtain⟨f1,f2,f3,f4⟩:=hfl;refine mP hfr f3 hf f4 f1 f2 λh' hN=>?_;obtain⟨k1,k2,k3,k4⟩:=hN;exact hQ h' ⟨k1,f2,k2,k3⟩ k4
theorem wm {base:Heap}{l:List Env}{e L:Addr}{cls:Value}{a0:Option Addr}{Q:Unit->Shared->Prop}(hh:Heap.HeldD base l e cls a0 L s.heap)
 (hQ:∀h',Heap.FlyingD base l e cls a0 h'->s.heap.UpToSlots h'->Q () {s with heap:=h'}):wpAny M A (setFlight (.ref e) none) Q E s:=by
 obtain⟨f1,f2,f3,f4⟩:=hh;exact gd f1 f3 f4 λh' k1 k2 k3 k4=>hQ h' ⟨k1,f2,k2,k3⟩ λb o hb hn=>⟨o.slots,k4 b o hb hn⟩
theorem nN {base h:Heap}{env:Env}{outer:List Env}{L e:Addr}{cls:Value}{args:List Value}{Q:Unit->Shared->Prop}
 (hfr:A.frames=some (env::outer)) (hf:env.frame=some L) (hkb:base.StaysIn h) (hl:h.FunFrames base (env::outer)) (hx:Heap.MadeExcOf h s.heap e cls args)
 (hQ:∀h' t,Heap.FlyingD base outer e cls none h'->h'.TupAt t args->base.get? t=none->s.heap.UpToSlots h'->Q () {s with heap:=h'}):wpAny M A (leaving env (.ref e)) Q E s:=by
 obtain⟨t,he,htn,ht⟩:=hx.there;have fresh:∀b,h.get? b=none->base.get? b=none:=λb hb=>by
  cases hq:base.get? b with
  |none=>rfl
  |some o'=>have:=hkb b o' hq;rw [hb]at this;cases this
 refine lF (a0:=none) hfr (hl.of_keeps λb o hb _=>⟨o,hx.keeps b o hb,rfl⟩) hf he (λb o hb=>hx.keeps b o (hkb b o hb)) (fresh e hx.new) rfl rfl rfl λh' hL=>?_;obtain⟨k1,⟨_,_,k2⟩,k3,k4⟩:=hL;exact hQ h' t ⟨k1,fresh e hx.new,k2,k3⟩ (Heap.TupAt.of_slots ⟨_,_,ht,rfl,rfl⟩ k4) (fresh t htn) k4
theorem Heap.FlyingD.first {base h:Heap}{l:List Env}{e:Addr}{cls:Value}{a0:Option Addr}(x:Heap.FlyingD base l e cls a0 h):∃oe vs,h.get? e=some oe/\oe.cls=cls/\oe.data=.fields vs/\oe.dict=a0:=
 let ⟨_,_,_,oe,vs,_,_,_,he,hc,hd,_⟩:=x;⟨oe,vs,he,hc.1,hd,hc.2⟩
end
end PySem
namespace L2
open PySem PySem.Spec PyProof.Rows PySem.W
theorem ObjOk.there {P:Program}{w:World}{H:Hp}{h:Heap}{a:Addr}{o:HO}(x:ObjOk P w H h a o):∃ob,h.get? a=some ob:=by
 cases o with
 |lst xs=>obtain⟨_,_,_,_,e⟩:=x;exact⟨_,e⟩
 |tup xs=>obtain⟨_,_,_,⟨ob,e,_⟩,_⟩:=x;exact⟨_,e⟩
 |dK kvs=>obtain⟨_,_,_,_,o,_,_,e,_⟩:=x;exact⟨_,e⟩
 |dT kvs=>obtain⟨_,_,_,_,o,_,_,e,_⟩:=x;exact⟨_,e⟩
 |set S n=>obtain⟨o,_,_,_,e,_⟩:=x;exact⟨_,e⟩
 |ins C dx fs=>obtain⟨_,_,_,e,_⟩:=x;exact⟨_,e⟩
 |own y=>obtain⟨_,e⟩:=x;exact⟨_,e⟩
 |xd fs=>obtain⟨_,⟨_,_,_,e,_⟩,_⟩:=x;exact⟨_,e⟩
 |rng lo hi=>obtain⟨_,_,_,e⟩:=x;exact⟨_,e⟩
 |frz ob u=>obtain⟨e,_⟩:=x;exact⟨_,e⟩
 |tbl ps=>
  rcases x with e|⟨_,_,_,_,_,_,_,_,_,_,e,_⟩
  · exact⟨_,e⟩
  · exact⟨_,e⟩
 |met f y=>exact⟨_,(show h.get? a=some _ from x)⟩
 |ext φ=>obtain⟨_,⟨_,e⟩,_⟩:=x;exact⟨_,e⟩
structure Flown (P:Program) (w:World) (outer:List Env) (H:Hp) (s:Shared) (ea C:Addr) (a0:Option Addr) (B:Heap) (H':Hp) (s':Shared):Prop where
 os:s'.os=s.os
 bare:AllBare s'.gens
 hokB:HOk P w H' B
 fly:Heap.FlyingD B outer ea (.ref C) a0 s'.heap
 cov:∀b o,s.heap.get? b=some o->H b=none->b ∉ ku outer->B.get? b=some o
 thr:∀b o,s.heap.get? b=some o->b∈ku outer\/∃o',B.get? b=some o'
 un:Un (ku outer) [] H H' s.heap s'.heap
def XV(ea:Addr)(v:Value)(dx:Option Addr)(H:Hp):Prop:=v=.ref ea\/∃n t d,v=.int n t/\dx=some d/\H d=some (.xd [("at",.int n)])
def sq(P:Program)(w:World):Ce:=λouter H s E e s'=>∃(ea C:Addr) (a0:Option Addr) (B:Heap) (H':Hp) (v:Value),e=.ref ea/\Flown P w outer H s ea C a0 B H' s'/\XV ea v a0 H'/\E v (some C) H'
section
variable {P:Program} {w:World} {outer:List Env} {H H':Hp} {s s':Shared} {ea C:Addr} {a0:Option Addr} {B:Heap}
theorem Flown.hok(f:Flown P w outer H s ea C a0 B H' s'):HOk P w H' s'.heap:=f.hokB.kept f.fly.1
theorem Flown.free(f:Flown P w outer H s ea C a0 B H' s'):H' ea=none:=by
 cases q:H' ea with
 |none=>rfl
 |some u=>
  obtain⟨ob,e⟩:=(f.hokB _ _ q).there;rw [f.fly.2.1]at e;cases e
end
section
variable {X:Cx} {pins:List (Addr×Obj)} {σ:St} {H:Hp} {s:Shared}
theorem Inv.neL(I:Inv X pins σ H s){b:Addr}{o:Obj}(e:X.s₀.heap.get? b=some o):b≠X.env.locals:=nA (j6 (g0 e) I.ok.above)
theorem Inv.notStk(I:Inv X pins σ H s){b:Addr}{o:Obj}(e:X.s₀.heap.get? b=some o)(hb:b ∉ X.fs):b ∉ ku X.stack:=λz=>(Q8.mp (I.stkSub b z)).elim (I.neL e) hb
theorem AY {outer:List Env}{base h0 h1 h2 B:Heap}{H0 H1:Hp}(ff:h0.FunFrames base outer)(frf:∀b∈ku outer,H0 b=none)(st:B.StaysIn h2)(ff2:h2.FunFrames B outer)
 (cov:∀b o,h0.get? b=some o->H0 b=none->b ∉ ku outer->B.get? b=some o) (thr:∀b o,h0.get? b=some o->b∈ku outer\/∃o',B.get? b=some o')
 (u:Un (ku outer) [] H0 H1 h0 h1) (k:h1.UpToSlots h2):Un (ku outer) [] H0 H1 h0 h2 where
 keep:=λb o e n hb _=>st b o (cov b o e n hb)
 slot:=λb o e n hb hx=>by
  obtain⟨sl,e1⟩:=u.slot b o e n hb hx;obtain⟨_,o',ho',hd⟩:=ff.mem hb;rw [e]at ho';cases ho';obtain⟨sl',e2⟩:=k b _ e1 hd;exact⟨sl',e2⟩
 free:=u.free
 there:=λb o e _=>by
  rcases thr b o e with hb|⟨o',e'⟩
  · obtain⟨_,o',ho',_⟩:=ff2.mem hb;exact⟨o',ho'⟩
  · exact⟨o',st _ _ e'⟩
 tups:=u.tups
 frzs:=u.frzs
 tbls:=u.tbls
theorem AZ {E:XK}{E':Value->Shared->Prop}{ea C:Addr}{args:List Value}{h':Heap}(hstk:X.stack=X.env::X.outer)(hf:X.env.frame=some X.env.locals)(hex:X.ex=[])
 (I:Inv X pins σ H s) (hx:Heap.MadeExcOf s.heap h' ea (.ref C) args) (hE:E (.ref ea) (some C) H):
 wpAny (model X.prog X.w) X.A (leaving X.env (.ref ea)) (λ_ s''=>sq X.prog X.w X.outer X.H₀ X.s₀ E (.ref ea) s'') E' {s with heap:=h'}:=by
 have hin:∀env∈X.stack,∀b,env.frame=some b->b∈ku X.stack:=λenv he b hb=>List.mem_filterMap.mpr ⟨env,he,hb⟩;have nx:∀b,b ∉ X.ex:=λb z=>by rw [hex]at z;cases z
 have keepB:∀b o,s.heap.get? b=some o->b ∉ ku X.stack->(hideAll s.heap (ku X.stack)).get? b=some o:=λb o e hb=>hideAll_get _ e hb;have hokB:HOk X.prog X.w H (hideAll s.heap (ku X.stack)):=λb u e=>(I.hok b u e).stay (λc v hc q=>keepB c v q (λz=>by
  have z:=I.stkFree c z
  rcases hc with rfl|hc
  · rw [e]at z;cases z
  · rw [hc]at z;cases z)) (λ_ q=>q) (λ_ _ q=>q) λ_ _ _ q=>q
 have cov:∀b o,X.s₀.heap.get? b=some o->X.H₀ b=none->b ∉ ku X.outer->(hideAll s.heap (ku X.stack)).get? b=some o:=λb o e n hb=>
  keepB b o (I.base.keep b o e n hb (nx b)) (I.notStk e hb)
 have thr:∀b o,X.s₀.heap.get? b=some o->b∈ku X.outer\/∃o',(hideAll s.heap (ku X.stack)).get? b=some o':=λb o e=>by
  by_cases hb:b∈ku X.outer
  · exact .inl hb
  · obtain⟨o',e'⟩:=I.base.there b o e (nx b);exact .inr ⟨o',keepB b o' e' (I.notStk e hb)⟩
 have fr:=I.ok.frames;have stk:=I.stack;have ub:Un (ku X.outer) [] X.H₀ H X.s₀.heap s.heap:=by
  have:=I.base;rw [hex]at this;exact this
 generalize hB:hideAll s.heap (ku X.stack)=B at*;have ffB:s.heap.FunFrames B (X.env::X.outer):=by
  rw [<-hB, <-hstk];exact funFrames_hide stk hin
 rw [hstk]at fr;refine nN (base:=B) (h:=s.heap) fr hf (λb o q=>by rw [<-hB]at q;exact of_hideAll _ q) ffB hx λh'' t x1 x2 x3 x4=>?_
 refine⟨ea,C,none,B,H,.ref ea,rfl,⟨I.os,I.bare,hokB,x1,cov,thr,AY I.ok.funs I.ok.frf x1.1 x1.2.2.1 cov thr (ub) (((Heap.UpToSlots.of_keeps hx.keeps)).trans x4)⟩,.inl rfl,hE⟩
theorem Ej {E:XK}{E':Value->Shared->Prop}{e:Value}{s':Shared}(hstk:X.stack=X.env::X.outer)(hf:X.env.frame=some X.env.locals)(hex:X.ex=[])
 (I:Inv X pins σ H s) (hx:sq X.prog X.w X.stack H s E e s'):
 wpAny (model X.prog X.w) X.A (leaving X.env e) (λ_ s''=>sq X.prog X.w X.outer X.H₀ X.s₀ E e s'') E' s':=by
 obtain⟨ea,C,a0,B,H',v,rfl,f,hv,hE⟩:=hx;have nx:∀b,b ∉ X.ex:=λb z=>by rw [hex]at z;cases z
 have I':Inv X pins σ H' s':=I.call' (ch:=[]) f.os f.un f.hok f.bare (λb z=>absurd z (by simp))
 have cov:∀b o,X.s₀.heap.get? b=some o->X.H₀ b=none->b ∉ ku X.outer->B.get? b=some o:=λb o e n hb=>
  f.cov b o (I.base.keep b o e n hb (nx b)) (I.base.free b o e n (nx b)) (I.notStk e hb)
 have thr:∀b o,X.s₀.heap.get? b=some o->b∈ku X.outer\/∃o',B.get? b=some o':=λb o e=>by
  by_cases hb:b∈ku X.outer
  · exact .inl hb
  · obtain⟨o',e'⟩:=I.base.there b o e (nx b);exact .inr ((f.thr b o' e').resolve_left (I.notStk e hb))
 have ub:Un (ku X.outer) [] X.H₀ H' X.s₀.heap s'.heap:=by
  have:=I'.base;rw [hex]at this;exact this
 have fr:=I.ok.frames;have fl:=f.fly;rw [hstk]at fr fl;refine qO fr hf fl λh'' x1 x2=>?_;exact⟨ea,C,a0,B,H',v,rfl,⟨I'.os,I'.bare,f.hokB,x1,cov,thr,AY I.ok.funs I.ok.frf x1.1 x1.2.2.1 cov thr ub x2⟩,hv,hE⟩
end
theorem NJ {K:Frag}{hp:Heap}{gl:Str->Option Value}{y:Str}{C:Addr}{bl:List Value}{nid:String}(kin:K.In hp)(hm:gl y=some (.ref C))(ok:excIn K C bl nid=true):OwnCls y C bl nid gl hp:=by
 refine⟨hm,?_⟩;unfold excIn at ok;cases hL:K.lookup C with
 |none=>rw [hL]at ok;cases ok
 |some ob=>
  rw [hL]at ok;have at_:=kin _ _ hL;split at ok
  · rename_i e1;split at ok
    · rename_i cx ds sls lsx w1 w2 w3 w4 w5 w6 w7 w8 e2 e3;cases e1;simp only [Q5,beq_iff_eq,Bool.not_eq_true']at ok;obtain⟨⟨⟨⟨⟨rfl,rfl⟩,z1⟩,z2⟩,z3⟩,z4⟩:=ok;obtain⟨c1,c2,c3,c4,c5,c6,c7,c8,c9,c10,c11⟩:=cx;obtain rfl:c3=_:=e2;obtain rfl:c11=_:=z1;obtain⟨sll⟩:=ds;obtain rfl:sll=_:=e3;exact⟨_,_,_,_,_,_,_,_,_,_,_,_,_,_,_,_,_,at_,.of_isNs (isNs_of_in kin z3),nsMap_none_of_in kin z3 z4,tail_of_in kin z2⟩
    · cases ok
  · cases ok
section
variable {P:Program} {w:World} {K:Frag} {mg:Str->Option Value} {base:Heap} {N:List Str} {qual:Str} {scope:Scope} {f:Addr} {cd:Value} {A:Around} {outer:List Env} {s₀:Shared} {H₀:Hp} {E:XK}
theorem gh:jw (sq P w) (nI (sq P w) P w K mg base N qual scope f cd A outer s₀ H₀ E) E:=λpins σ H s e s' I h=>
 Ej (X:=nI (sq P w) P w K mg base N qual scope f cd A outer s₀ H₀ E) rfl rfl rfl I h
def El(C:Addr)(E:XK)(ta:TA):TS:=λ_ σ H=>ta σ H λvs H1=>vs.length<=sizeLine/\∀ea,E (.ref ea) (some C) H1
theorem yB {x:Str}{C:Addr}{B newId initId:String}{bm:List Value}{np cpos pos:Pos}{e₀:Expr}{bt:List Expr}{ta:TA}(hm:mg x=some (.ref C))(q:excIn K C bm newId=true)(FB:ExcBaseFacts B newId initId bm)
 (ha:PA (nI (sq P w) P w K mg base N qual scope f cd A outer s₀ H₀ E) (e₀::bt) ta) (hg:Gl (nI (sq P w) P w K mg base N qual scope f cd A outer s₀ H₀ E) x:=by rfl)
 (hd:(x==("__debug__":Str))=false:=by decide)
 (he:starEach (e₀::bt) (envOfC qual scope s₀.heap.objs.size f cd)=(false,eval e₀ (envOfC qual scope s₀.heap.objs.size f cd))::starEach bt (envOfC qual scope s₀.heap.objs.size f cd):=by rfl)
 (hpl:(backTo cpos (starEach bt (envOfC qual scope s₀.heap.objs.size f cd))).any (·.1)=false:=by rfl):
 PS (nI (sq P w) P w K mg base N qual scope f cd A outer s₀ H₀ E) (.Raise (some (.Call (.Name x np) (e₀::bt) [] cpos)) none pos) (El C E ta):=by
 intro pins s σ H D I h;obtain⟨tl,NN,nm,qn,bs,hdct,sn,sub,ab,col,dd,k0,k1,k2,k3,k5,mN,hC,hN,hni,T⟩:=(NJ I.mod.kin hm q).obj;refine wpAny_Raise_call_subT (C:=C) (nm:=nm) (q:=qn) (N:=NN) (bs:=bs) (bm:=tl) (hdct:=hdct) (sn:=sn) (sub:=sub) (ab:=ab) (col:=col) (dd:=dd) (k0:=k0) (k1:=k1)
  (k2:=k2) (k3:=k3) (k5:=k5) FB (mN:=mN) (T.hasType FB.hasBase) (I.ok.hd rfl) (by show (backTo cpos (starEach (e₀::bt) (envOfC qual scope s₀.heap.objs.size f cd))).any (·.1)=false;rw [he];show (false||(backTo cpos (starEach bt (envOfC qual scope s₀.heap.objs.size f cd))).any (·.1))=false;rw [hpl];rfl) hni (oF I hg hm ⟨rfl,?_⟩ hd)
 have ha:=ha cpos pins s σ H _ I h
 change wpAny _ _ (evalArgs (.ref C) true (backTo cpos (starEach (e₀::bt) (envOfC qual scope s₀.heap.objs.size f cd))) []) _ _ s
 change wpAny _ _ (spliced (backTo cpos (starEach (e₀::bt) (envOfC qual scope s₀.heap.objs.size f cd)))) _ _ s at ha
 rw [he]at ha ⊢;refine Calls.evalArgs_plain (cU ha λus s2 ⟨vs,H2,I2,r2,z,hE⟩=>⟨rfl,by rw [<-r2.length];exact z,I2.bk _ _ hC,hN.keeps I2.bk,T.keeps I2.bk,λh' ea hx=>?_⟩)
 exact AZ (X:=nI (sq P w) P w K mg base N qual scope f cd A outer s₀ H₀ E) rfl rfl rfl I2 hx (hE ea)
end
theorem wn {M:Model}{A:Around}{E:Value->Shared->Prop}{s:Shared}{base:Heap}{l:List Env}{e:Addr}{cls:Value}{a0:Option Addr}{Q:Unit->Shared->Prop}(hh:Heap.FlyingD base l e cls a0 s.heap)
 (hQ:∀h',Heap.FlyingD base l e cls a0 h'->s.heap.UpToSlots h'->Q () {s with heap:=h'}):wpAny M A (setFlight (.ref e) none) Q E s:=by
 obtain⟨f1,f2,f3,f4⟩:=hh;exact gd f1 f3 f4.at λh' k1 k2 k3 k4=>hQ h' ⟨k1,f2,k2,k3⟩ λb o hb hn=>⟨o.slots,k4 b o hb hn⟩
def XW(e:Value)(ea:Addr):Prop:=e=.ref ea\/∃n t,e=.int n t
theorem XV.w {ea:Addr}{v:Value}{dx:Option Addr}{H:Hp}(h:XV ea v dx H):XW v ea:=by
 rcases h with h|⟨n,t,_,h,_⟩
 · exact .inl h
 · exact .inr ⟨n,t,h⟩
def XO(ea C:Addr):HO:=.ext λh=>∃ob,h.get? ea=some ob/\ob.cls=.ref C
theorem Lo {P:Program}{w:World}{H:Hp}{h:Heap}{ea C:Addr}{ob:Obj}(e:h.get? ea=some ob)(c:ob.cls=.ref C):ObjOk P w H h ea (XO ea C):=
 ⟨⟨ob,e,c⟩,⟨ob,e⟩,λ_ _ ⟨o1,e1,c1⟩ k=>⟨o1,k o1 e1,c1⟩⟩
theorem Cz {prog:Program}{w:World}{A:Around}{E:Value->Shared->Prop}{s:Shared}{K:Frag}{ea C:Addr}{c:Value}{ob:Obj}{Q:Value->Shared->Prop}(kin:K.In s.heap)(at_:s.heap.get? ea=some ob)(cl:ob.cls=.ref C)
 (yes:kitOne K (.ref C) c=some true) (k:∀tk,Q (.bool true) {s with toks:=tk}):wpAny (model prog w) A (call (.builtin "isinstance") [.ref ea,c]) Q E s:=by
 refine call_isinstance (S:=λ_ R t=>(K.In t.heap/\t.heap.get? ea=some ob)/\∀tk,R (.ok (.ret (.bool true))) {t with toks:=tk}) (λpr w2 A2 R t ht=>isinstance_outer ?_ (by intro q;cases q)) ⟨⟨kin,at_⟩,k⟩
 obtain⟨hh,g,d,tt,os⟩:=t;obtain⟨⟨ki,here⟩,fin⟩:=ht;have ty:Looks (model pr w2) hh (typeOf (.ref ea)) (.ref C):=cl▸(Looks.ld here).andThen .now;unfold Builtin.«isinstance.nested»;refine wB (ty.at ?_);unfold kitOne at yes
 by_cases q:(Value.ref C==c)=true
 · rw [if_pos q]
   first
    |((repeat lk);exact fin tt)
    |exact wB (wpAny_rule (fin tt))
 · rw [if_neg q]at yes;rw [if_neg q];obtain⟨a1,a2,a3⟩:=kit_cls (M:=model pr w2) ki yes;have both:Looks (model pr w2) hh (isInstance (.ref ea) c) true:=ty.andThen a3;refine wB (a1.at ?_);rw [if_pos (by decide)]
   k_delta "plainIsInstance"
   refine wB (wB (a2.at ?_));simp only [qG,zN,if_false];refine wB (both.at ?_);simp only [if_true]
   first
    |exact wP (wP (fin tt))
    |exact wP (fin tt)
    |exact wB (wP (wP (fin tt)))
theorem Un.track {fs:List Addr}{H0 H1:Hp}{h h2:Heap}{ea:Addr}{o:HO}(u:Un fs [] H0 H1 h h2)(hn:h.get? ea=none)(hf:H1 ea=none):Un fs [] H0 (bH H1 ea o) h h2 where
 keep:=u.keep
 slot:=u.slot
 free:=λb ob e n hx=>by
  rw [aN (λz=>by rw [z,hn]at e;cases e)]
  exact u.free b ob e n hx
 there:=u.there
 tups:=λb xs q=>by rw [aN (aR (u.tups b xs q) hf)];exact u.tups b xs q
 frzs:=λb ob xs q=>by rw [aN (aR (u.frzs b ob xs q) hf)];exact u.frzs b ob xs q
 tbls:=λb ps q=>by
  obtain⟨m,e⟩:=u.tbls b ps q;exact⟨m,by rw [aN (aR e hf)];exact e⟩
theorem HOk.track {P:Program}{w:World}{H:Hp}{h:Heap}{ea:Addr}{o:HO}(x:HOk P w H h)(hf:H ea=none)(new:ObjOk P w (bH H ea o) h ea o):HOk P w (bH H ea o) h:=λb u e=>by
 by_cases hb:b=ea
 · subst hb;rw [aT]at e;cases e;exact new
 · rw [aN hb]at e;exact(x b u e).stay (λ_ _ _ q=>q) (λc q=>by rw [aN (aR q hf)];exact q) (λc xs q=>by rw [aN (aR q hf)];exact q) λc ob xs q=>by rw [aN (aR q hf)];exact q
section
variable {X:Cx} {pins:List (Addr×Obj)} {σ:St} {H:Hp} {s:Shared}
theorem Inv.unbound {i t:Nat}{n:Str}{m:Str->Option Value}{v:Option Value}{h':Heap}(I:Inv X pins σ H s)(hN:X.N.Nodup)(hi:X.N[i]? =some n)
 (hl:∀(i:Nat) (x:Str) (v:V),X.N[i]? =some x->σ[i]? =some (some v)->L6 X.env.scope x->∃u,RelV v u/\L7 X.env s.heap m x u)
 (hns:h'.Ns X.env.locals λy=>if y=n then v else m y) (hs:Heap.SameBut X.env.locals s.heap h'):Inv X pins (σ.set i none) H {s with heap:=h',toks:=t}:=by
 have ck:∀y c,X.env.cells.lookup y=some c->∀z,s.heap.IsCell c z->h'.IsCell c z:=λy c e z ⟨o,ho,hd⟩=>⟨o,(hs.2 c (I.cne y c e)).trans ho,hd⟩;refine⟨I.ok,I.os,I.bare,⟨λb o e n hb hx=>?_,λb o e n hb hx=>?_,I.base.free,λb o e hx=>?_,I.base.tups,I.base.frzs,I.base.tbls⟩,⟨_,hns,λj y v' e1 e2 e3=>?_⟩,λy c e=>?_,I.free,I.freeC,λp hp=>?_,I.hok.sameBut I.free hs,by simpa using I.len⟩
 · exact(hs.2 b (I.neL e)).trans (I.base.keep b o e n hb hx)
 · obtain⟨sl,e1⟩:=I.base.slot b o e n hb hx;exact⟨sl,(hs.2 b (I.neL e)).trans e1⟩
 · obtain⟨o',e1⟩:=I.base.there b o e hx;exact⟨o',(hs.2 b (I.neL e)).trans e1⟩
 · have ne:i≠j:=λz=>by
    subst z;rw [List.getElem?_set]at e2;simp at e2
   have e2':σ[j]? =some (some v'):=by rw [JN ne]at e2;exact e2
   obtain⟨u,r,l⟩:=hl j y v' e1 e2' e3;refine⟨u,r,?_⟩;have yn:y≠n:=λz=>ne (sR hN hi (z▸e1))
   rcases l with ⟨k,l⟩|⟨k,c,e,z⟩
   · exact .inl ⟨k,(if_neg yn).trans l⟩
   · exact .inr ⟨k,c,e,ck y c e _ z⟩
 · obtain⟨z,hz⟩:=I.cell y c e;exact⟨z,ck y c e z hz⟩
 · obtain⟨e,n,ne,nf,d⟩:=I.pin p hp;exact⟨(hs.2 p.1 ne).trans e,n,ne,nf,d⟩
abbrev Cx.alt(X:Cx)(A:Around)(cm:Bool)(pn:List (Addr×Obj))(E:Value->Shared->Prop):Cx:={X with A:=A,calm:=cm,pn:=pn,xe:=E}
theorem Inv.alt(I:Inv X pins σ H s){A:Around}{cm:Bool}{pn pins':List (Addr×Obj)}{E:Value->Shared->Prop}(ha:A.frames=X.A.frames)(hc:cm=true->A.handled=none)(hp:∀p∈pn++pins',p∈X.pn++pins):Inv (X.alt A cm pn E) pins' σ H s:=
 ⟨⟨I.ok.mod,I.ok.kind,I.ok.glob,I.ok.blt,I.ok.above,I.ok.inj,I.ok.has,I.ok.cab,hc,ha.trans I.ok.frames,I.ok.stk,I.ok.exf,I.ok.bs,I.ok.bsz,I.ok.noex,I.ok.exfs,I.ok.funs,I.ok.frf⟩,I.os,I.bare,I.base,I.loc,I.cell,I.free,I.freeC,λp q=>I.pin p (hp p q),I.hok,I.len⟩
theorem Inv.unalt {A:Around}{cm:Bool}{pn pins':List (Addr×Obj)}{E:Value->Shared->Prop}(I:Inv (X.alt A cm pn E) pins' σ H s)(ok:X.Ok)(hp:∀p∈X.pn++pins,p∈pn++pins'):Inv X pins σ H s:=
 ⟨ok,I.os,I.bare,I.base,I.loc,I.cell,I.free,I.freeC,λp q=>I.pin p (hp p q),I.hok,I.len⟩
noncomputable def Ends.un(D:Ends)(i:Nat):Ends:={nx:=λσ H=>D.nx (σ.set i none) H,bk:=λσ H=>D.bk (σ.set i none) H,ct:=λσ H=>D.ct (σ.set i none) H,rt:=D.rt}
def Hj(K:Frag)(Dc:Addr)(i n:Nat)(tb:XK->TS)(ts:Addr->TS):TS:=λD σ H=>
 tb (λe oc H'=>∃C,oc=some C/\exmOne K (.ref C) (.ref Dc)=some true/\∀ea,XW e ea->H' ea=none->∀σ':St,σ'.length=n->ts ea (D.un i) (σ'.set i (some (.ref ea))) (bH H' ea (XO ea C))) D σ H
theorem A0 {body suite:List Stmt}{b₀:Stmt}{x n:Str}{i:Nat}{Dc:Addr}{np pos tp:Pos}{tb:XK->TS}{ts:Addr->TS}(hstk:X.stack=X.env::X.outer)(hfr:X.env.frame=some X.env.locals)(hcm:X.calm=true)(hN:X.N.Nodup)(hi:X.N[i]? =some n)
 (hl:X.env.scope.names.lookup n=some .local) (hm:X.mg x=some (.ref Dc)) (hg:Gl X x)
 (hb:∀(pn:List (Addr×Obj)) (E':Value->Shared->Prop) (E:XK),jw (sq X.prog X.w) (X.alt X.A true pn E') E->PSs (X.alt X.A true pn E') body (tb E))
 (hs:∀(ea:Addr) (pn:List (Addr×Obj)),PSs (X.alt (X.A.mark (some (.ref ea))) false pn λ_ _=>False) (b₀::suite) (ts ea)) (hd:(x==("__debug__":Str))=false:=by decide):
 PS X (.Try body [.ExceptHandler (some (.Name x np)) (some n) (b₀::suite) pos] [] [] tp) (Hj X.K Dc i X.N.length tb ts):=by
 intro pins s σ H D I h;refine wpAny_Try_except ?_;have hh:=I.ok.hd hcm;have sub1:∀p∈(X.pn++pins)++[],p∈X.pn++pins:=λp q=>by rw [Q4]at q;exact q
 have sub2:∀p∈X.pn++pins,p∈(X.pn++pins)++[]:=λp q=>by rw [Q4];exact q
 have ok:=I.ok;refine wpAny_mono (hb (X.pn++pins) _ _ (λpins' σ' Hc sc e s' Ic hx=>?_) [] s σ H D (I.alt (A:=X.A) (cm:=true) (E:=?E') rfl (λ_=>hh) sub1) h) (λf s1 hf=>?_) (λe s1 he=>?_)
 case E'=>exact λe s₁=>wpAny (model X.prog X.w) X.A (noteFrame e X.env) (λ_ s₂=>wpAny (model X.prog X.w) X.A (setFlight e none) (λ_ s₃=>wpAny (model X.prog X.w) X.A (handleBy e X.env [.ExceptHandler (some (.Name x np)) (some n) (b₀::suite) pos]) (SP X pins D) X.xe s₃) X.xe s₂) X.xe s₁
 · obtain⟨ea,C,a0,B,H',v,rfl,f,hv,C',e2,hex,hk⟩:=hx;cases e2;have fr:X.A.frames=some (X.env::X.outer):=by rw [<-hstk];exact ok.frames
   have fl:Heap.FlyingD B (X.env::X.outer) ea (.ref C) a0 s'.heap:=by rw [<-hstk];exact f.fly
   have new:sc.heap.get? ea=none:=by
    cases q:sc.heap.get? ea with
    |none=>rfl
    |some o=>
     rcases f.thr ea o q with z|⟨o',z⟩
     · obtain⟨_,o',e1,e2⟩:=f.fly.2.2.1.mem z;obtain⟨oe,vs,e3,_,e4,_⟩:=f.fly.first;rw [e3]at e1;cases e1;exact absurd e4 (e2 vs)
     · rw [f.fly.2.1]at z;cases z
   have unT:∀h₂,s'.heap.UpToSlots h₂->Heap.FlyingD B (X.env::X.outer) ea (.ref C) a0 h₂->Inv (X.alt (X.A.mark (some (.ref ea))) false (X.pn++pins) λ_ _=>False) [] σ' (bH H' ea (XO ea C)) {s' with heap:=h₂}:=λh₂ sm fl₂=>by
    have u2:=AY Ic.stack Ic.stkFree fl₂.1 (show h₂.FunFrames B X.stack by rw [hstk];exact fl₂.2.2.1) f.cov f.thr f.un sm
    obtain⟨ob,e1,e2⟩:=fl₂.there;have J:Inv (X.alt X.A true (X.pn++pins) _) pins' σ' (bH H' ea (XO ea C)) {s' with heap:=h₂}:=Ic.call' (ch:=[]) f.os (u2.track new f.free) ((f.hokB.kept fl₂.1).track f.free (Lo e1 e2)) f.bare (λb z=>absurd z (by simp))
    exact(J.unalt (X:=X) (pins:=pins) ok (λp q=>List.mem_append_left _ q)).alt rfl (λz=>nomatch z) sub1
   show wpAny (model X.prog X.w) X.A (noteFrame (.ref ea) X.env) _ _ s';refine rR fr hfr fl λh₄ held₄ sm₄=>?_;refine wm held₄ λh₅ fl₅ sm₅=>?_;have I₅:=unT h₅ (sm₄.trans sm₅) fl₅;obtain⟨ob,hob,hobc⟩:=fl₅.there;have LT:Looks (model X.prog X.w) h₅ (typeOf (.ref ea)) (.ref C):=hobc▸(Looks.ld hob).andThen .now;refine wpAny_handleBy_cons (codeAny_handlers_test (oF I₅ hg hm ?_ hd)) (by intro q;cases q)
   refine(exm_one I₅.kIn LT hex).here ?_;refine codeAny_handlers_suite_as ?_;refine wn fl₅ λh₆ fl₆ sm₆=>?_;have I₆:=unT h₆ ((sm₄.trans sm₅).trans sm₆) fl₆;refine oE (X:=X.alt (X.A.mark (some (.ref ea))) false (X.pn++pins) λ_ _=>False) I₆ hN hi (.inl hl) (v:=.ref ea) rfl (λs₇ I₇=>?_) (.inr hl);refine wpAny_mono (hs ea (X.pn++pins) [] s₇ _ _ (D.un i) I₇ (hk ea hv.w f.free σ' I₆.len)) (λfw s₈ hsp=>?_) (λ_ _ z=>z.elim);have unb:∀{σ8:St} {H8:Hp} {Q:Shared->Prop},Inv (X.alt (X.A.mark (some (.ref ea))) false (X.pn++pins) λ_ _=>False) [] σ8 H8 s₈->(∀s9,Inv X pins (σ8.set i none) H8 s9->Q s9)->
    wpAny (model X.prog X.w) X.A (do bindName X.env n .none;unbindBehindTheSuite X.env n pos) (λ_ s9=>Q s9) X.xe s₈:=λ{σ8 H8 Q} I8 k=>by
    have I8:Inv X pins σ8 H8 s₈:=I8.unalt ok sub2;obtain⟨m,hn,hlook⟩:=id I8.loc;exact wpAny_nameGoes_keeps hl hn (by rw [ok.kind];rfl) λh' v hns hsm=>k _ (I8.unbound hN hi hlook hns hsm)
   cases fw with
   |next=>obtain⟨σ8,H8,I8,q⟩:=hsp;exact unb I8 λs9 I9=>⟨_,_,I9,q⟩
   |brk=>obtain⟨σ8,H8,I8,q⟩:=hsp;exact unb I8 λs9 I9=>⟨_,_,I9,q⟩
   |cont=>obtain⟨σ8,H8,I8,q⟩:=hsp;exact unb I8 λs9 I9=>⟨_,_,I9,q⟩
   |ret u=>obtain⟨v,σ8,H8,I8,r,q⟩:=hsp;exact unb I8 λs9 I9=>⟨v,_,_,I9,r,q⟩
 · cases f with
   |next=>
    obtain⟨σ8,H8,I8,q⟩:=hf;exact wP ⟨_,_,I8.unalt ok sub2,q⟩
   |brk=>obtain⟨σ8,H8,I8,q⟩:=hf;exact⟨_,_,I8.unalt ok sub2,q⟩
   |cont=>obtain⟨σ8,H8,I8,q⟩:=hf;exact⟨_,_,I8.unalt ok sub2,q⟩
   |ret u=>obtain⟨v,σ8,H8,I8,r,q⟩:=hf;exact⟨v,_,_,I8.unalt ok sub2,r,q⟩
 · exact he
end
end L2
namespace GC
noncomputable def bC:List Int->List Int->Nat
 |_,[]=>0
 |u,c::g=>if c∈u then bC (u.erase c) g+1 else bC u g
theorem lG:∀g:List Int,bC [] g=0
 |[]=>rfl
 |c::g=>by unfold bC;rw [if_neg (by simp),lG g]
theorem rT {u u':List Int}(g:List Int)(h:u.Perm u'):bC u g=bC u' g:=by
 induction g generalizing u u' with
 |nil=>rfl
 |cons c g ih=>
  unfold bC
  by_cases m:c∈u
  · rw [if_pos m,if_pos (h.mem_iff.mp m),ih (h.erase c)]
  · rw [if_neg m,if_neg (λx=>m (h.mem_iff.mpr x)),ih h]
theorem A1(u:List Int)(a b:Int)(g:List Int):bC u (a::b::g)=bC u (b::a::g):=by
 by_cases e:a=b
 · subst e;rfl
 · have e':b≠a:=λz=>e z.symm;have m1:b∈u.erase a↔b∈u:=List.mem_erase_of_ne e';have m2:a∈u.erase b↔a∈u:=List.mem_erase_of_ne e;unfold bC;unfold bC
   by_cases ha:a∈u<;>by_cases hb:b∈u
   · simp only [ha,hb,m1,m2,if_true];rw [List.erase_comm]
   · simp only [ha,hb,m1,m2,if_true,if_false]
   · simp only [ha,hb,m1,m2,if_true,if_false]
   · simp only [ha,hb,m1,m2,if_false]
theorem qP {u:List Int}{c:Int}{g g':List Int}(h:∀u,bC u g=bC u g'):bC u (c::g)=bC u (c::g'):=by
 unfold bC;rw [h,h]
theorem jd {g g':List Int}(h:g.Perm g'):∀u,bC u g=bC u g':=by
 induction h with
 |nil=>intro u;rfl
 |cons x _ ih=>intro u;exact qP ih
 |swap x y l=>intro u;exact A1 u y x l
 |trans _ _ ih1 ih2=>intro u;rw [ih1,ih2]
theorem nO {c:Int}:∀(u g:List Int),c ∉ u->bC (c::g) u=bC g u
 |[],g,_=>rfl
 |x::u,g,h=>by
  have hx:x≠c:=λe=>h (by simp [e])
  have hu:c ∉ u:=λz=>h (j4 _ z);have m:x∈c::g↔x∈g:=by simp [hx]
  unfold bC
  by_cases hg:x∈g
  · rw [if_pos (m.mpr hg),if_pos hg,List.erase_cons_tail (by simpa using hx.symm),nO u _ hu]
  · rw [if_neg (λz=>hg (m.mp z)),if_neg hg,nO u _ hu]
theorem sr(c:Int)(u g:List Int):bC (c::u) (c::g)=bC u g+1:=by
 show (if c∈c::u then bC ((c::u).erase c) g+1 else bC (c::u) g)=_;rw [if_pos (by simp),List.erase_cons_head]
theorem jx:∀(g u:List Int),bC u g=bC g u
 |[],u=>by rw [lG];rfl
 |c::g,u=>by
  by_cases h:c∈u
  · show (if c∈u then bC (u.erase c) g+1 else bC u g)=_;rw [if_pos h,jx g,jd (List.perm_cons_erase h) (c::g),sr]
  · show (if c∈u then bC (u.erase c) g+1 else bC u g)=_;rw [if_neg h,nO u g h,jx g]
theorem vc:∀(e u g:List Int),bC (e++u) (e++g)=e.length+bC u g
 |[],u,g=>by simp
 |c::e,u,g=>by
  rw [Q1,Q1,sr,vc e u g,zC];omega
theorem ii:∀(u g:List Int),bC u g<=g.length
 |_,[]=>Q2 _
 |u,c::g=>by
  unfold bC;split
  · have:=ii (u.erase c) g;simp;omega
  · have:=ii u g;simp;omega
noncomputable def left:List Int->List Int->List Int
 |u,[]=>u
 |u,c::g=>if c∈u then left (u.erase c) g else left u g
theorem lu(c:Int):∀(g u:List Int),left u (g++[c])=if c∈left u g then(left u g).erase c else left u g
 |[],u=>rfl
 |d::g,u=>by
  show (if d∈u then left (u.erase d) (g++[c])else left u (g++[c]))=if c∈(if d∈u then left (u.erase d) g else left u g)then(if d∈u then left (u.erase d) g else left u g).erase c else(if d∈u then left (u.erase d) g else left u g)
  by_cases m:d∈u
  · simp only [if_pos m];exact lu c g _
  · simp only [if_neg m];exact lu c g _
theorem jy(c:Int):∀(g u:List Int),bC u (g++[c])=bC u g+if c∈left u g then 1 else 0
 |[],u=>by
  show (if c∈u then 0+1 else 0)=0+if c∈u then 1 else 0
  by_cases m:c∈u<;>simp [m]
 |d::g,u=>by
  show (if d∈u then bC (u.erase d) (g++[c])+1 else bC u (g++[c]))=(if d∈u then bC (u.erase d) g+1 else bC u g)+if c∈(if d∈u then left (u.erase d) g else left u g)then 1 else 0
  by_cases m:d∈u
  · simp only [if_pos m];rw [jy c g];omega
  · simp only [if_neg m];exact jy c g _
noncomputable def oC:List Int->List Int->Nat
 |a::x,b::y=>(if a=b then 1 else 0)+oC x y
 |_,_=>0
noncomputable def JZ:List Int->List Int->List Int
 |a::x,b::y=>if a=b then a::JZ x y else JZ x y
 |_,_=>[]
noncomputable def cA:List Int->List Int->List Int
 |a::x,b::y=>if a=b then cA x y else a::cA x y
 |_,_=>[]
noncomputable def dP:List Int->List Int->List Int
 |a::x,b::y=>if a=b then dP x y else b::dP x y
 |_,_=>[]
theorem dA {i:Nat}{b:List Int}(h:i < b.length):b.take (i+1)=b.take i++[b[i]]:=LU h
theorem su(c d:Int):∀(x y:List Int),x.length=y.length->oC (x++[c]) (y++[d])=oC x y+if c=d then 1 else 0
 |[],[],_=>by simp [oC]
 |[],_::_,h=>by simp at h
 |_::_,[],h=>by simp at h
 |a::x,b::y,h=>by
  show (if a=b then 1 else 0)+oC (x++[c]) (y++[d])=(if a=b then 1 else 0)+oC x y+_;rw [su c d x y (by simpa using h)]
  omega
theorem vd(c d:Int):∀(x y:List Int),x.length=y.length->cA (x++[c]) (y++[d])=cA x y++if c=d then []else [c]
 |[],[],_=>by simp [cA]
 |[],_::_,h=>by simp at h
 |_::_,[],h=>by simp at h
 |a::x,b::y,h=>by
  show (if a=b then cA (x++[c]) (y++[d])else a::cA (x++[c]) (y++[d]))=(if a=b then cA x y else a::cA x y)++_;rw [vd c d x y (by simpa using h)]
  by_cases e:a=b<;>simp [e]
theorem ve(c d:Int):∀(x y:List Int),x.length=y.length->dP (x++[c]) (y++[d])=dP x y++if c=d then []else [d]
 |[],[],_=>by simp [dP]
 |[],_::_,h=>by simp at h
 |_::_,[],h=>by simp at h
 |a::x,b::y,h=>by
  show (if a=b then dP (x++[c]) (y++[d])else b::dP (x++[c]) (y++[d]))=(if a=b then dP x y else b::dP x y)++_;rw [ve c d x y (by simpa using h)]
  by_cases e:a=b<;>simp [e]
theorem wo:∀x y:List Int,(JZ x y).length=oC x y
 |[],_=>rfl
 |_::_,[]=>rfl
 |a::x,b::y=>by
  unfold JZ oC
  by_cases h:a=b
  · rw [if_pos h,if_pos h,zC,wo x y];omega
  · rw [if_neg h,if_neg h,wo x y];omega
theorem vf:∀x y:List Int,x.length=y.length->x.Perm (JZ x y++cA x y)
 |[],[],_=>.nil
 |[],_::_,h=>by simp at h
 |_::_,[],h=>by simp at h
 |a::x,b::y,h=>by
  have ih:=vf x y (by simpa using h)
  unfold JZ cA
  by_cases e:a=b
  · rw [if_pos e,if_pos e,Q1];exact ih.cons a
  · rw [if_neg e,if_neg e];exact(ih.cons a).trans List.perm_middle.symm
theorem vg:∀x y:List Int,x.length=y.length->y.Perm (JZ x y++dP x y)
 |[],[],_=>.nil
 |[],_::_,h=>by simp at h
 |_::_,[],h=>by simp at h
 |a::x,b::y,h=>by
  have ih:=vg x y (by simpa using h)
  unfold JZ dP
  by_cases e:a=b
  · rw [if_pos e,if_pos e,Q1, <-e];exact ih.cons a
  · rw [if_neg e,if_neg e];exact(ih.cons b).trans List.perm_middle.symm
noncomputable def iG(h g:List Int):List Int:=[(oC h g:Int),(bC h g:Int) - (oC h g:Int)]
noncomputable def gF(h g:List Int):List Int:=[(oC h g:Int),(bC (dP h g) (cA h g):Int)]
theorem yC {h g:List Int}(l:h.length=g.length):bC h g=oC h g+bC (cA h g) (dP h g):=by
 rw [rT g (vf h g l),jd (vg h g l),vc,wo]
theorem Bh {h g:List Int}(l:h.length=g.length):iG h g=gF h g:=by
 unfold iG gF;rw [yC l,jx (cA h g) (dP h g)];congr 1
 congr 1
 have:=jx (dP h g) (cA h g);omega
theorem En:∀x y:List Int,x.length=y.length->oC x y<=x.length
 |[],[],_=>Q2 _
 |[],_::_,h=>by simp at h
 |_::_,[],h=>by simp at h
 |a::x,b::y,h=>by
  have:=En x y (by simpa using h)
  unfold oC;split<;>simp<;>omega
theorem wq:∀x y:List Int,x.length=y.length->(oC x y=x.length↔x=y)
 |[],[],_=>by simp [oC]
 |[],_::_,h=>by simp at h
 |_::_,[],h=>by simp at h
 |a::x,b::y,h=>by
  have l:x.length=y.length:=by simpa using h
  have ih:=wq x y l;have le:=En x y l;unfold oC
  by_cases e:a=b
  · subst e;rw [if_pos rfl,zC]
    constructor
    · intro q;rw [ih.mp (by omega)]
    · intro q;have:=ih.mpr (List.cons.inj q).2;omega
  · rw [if_neg e,zC]
    constructor
    · intro q;omega
    · intro q;exact absurd (List.cons.inj q).1 e
theorem sw:∀x y:List Int,x.length=y.length->oC x y+(cA x y).length=x.length
 |[],[],_=>rfl
 |[],_::_,h=>by simp at h
 |_::_,[],h=>by simp at h
 |a::x,b::y,h=>by
  have ih:=sw x y (by simpa using h)
  unfold oC cA;split<;>simp<;>omega
theorem sy:∀x y:List Int,x.length=y.length->(dP x y).length=(cA x y).length
 |[],[],_=>rfl
 |[],_::_,h=>by simp at h
 |_::_,[],h=>by simp at h
 |a::x,b::y,h=>by
  have ih:=sy x y (by simpa using h)
  unfold dP cA
  by_cases e:a=b
  · rw [if_pos e,if_pos e];exact ih
  · rw [if_neg e,if_neg e,zC,zC,ih]
theorem vh:∀x y:List Int,x.length=y.length->(cA x y).length=1->bC (dP x y) (cA x y)=0
 |[],[],_,h=>by simp [cA]at h
 |[],_::_,h,_=>by simp at h
 |_::_,[],h,_=>by simp at h
 |a::x,b::y,h,h1=>by
  have l:x.length=y.length:=by simpa using h
  unfold cA at h1;unfold dP cA
  by_cases e:a=b
  · rw [if_pos e]at h1;rw [if_pos e,if_pos e];exact vh x y l h1
  · rw [if_neg e]at h1;rw [if_neg e,if_neg e];have m0:cA x y=[]:=by
     cases q:cA x y with
     |nil=>rfl
     |cons z r=>rw [q]at h1;simp at h1
    have t0:dP x y=[]:=by
     have:=sy x y l;rw [m0]at this;cases q:dP x y with
     |nil=>rfl
     |cons z r=>rw [q]at this;simp at this
    rw [m0,t0];unfold bC;rw [if_neg (by simpa using e)]
    rfl
theorem yD {h g:List Int}(l:h.length=g.length):(oC h g:Int)+(bC (dP h g) (cA h g):Int)<=h.length/\gF h g≠[(h.length:Int) - 1,1]/\(gF h g=[(h.length:Int),0]↔h=g):=by
 have e1:=sw h g l;have e2:=ii (dP h g) (cA h g);refine⟨by omega,λq=>?_,?_,?_⟩
 · unfold gF at q;injection q with q1 q2
   injection q2 with q2 _
   have:(cA h g).length=1:=by omega
   have:=vh h g l this;omega
 · intro q;unfold gF at q;injection q with q1 _
   exact(wq h g l).mp (by omega)
 · intro q;subst q;have:oC h h=h.length:=(wq h h rfl).mpr rfl;unfold gF;have:bC (dP h h) (cA h h)=0:=by omega
   rw [this];congr 1
   omega
end GC
namespace DL
open PySem PySem.Spec PyProof.Rows L2
noncomputable abbrev St:=L2.St
noncomputable def kD:cK->PyData
 | .inl i=>.int i
 | .inr x=>.str x
noncomputable def tD(ns:List Int):PyData:=.dict [(.none,.list (ns.map .int))]
mutual
noncomputable def Is(K:Fg)(H:Hp)(x:V):PyData->Prop
 | .none=>x=.non
 | .bool b=>x=.bl b
 | .int i=>x=.int i
 | .str y=>x=.str y
 | .list ds=>∃a xs,x=.ref a/\H a=some (.lst xs)/\Are K H xs ds
 | .tuple ds=>∃a xs,x=.ref a/\H a=some (.tup xs)/\Are K H xs ds
 | .dict kvs=>∃a,x=.ref a/\((∃ns:List Int,kvs=[(.none,.list (ns.map .int))]/\SqL K H a (ns.map V.int))\/(∃m,H a=some (.dT m)/\Kvs K H m kvs)\/(∃nm:Str,kvs=[(.bool true,.str nm)]/\PySem.W.nsIn K mainGlobals nm=some (some (.ref a)))\/∃m,H a=some (.dK m)/\KvsS K H m kvs)
noncomputable def Are(K:Fg)(H:Hp)(xs:List V):List PyData->Prop
 |[]=>xs=[]
 |d::ds=>∃x r,xs=x::r/\Is K H x d/\Are K H r ds
noncomputable def Kvs(K:Fg)(H:Hp)(m:List (List cK×V)):List (PyData×PyData)->Prop
 |[]=>m=[]
 |p::r=>∃q m',m=q::m'/\Kv K H q p/\Kvs K H m' r
noncomputable def Kv(K:Fg)(H:Hp)(q:List cK×V):PyData×PyData->Prop
 |(k,d)=>k=.tuple (q.1.map kD)/\Is K H q.2 d
noncomputable def KvsS(K:Fg)(H:Hp)(m:List (cK×V)):List (PyData×PyData)->Prop
 |[]=>False
 |p::r=>p=(.none,.none)/\KvsI K H m r
noncomputable def KvsI(K:Fg)(H:Hp)(m:List (cK×V)):List (PyData×PyData)->Prop
 |[]=>m=[]
 |p::r=>∃q m',m=q::m'/\KvI K H q p/\KvsI K H m' r
noncomputable def KvI(K:Fg)(H:Hp)(q:cK×V):PyData×PyData->Prop
 |(k,d)=>k=kD q.1/\Is K H q.2 d
end
mutual
theorem Is.same {K:Fg}{H H':Hp}(s:Same H H'):∀{x:V} (d:PyData),Is K H x d->Is K H' x d
 |_,.none,h=>h
 |_,.bool _,h=>h
 |_,.int _,h=>h
 |_,.str _,h=>h
 |_,.list ds,h=>by
  obtain⟨a,xs,e,q,r⟩:=h;exact⟨a,xs,e,s _ _ q,Are.same s ds r⟩
 |_,.tuple ds,h=>by
  obtain⟨a,xs,e,q,r⟩:=h;exact⟨a,xs,e,s _ _ q,Are.same s ds r⟩
 |_,.dict kvs,h=>by
  obtain⟨a,e,h⟩:=h
  rcases h with ⟨ns,e1,q⟩|⟨m,q,r⟩|q
  · exact⟨a,e,.inl ⟨ns,e1,s.seq q⟩⟩
  · exact⟨a,e,.inr (.inl ⟨m,s _ _ q,Kvs.same s kvs r⟩)⟩
  · rcases q with q|⟨m,q,r⟩
    · exact⟨a,e,.inr (.inr (.inl q))⟩
    · exact⟨a,e,.inr (.inr (.inr ⟨m,s _ _ q,KvsS.same s kvs r⟩))⟩
theorem Are.same {K:Fg}{H H':Hp}(s:Same H H'):∀{xs:List V} (ds:List PyData),Are K H xs ds->Are K H' xs ds
 |_,[],h=>h
 |_,d::ds,h=>by
  obtain⟨x,r,e,q,t⟩:=h;exact⟨x,r,e,Is.same s d q,Are.same s ds t⟩
theorem Kvs.same {K:Fg}{H H':Hp}(s:Same H H'):∀{m:List (List cK×V)} (kvs:List (PyData×PyData)),Kvs K H m kvs->Kvs K H' m kvs
 |_,[],h=>h
 |_,p::r,h=>by
  obtain⟨q,m',e,h1,h2⟩:=h;exact⟨q,m',e,Kv.same s p h1,Kvs.same s r h2⟩
theorem Kv.same {K:Fg}{H H':Hp}(s:Same H H'):∀{q:List cK×V} (p:PyData×PyData),Kv K H q p->Kv K H' q p
 |_,(k,d),h=>⟨h.1,Is.same s d h.2⟩
theorem KvsS.same {K:Fg}{H H':Hp}(s:Same H H'):∀{m:List (cK×V)} (kvs:List (PyData×PyData)),KvsS K H m kvs->KvsS K H' m kvs
 |_,[],h=>h
 |_,p::r,h=>⟨h.1,KvsI.same s r h.2⟩
theorem KvsI.same {K:Fg}{H H':Hp}(s:Same H H'):∀{m:List (cK×V)} (kvs:List (PyData×PyData)),KvsI K H m kvs->KvsI K H' m kvs
 |_,[],h=>h
 |_,p::r,h=>by
  obtain⟨q,m',e,h1,h2⟩:=h;exact⟨q,m',e,KvI.same s p h1,KvsI.same s r h2⟩
theorem KvI.same {K:Fg}{H H':Hp}(s:Same H H'):∀{q:cK×V} (p:PyData×PyData),KvI K H q p->KvI K H' q p
 |_,(k,d),h=>⟨h.1,Is.same s d h.2⟩
end
def DcO(K:Fg)(F:Hp)(o:HO)(kvs:List (PyData×PyData)):Prop:=(∃m,o=.dT m/\Kvs K F m kvs)\/∃m,o=.dK m/\KvsS K F m kvs
theorem DcO.same {K:Fg}{F F':Hp}{o:HO}{kvs:List (PyData×PyData)}(s:Same F F')(h:DcO K F o kvs):DcO K F' o kvs:=
 h.imp (λ⟨m,e,q⟩=>⟨m,e,Kvs.same s _ q⟩) λ⟨m,e,q⟩=>⟨m,e,KvsS.same s _ q⟩
theorem DcO.ntup {K:Fg}{F:Hp}{o:HO}{kvs:List (PyData×PyData)}(h:DcO K F o kvs):∀xs,o≠ .tup xs:=λxs z=>by
 subst z
 rcases h with ⟨_,e,_⟩|⟨_,e,_⟩<;>cases e
theorem DcO.nlst {K:Fg}{F:Hp}{o:HO}{kvs:List (PyData×PyData)}(h:DcO K F o kvs):∀xs,o≠ .lst xs:=λxs z=>by
 subst z
 rcases h with ⟨_,e,_⟩|⟨_,e,_⟩<;>cases e
theorem DcO.is {K:Fg}{F:Hp}{o:HO}{kvs:List (PyData×PyData)}{a:Addr}(h:DcO K F o kvs)(e:F a=some o):Is K F (.ref a) (.dict kvs):=by
 rcases h with ⟨m,rfl,q⟩|⟨m,rfl,q⟩
 · exact⟨a,rfl,.inr (.inl ⟨m,e,q⟩)⟩
 · exact⟨a,rfl,.inr (.inr (.inr ⟨m,e,q⟩))⟩
theorem Are.length {K:Fg}{H:Hp}:∀{xs:List V} {ds:List PyData},Are K H xs ds->xs.length=ds.length
 |_,[],h=>by rw [show _=[]from h];rfl
 |_,d::ds,h=>by
  obtain⟨x,r,e,q,t⟩:=h;rw [e,zC,zC,Are.length t]
theorem Are.get {K:Fg}{H:Hp}:∀{xs:List V} {ds:List PyData} {i:Nat} {d:PyData},Are K H xs ds->ds[i]? =some d->∃x,xs[i]? =some x/\Is K H x d
 |_,[],_,_,_,e=>by simp at e
 |_,d::ds,0,_,h,e=>by
  obtain⟨x,r,e',q,t⟩:=h;simp at e;subst e;rw [e'];exact⟨x,rfl,q⟩
 |_,d::ds,i+1,d',h,e=>by
  obtain⟨x,r,e',q,t⟩:=h;obtain⟨y,h1,h2⟩:=Are.get (i:=i) (d:=d') t (by simpa using e)
  rw [e'];exact⟨y,by simpa using h1,h2⟩
theorem Are.get' {K:Fg}{H:Hp}{xs:List V}{ds:List PyData}{i:Nat}{x:V}(h:Are K H xs ds)(e:xs[i]? =some x):∃d,ds[i]? =some d/\Is K H x d:=by
 have hi:i < xs.length:=(Dx.mp e).1;have hl:=h.length;have hd:ds[i]? =some (ds[i]'(by omega)):=iF _
 obtain⟨y,h1,h2⟩:=h.get hd;rw [e]at h1;cases h1;exact⟨_,hd,h2⟩
theorem Are.append {K:Fg}{H:Hp}:∀{xs ys:List V} {ds es:List PyData},Are K H xs ds->Are K H ys es->Are K H (xs++ys) (ds++es)
 |_,ys,[],es,h,h'=>by rw [show _=[]from h];exact h'
 |_,ys,d::ds,es,h,h'=>by
  obtain⟨x,r,e,q,t⟩:=h;subst e;exact⟨x,r++ys,rfl,q,Are.append t h'⟩
theorem Are.one {K:Fg}{H:Hp}{x:V}{d:PyData}(h:Is K H x d):Are K H [x] [d]:=⟨x,[],rfl,h,rfl⟩
theorem Are.drop {K:Fg}{H:Hp}:∀(n:Nat) {xs:List V} {ds:List PyData},Are K H xs ds->Are K H (xs.drop n) (ds.drop n)
 |0,_,_,h=>h
 |n+1,_,[],h=>by rw [show _=[]from h];exact rfl
 |n+1,_,d::ds,h=>by
  obtain⟨x,r,e,q,t⟩:=h;subst e;exact Are.drop n t
theorem Are.take {K:Fg}{H:Hp}:∀(n:Nat) {xs:List V} {ds:List PyData},Are K H xs ds->Are K H (xs.take n) (ds.take n)
 |0,_,_,h=>rfl
 |n+1,_,[],h=>by rw [show _=[]from h];exact rfl
 |n+1,_,d::ds,h=>by
  obtain⟨x,r,e,q,t⟩:=h;subst e;exact⟨x,r.take n,rfl,q,Are.take n t⟩
theorem Are.ints {K:Fg}{H:Hp}:∀{ns:List Int} {xs:List V},Are K H xs (ns.map PyData.int)↔xs=ns.map V.int
 |[],xs=>Iff.rfl
 |n::ns,xs=>by
  constructor
  · intro h;obtain⟨x,r,e,q,t⟩:=h;rw [e,show x=V.int n from q,(Are.ints (ns:=ns)).mp t];rfl
  · intro e;subst e;exact⟨_,_,rfl,rfl,(Are.ints (ns:=ns)).mpr rfl⟩
theorem Are.bools {K:Fg}{H:Hp}:∀{ns:List Bool} {xs:List V},Are K H xs (ns.map PyData.bool)↔xs=ns.map V.bl
 |[],xs=>Iff.rfl
 |n::ns,xs=>by
  constructor
  · intro h;obtain⟨x,r,e,q,t⟩:=h;rw [e,show x=V.bl n from q,(Are.bools (ns:=ns)).mp t];rfl
  · intro e;subst e;exact⟨_,_,rfl,rfl,(Are.bools (ns:=ns)).mpr rfl⟩
structure Grow (F H F' H':Hp):Prop where
 f:Same F F'
 s:Same F' H'
 h:Same H H'
 o:∀a o,H a=some o->(∀xs,o≠ .tup xs)->F a=none->F' a=none
theorem Grow.refl {F H:Hp}(s:Same F H):Grow F H F H:=⟨Same.refl _,s,Same.refl _,λ_ _ _ _ h=>h⟩
theorem Grow.trans {F H F1 H1 F2 H2:Hp}(a:Grow F H F1 H1)(b:Grow F1 H1 F2 H2):Grow F H F2 H2:=
 ⟨a.f.trans b.f,b.s,a.h.trans b.h,λc o e t n=>b.o c o (a.h c o e) t (a.o c o e t n)⟩
theorem Eo {F H:Hp}{p:Addr}{o:HO}(s:Same F H):Same (bH F p o) (bH H p o):=λb u e=>by
 by_cases hb:b=p
 · subst hb;rw [aT]at e ⊢;exact e
 · rw [aN hb]at e ⊢;exact s b u e
theorem Grow.new {F H:Hp}{p:Addr}{o:HO}(s:Same F H)(hp:H p=none):Grow F H (bH F p o) (bH H p o):=
 ⟨bv (s.free hp) o,Eo s,bv hp o,λa u e t n=>by rw [aN (aR e hp)];exact n⟩
theorem Grow.fresh {F H:Hp}{p:Addr}{o:HO}(s:Same F H)(hp:H p=none):Grow F H F (bH H p o):=
 ⟨Same.refl _,s.trans (bv hp o),bv hp o,λ_ _ _ _ n=>n⟩
theorem Grow.frz {F H F' H':Hp}{p:Addr}{o:HO}(g:Grow F H F' H')(hp:H p=none)(hf:F' p=none)(hh:H' p=some o):Grow F H (bH F' p o) H':=
 ⟨g.f.trans (bv hf o), λ b u e => by
  by_cases hb:b=p
  · subst hb;rw [aT]at e;rw [hh];exact e
  · rw [aN hb]at e;exact g.s b u e,g.h,λa u e t n=>by rw [aN (aR e hp)];exact g.o a u e t n⟩
inductive Sl where
 |fz (d:PyData)
 |ow (ds:List PyData)
 |od (kvs:List (PyData×PyData))
noncomputable abbrev aQ:=List (Option Sl)
noncomputable def Lp:Expr->Option Pos
 | .Call _ _ [kw] _=>match kw.value with
  | .Lambda _ _ _ pos=>some pos
  |_=>none
 |_=>none
noncomputable def NK:Stmt->Option Pos
 | .Return (some e) _=>Lp e
 | .Assign _ e _=>Lp e
 |_=>none
noncomputable def J6(fd:FuncData):Option (Array Value):=match fd.body with
 | .stmts b=>(b.findSome? NK).map λpos=> #[rawInt pos.line,rawInt pos.col,.str (fd.qualname++ ".<locals>."++ "<lambda>") 0]
 |_=>none
def Lq(K:Fg)(a:Addr)(ps:Array Value):Prop:=∃(f:Addr) (oc:Value) (od:Option Addr) (fd:FuncData) (sl:Array (Option Value)) (c:Addr),K.lookup f=some ⟨oc,od,.func fd,sl⟩/\fd.code=.ref c/\PySem.W.codeHdIn K c a=true/\J6 fd=some ps
def Tb(K:Fg)(F:Hp):Prop:=∀a ps,Lq K a ps->F a=some (.tbl ps)
theorem Tb.same {K:Fg}{F F':Hp}(t:Tb K F)(s:Same F F'):Tb K F':=λa ps h=>s _ _ (t a ps h)
def lH(K:Fg)(F H:Hp):Prop:=Same F H/\Tb K F
structure Rep (K:Fg) (H0 F0 F:Hp) (σ:St) (H:Hp) (δ:aQ):Prop where
 g:Grow F0 H0 F H
 len:σ.length=δ.length
 fz:∀(i:Nat) (d:PyData),δ[i]? =some (some (.fz d))->∃v,σ[i]? =some (some v)/\Is K F v d
 ow:∀(i:Nat) (ds:List PyData),δ[i]? =some (some (.ow ds))->∃a xs,σ[i]? =some (some (.ref a))/\H a=some (.lst xs)/\F a=none/\H0 a=none/\Are K F xs ds
 ap:∀(i j:Nat) (ds es:List PyData) (a:Addr),δ[i]? =some (some (.ow ds))->δ[j]? =some (some (.ow es))->σ[i]? =some (some (.ref a))->σ[j]? =some (some (.ref a))->i=j
 od:∀(i:Nat) (kvs:List (PyData×PyData)),δ[i]? =some (some (.od kvs))->∃a o,σ[i]? =some (some (.ref a))/\H a=some o/\F a=none/\H0 a=none/\DcO K F o kvs
 ad:∀(i j:Nat) (ds es:List (PyData×PyData)) (a:Addr),δ[i]? =some (some (.od ds))->δ[j]? =some (some (.od es))->σ[i]? =some (some (.ref a))->σ[j]? =some (some (.ref a))->i=j
 tb:Tb K F
section
variable {K:Fg} {H0 F0 F F':Hp} {σ:St} {H H':Hp} {δ:aQ}
theorem Rep.grow(R:Rep K H0 F0 F σ H δ)(g:Grow F H F' H'):Rep K H0 F0 F' σ H' δ where
 g:=R.g.trans g
 len:=R.len
 fz:=λi d e=>let ⟨v,h1,h2⟩:=R.fz i d e;⟨v,h1,h2.same g.f⟩
 ow:=λi ds e=>let ⟨a,xs,h1,h2,h3,h4,h5⟩:=R.ow i ds e;⟨a,xs,h1,g.h _ _ h2,g.o _ _ h2 (λ_ z=>nomatch z) h3,h4,h5.same g.f⟩
 ap:=R.ap
 od:=λi ds e=>let ⟨a,m,h1,h2,h3,h4,h5⟩:=R.od i ds e;⟨a,m,h1,g.h _ _ h2,g.o _ _ h2 h5.ntup h3,h4,h5.same g.f⟩
 ad:=R.ad
 tb:=R.tb.same g.f
theorem ae {α:Type}{l:List α}{i j:Nat}{x y:α}(h:(l.set i x)[j]? =some y):(j=i/\y=x)\/(j≠i/\l[j]? =some y):=by
 rw [List.getElem?_set]at h;split at h
 · rename_i e;split at h
   · exact .inl ⟨e.symm,(zV h).symm⟩
   · cases h
 · rename_i e;exact .inr ⟨λz=>e z.symm,h⟩
theorem jz {α:Type}{l:List α}{i:Nat}{x:α}(h:i < l.length):(l.set i x)[i]? =some x:=by
 rw [List.getElem?_set,if_pos rfl,if_pos h]
theorem aa {α:Type}{l:List α}{i j:Nat}{x:α}(h:j≠i):(l.set i x)[j]? =l[j]? :=by
 rw [List.getElem?_set,if_neg (λz=>h z.symm)]
theorem eW {α:Type}{l:List α}{i:Nat}{x:α}(h:l[i]? =some x):i < l.length:=(Dx.mp h).1
theorem Rep.set(R:Rep K H0 F0 F σ H δ){i:Nat}{v:V}{d:PyData}(h:Is K F v d):Rep K H0 F0 F (σ.set i (some v)) H (δ.set i (some (.fz d))) where
 g:=R.g
 len:=by rw [Qc,Qc];exact R.len
 fz:=λj e q=>by
  have hj:=eW q;rw [Qc]at hj
  rcases ae q with ⟨rfl,z⟩|⟨n,q⟩
  · injection z with z
    injection z with z
    subst z;exact⟨v,jz (by rw [R.len];exact hj),h⟩
  · rw [aa n];exact R.fz j e q
 ow:=λj ds q=>by
  rcases ae q with ⟨rfl,z⟩|⟨n,q⟩
  · cases z
  · rw [aa n];exact R.ow j ds q
 ap:=λj k ds es a q1 q2 q3 q4=>by
  rcases ae q1 with ⟨rfl,z⟩|⟨n1,q1⟩
  · cases z
  · rcases ae q2 with ⟨rfl,z⟩|⟨n2,q2⟩
    · cases z
    · rw [aa n1]at q3;rw [aa n2]at q4;exact R.ap j k ds es a q1 q2 q3 q4
 od:=λj ds q=>by
  rcases ae q with ⟨rfl,z⟩|⟨n,q⟩
  · cases z
  · rw [aa n];exact R.od j ds q
 ad:=λj k ds es a q1 q2 q3 q4=>by
  rcases ae q1 with ⟨rfl,z⟩|⟨n1,q1⟩
  · cases z
  · rcases ae q2 with ⟨rfl,z⟩|⟨n2,q2⟩
    · cases z
    · rw [aa n1]at q3;rw [aa n2]at q4;exact R.ad j k ds es a q1 q2 q3 q4
 tb:=R.tb
theorem Rep.setO(R:Rep K H0 F0 F σ H δ){i:Nat}{a:Addr}{xs:List V}{ds:List PyData}(ha:H a=some (.lst xs))(hf:F a=none)(h0:H0 a=none)(h:Are K F xs ds)
 (hn:∀j es,j≠i->δ[j]? =some (some (.ow es))->σ[j]? ≠some (some (.ref a))):Rep K H0 F0 F (σ.set i (some (.ref a))) H (δ.set i (some (.ow ds))) where
 g:=R.g
 len:=by rw [Qc,Qc];exact R.len
 fz:=λj e q=>by
  rcases ae q with ⟨rfl,z⟩|⟨n,q⟩
  · cases z
  · rw [aa n];exact R.fz j e q
 ow:=λj es q=>by
  have hj:=eW q;rw [Qc]at hj
  rcases ae q with ⟨rfl,z⟩|⟨n,q⟩
  · injection z with z
    injection z with z
    subst z;exact⟨a,xs,jz (by rw [R.len];exact hj),ha,hf,h0,h⟩
  · rw [aa n];exact R.ow j es q
 ap:=λj k ds' es' b q1 q2 q3 q4=>by
  have hj:=eW q1;have hk:=eW q2;rw [Qc]at hj hk
  rcases ae q1 with ⟨ej,z⟩|⟨n1,p1⟩
  · rcases ae q2 with ⟨ek,z2⟩|⟨n2,p2⟩
    · rw [ej,ek]
    · rw [ej,jz (by rw [R.len, <-ej];exact hj)]at q3
      rw [aa n2]at q4;cases q3;exact absurd q4 (hn k es' n2 p2)
  · rcases ae q2 with ⟨ek,z⟩|⟨n2,p2⟩
    · rw [ek,jz (by rw [R.len, <-ek];exact hk)]at q4
      rw [aa n1]at q3;cases q4;exact absurd q3 (hn j ds' n1 p1)
    · rw [aa n1]at q3;rw [aa n2]at q4;exact R.ap j k ds' es' b p1 p2 q3 q4
 od:=λj ds q=>by
  rcases ae q with ⟨rfl,z⟩|⟨n,q⟩
  · cases z
  · rw [aa n];exact R.od j ds q
 ad:=λj k ds es a q1 q2 q3 q4=>by
  rcases ae q1 with ⟨rfl,z⟩|⟨n1,q1⟩
  · cases z
  · rcases ae q2 with ⟨rfl,z⟩|⟨n2,q2⟩
    · cases z
    · rw [aa n1]at q3;rw [aa n2]at q4;exact R.ad j k ds es a q1 q2 q3 q4
 tb:=R.tb
theorem Rep.mut(R:Rep K H0 F0 F σ H δ){i:Nat}{a:Addr}{xs:List V}{es ds:List PyData}(e:δ[i]? =some (some (.ow es)))(hs:σ[i]? =some (some (.ref a)))(hf:F a=none)(h0:H0 a=none)(h:Are K F xs ds):
 Rep K H0 F0 F σ (bH H a (.lst xs)) (δ.set i (some (.ow ds))) where
 g:=⟨R.g.f,λb u q=>by rw [aN (aR q hf)];exact R.g.s b u q,λb u q=>by rw [aN (aR q h0)];exact R.g.h b u q,R.g.o⟩
 len:=by rw [Qc];exact R.len
 fz:=λj d q=>by
  rcases ae q with ⟨rfl,z⟩|⟨n,q⟩
  · cases z
  · exact R.fz j d q
 ow:=λj us q=>by
  rcases ae q with ⟨rfl,z⟩|⟨n,q⟩
  · injection z with z
    injection z with z
    subst z;exact⟨a,xs,hs,aT,hf,h0,h⟩
  · obtain⟨b,ys,q1,q2,q3,q4,q5⟩:=R.ow j us q;have nb:b≠a:=λz=>by subst z;exact n (R.ap j i us es b q e q1 hs)
    exact⟨b,ys,q1,by rw [aN nb];exact q2,q3,q4,q5⟩
 ap:=λj k ds' es' b q1 q2 q3 q4=>by
  have f:∀{m:Nat} {us:List PyData},(δ.set i (some (Sl.ow ds)))[m]? =some (some (Sl.ow us))->∃us':List PyData,δ[m]? =some (some (Sl.ow us')):=λ{m us} q=>by
   rcases ae q with ⟨em,z⟩|⟨n,q⟩
   · exact⟨es,by rw [em];exact e⟩
   · exact⟨us,q⟩
  obtain⟨u1,p1⟩:=f q1;obtain⟨u2,p2⟩:=f q2;exact R.ap j k u1 u2 b p1 p2 q3 q4
 od:=λj us q=>by
  rcases ae q with ⟨rfl,z⟩|⟨n,q⟩
  · cases z
  · obtain⟨b,m,q1,q2,q3,q4,q5⟩:=R.od j us q;have nb:b≠a:=λz=>by
     subst z;obtain⟨b2,ys,w1,w2,_⟩:=R.ow i es e;rw [hs]at w1;cases w1;rw [q2]at w2;exact q5.nlst _ (zV w2)
    exact⟨b,m,q1,by rw [aN nb];exact q2,q3,q4,q5⟩
 ad:=λj k ds' es' b q1 q2 q3 q4=>by
  rcases ae q1 with ⟨rfl,z⟩|⟨n1,q1⟩
  · cases z
  · rcases ae q2 with ⟨rfl,z⟩|⟨n2,q2⟩
    · cases z
    · exact R.ad j k ds' es' b q1 q2 q3 q4
 tb:=R.tb
noncomputable def frz(i:Nat)(δ:aQ):aQ:=match δ[i]? with
 |some (some (.ow ds))=>δ.set i (some (.fz (.list ds)))
 |some (some (.od kvs))=>δ.set i (some (.fz (.dict kvs)))
 |_=>δ
theorem Rep.frz(R:Rep K H0 F0 F σ H δ)(i:Nat):∃F',Same F F'/\Rep K H0 F0 F' σ H (frz i δ):=by
 unfold DL.frz;split
 · rename_i ds e;obtain⟨a,xs,q1,q2,q3,q4,q5⟩:=R.ow i ds e;have g:=R.g.frz (p:=a) (o:=.lst xs) q4 q3 q2;have sF:Same F (bH F a (.lst xs)):=bv q3 _;refine⟨bH F a (.lst xs),sF,g,by rw [Qc];exact R.len,λj d q=>?_,λj us q=>?_,λj k ds' es' b p1 p2 p3 p4=>?_,λj us q=>?_,λj k ds' es' b p1 p2 p3 p4=>?_,R.tb.same sF⟩
   · rcases ae q with ⟨rfl,z⟩|⟨n,q⟩
     · injection z with z
       injection z with z
       subst z;exact⟨.ref a,q1,a,xs,rfl,aT,q5.same sF⟩
     · obtain⟨v,h1,h2⟩:=R.fz j d q;exact⟨v,h1,h2.same sF⟩
   · rcases ae q with ⟨rfl,z⟩|⟨n,q⟩
     · cases z
     · obtain⟨b,ys,h1,h2,h3,h4,h5⟩:=R.ow j us q;have nb:b≠a:=λz=>by subst z;exact n (R.ap j i us ds b q e h1 q1)
       exact⟨b,ys,h1,h2,by rw [aN nb];exact h3,h4,h5.same sF⟩
   · rcases ae p1 with ⟨rfl,z⟩|⟨n1,p1⟩
     · cases z
     · rcases ae p2 with ⟨rfl,z⟩|⟨n2,p2⟩
       · cases z
       · exact R.ap j k ds' es' b p1 p2 p3 p4
   · rcases ae q with ⟨rfl,z⟩|⟨n,q⟩
     · cases z
     · obtain⟨b,m,h1,h2,h3,h4,h5⟩:=R.od j us q;have nb:b≠a:=λz=>by
        subst z;rw [q2]at h2;exact h5.nlst _ (zV h2).symm
       exact⟨b,m,h1,h2,by rw [aN nb];exact h3,h4,h5.same sF⟩
   · rcases ae p1 with ⟨rfl,z⟩|⟨n1,p1⟩
     · cases z
     · rcases ae p2 with ⟨rfl,z⟩|⟨n2,p2⟩
       · cases z
       · exact R.ad j k ds' es' b p1 p2 p3 p4
 · rename_i kvs e;obtain⟨a,m,q1,q2,q3,q4,q5⟩:=R.od i kvs e;have g:=R.g.frz (p:=a) (o:=m) q4 q3 q2;have sF:Same F (bH F a m):=bv q3 _;refine⟨bH F a m,sF,g,by rw [Qc];exact R.len,λj d q=>?_,λj us q=>?_,λj k ds' es' b p1 p2 p3 p4=>?_,λj us q=>?_,λj k ds' es' b p1 p2 p3 p4=>?_,R.tb.same sF⟩
   · rcases ae q with ⟨rfl,z⟩|⟨n,q⟩
     · injection z with z
       injection z with z
       subst z;exact⟨.ref a,q1,(q5.same sF).is aT⟩
     · obtain⟨v,h1,h2⟩:=R.fz j d q;exact⟨v,h1,h2.same sF⟩
   · rcases ae q with ⟨rfl,z⟩|⟨n,q⟩
     · cases z
     · obtain⟨b,ys,h1,h2,h3,h4,h5⟩:=R.ow j us q;have nb:b≠a:=λz=>by
        subst z;rw [q2]at h2;exact q5.nlst _ (zV h2)
       exact⟨b,ys,h1,h2,by rw [aN nb];exact h3,h4,h5.same sF⟩
   · rcases ae p1 with ⟨rfl,z⟩|⟨n1,p1⟩
     · cases z
     · rcases ae p2 with ⟨rfl,z⟩|⟨n2,p2⟩
       · cases z
       · exact R.ap j k ds' es' b p1 p2 p3 p4
   · rcases ae q with ⟨rfl,z⟩|⟨n,q⟩
     · cases z
     · obtain⟨b,m2,h1,h2,h3,h4,h5⟩:=R.od j us q;have nb:b≠a:=λz=>by subst z;exact n (R.ad j i us kvs b q e h1 q1)
       exact⟨b,m2,h1,h2,by rw [aN nb];exact h3,h4,h5.same sF⟩
   · rcases ae p1 with ⟨rfl,z⟩|⟨n1,p1⟩
     · cases z
     · rcases ae p2 with ⟨rfl,z⟩|⟨n2,p2⟩
       · cases z
       · exact R.ad j k ds' es' b p1 p2 p3 p4
 · exact⟨F,Same.refl _,R⟩
theorem Rep.weak(R:Rep K H0 F0 F σ H δ){δ':aQ}(l:δ'.length=δ.length)(w:∀(i:Nat) s,δ'[i]? =some (some s)->δ[i]? =some (some s)):Rep K H0 F0 F σ H δ':=
 ⟨R.g,by rw [R.len,l],λi d e=>R.fz i d (w i _ e),λi ds e=>R.ow i ds (w i _ e),λi j ds es a q1 q2=>R.ap i j ds es a (w i _ q1) (w j _ q2),λi ds e=>R.od i ds (w i _ e),λi j ds es a q1 q2=>R.ad i j ds es a (w i _ q1) (w j _ q2),R.tb⟩
end
section
variable (K:Fg)
def SE(te:TE)(f:aQ->Option PyData):Prop:=∀(H0 F0 F:Hp) (σ:St) (H:Hp) (δ:aQ) (d:PyData) (Q:VK),Rep K H0 F0 F σ H δ->f δ=some d->(∀v H' F',Grow F H F' H'->Is K F' v d->Q v H')->te σ H Q
def ST(tt:TT)(f:aQ->Option Bool):Prop:=∀(H0 F0 F:Hp) (σ:St) (H:Hp) (δ:aQ) (b:Bool) (Q:Bool->Hp->Prop),Rep K H0 F0 F σ H δ->f δ=some b->(∀H' F',Grow F H F' H'->Q b H')->tt σ H Q
def SA(ta:TA)(f:aQ->Option (List PyData)):Prop:=∀(H0 F0 F:Hp) (σ:St) (H:Hp) (δ:aQ) (ds:List PyData) (Q:List V->Hp->Prop),Rep K H0 F0 F σ H δ->f δ=some ds->(∀vs H' F',Grow F H F' H'->Are K F' vs ds->Q vs H')->ta σ H Q
def SO(te:TE)(f:aQ->Option (List PyData)):Prop:=∀(H0 F0 F:Hp) (σ:St) (H:Hp) (δ:aQ) (ds:List PyData) (Q:VK),Rep K H0 F0 F σ H δ->f δ=some ds->
 (∀a xs H' F',Grow F H F' H'->H a=none->F' a=none->H' a=some (.lst xs)->Are K F' xs ds->Q (.ref a) H')->te σ H Q
def vi(r:R2)(g:PyData->PyData->Option PyData):Prop:=∀(F H:Hp) (x y:V) (dx dy d:PyData) (Q:VK),Same F H->Is K F x dx->Is K F y dy->g dx dy=some d->(∀v H' F',Grow F H F' H'->Is K F' v d->Q v H')->r x y H Q
def tE(r:List V->Hp->VK->Prop)(g:List PyData->Option PyData):Prop:=∀(F H:Hp) (xs:List V) (ds:List PyData) (d:PyData) (Q:VK),Same F H->Are K F xs ds->g ds=some d->(∀v H' F',Grow F H F' H'->Is K F' v d->Q v H')->r xs H Q
end
noncomputable def aF(i:Nat)(δ:aQ):Option PyData:=match δ[i]? with
 |some (some (.fz d))=>some d
 |_=>none
noncomputable def dC(d:PyData)(_:aQ):Option PyData:=some d
noncomputable def d2(g:PyData->PyData->Option PyData)(fa fb:aQ->Option PyData)(δ:aQ):Option PyData:=(fa δ).bind λa=>(fb δ).bind λb=>g a b
noncomputable def cI(g:List PyData->Option PyData)(fs:aQ->Option (List PyData))(δ:aQ):Option PyData:=(fs δ).bind g
noncomputable def aK(_:aQ):Option (List PyData):=some []
noncomputable def aB(f:aQ->Option PyData)(fs:aQ->Option (List PyData))(δ:aQ):Option (List PyData):=(f δ).bind λd=>(fs δ).bind λds=>some (d::ds)
theorem bind_some {α β:Type}{x:Option α}{f:α->Option β}{b:β}(h:x.bind f=some b):∃a,x=some a/\f a=some b:=by
 cases x with
 |none=>cases h
 |some a=>exact⟨a,rfl,h⟩
section
variable {K:Fg} {ta tb te:TE} {fa fb f:aQ->Option PyData}
theorem SO.se {fo:aQ->Option (List PyData)}(h:SO K te fo):SE K te (λδ=>(fo δ).map PyData.list):=by
 intro H0 F0 F σ H δ d Q R e k;obtain⟨ds,e1,e2⟩:=Q0.mp e;subst e2;refine h H0 F0 F σ H δ ds Q R e1 λa xs H' F' g h0 hf ha ar=>?_;exact k (.ref a) H' _ (g.frz h0 hf ha) ⟨a,xs,rfl,aT,ar.same (bv hf _)⟩
theorem aE(i:Nat):SE K (au i) (aF i):=by
 intro H0 F0 F σ H δ d Q R e h;unfold aF at e;split at e
 · rename_i d' q;cases e;obtain⟨v,hv,is⟩:=R.fz i d q;exact⟨v,hv,h v H F (Grow.refl R.g.s) is⟩
 · cases e
theorem Hk {v:V}{d:PyData}(h:∀H,Is K H v d):SE K (tC v) (dC d):=λH0 F0 F σ H δ d' Q R e k=>by
 cases e;exact k v H F (Grow.refl R.g.s) (h F)
theorem aP {n:Int}:SE K (tC (.int n)) (dC (.int n)):=Hk λ_=>rfl
theorem lI {b:Bool}:SE K (tC (.bl b)) (dC (.bool b)):=Hk λ_=>rfl
theorem A3:SE K (tC .non) (dC .none):=Hk λ_=>rfl
theorem A4 {x:Str}:SE K (tC (.str x)) (dC (.str x)):=Hk λ_=>rfl
theorem aU {r:R2}{g:PyData->PyData->Option PyData}(o:vi K r g)(a:SE K ta fa)(b:SE K tb fb):SE K (HH r ta tb) (d2 g fa fb):=by
 intro H0 F0 F σ H δ d Q R e h;obtain⟨dx,ex,e⟩:=bind_some e;obtain⟨dy,ey,e⟩:=bind_some e;refine a H0 F0 F σ H δ dx _ R ex λv H1 F1 g1 i1=>b H0 F0 F1 σ H1 δ dy _ (R.grow g1) ey λw H2 F2 g2 i2=>?_;exact o F2 H2 v w dx dy d Q g2.s (i1.same g2.f) i2 e λv' H3 F3 g3 i3=>h v' H3 F3 (g1.trans (g2.trans g3)) i3
theorem aL:SA K dZ aK:=λH0 F0 F σ H δ ds Q R e h=>by cases e;exact h [] H F (Grow.refl R.g.s) rfl
theorem aD {t:TA}{fs:aQ->Option (List PyData)}(a:SE K te f)(b:SA K t fs):SA K (bG te t) (aB f fs):=by
 intro H0 F0 F σ H δ ds Q R e h;obtain⟨dx,ex,e⟩:=bind_some e;obtain⟨dy,ey,e⟩:=bind_some e;cases e;refine a H0 F0 F σ H δ dx _ R ex λv H1 F1 g1 i1=>b H0 F0 F1 σ H1 δ dy _ (R.grow g1) ey λvs H2 F2 g2 i2=>?_;exact h (v::vs) H2 F2 (g1.trans g2) ⟨v,vs,rfl,i1.same g2.f,i2⟩
theorem bi {r:List V->Hp->VK->Prop}{g:List PyData->Option PyData}{t:TA}{fs:aQ->Option (List PyData)}(o:tE K r g)(a:SA K t fs):SE K (KH r t) (cI g fs):=by
 intro H0 F0 F σ H δ d Q R e h;obtain⟨ds,ex,e⟩:=bind_some e;refine a H0 F0 F σ H δ ds _ R ex λvs H1 F1 g1 i1=>?_;exact o F1 H1 vs ds d Q g1.s i1 e λv H2 F2 g2 i2=>h v H2 F2 (g1.trans g2) i2
noncomputable def fh:Nat:=100000
theorem gG {n:Nat}(h:n<=fh):n<=sizeLine:=Qe h (by decide)
theorem nP {n:Nat}(h:n<=fh):n < sizeLine:=Nat.lt_of_le_of_lt h (by decide)
noncomputable def eh(fs:aQ->Option (List PyData))(δ:aQ):Option PyData:=(fs δ).bind λds=>if ds.length<=fh then some (.tuple ds)else none
noncomputable def bd(fs:aQ->Option (List PyData))(δ:aQ):Option (List PyData):=(fs δ).bind λds=>if ds.length<=fh then some ds else none
noncomputable def bw(fo:aQ->Option (List PyData))(δ:aQ):Option PyData:=(fo δ).map PyData.list
theorem gi {t:TA}{fs:aQ->Option (List PyData)}(a:SA K t fs):SE K (HN t) (eh fs):=by
 intro H0 F0 F σ H δ d Q R e h;obtain⟨ds,ex,e⟩:=bind_some e;split at e
 · rename_i hl;cases e;refine a H0 F0 F σ H δ ds _ R ex λvs H1 F1 g1 i1=>⟨by rw [i1.length];exact gG hl,λp hp=>?_⟩
   refine h (.ref p) _ _ (g1.trans (Grow.new g1.s hp)) ⟨p,vs,rfl,aT,i1.same (bv (g1.s.free hp) _)⟩
 · cases e
theorem dq {t:TA}{fs:aQ->Option (List PyData)}(a:SA K t fs):SO K (oH t) (bd fs):=by
 intro H0 F0 F σ H δ d Q R e h;obtain⟨ds,ex,e⟩:=bind_some e;split at e
 · rename_i hl;cases e;refine a H0 F0 F σ H δ d _ R ex λvs H1 F1 g1 i1=>⟨by rw [i1.length];exact gG hl,λp hp=>?_⟩
   have hp0:H p=none:=g1.h.free hp;exact h p vs _ F1 (g1.trans (Grow.fresh g1.s hp)) hp0 (g1.s.free hp) aT i1
 · cases e
theorem cP {fo:aQ->Option (List PyData)}(h:SO K te fo):SE K te (bw fo):=h.se
noncomputable def dB(f:aQ->Option PyData)(δ:aQ):Option Bool:=(f δ).bind λd=>match d with
 | .bool b=>some b
 |_=>none
noncomputable def rV:PyData->Option Bool
 | .none=>some false
 | .bool b=>some b
 | .int i=>some (i != 0)
 | .str y=>if y.length<=fh then some ((y.length:Int) != 0)else none
 | .list ds=>some (!ds.isEmpty)
 | .tuple ds=>some (!ds.isEmpty)
 | .dict _=>none
noncomputable def fY(f:aQ->Option PyData)(δ:aQ):Option Bool:=(f δ).bind rV
noncomputable def dS(f:aQ->Option Bool)(δ:aQ):Option Bool:=(f δ).map (!·)
noncomputable def Bi(f g:aQ->Option Bool)(δ:aQ):Option Bool:=(f δ).bind λb=>if b=true then g δ else some false
noncomputable def mQ(f g:aQ->Option Bool)(δ:aQ):Option Bool:=(f δ).bind λb=>if b=true then some true else g δ
noncomputable def jK(f g:aQ->Option PyData)(δ:aQ):Option PyData:=(dB f δ).bind λb=>if b=true then g δ else some (.bool false)
noncomputable def Hl(f g:aQ->Option PyData)(δ:aQ):Option PyData:=(dB f δ).bind λb=>if b=true then some (.bool true)else g δ
noncomputable def qy(f:aQ->Option PyData)(δ:aQ):Option PyData:=(dB f δ).map λb=>.bool (!b)
theorem sA {f:aQ->Option PyData}{δ:aQ}{b:Bool}(h:dB f δ=some b):f δ=some (.bool b):=by
 obtain⟨d,e,h⟩:=bind_some h;cases d<;>simp at h
 subst h;exact e
theorem aw(a:SE K ta fa):ST K (xo ta) (dB fa):=λH0 F0 F σ H δ b Q R e h=>
 a H0 F0 F σ H δ (.bool b) _ R (sA e) λv H1 F1 g1 i1=>⟨b,i1,h H1 F1 g1⟩
theorem qz {α β:Type}{xs:List α}{ys:List β}(h:xs.length=ys.length):(!xs.isEmpty)= !ys.isEmpty:=by
 cases xs<;>cases ys<;>simp at h<;>rfl
theorem Hm {F H:Hp}{v:V}{d:PyData}{b:Bool}(s:Same F H)(i:Is K F v d)(e:rV d=some b):HJ K v H b:=by
 cases d with
 |none=>rw [show v=.non from i];cases e;rfl
 |bool c=>rw [show v=.bl c from i];cases e;rfl
 |int c=>rw [show v=.int c from i];cases e;rfl
 |str c=>
  rw [show v=.str c from i]
  have e':(if c.length<=fh then some ((c.length:Int) != 0)else none)=some b:=e;split at e'
  · rename_i hl;cases e';exact⟨gG hl,rfl⟩
  · cases e'
 |list ds=>
  obtain⟨a,xs,rfl,h1,h2⟩:=i;cases e;exact .inl ⟨xs,SqL.of (s _ _ h1),(qz h2.length).symm⟩
 |tuple ds=>
  obtain⟨a,xs,rfl,h1,h2⟩:=i;cases e;exact .inr (.inl ⟨xs,SqT.of (s _ _ h1),(qz h2.length).symm⟩)
 |dict _=>cases e
theorem fM(a:SE K ta fa):ST K (Lm K ta) (fY fa):=λH0 F0 F σ H δ b Q R e h=>by
 obtain⟨d,e1,e2⟩:=bind_some e;exact a H0 F0 F σ H δ d _ R e1 λv H1 F1 g1 i1=>⟨b,Hm g1.s i1 e2,h H1 F1 g1⟩
variable {t u:TT} {c c':aQ->Option Bool}
theorem gH(a:ST K t c):ST K (L9 t) (dS c):=λH0 F0 F σ H δ b Q R e h=>by
 obtain⟨d,e1,e2⟩:=Q0.mp e;subst e2;exact a H0 F0 F σ H δ d _ R e1 λH1 F1 g1=>h H1 F1 g1
theorem KZ(a:ST K t c)(b:ST K u c'):ST K (L8 t u) (Bi c c'):=λH0 F0 F σ H δ b' Q R e h=>by
 obtain⟨d,e1,e2⟩:=bind_some e;refine a H0 F0 F σ H δ d _ R e1 λH1 F1 g1=>?_;cases d with
 |true=>exact mM (b H0 F0 F1 σ H1 δ b' _ (R.grow g1) e2 λH2 F2 g2=>h H2 F2 (g1.trans g2))
 |false=>cases e2;exact mL (h H1 F1 g1)
theorem oQ(a:ST K t c)(b:ST K u c'):ST K (NY t u) (mQ c c'):=λH0 F0 F σ H δ b' Q R e h=>by
 obtain⟨d,e1,e2⟩:=bind_some e;refine a H0 F0 F σ H δ d _ R e1 λH1 F1 g1=>?_;cases d with
 |true=>cases e2;exact mM (h H1 F1 g1)
 |false=>exact mL (b H0 F0 F1 σ H1 δ b' _ (R.grow g1) e2 λH2 F2 g2=>h H2 F2 (g1.trans g2))
theorem nQ(a:SE K ta fa)(b:SE K tb fb):SE K (JQ ta tb) (jK fa fb):=λH0 F0 F σ H δ d Q R e h=>by
 obtain⟨b',e1,e2⟩:=bind_some e;refine a H0 F0 F σ H δ _ _ R (sA e1) λv H1 F1 g1 i1=>⟨b',i1,?_⟩;cases b' with
 |true=>exact mM (b H0 F0 F1 σ H1 δ d _ (R.grow g1) e2 λv2 H2 F2 g2 i2=>h v2 H2 F2 (g1.trans g2) i2)
 |false=>cases e2;exact mL (h _ H1 F1 g1 rfl)
theorem Lr(a:SE K ta fa)(b:SE K tb fb):SE K (HG ta tb) (Hl fa fb):=λH0 F0 F σ H δ d Q R e h=>by
 obtain⟨b',e1,e2⟩:=bind_some e;refine a H0 F0 F σ H δ _ _ R (sA e1) λv H1 F1 g1 i1=>⟨b',i1,?_⟩;cases b' with
 |true=>cases e2;exact mM (h _ H1 F1 g1 rfl)
 |false=>exact mL (b H0 F0 F1 σ H1 δ d _ (R.grow g1) e2 λv2 H2 F2 g2 i2=>h v2 H2 F2 (g1.trans g2) i2)
theorem A5(a:SE K ta fa):SE K (B4 ta) (qy fa):=λH0 F0 F σ H δ d Q R e h=>by
 obtain⟨b',e1,e2⟩:=Q0.mp e;subst e2;exact a H0 F0 F σ H δ _ _ R (sA e1) λv H1 F1 g1 i1=>⟨b',i1,h _ H1 F1 g1 rfl⟩
end
inductive DFlow where
 |nx (δ:aQ)
 |rt (d:PyData)
 |ro (ds:List PyData)
 |bk (δ:aQ)
 |ct (δ:aQ)
noncomputable def Lands(K:Fg)(H0 F0 F:Hp)(D:Ends):DFlow->Prop
 | .nx δ=>∀F' σ H,Rep K H0 F0 F' σ H δ->Same F F'->D.nx σ H
 | .rt d=>∀F' v H,Grow F0 H0 F' H->Is K F' v d->D.rt v H
 | .ro ds=>∀F' a xs H,Grow F0 H0 F' H->H0 a=none->F' a=none->H a=some (.lst xs)->Are K F' xs ds->D.rt (.ref a) H
 | .bk δ=>∀F' σ H,Rep K H0 F0 F' σ H δ->Same F F'->D.bk σ H
 | .ct δ=>∀F' σ H,Rep K H0 F0 F' σ H δ->Same F F'->D.ct σ H
theorem Lands.up {K:Fg}{H0 F0 F F1:Hp}{D:Ends}(s:Same F F1):∀{r:DFlow},Lands K H0 F0 F D r->Lands K H0 F0 F1 D r
 | .nx δ,h=>λF' σ H R q=>h F' σ H R (s.trans q)
 | .rt d,h=>h
 | .ro ds,h=>h
 | .bk δ,h=>λF' σ H R q=>h F' σ H R (s.trans q)
 | .ct δ,h=>λF' σ H R q=>h F' σ H R (s.trans q)
def SS(K:Fg)(ts:TS)(f:aQ->Option DFlow):Prop:=∀(H0 F0 F:Hp) (σ:St) (H:Hp) (δ:aQ) (r:DFlow) (D:Ends),Rep K H0 F0 F σ H δ->f δ=some r->Lands K H0 F0 F D r->ts D σ H
noncomputable def aj(δ:aQ):Option DFlow:=some (.nx δ)
noncomputable def aW(f g:aQ->Option DFlow)(δ:aQ):Option DFlow:=(f δ).bind λr=>match r with
 | .nx δ'=>g δ'
 |r=>some r
noncomputable def eR(c:aQ->Option Bool)(f g:aQ->Option DFlow)(δ:aQ):Option DFlow:=(c δ).bind λb=>if b=true then f δ else g δ
noncomputable def bO(i:Nat)(f:aQ->Option PyData)(δ:aQ):Option DFlow:=(f δ).map λd=>.nx (δ.set i (some (.fz d)))
noncomputable def hX(i:Nat)(f:aQ->Option (List PyData))(δ:aQ):Option DFlow:=(f δ).map λds=>.nx (δ.set i (some (.ow ds)))
noncomputable def rW(i:Nat)(g:PyData->PyData->Option PyData)(f:aQ->Option PyData)(δ:aQ):Option DFlow:=(aF i δ).bind λx=>(f δ).bind λy=>(g x y).map λz=>.nx (δ.set i (some (.fz z)))
noncomputable def am(f:aQ->Option PyData)(δ:aQ):Option DFlow:=(f δ).map .rt
noncomputable def Bj(i:Nat)(δ:aQ):Option DFlow:=match δ[i]? with
 |some (some (.ow ds))=>some (.ro ds)
 |_=>none
noncomputable def vj(f:aQ->Option PyData)(δ:aQ):Option DFlow:=(f δ).map λ_=>.nx δ
noncomputable def dM(_:aQ):Option DFlow:=none
noncomputable def mR(i:Nat)(f:aQ->Option DFlow)(δ:aQ):Option DFlow:=f (frz i δ)
noncomputable def cg(i:Nat)(f:aQ->Option PyData)(δ:aQ):Option DFlow:=match δ[i]? with
 |some (some (.ow ds))=>(f δ).bind λd=>if ds.length < fh then some (.nx (δ.set i (some (.ow (ds++[d])))))else none
 |_=>none
noncomputable def kA(i:Nat)(f:aQ->Option PyData)(δ:aQ):Option DFlow:=match δ[i]? with
 |some (some (.ow ds))=>(f δ).bind λd=>match d with
  | .list es=>if ds.length+es.length<=fh then some (.nx (δ.set i (some (.ow (ds++es)))))else none
  |_=>none
 |_=>none
noncomputable def hZ:List PyData->Option (List Int)
 |[]=>some []
 | .int n::r=>(hZ r).map (n:: ·)
 |_::_=>none
theorem cW:∀{ds:List PyData} {ns:List Int},hZ ds=some ns->ds=ns.map PyData.int
 |[],ns,h=>by cases h;rfl
 | .int n::r,ns,h=>by
  obtain⟨ms,e1,e2⟩:=Q0.mp h;subst e2;rw [cW e1];rfl
 | .none::r,ns,h=>by cases h
 | .bool _::r,ns,h=>by cases h
 | .str _::r,ns,h=>by cases h
 | .list _::r,ns,h=>by cases h
 | .tuple _::r,ns,h=>by cases h
 | .dict _::r,ns,h=>by cases h
theorem bZ:∀ns:List Int,hZ (ns.map PyData.int)=some ns
 |[]=>rfl
 |n::r=>by
  show (hZ (r.map PyData.int)).map (n:: ·)=_
  rw [bZ r];rfl
noncomputable def eA(i:Nat)(f:aQ->Option PyData)(δ:aQ):Option DFlow:=match δ[i]? with
 |some (some (.ow ds))=>(f δ).bind λd=>match d with
  | .int n=>(hZ ds).bind λns=>if n∈ns then some (.nx (δ.set i (some (.ow ((ns.erase n).map PyData.int)))))else none
  |_=>none
 |_=>none
section
variable {K:Fg} {t u:TS} {f g:aQ->Option DFlow} {te ta tb:TE} {fe fa fb:aQ->Option PyData} {c:TT} {fc:aQ->Option Bool}
theorem bx:SS K ib aj:=λH0 F0 F σ H δ r D R e h=>by cases e;exact h F σ H R (Same.refl _)
theorem aY(a:SS K t f)(b:SS K u g):SS K (eF t u) (aW f g):=by
 intro H0 F0 F σ H δ r D R e h;obtain⟨r1,e1,e2⟩:=bind_some e;refine a H0 F0 F σ H δ r1 {D with nx:=u D} R e1 ?_
 cases r1 with
 |nx δ1=>exact λF' σ' H' R' s'=>b H0 F0 F' σ' H' δ1 r D R' e2 (h.up s')
 |rt d=>cases e2;exact h
 |ro d=>cases e2;exact h
 |bk d=>cases e2;exact h
 |ct d=>cases e2;exact h
theorem eB(cc:ST K c fc)(a:SS K t f)(b:SS K u g):SS K (nG c t u) (eR fc f g):=by
 intro H0 F0 F σ H δ r D R e h;obtain⟨b',e1,e2⟩:=bind_some e;refine cc H0 F0 F σ H δ b' _ R e1 λH1 F1 g1=>?_;cases b' with
 |true=>exact mM (a H0 F0 F1 σ H1 δ r D (R.grow g1) e2 (h.up g1.f))
 |false=>exact mL (b H0 F0 F1 σ H1 δ r D (R.grow g1) e2 (h.up g1.f))
theorem bq(i:Nat)(a:SE K te fe):SS K (hV te (cE i)) (bO i fe):=by
 intro H0 F0 F σ H δ r D R e h;obtain⟨d,e1,e2⟩:=Q0.mp e;subst e2;exact a H0 F0 F σ H δ d _ R e1 λv H1 F1 g1 i1=>h F1 _ H1 ((R.grow g1).set i1) g1.f
theorem lv(i:Nat){fo:aQ->Option (List PyData)}(a:SO K te fo):SS K (hV te (cE i)) (hX i fo):=by
 intro H0 F0 F σ H δ r D R e h;obtain⟨d,e1,e2⟩:=Q0.mp e;subst e2;refine a H0 F0 F σ H δ d _ R e1 λp xs H1 F1 g1 hn hf hp ar=>h F1 _ H1 ((R.grow g1).setO hp hf (R.g.h.free hn) ar λj es nj ej=>?_) g1.f;obtain⟨b,ys,q1,q2,_⟩:=R.ow j es ej;rw [q1];intro z;cases z;rw [q2]at hn;cases hn
theorem A6(i:Nat){r:R2}{gg:PyData->PyData->Option PyData}(o:vi K r gg)(a:SE K te fe):SS K (Jy i te r) (rW i gg fe):=by
 intro H0 F0 F σ H δ r' D R e h;obtain⟨x,e1,e⟩:=bind_some e;obtain⟨y,e2,e⟩:=bind_some e;obtain⟨z,e3,e4⟩:=Q0.mp e;subst e4;unfold aF at e1;split at e1
 · rename_i d' q;cases e1;obtain⟨v,hv,is⟩:=R.fz i x q;refine⟨v,hv,a H0 F0 F σ H δ y _ R e2 λw H1 F1 g1 i1=>o F1 H1 v w x y z _ g1.s (is.same g1.f) i1 e3 λv2 H2 F2 g2 i2=>?_⟩;exact h F2 _ H2 ((R.grow (g1.trans g2)).set i2) (g1.trans g2).f
 · cases e1
theorem ax(a:SE K te fe):SS K (ju te) (am fe):=by
 intro H0 F0 F σ H δ r D R e h;obtain⟨d,e1,e2⟩:=Q0.mp e;subst e2;exact a H0 F0 F σ H δ d _ R e1 λv H1 F1 g1 i1=>h F1 v H1 (R.g.trans g1) i1
theorem Hn(i:Nat):SS K (ju (au i)) (Bj i):=by
 intro H0 F0 F σ H δ r D R e h;unfold Bj at e;split at e
 · rename_i ds q;cases e;obtain⟨a,xs,q1,q2,q3,q4,q5⟩:=R.ow i ds q;exact⟨.ref a,q1,h F a xs H R.g q4 q3 q2 q5⟩
 · cases e
theorem wr(a:SE K te fe):SS K (jJ te) (vj fe):=by
 intro H0 F0 F σ H δ r D R e h;obtain⟨d,e1,e2⟩:=Q0.mp e;subst e2;exact a H0 F0 F σ H δ d _ R e1 λv H1 F1 g1 i1=>h F1 σ H1 (R.grow g1) g1.f
theorem lJ:SS K ED dM:=λH0 F0 F σ H δ r D R e h=>by cases e
theorem tF(i:Nat)(a:SS K t f):SS K t (mR i f):=by
 intro H0 F0 F σ H δ r D R e h;obtain⟨F',s,R'⟩:=R.frz i;exact a H0 F0 F' σ H _ r D R' e (h.up s)
theorem lw(i:Nat)(a:SE K te fe):SS K (jJ (EZ K "list" gr (au i) (bG te dZ))) (cg i fe):=by
 intro H0 F0 F σ H δ r D R e h;unfold cg at e;split at e
 · rename_i ds q;obtain⟨d,e1,e2⟩:=bind_some e;split at e2
   · rename_i hl;cases e2;obtain⟨p,xs,q1,q2,q3,q4,q5⟩:=R.ow i ds q;refine⟨.ref p,q1,.inl ⟨rfl,xs,SqL.of q2⟩,a H0 F0 F σ H δ d _ R e1 λv H1 F1 g1 i1=>⟨p,xs,v,rfl,rfl,g1.h _ _ q2,?_,?_⟩⟩
     · rw [q5.length];exact nP (Dq hl)
     · exact h F1 σ _ ((R.grow g1).mut q q1 (g1.o _ _ q2 (λ_ z=>nomatch z) q3) q4 ((q5.same g1.f).append (Are.one i1))) g1.f
   · cases e2
 · cases e
theorem DA(i:Nat)(a:SE K te fe):SS K (jJ (EZ K "list" Bc (au i) (bG te dZ))) (kA i fe):=by
 intro H0 F0 F σ H δ r D R e h;unfold kA at e;split at e
 · rename_i ds q;obtain⟨d,e1,e2⟩:=bind_some e;split at e2
   · rename_i es;split at e2
     · rename_i hl;cases e2;obtain⟨p,xs,q1,q2,q3,q4,q5⟩:=R.ow i ds q;refine⟨.ref p,q1,.inl ⟨rfl,xs,SqL.of q2⟩,a H0 F0 F σ H δ _ _ R e1 λv H1 F1 g1 i1=>?_⟩;obtain⟨b,zs,rfl,hb,ab⟩:=i1;refine⟨p,b,xs,zs,rfl,rfl,g1.h _ _ q2,g1.s _ _ hb,?_,?_⟩
       · rw [q5.length,ab.length];exact gG hl
       · exact h F1 σ _ ((R.grow g1).mut q q1 (g1.o _ _ q2 (λ_ z=>nomatch z) q3) q4 ((q5.same g1.f).append ab)) g1.f
     · cases e2
   · cases e2
 · cases e
theorem vk(i:Nat)(a:SE K te fe):SS K (jJ (EZ K "list" Bd (au i) (bG te dZ))) (eA i fe):=by
 intro H0 F0 F σ H δ r D R e h;unfold eA at e;split at e
 · rename_i ds q;obtain⟨d,e1,e2⟩:=bind_some e;split at e2
   · rename_i n;obtain⟨ns,e3,e4⟩:=bind_some e2;split at e4
     · rename_i hm;cases e4;obtain⟨p,xs,q1,q2,q3,q4,q5⟩:=R.ow i ds q;have ed:=cW e3;subst ed;have ex:=Are.ints.mp q5;subst ex;refine⟨.ref p,q1,.inl ⟨rfl,_,SqL.of q2⟩,a H0 F0 F σ H δ _ _ R e1 λv H1 F1 g1 i1=>?_⟩;refine⟨p,ns,n,rfl,by rw [show v=.int n from i1],g1.h _ _ q2,hm,?_⟩
       exact h F1 σ _ ((R.grow g1).mut q q1 (g1.o _ _ q2 (λ_ z=>nomatch z) q3) q4 (Are.ints.mpr rfl)) g1.f
     · cases e4
   · cases e2
 · cases e
end
structure IterD (K:Fg) (F:Hp) (J:It) (ds:List PyData):Prop where
 go:∀(i:Nat) (F2 H2:Hp),i < ds.length->Same F F2->Same F2 H2->J.go i H2
 stop:∀F2 H2:Hp,Same F F2->Same F2 H2->J.stop ds.length H2
 yld:∀(i:Nat) (d:PyData) (F2 H2:Hp) (x:V) (H3:Hp),ds[i]? =some d->Same F F2->Same F2 H2->J.yld i H2 x H3->∃F3,Grow F2 H2 F3 H3/\Is K F3 x d
def SI(K:Fg)(wi:TI)(fi:aQ->Option (List PyData)):Prop:=∀(H0 F0 F:Hp) (σ:St) (H:Hp) (δ:aQ) (ds:List PyData) (R:It->Hp->Prop),Rep K H0 F0 F σ H δ->fi δ=some ds->
 (∀J H' F',Grow F H F' H'->IterD K F' J ds->R J H')->wi σ H R
def SG(K:Fg)(g:TG)(fg:PyData->aQ->Option aQ):Prop:=∀(H0 F0 F:Hp) (σ:St) (H:Hp) (δ δ':aQ) (v:V) (d:PyData) (Q:St->Hp->Prop),Rep K H0 F0 F σ H δ->Is K F v d->fg d δ=some δ'->
 (∀σ',Rep K H0 F0 F σ' H δ'->Q σ' H)->g v σ H Q
def Mp(K:Fg)(g:EE)(fg:List PyData->aQ->Option aQ):Prop:=∀(H0 F0 F:Hp) (σ:St) (H:Hp) (δ δ':aQ) (vs:List V) (ds:List PyData) (Q:St->Hp->Prop),Rep K H0 F0 F σ H δ->Are K F vs ds->fg ds δ=some δ'->
 (∀σ',Rep K H0 F0 F σ' H δ'->Q σ' H)->g vs σ H Q
noncomputable def gN(i:Nat)(d:PyData)(δ:aQ):Option aQ:=some (δ.set i (some (.fz d)))
noncomputable def gT(n:Nat)(fg:List PyData->aQ->Option aQ)(d:PyData)(δ:aQ):Option aQ:=match d with
 | .tuple ds=>if ds.length=n then fg ds δ else none
 |_=>none
noncomputable def gZ(ds:List PyData)(δ:aQ):Option aQ:=match ds with
 |[]=>some δ
 |_::_=>none
noncomputable def gC(f:PyData->aQ->Option aQ)(g:List PyData->aQ->Option aQ)(ds:List PyData)(δ:aQ):Option aQ:=match ds with
 |[]=>none
 |d::r=>(f d δ).bind (g r)
section
variable {K:Fg}
theorem be(i:Nat):SG K (cE i) (gN i):=λH0 F0 F σ H δ δ' v d Q R h e k=>by cases e;exact k _ (R.set h)
theorem wt:Mp K Lb gZ:=λH0 F0 F σ H δ δ' vs ds Q R h e k=>by
 cases ds with
 |nil=>cases e;exact⟨h,k σ R⟩
 |cons _ _=>cases e
theorem je {t:TG}{u:EE}{f:PyData->aQ->Option aQ}{g:List PyData->aQ->Option aQ}(a:SG K t f)(b:Mp K u g):Mp K (JS t u) (gC f g):=λH0 F0 F σ H δ δ' vs ds Q R h e k=>by
 cases ds with
 |nil=>cases e
 |cons d r=>
  obtain⟨v,vr,rfl,i1,i2⟩:=h;obtain⟨δ1,e1,e2⟩:=bind_some e;exact⟨v,vr,rfl,a H0 F0 F σ H δ δ1 v d _ R i1 e1 λσ1 R1=>b H0 F0 F σ1 H δ1 δ' vr r Q R1 i2 e2 k⟩
theorem A7 {n:Nat}{t:EE}{g:List PyData->aQ->Option aQ}(b:Mp K t g):SG K (Jw K n t) (gT n g):=λH0 F0 F σ H δ δ' v d Q R h e k=>by
 unfold gT at e;split at e
 · rename_i ds;split at e
   · rename_i hl;obtain⟨a,xs,rfl,q,ar⟩:=h;exact⟨a,xs,rfl,SqT.of (R.g.s _ _ q),by rw [ar.length,hl],b H0 F0 F σ H δ δ' xs ds Q R ar e k⟩
   · cases e
 · cases e
noncomputable def N1:PyData->Option (List PyData)
 | .list ds=>some ds
 | .tuple ds=>some ds
 | .dict [(.none,.list ds)]=>some ds
 |_=>none
noncomputable def nR(i:Int):Bool:=decide (-1000000000<=i)&&decide (i<=1000000000)
noncomputable def bQ(lo:Int)(n:Nat):List PyData:=(List.range n).map λk:Nat=>PyData.int (lo+(k:Int))
noncomputable def cX(fs:aQ->Option (List PyData))(δ:aQ):Option (List PyData):=(fs δ).bind λds=>match ds with
 |[.int j]=>if nR j=true then some (bQ 0 j.toNat)else none
 |_=>none
theorem Ep(F:Hp)(lo:Int)(n:Nat):IterD K F (Ml lo n) (bQ lo n) where
 go:=λi F2 H2 h _ _=>by
  have:i < n:=by simpa [bQ]using h
  exact this
 stop:=λF2 H2 _ _=>by show n<=(bQ lo n).length;simp [bQ]
 yld:=λi d F2 H2 x H3 e _ s2 y=>by
  obtain⟨y1,y2⟩:=y;subst y1 y2;refine⟨F2,Grow.refl s2,?_⟩;unfold bQ at e;rw [zK]at e;obtain⟨k,e1,e2⟩:=Q0.mp e;have hi:=eW e1;rw [iF hi]at e1;have:k=i:=by simpa using e1.symm
  subst this;subst e2;rfl
theorem iP {ta:TA}{fs:aQ->Option (List PyData)}(a:SA K ta fs):SI K (JT ta) (cX fs):=λH0 F0 F σ H δ ds R RR e k=>by
 obtain⟨es,e1,e2⟩:=bind_some e;split at e2
 · rename_i j;split at e2
   · rename_i hs;cases e2;unfold nR at hs;rw [Q5,decide_eq_true_eq,decide_eq_true_eq]at hs;refine a H0 F0 F σ H δ _ _ RR e1 λvs H1 F1 g1 ar=>?_;obtain⟨x,r,rfl,hx,hr⟩:=ar;rw [show r=[]from hr,show x=.int j from hx]
     exact⟨j,rfl,by omega,by omega,k _ H1 F1 g1 (Ep F1 0 j.toNat)⟩
   · cases e2
 · cases e2
end
def DB(K:Fg)(tl:TE):TI:=λσ H R=>tl σ H λx H1=>∃a,x=.ref a/\(((∃xs,SqL K H1 a xs)/\R (Mz K a) H1)\/((∃xs,SqT K H1 a xs)/\R (NA K a) H1))
section
variable {X:Cx} {tg:Expr}
theorem K0 {l:Expr}{tl:TE}(hl:PE X l tl):PI X tg l (DB X.K tl):=by
 intro pins s σ H R I h;refine cU (hl pins s σ H _ I h) λv s1 ⟨x,H1,I1,r1,q1⟩=>?_;obtain⟨a,e,q⟩:=q1;subst e;cases r1
 rcases q with ⟨⟨xs,hq⟩,q⟩|⟨⟨xs,hq⟩,q⟩
 · obtain⟨its,rv,p,hz⟩:=I1.list hq;refine wpAny_pyIter_list p.isList ?_;refine⟨s1.heap.objs.size,[s1.heap.objs.size],_,_,H1,rfl,I1.kept (t':=s1.toks) λb o e=>iM _ e,Ca a _,⟨_,kf _ rfl,rfl,rfl⟩,λb hb=>?_,q⟩;have e:b=s1.heap.objs.size:=by simpa using hb
   subst e;exact I1.fpOk (Q2 _) (I1.hok.fresh (Q2 _))
 · obtain⟨its,rv,p,hz⟩:=I1.tuple hq;refine wpAny_pyIter_tuple (show s1.heap.IsTuple a its.toArray from p) ?_
   refine⟨s1.heap.objs.size,[s1.heap.objs.size],_,_,H1,rfl,I1.kept (t':=s1.toks) λb o e=>iM _ e,AK a _,⟨_,kf _ rfl,rfl,rfl⟩,λb hb=>?_,q⟩;have e:b=s1.heap.objs.size:=by simpa using hb
   subst e;exact I1.fpOk (Q2 _) (I1.hok.fresh (Q2 _))
theorem fA {l:Expr}{tl:TE}(K:Fg)(hl:PE X l tl)(h:X.K=K:=by rfl):PI X tg l (DB K tl):=h▸K0 hl
def NL(K:Fg)(ta:TA):TI:=λσ H R=>ta σ H λvs H1=>∃a,vs=[.ref a]/\(((∃xs,SqT K H1 a xs)/\R (Mo λH xs=>SqT K H a xs) H1)\/((∃xs,SqL K H1 a xs)/\R (Mo λH xs=>SqL K H a xs) H1))
theorem Ls {es:List Expr}{k1:Nat}{tp:Pos}{a:Expr}{ta:TA}{p pos:Pos}(hg:Gl X "enumerate")(hm:X.mg "enumerate"=none)(ha:PA X [a] ta)(hs:starEach [a] X.env=[(false,eval a X.env)]:=by rfl):PI X (.Tuple es k1 tp) (.Call (.Name "enumerate" p) [a] [] pos) (NL X.K ta):=by
 intro pins s σ H R I h;refine Call_ (qH I hg hm boot_enumerate (PyProof.Rows.callWith_type1 (cU (ha pos pins s σ H _ I h) λus s1 ⟨vs,H1,I1,r1,q1⟩=>?_) hs rfl));obtain⟨b,e,q1⟩:=q1;subst e;cases r1 with
 |cons r rr=>
  cases rr;cases r
  rcases q1 with ⟨⟨xs,hq⟩,q⟩|⟨⟨xs,hq⟩,q⟩
  · obtain⟨its,rv,pt,hz⟩:=I1.tuple hq;refine E9 (show s1.heap.IsTuple b its.toArray from pt) λh' he hi hz' hk=>?_
    refine wpAny_pyIter_enum he ⟨_,[_,_],_,_,H1,rfl,I1.kept (t':=s1.toks) hk,vW (KR b s1.heap.objs.size),⟨⟨_,he⟩,hi⟩,λc hc=>?_,q⟩;have hc':c=s1.heap.objs.size+1\/c=s1.heap.objs.size:=by simpa using hc
    have hle:s1.heap.objs.size<=c:=by rcases hc' with z|z<;>rw [z];exact Nat.le_succ _;exact Q2 _
    exact I1.fpOk hle (I1.hok.fresh hle)
  · obtain⟨its,rv,pt,hz⟩:=I1.list hq;refine call_enumerate_list pt.isList λh' he hi hz' hk=>?_;refine wpAny_pyIter_enum he ⟨_,[_,_],_,_,H1,rfl,I1.kept (t':=s1.toks) hk,vW (NH b s1.heap.objs.size),⟨⟨_,he⟩,hi⟩,λc hc=>?_,q⟩;have hc':c=s1.heap.objs.size+1\/c=s1.heap.objs.size:=by simpa using hc
    have hle:s1.heap.objs.size<=c:=by rcases hc' with z|z<;>rw [z];exact Nat.le_succ _;exact Q2 _
    exact I1.fpOk hle (I1.hok.fresh hle)
theorem J8 {es:List Expr}{k1:Nat}{tp:Pos}{a:Expr}{ta:TA}{p pos:Pos}(K:Fg)(hm:X.mg "enumerate"=none)(ha:PA X [a] ta)(h:X.K=K:=by rfl)(hg:Gl X "enumerate":=by rfl)(hs:starEach [a] X.env=[(false,eval a X.env)]:=by rfl):
 PI X (.Tuple es k1 tp) (.Call (.Name "enumerate" p) [a] [] pos) (NL K ta):=h▸Ls hg hm ha hs
end
section
variable {K:Fg}
theorem yE {F:Hp}{a:Addr}{xs:List V}{ds:List PyData}(h:F a=some (.lst xs))(ar:Are K F xs ds):IterD K F (Mz K a) ds where
 go:=λi F2 H2 hi s1 s2=>by
  obtain⟨x,e,_⟩:=ar.get (iF hi);exact⟨xs,x,SqL.of (s2 _ _ (s1 _ _ h)),e⟩
 stop:=λF2 H2 s1 s2=>⟨xs,SqL.of (s2 _ _ (s1 _ _ h)),Nat.le_of_eq ar.length⟩
 yld:=λi d F2 H2 x H3 e s1 s2 y=>by
  obtain⟨rfl,y⟩:=y;have q:=y xs (SqL.of (s2 _ _ (s1 _ _ h)));obtain⟨x',e',i'⟩:=ar.get e;rw [q]at e';cases e';exact⟨F2,Grow.refl s2,i'.same s1⟩
theorem Er {F:Hp}{a:Addr}{xs:List V}{ds:List PyData}(h:F a=some (.tup xs))(ar:Are K F xs ds):IterD K F (NA K a) ds where
 go:=λi F2 H2 hi s1 s2=>by
  obtain⟨x,e,_⟩:=ar.get (iF hi);exact⟨xs,x,SqT.of (s2 _ _ (s1 _ _ h)),e⟩
 stop:=λF2 H2 s1 s2=>⟨xs,SqT.of (s2 _ _ (s1 _ _ h)),Nat.le_of_eq ar.length⟩
 yld:=λi d F2 H2 x H3 e s1 s2 y=>by
  obtain⟨rfl,y⟩:=y;have q:=y xs (SqT.of (s2 _ _ (s1 _ _ h)));obtain⟨x',e',i'⟩:=ar.get e;rw [q]at e';cases e';exact⟨F2,Grow.refl s2,i'.same s1⟩
noncomputable def kB:PyData->Option (List PyData)
 | .list ds=>some ds
 | .tuple ds=>some ds
 |_=>none
noncomputable def bf(f:aQ->Option PyData)(δ:aQ):Option (List PyData):=(f δ).bind kB
theorem fN {tl:TE}{f:aQ->Option PyData}(a:SE K tl f):SI K (DB K tl) (bf f):=λH0 F0 F σ H δ ds R RR e k=>by
 obtain⟨d,e1,e2⟩:=bind_some e;refine a H0 F0 F σ H δ d _ RR e1 λv H1 F1 g1 is=>?_;cases d with
 |list es=>
  cases e2;obtain⟨p,xs,rfl,q,ar⟩:=is;exact⟨p,rfl,.inl ⟨⟨xs,SqL.of (g1.s _ _ q)⟩,k _ H1 F1 g1 (yE q ar)⟩⟩
 |tuple es=>
  cases e2;obtain⟨p,xs,rfl,q,ar⟩:=is;exact⟨p,rfl,.inr ⟨⟨xs,SqT.of (g1.s _ _ q)⟩,k _ H1 F1 g1 (Er q ar)⟩⟩
 |_=>cases e2
noncomputable def jL(ds:List PyData):List PyData:=ds.zipIdx.map λp=>PyData.tuple [.int (p.2:Nat),p.1]
theorem qQ {ds:List PyData}{i:Nat}{d:PyData}(h:(jL ds)[i]? =some d):∃e,ds[i]? =some e/\d=.tuple [.int (i:Nat),e]:=by
 unfold jL at h;rw [zK,List.getElem?_zipIdx]at h;obtain⟨p,h1,h2⟩:=Q0.mp h;obtain⟨e,h3,h4⟩:=Q0.mp h1;subst h4;subst h2;exact⟨e,h3,by simp⟩
theorem vm(ds:List PyData):(jL ds).length=ds.length:=by simp [jL]
theorem Bk {F:Hp}{S:Hp->List V->Prop}{xs:List V}{ds:List PyData}(h:∀F2 H2,Same F F2->Same F2 H2->S H2 xs)(ar:Are K F xs ds):IterD K F (Mo S) (jL ds) where
 go:=λi F2 H2 hi s1 s2=>by
  rw [vm]at hi;obtain⟨x,e,_⟩:=ar.get (iF hi);exact⟨xs,x,h F2 H2 s1 s2,e⟩
 stop:=λF2 H2 s1 s2=>⟨xs,h F2 H2 s1 s2,by rw [vm];exact ar.length⟩
 yld:=λi d F2 H2 x H3 e s1 s2 y=>by
  obtain⟨p,v,hp,rfl,rfl,y⟩:=y;have q:=y xs (h F2 H2 s1 s2);obtain⟨d',h1,rfl⟩:=qQ e;obtain⟨x',e',i'⟩:=ar.get h1;rw [q]at e';cases e';exact⟨_,Grow.new s2 hp,p,_,rfl,aT,.int (i:Nat),[v],rfl,rfl,v,[],rfl,(i'.same s1).same (bv (s2.free hp) _),rfl⟩
noncomputable def LZ(fs:aQ->Option (List PyData))(δ:aQ):Option (List PyData):=(fs δ).bind λds=>match ds with
 |[d]=>(kB d).map jL
 |_=>none
theorem Ja {ta:TA}{fs:aQ->Option (List PyData)}(a:SA K ta fs):SI K (NL K ta) (LZ fs):=λH0 F0 F σ H δ ds R RR e k=>by
 obtain⟨es,e1,e2⟩:=bind_some e;split at e2
 · rename_i d;obtain⟨us,e3,e4⟩:=Q0.mp e2;subst e4;refine a H0 F0 F σ H δ _ _ RR e1 λvs H1 F1 g1 ar=>?_;obtain⟨x,r,rfl,hx,hr⟩:=ar;rw [show r=[]from hr]
   cases d with
   |list es=>
    cases e3;obtain⟨p,xs,rfl,q,ar⟩:=hx;exact⟨p,rfl,.inr ⟨⟨xs,SqL.of (g1.s _ _ q)⟩,k _ H1 F1 g1 (Bk (λF2 H2 s1 s2=>SqL.of (s2 _ _ (s1 _ _ q))) ar)⟩⟩
   |tuple es=>
    cases e3;obtain⟨p,xs,rfl,q,ar⟩:=hx;exact⟨p,rfl,.inl ⟨⟨xs,SqT.of (g1.s _ _ q)⟩,k _ H1 F1 g1 (Bk (λF2 H2 s1 s2=>SqT.of (s2 _ _ (s1 _ _ q))) ar)⟩⟩
   |_=>cases e3
 · cases e2
noncomputable def tG(ds es:List PyData):List PyData:=(ds.zip es).map λp=>PyData.tuple [p.1,p.2]
theorem yF {ds es:List PyData}{i:Nat}{d:PyData}(h:(tG ds es)[i]? =some d):∃x y,ds[i]? =some x/\es[i]? =some y/\d=.tuple [x,y]:=by
 unfold tG at h;rw [zK]at h;obtain⟨p,h1,h2⟩:=Q0.mp h;obtain⟨h3,h4⟩:=List.getElem?_zip_eq_some.mp h1;exact⟨p.1,p.2,h3,h4,h2.symm⟩
theorem yG {ds es:List PyData}(h:ds.length=es.length):(tG ds es).length=ds.length:=by simp [tG,h]
theorem Et {F:Hp}{S1 S2:Hp->List V->Prop}{xs ys:List V}{ds es:List PyData}(h1:∀F2 H2,Same F F2->Same F2 H2->S1 H2 xs)(h2:∀F2 H2,Same F F2->Same F2 H2->S2 H2 ys)(a1:Are K F xs ds)(a2:Are K F ys es)(hl:ds.length=es.length):IterD K F (NI S1 S2) (tG ds es) where
 go:=λi F2 H2 hi s1 s2=>by
  rw [yG hl]at hi;obtain⟨x,e,_⟩:=a1.get (iF hi);obtain⟨y,e',_⟩:=a2.get (iF (by omega:i < es.length))
  exact⟨xs,ys,x,y,h1 F2 H2 s1 s2,h2 F2 H2 s1 s2,e,e'⟩
 stop:=λF2 H2 s1 s2=>⟨xs,h1 F2 H2 s1 s2,by rw [yG hl];exact a1.length⟩
 yld:=λi d F2 H2 x H3 e s1 s2 y=>by
  obtain⟨p,v,u,hp,rfl,rfl,y1,y2⟩:=y;have q1:=y1 xs (h1 F2 H2 s1 s2);have q2:=y2 ys (h2 F2 H2 s1 s2);obtain⟨d1,d2,e1,e2,rfl⟩:=yF e;obtain⟨x1,f1,i1⟩:=a1.get e1;obtain⟨x2,f2,i2⟩:=a2.get e2;rw [q1]at f1;rw [q2]at f2;cases f1;cases f2;have sn:Same F2 (bH F2 p (.tup [v,u])):=bv (s2.free hp) _;exact⟨_,Grow.new s2 hp,p,_,rfl,aT,v,[u],rfl,(i1.same s1).same sn,u,[],rfl,(i2.same s1).same sn,rfl⟩
noncomputable def Ho(fs:aQ->Option (List PyData))(δ:aQ):Option (List PyData):=(fs δ).bind λds=>match ds with
 |[.tuple xs,.tuple ys]=>if xs.length=ys.length then some (tG xs ys)else none
 |_=>none
theorem K1 {ta:TA}{fs:aQ->Option (List PyData)}(a:SA K ta fs):SI K (Ed K ta) (Ho fs):=λH0 F0 F σ H δ ds R RR e k=>by
 obtain⟨es,e1,e2⟩:=bind_some e;split at e2
 · rename_i d1 d2;split at e2
   · rename_i hl;cases e2;refine a H0 F0 F σ H δ _ _ RR e1 λvs H1 F1 g1 ar=>?_;obtain⟨x,r,rfl,hx,y,r',rfl,hy,hr⟩:=ar;rw [show r'=[]from hr]
     obtain⟨p,xs,rfl,q,ar⟩:=hx;obtain⟨p',ys,rfl,q',ar'⟩:=hy;exact⟨p,p',rfl,⟨xs,SqT.of (g1.s _ _ q)⟩,⟨ys,SqT.of (g1.s _ _ q')⟩,k _ H1 F1 g1 (Et (λF2 H2 s1 s2=>SqT.of (s2 _ _ (s1 _ _ q))) (λF2 H2 s1 s2=>SqT.of (s2 _ _ (s1 _ _ q'))) ar ar' hl)⟩
   · cases e2
 · cases e2
end
noncomputable def kh(fg:PyData->aQ->Option aQ)(fb:aQ->Option DFlow):List PyData->aQ->Option DFlow
 |[],δ=>some (.nx δ)
 |d::r,δ=>(fg d δ).bind λδ1=>(fb δ1).bind λfl=>match fl with
  | .nx δ2=>kh fg fb r δ2
  | .ct δ2=>kh fg fb r δ2
  | .bk δ2=>some (.nx δ2)
  | .rt v=>some (.rt v)
  | .ro v=>some (.ro v)
noncomputable def fO(fi:aQ->Option (List PyData))(fg:PyData->aQ->Option aQ)(fb:aQ->Option DFlow)(δ:aQ):Option DFlow:=(fi δ).bind λds=>kh fg fb ds δ
section
variable {K:Fg}
theorem iH {wi:TI}{g:TG}{tb:TS}{fi:aQ->Option (List PyData)}{fg:PyData->aQ->Option aQ}{fb:aQ->Option DFlow}(hi:SI K wi fi)(hg:SG K g fg)(hb:SS K tb fb):SS K (rP wi g tb) (fO fi fg fb):=by
 intro H0 F0 F σ H δ r D R e h;obtain⟨ds,e1,e2⟩:=bind_some e;refine hi H0 F0 F σ H δ ds _ R e1 λJ H1 F1 g1 it=>?_;refine⟨λi m σ H=>m=ds.length - i/\i<=ds.length/\∃F' δ',Rep K H0 F0 F' σ H δ'/\Same F1 F'/\kh fg fb (ds.drop i) δ'=some r,⟨ds.length,by simp,zU _,F1,δ,R.grow g1,Same.refl _,e2⟩,?_⟩
 rintro i m σ' H' ⟨rfl,hle,F',δ',R',s',e'⟩
 by_cases hlt:i < ds.length
 · refine .inr ⟨it.go i F' H' hlt s' R'.g.s,λσ H=>i+1<=ds.length/\∃F' δ',Rep K H0 F0 F' σ H δ'/\Same F1 F'/\kh fg fb (ds.drop (i+1)) δ'=some r,λσ2 H2 q=>⟨ds.length - (i+1),by omega,rfl,q⟩,λx H2 y=>?_⟩
   have hd:ds[i]? =some ds[i]:=iF hlt;obtain⟨F2,g2,is⟩:=it.yld i _ F' H' x H2 hd s' R'.g.s y;rw [L3 hlt]at e';obtain⟨δ1,q1,q2⟩:=bind_some e';obtain⟨fl,q3,q4⟩:=bind_some q2;refine hg H0 F0 F2 σ' H2 δ' δ1 x ds[i] _ (R'.grow g2) is q1 λσ3 R3=>?_;refine hb H0 F0 F2 σ3 H2 δ1 fl _ R3 q3 ?_;have up:Same F1 F2:=s'.trans g2.f;cases fl with
   |nx δ2=>exact λF3 σ4 H4 R4 s4=>⟨hlt,F3,δ2,R4,up.trans s4,q4⟩
   |ct δ2=>exact λF3 σ4 H4 R4 s4=>⟨hlt,F3,δ2,R4,up.trans s4,q4⟩
   |bk δ2=>
    cases q4;exact λF3 σ4 H4 R4 s4=>h F3 σ4 H4 R4 (g1.f.trans (up.trans s4))
   |rt d=>cases q4;exact h
   |ro d=>cases q4;exact h
 · have e3:i=ds.length:=by omega
   subst e3;rw [List.drop_length]at e';cases e';exact .inl ⟨it.stop F' H' s' R'.g.s,h F' σ' H' R' (g1.f.trans s')⟩
end
noncomputable def gb(n:Nat)(fr:List (Str×Nat))(δ:aQ):aQ:=List.replicate n none++fr.map λp=>match δ[p.2]? with
 |some (some (.fz d))=>some (.fz d)
 |_=>none
noncomputable def ij(f:PyData->Option (Option PyData)):List PyData->Option (List PyData)
 |[]=>some []
 |d::r=>(f d).bind λo=>match o with
  |some y=>(ij f r).map (y:: ·)
  |none=>ij f r
noncomputable def ik(_:aQ):Option Bool:=some true
noncomputable def bR(n:Nat)(fr:List (Str×Nat))(fi:aQ->Option (List PyData))(fg:PyData->aQ->Option aQ)(fc:aQ->Option Bool)(fe:aQ->Option PyData)(δ:aQ):Option (List PyData):=
 (fi δ).bind λds=>if ds.length<=fh then ij (λd=>(fg d (gb n fr δ)).bind λδ1=>(fc δ1).bind λb=>if b=true then(fe δ1).map some else some none) ds else none
def N2(n:Nat)(fg:PyData->aQ->Option aQ):Prop:=∀d δ δ1,fg d δ=some δ1->δ1.length=δ.length/\∀i,n<=i->δ1[i]? =δ[i]?
theorem eJ {n i:Nat}(h:i < n:=by decide):N2 n (gN i):=λd δ δ1 e=>by
 cases e;exact⟨Qc ..,λj hj=>aa (by omega)⟩
section
variable {K:Fg}
theorem NM {H0 F0 F:Hp}{σ:St}{H:Hp}{δ:aQ}(R:Rep K H0 F0 F σ H δ)(n:Nat)(fr:List (Str×Nat))(H':Hp)(F1:Hp)(g:Grow F1 H' F H):Rep K H' F1 F (E6 n fr σ) H (gb n fr δ) where
 g:=g
 tb:=R.tb
 len:=by simp [E6,gb]
 fz:=λi d e=>by
  unfold gb at e;unfold E6
  by_cases hi:i < n
  · rw [Qa (by simpa using hi),Qf,if_pos hi]at e
    cases e
  · rw [Qb (by simpa using hi),Gr,zK]at e ⊢
    cases q:fr[i - n]? with
    |none=>rw [q]at e;cases e
    |some p=>
     rw [q]at e;have e':(match δ[p.2]? with|some (some (.fz d))=>some (Sl.fz d)|_=>none)=some (.fz d):=zV e
     split at e'
     · rename_i d' q';cases e';obtain⟨v,h1,h2⟩:=R.fz p.2 d q';refine⟨v,?_,h2⟩;show some ((σ[p.2]?).join)=some (some v);rw [h1];rfl
     · cases e'
 ow:=λi ds e=>by
  exfalso
  unfold gb at e
  by_cases hi:i < n
  · rw [Qa (by simpa using hi),Qf,if_pos hi]at e
    cases e
  · rw [Qb (by simpa using hi),Gr,zK]at e
    cases q:fr[i - n]? with
    |none=>rw [q]at e;cases e
    |some p=>
     rw [q]at e;have e':(match δ[p.2]? with|some (some (.fz d))=>some (Sl.fz d)|_=>none)=some (.ow ds):=zV e
     split at e'<;>cases e'
 ap:=λi j ds es a e1 e2 e3 e4=>by
  exfalso
  unfold gb at e1
  by_cases hi:i < n
  · rw [Qa (by simpa using hi),Qf,if_pos hi]at e1
    cases e1
  · rw [Qb (by simpa using hi),Gr,zK]at e1
    cases q:fr[i - n]? with
    |none=>rw [q]at e1;cases e1
    |some p=>
     rw [q]at e1;have e':(match δ[p.2]? with|some (some (.fz d))=>some (Sl.fz d)|_=>none)=some (.ow ds):=zV e1
     split at e'<;>cases e'
 od:=λi ds e=>by
  exfalso
  unfold gb at e
  by_cases hi:i < n
  · rw [Qa (by simpa using hi),Qf,if_pos hi]at e
    cases e
  · rw [Qb (by simpa using hi),Gr,zK]at e
    cases q:fr[i - n]? with
    |none=>rw [q]at e;cases e
    |some p=>
     rw [q]at e;have e':(match δ[p.2]? with|some (some (.fz d))=>some (Sl.fz d)|_=>none)=some (.od ds):=zV e
     split at e'<;>cases e'
 ad:=λi j ds es a e1 e2 e3 e4=>by
  exfalso
  unfold gb at e1
  by_cases hi:i < n
  · rw [Qa (by simpa using hi),Qf,if_pos hi]at e1
    cases e1
  · rw [Qb (by simpa using hi),Gr,zK]at e1
    cases q:fr[i - n]? with
    |none=>rw [q]at e1;cases e1
    |some p=>
     rw [q]at e1;have e':(match δ[p.2]? with|some (some (.fz d))=>some (Sl.fz d)|_=>none)=some (.od ds):=zV e1
     split at e'<;>cases e'
theorem qR:ST K Lk ik:=λH0 F0 F σ H δ b Q R e h=>by cases e;exact h H F (Grow.refl R.g.s)
theorem gJ {n:Nat}{fr:List (Str×Nat)}{wi:TI}{g:TG}{tc:TT}{te:TE}{fi:aQ->Option (List PyData)}{fg:PyData->aQ->Option aQ}{fc:aQ->Option Bool}{fe:aQ->Option PyData}
 (hi:SI K wi fi) (hg:SG K g fg) (hl:N2 n fg) (hc:ST K tc fc) (he:SE K te fe):SO K (E7 n fr wi g tc te) (bR n fr fi fg fc fe):=by
 intro H0 F0 F σ H δ rs Q R e h;obtain⟨ds,e1,e2⟩:=bind_some e;split at e2
 · rename_i lim;refine hi H0 F0 F σ H δ ds _ R e1 λJ H1 F1 g1 it acc hacc=>?_;have hF1:F1 acc=none:=g1.s.free hacc;have h0:H acc=none:=g1.h.free hacc;have R1:=R.grow g1
   let f:PyData->Option (Option PyData):=λd=>(fg d (gb n fr δ)).bind λδ1=>(fc δ1).bind λb=>if b=true then(fe δ1).map some else some none
   have e2':ij f ds=some rs:=e2;refine⟨λi m σ' H'=>m=ds.length - i/\i<=ds.length/\∃F' xs us vs,Rep K H1 F1 F' σ' H' (gb n fr δ)/\F' acc=none/\H' acc=some (.lst xs)/\Are K F' xs us/\us.length<=i/\ij f (ds.drop i)=some vs/\rs=us++vs,⟨ds.length,by simp,zU _,F1,[],[],rs,?_,hF1,aT,rfl,Q2 _,e2',rfl⟩,?_⟩
   · exact(NM R1 n fr H1 F1 (Grow.refl g1.s)).grow (Grow.fresh g1.s hacc)
   rintro i m σ' H' ⟨rfl,hle,F',xs,us,vs,R',hF',ha,ar,hu,em,er⟩;have s':Same F1 F':=R'.g.f
   by_cases hlt:i < ds.length
   · refine .inr ⟨it.go i F' H' hlt s' R'.g.s,λσ' H'=>i+1<=ds.length/\∃F' xs us vs,Rep K H1 F1 F' σ' H' (gb n fr δ)/\F' acc=none/\H' acc=some (.lst xs)/\Are K F' xs us/\us.length<=i+1/\ij f (ds.drop (i+1))=some vs/\rs=us++vs,λσ2 H2 q=>⟨ds.length - (i+1),by omega,rfl,q⟩,λx H2 y=>?_⟩
     have hd:ds[i]? =some ds[i]:=iF hlt;obtain⟨F2,g2,is⟩:=it.yld i _ F' H' x H2 hd s' R'.g.s y;rw [L3 hlt]at em;obtain⟨o,q1,q2⟩:=bind_some em;obtain⟨δ1,q3,q4⟩:=bind_some q1;obtain⟨b,q5,q6⟩:=bind_some q4;obtain⟨ll,lh⟩:=hl _ _ _ q3;have weak:∀{Fx:Hp} {σx:St} {Hx:Hp},Rep K H1 F1 Fx σx Hx δ1->Rep K H1 F1 Fx σx Hx (gb n fr δ):=λ{Fx σx Hx} RR=>RR.weak ll.symm λj s es=>by
      by_cases hj:j < n
      · unfold gb at es;rw [Qa (by simpa using hj),Qf,if_pos hj]at es
        cases es
      · rw [lh j (by omega)];exact es
     have ha2:H2 acc=some (.lst xs):=g2.h _ _ ha;have hF2:F2 acc=none:=g2.o _ _ ha (λ_ z=>nomatch z) hF';refine hg H1 F1 F2 σ' H2 _ δ1 x ds[i] _ (R'.grow g2) is q3 λσ3 R3=>?_;refine hc H1 F1 F2 σ3 H2 δ1 b _ R3 q5 λH4 F4 g4=>?_;have ha4:H4 acc=some (.lst xs):=g4.h _ _ ha2;have hF4:F4 acc=none:=g4.o _ _ ha2 (λ_ z=>nomatch z) hF2;cases b with
     |false=>
      have q6':(some none:Option (Option PyData))=some o:=q6;cases q6';refine mL ⟨hlt,F4,xs,us,vs,weak (R3.grow g4),hF4,ha4,(ar.same g2.f).same g4.f,by omega,q2,er⟩
     |true=>
      have q6':(fe δ1).map some=some o:=q6;obtain⟨yd,q7,q8⟩:=Q0.mp q6';subst q8;obtain⟨ws,q9,q10⟩:=Q0.mp q2;subst q10;refine mM (he H1 F1 F4 σ3 H4 δ1 yd _ (R3.grow g4) q7 λv H5 F5 g5 i5=>?_);have ha5:H5 acc=some (.lst xs):=g5.h _ _ ha4;have hF5:F5 acc=none:=g5.o _ _ ha4 (λ_ z=>nomatch z) hF4;have ar5:Are K F5 xs us:=((ar.same g2.f).same g4.f).same g5.f;refine⟨xs,ha5,?_,hlt,F5,xs++[v],us++[yd],ws,?_,hF5,aT,ar5.append (Are.one i5),?_,q9,by rw [er];simp⟩
      · rw [ar5.length];exact nP (by omega)
      · have R5:=weak ((R3.grow g4).grow g5);exact⟨⟨R5.g.f,λb u q=>by rw [aN (aR q hF5)];exact R5.g.s b u q,λb u q=>by rw [aN (aR q hacc)];exact R5.g.h b u q,R5.g.o⟩,R5.len,R5.fz,λj es q=>by
         exfalso
         unfold gb at q
         by_cases hj:j < n
         · rw [Qa (by simpa using hj),Qf,if_pos hj]at q
           cases q
         · rw [Qb (by simpa using hj),Gr,zK]at q
           cases z:fr[j - n]? with
           |none=>rw [z]at q;cases q
           |some p=>
            rw [z]at q;have e':(match δ[p.2]? with|some (some (.fz d))=>some (Sl.fz d)|_=>none)=some (.ow es):=zV q
            (split at e'<;>cases e'),R5.ap,λj es q=>by
         exfalso
         unfold gb at q
         by_cases hj:j < n
         · rw [Qa (by simpa using hj),Qf,if_pos hj]at q
           cases q
         · rw [Qb (by simpa using hj),Gr,zK]at q
           cases z:fr[j - n]? with
           |none=>rw [z]at q;cases q
           |some p=>
            rw [z]at q;have e':(match δ[p.2]? with|some (some (.fz d))=>some (Sl.fz d)|_=>none)=some (.od es):=zV q
            (split at e'<;>cases e'),R5.ad,R5.tb⟩
      · rw [zQ,List.length_singleton];omega
   · have e3:i=ds.length:=by omega
     subst e3;rw [List.drop_length]at em;cases em;rw [Q4]at er;subst er;refine .inl ⟨it.stop F' H' s' R'.g.s,?_⟩;refine h acc xs H' F' ?_ h0 hF' ha ar;exact g1.trans R'.g
 · cases e2
end
noncomputable def cM:DFlow->Option PyData
 | .nx _=>some .none
 | .rt d=>some d
 | .ro ds=>some (.list ds)
 |_=>none
noncomputable def cj(n:Nat)(ds:List PyData):aQ:=ds.map (λd=>some (.fz d))++List.replicate (n - ds.length) none
noncomputable def bV(n:Nat)(fb:aQ->Option DFlow)(ds:List PyData):Option PyData:=(fb (cj n ds)).bind cM
noncomputable def K3(n:Nat)(fb:aQ->Option DFlow)(ds:List PyData):Option (List PyData):=(fb (cj n ds)).bind λr=>match r with
 | .ro ds=>some ds
 |_=>none
def cD(K:Fg)(n:Nat)(f:List PyData->Option PyData):Sp:=λvs H Q _=>∃F ds d,lH K F H/\vs.length=n/\Are K F vs ds/\f ds=some d/\∀v H' F',Grow F H F' H'->Is K F' v d->Q v H'
def Lu(K:Fg)(n:Nat)(f:List PyData->Option (List PyData)):Sp:=λvs H Q _=>∃F ds es,lH K F H/\vs.length=n/\Are K F vs ds/\f ds=some es/\∀a xs H' F',Grow F H F' H'->H a=none->F' a=none->H' a=some (.lst xs)->Are K F' xs es->Q (.ref a) H'
theorem jf {K:Fg}{F H:Hp}{N:List Str}{vs:List V}{ds:List PyData}(s:lH K F H)(ar:Are K F vs ds):Rep K H F F (L2.dL N vs) H (cj N.length ds) where
 g:=Grow.refl s.1
 tb:=s.2
 len:=by
  have:=ar.length;simp [L2.dL,cj,this]
 fz:=λi d e=>by
  have hl:=ar.length;unfold cj at e;unfold L2.dL
  by_cases hi:i < ds.length
  · rw [Qa (by simpa using hi),zK]at e
    obtain⟨d',e1,e2⟩:=Q0.mp e;cases e2;obtain⟨x,h1,h2⟩:=ar.get e1;refine⟨x,?_,h2⟩;rw [Qa (by rw [zJ];omega),zK,h1]
    rfl
  · rw [Qb (by simpa using hi),Qf]at e
    split at e<;>cases e
 ow:=λi es e=>by
  exfalso
  unfold cj at e
  by_cases hi:i < ds.length
  · rw [Qa (by simpa using hi),zK]at e
    obtain⟨d',e1,e2⟩:=Q0.mp e;cases e2
  · rw [Qb (by simpa using hi),Qf]at e
    split at e<;>cases e
 ap:=λi j es us a e=>by
  exfalso
  unfold cj at e
  by_cases hi:i < ds.length
  · rw [Qa (by simpa using hi),zK]at e
    obtain⟨d',e1,e2⟩:=Q0.mp e;cases e2
  · rw [Qb (by simpa using hi),Qf]at e
    split at e<;>cases e
 od:=λi es e=>by
  exfalso
  unfold cj at e
  by_cases hi:i < ds.length
  · rw [Qa (by simpa using hi),zK]at e
    obtain⟨d',e1,e2⟩:=Q0.mp e;cases e2
  · rw [Qb (by simpa using hi),Qf]at e
    split at e<;>cases e
 ad:=λi j es us a e=>by
  exfalso
  unfold cj at e
  by_cases hi:i < ds.length
  · rw [Qa (by simpa using hi),zK]at e
    obtain⟨d',e1,e2⟩:=Q0.mp e;cases e2
  · rw [Qb (by simpa using hi),Qf]at e
    split at e<;>cases e
section
variable {P:Program} {w:World} {K:Fg} {mg:Str->Option Value} {base:Heap}
theorem bJ {x qual:Str}{st:Stmt}{f:Addr}{fd:FuncData}{N ps:List Str}{k n m:Nat}{fb:aQ->Option DFlow}(F:Fun K x qual st f fd)(S:FnScope N ps (aS st))(hN:N.length=n)(hm:ps.length=m)
 (hbody : ∀ (cdv : Value) (A : Around) (outer : List Env) (s : Shared) (H : Hp) (E : XK), Room k (A.deeper (envOfC qual (aS st) s.heap.objs.size f cdv)) ->
  ∃t,PSs (nI fZ P w K mg base N qual (aS st) f cdv A outer s H E).nox (eV st) t/\SS K t fb):FnOk P w K mg base fZ (k+1) f fd ps (cD K m (bV n fb)):=by
 subst hN hm;refine F.ok S (λvs H Q E h=>?_) (λcdv A outer s H vs Q E hr h=>?_)
 · obtain⟨F',ds,d,_,hl,_⟩:=h;exact hl
 · obtain⟨F',ds,d,sF,hl,ar,e,q⟩:=h;obtain⟨t,ht,hs⟩:=hbody cdv A outer s H E hr;obtain⟨r,e1,e2⟩:=bind_some e;refine⟨t,ht,hs H F' F' (L2.dL N vs) H (cj N.length ds) r _ (jf sF ar) e1 ?_⟩;cases r with
   |nx δ=>cases e2;exact λF2 σ2 H2 R2 _=>q .non H2 F2 R2.g rfl
   |rt d'=>cases e2;exact λF2 v H2 g2 i2=>q v H2 F2 g2 i2
   |ro es=>
    cases e2;exact λF2 a xs H2 g2 h0 hf ha ar2=>q (.ref a) H2 _ (g2.frz h0 hf ha) ⟨a,xs,rfl,aT,ar2.same (bv hf _)⟩
   |bk _=>cases e2
   |ct _=>cases e2
theorem Hq {x qual:Str}{st:Stmt}{f:Addr}{fd:FuncData}{N ps:List Str}{k n m:Nat}{fb:aQ->Option DFlow}(F:Fun K x qual st f fd)(S:FnScope N ps (aS st))(hN:N.length=n)(hm:ps.length=m)
 (hbody : ∀ (cdv : Value) (A : Around) (outer : List Env) (s : Shared) (H : Hp) (E : XK), Room k (A.deeper (envOfC qual (aS st) s.heap.objs.size f cdv)) ->
  ∃t,PSs (nI fZ P w K mg base N qual (aS st) f cdv A outer s H E).nox (eV st) t/\SS K t fb):FnOk P w K mg base fZ (k+1) f fd ps (Lu K m (K3 n fb)):=by
 subst hN hm;refine F.ok S (λvs H Q E h=>?_) (λcdv A outer s H vs Q E hr h=>?_)
 · obtain⟨F',ds,d,_,hl,_⟩:=h;exact hl
 · obtain⟨F',ds,d,sF,hl,ar,e,q⟩:=h;obtain⟨t,ht,hs⟩:=hbody cdv A outer s H E hr;obtain⟨r,e1,e2⟩:=bind_some e;refine⟨t,ht,hs H F' F' (L2.dL N vs) H (cj N.length ds) r _ (jf sF ar) e1 ?_⟩;cases r with
   |nx δ=>cases e2
   |rt d'=>cases e2
   |ro es=>
    cases e2;exact λF2 a xs H2 g2 h0 hf ha ar2=>q a xs H2 F2 g2 h0 hf ha ar2
   |bk _=>cases e2
   |ct _=>cases e2
end
section
variable {K:Fg}
noncomputable def aG(n:Nat)(g:List PyData->Option PyData)(fs:aQ->Option (List PyData))(δ:aQ):Option PyData:=(fs δ).bind λds=>if ds.length=n then g ds else none
noncomputable def iX(n:Nat)(g:List PyData->Option (List PyData))(fs:aQ->Option (List PyData))(δ:aQ):Option (List PyData):=(fs δ).bind λds=>if ds.length=n then g ds else none
theorem aV {n:Nat}{g:List PyData->Option PyData}{t:TA}{fs:aQ->Option (List PyData)}(a:SA K t fs):SE K (oJ (cD K n g) [] E0 t) (aG n g fs):=by
 intro H0 F0 F σ H δ d Q R e h;obtain⟨ds,e1,e2⟩:=bind_some e;split at e2
 · rename_i hl;refine a H0 F0 F σ H δ ds _ R e1 λvs H1 F1 g1 ar=>⟨F1,ds,d,⟨g1.s,R.tb.same g1.f⟩,?_,?_,e2,λv H2 F2 g2 i2=>h v H2 F2 (g1.trans g2) i2⟩
   · rw [Q4,ar.length,hl]
   · rw [Q4];exact ar
 · cases e2
theorem Hr {n:Nat}{g:List PyData->Option (List PyData)}{t:TA}{fs:aQ->Option (List PyData)}(a:SA K t fs):SO K (oJ (Lu K n g) [] E0 t) (iX n g fs):=by
 intro H0 F0 F σ H δ d Q R e h;obtain⟨ds,e1,e2⟩:=bind_some e;split at e2
 · rename_i hl;refine a H0 F0 F σ H δ ds _ R e1 λvs H1 F1 g1 ar=>⟨F1,ds,d,⟨g1.s,R.tb.same g1.f⟩,?_,?_,e2,λp xs H2 F2 g2 hn hf hp i2=>h p xs H2 F2 (g1.trans g2) (g1.h.free hn) hf hp i2⟩
   · rw [Q4,ar.length,hl]
   · rw [Q4];exact ar
 · cases e2
end
section
variable {K:Fg}
noncomputable def Eu(g:Int->Int->Option PyData):PyData->PyData->Option PyData
 | .int a,.int b=>g a b
 |_,_=>none
theorem yH {g:Int->Int->Option PyData}{x y d:PyData}(h:Eu g x y=some d):∃i j,x=.int i/\y=.int j/\g i j=some d:=by
 unfold Eu at h;split at h
 · exact⟨_,_,rfl,rfl,h⟩
 · cases h
theorem yI {g:Int->Int->V}{g':Int->Int->PyData}(hg:∀i j H,Is K H (g i j) (g' i j)):vi K (AE g) (Eu λi j=>some (g' i j)):=λF H x y dx dy d Q s hx hy e k=>by
 obtain⟨i,j,rfl,rfl,e⟩:=yH e;cases e;exact⟨i,j,hx,hy,k _ H F (Grow.refl s) (hg i j F)⟩
theorem Lv {C:Int->Int->Prop}{c:Int->Int->Bool}{g:Int->Int->V}{g':Int->Int->PyData}(hc:∀i j,c i j=true->C i j)(hg:∀i j H,Is K H (g i j) (g' i j)):vi K (rI C g) (Eu λi j=>if c i j=true then some (g' i j)else none):=λF H x y dx dy d Q s hx hy e k=>by
 obtain⟨i,j,rfl,rfl,e1⟩:=yH e;split at e1
 · rename_i h;cases e1;exact⟨i,j,hx,hy,hc i j h,k _ H F (Grow.refl s) (hg i j F)⟩
 · cases e1
noncomputable def uv:=Eu λi j=>some (.int (i - j))
noncomputable def sB:=Eu λi j=>some (.bool (decide (i < j)))
noncomputable def Lw:=Eu λi j=>some (.bool (decide (i<=j)))
noncomputable def Lx:=Eu λi j=>some (.bool (decide (j < i)))
noncomputable def rA:=Eu λi j=>some (.int (i+j))
noncomputable def oR(i j:Int):Bool:=(decide (-1000000000000<=i)&&decide (i<=1000000000000))||(decide (-1000000000000<=j)&&decide (j<=1000000000000))
noncomputable def lK:=Eu λi j=>if oR i j=true then some (.int (i*j))else none
noncomputable def A8(_ j:Int):Bool:=decide (0 < j)
noncomputable def DC:=Eu λi j=>if A8 i j=true then some (.int (i % j))else none
theorem qS:vi K (AE λi j=>.int (i - j)) uv:=yI λ_ _ _=>rfl
theorem tH:vi K (AE λi j=>.bl (decide (i < j))) sB:=yI λ_ _ _=>rfl
theorem Ev:vi K (AE λi j=>.bl (decide (i<=j))) Lw:=yI λ_ _ _=>rfl
theorem Ew:vi K (AE λi j=>.bl (decide (j < i))) Lx:=yI λ_ _ _=>rfl
theorem Bl:vi K (AE λi j=>.int (i+j)) rA:=yI λ_ _ _=>rfl
theorem Hs {i j:Int}(h:oR i j=true):CMul i j:=by
 unfold oR at h;simp only [Bool.or_eq_true,Q5,decide_eq_true_eq]at h;unfold CMul;omega
theorem nU:vi K (rI CMul λi j=>.int (i*j)) lK:=Lv (λ_ _ h=>Hs h) λ_ _ _=>rfl
theorem wu:vi K (rI (λ_ j=>0 < j) λi j=>.int (i % j)) DC:=Lv (λ_ _ h=>by simpa [A8]using h) λ_ _ _=>rfl
def Jb(K:Fg):R2:=λx y H Q=>∃a b xs ys,x=.ref a/\y=.ref b/\H a=some (.tup xs)/\H b=some (.tup ys)/\xs.length+ys.length<=sizeLine/\(ys=[]->Q (.ref a) H)/\(xs=[]->Q (.ref b) H)/\∀p,H p=none->Q (.ref p) (bH H p (.tup (xs++ys)))
theorem Ht {X:Cx}:OpR X (binaryOp .Add) (Jb X.K):=by
 intro pins s σ H x y v u Q I rx ry h;obtain⟨a,b,xs,ys,rfl,rfl,ha,hb,hz,q1,q2,q3⟩:=h
 by_cases hx:xs=[]
 · cases rx;cases ry;obtain⟨its,r1,p1,_⟩:=I.tuple (SqT.of ha);obtain⟨its2,r2,p2,_⟩:=I.tuple (SqT.of hb);exact Hh p1 p2 (r1.nil_iff.mpr hx) ⟨.ref b,H,I,rfl,q2 hx⟩
 · exact HU pins s σ H _ _ v u Q I rx ry ⟨a,b,xs,ys,rfl,rfl,SqT.of ha,SqT.of hb,hx,hz,q1,λ_ p hp=>q3 p hp⟩
def Ly:R2:=λx y H Q=>∃i j,x=.str i/\y=.str j/\i.length+j.length<=sizeLine/\Q (.str (i++j)) H
def Jc(K:Fg):R2:=λx y H Q=>(AE λi j=>.int (i+j)) x y H Q\/(Jb K x y H Q\/(Li x y H Q\/Ly x y H Q))
theorem gK {X:Cx}(K:Fg)(h:X.K=K:=by rfl):OpR X (binaryOp .Add) (Jc K):=KC.or ((h▸Ht).or (KQ.or AO))
noncomputable def cp:PyData->PyData->Option PyData
 | .int a,.int b=>some (.int (a+b))
 | .tuple a,.tuple b=>if a.length+b.length<=fh then some (.tuple (a++b))else none
 | .list a,.list b=>if a.length+b.length<=fh then some (.list (a++b))else none
 | .str a,.str b=>if a.length+b.length<=fh then some (.str (a++b))else none
 |_,_=>none
theorem gL:vi K (Jc K) cp:=λF H x y dx dy d Q s hx hy e k=>by
 unfold cp at e;split at e
 · cases e;exact .inl ⟨_,_,hx,hy,k _ H F (Grow.refl s) rfl⟩
 · rename_i a b;split at e
   · rename_i hl;cases e;obtain⟨p,xs,rfl,q,ar⟩:=hx;obtain⟨p',ys,rfl,q',ar'⟩:=hy;refine .inr (.inl ⟨p,p',xs,ys,rfl,rfl,s _ _ q,s _ _ q',by rw [ar.length,ar'.length];exact gG hl,λz=>?_,λz=>?_,λt ht=>?_⟩)
     · refine k _ H F (Grow.refl s) ⟨p,xs,rfl,q,?_⟩;have:=ar'.length;rw [z]at this;have:b=[]:=List.eq_nil_of_length_eq_zero this.symm;subst this;rw [Q4];exact ar
     · refine k _ H F (Grow.refl s) ⟨p',ys,rfl,q',?_⟩;have:=ar.length;rw [z]at this;have:a=[]:=List.eq_nil_of_length_eq_zero this.symm;subst this;exact ar'
     · have sn:Same F (bH F t (.tup (xs++ys))):=bv (s.free ht) _;exact k _ _ _ (Grow.new s ht) ⟨t,_,rfl,aT,(ar.append ar').same sn⟩
   · cases e
 · rename_i a b;split at e
   · rename_i hl;cases e;obtain⟨p,xs,rfl,q,ar⟩:=hx;obtain⟨p',ys,rfl,q',ar'⟩:=hy;refine .inr (.inr (.inl ⟨p,p',xs,ys,rfl,rfl,s _ _ q,s _ _ q',by rw [ar.length,ar'.length];exact gG hl,λt ht=>?_⟩))
     have sn:Same F (bH F t (.lst (xs++ys))):=bv (s.free ht) _;exact k _ _ _ (Grow.new s ht) ⟨t,_,rfl,aT,(ar.append ar').same sn⟩
   · cases e
 · rename_i a b;split at e
   · rename_i hl;cases e;exact .inr (.inr (.inr ⟨a,b,hx,hy,gG hl,k _ H F (Grow.refl s) rfl⟩))
   · cases e
 · cases e
theorem Bm {F:Hp}{xs:List V}{ds:List PyData}{i:Int}{d:PyData}(ar:Are K F xs ds)(e:uq ds i=some d):∃v,uq xs i=some v/\Is K F v d:=by
 unfold uq at e ⊢;rw [<-ar.length]at e;obtain⟨j,e1,e2⟩:=bind_some e;rw [e1];exact ar.get e2
noncomputable def A9:PyData->Option (List Int)
 | .dict [(.none,.list ds)]=>hZ ds
 |_=>none
theorem Ey {F:Hp}{x:V}{d:PyData}{ns:List Int}(e:A9 d=some ns)(h:Is K F x d):∃a,x=.ref a/\SqL K F a (ns.map V.int):=by
 unfold A9 at e;split at e
 · rename_i ds;have ed:=cW e;subst ed;obtain⟨a,rfl,h⟩:=h
   rcases h with ⟨ms,e1,q⟩|⟨m,_,q⟩|⟨nm,z,_⟩|⟨m,_,q⟩
   · have:ns=ms:=by
      injection e1 with e1 _
      injection e1 with _ e1
      injection e1 with e1
      have:=congrArg hZ e1;rw [bZ,bZ]at this;exact zV this
     subst this;exact⟨a,rfl,q⟩
   · obtain⟨z,m',_,q,_⟩:=q;have:=q.1;cases this
   · cases z
   · cases q.1
 · cases e
noncomputable def cQ:PyData->PyData->Option PyData
 | .tuple ds,.int i=>uq ds i
 | .list ds,.int i=>uq ds i
 | .str z,.int i=>if z.length<=fh then(uq z.cps.toList i).map λc=>.str ⟨#[c]⟩else none
 |d,.int i=>(A9 d).bind λns=>(uq ns i).map PyData.int
 |_,_=>none
theorem bc {X:Cx}(K:Fg)(h:X.K=K:=by rfl):IxR X (Mm K):=h▸KN
theorem Bn {α β:Type}(f:α->β)(l:List α)(i:Int):uq (l.map f) i=(uq l i).map f:=by
 unfold uq;rw [zJ];cases KK l.length i with
 |none=>rfl
 |some j=>simp
theorem bn:vi K (Mm K) cQ:=λF H x y dx dy d Q s hx hy e k=>by
 unfold cQ at e;split at e
 · obtain⟨p,xs,rfl,q,ar⟩:=hx;obtain⟨v,e1,i1⟩:=Bm ar e;exact .inr (.inl ⟨p,xs,_,v,rfl,hy,SqT.of (s _ _ q),e1,k v H F (Grow.refl s) i1⟩)
 · obtain⟨p,xs,rfl,q,ar⟩:=hx;obtain⟨v,e1,i1⟩:=Bm ar e;exact .inl ⟨p,xs,_,v,rfl,hy,SqL.of (s _ _ q),e1,k v H F (Grow.refl s) i1⟩
 · rename_i z i;split at e
   · rename_i hl;obtain⟨c,e1,e2⟩:=Q0.mp e;subst e2;exact .inr (.inr ⟨z,i,c,hx,hy,gG hl,e1,k _ H F (Grow.refl s) rfl⟩)
   · cases e
 · rename_i i _ _ _;obtain⟨ns,e1,e2⟩:=bind_some e;obtain⟨n,e3,e4⟩:=Q0.mp e2;subst e4;obtain⟨a,rfl,q⟩:=Ey e1 hx;exact .inl ⟨a,_,i,.int n,rfl,hy,s.seq q,by rw [Bn,e3];rfl,k _ H F (Grow.refl s) rfl⟩
 · cases e
noncomputable def yJ:PyData->Option Nat
 | .tuple ds=>some ds.length
 | .list ds=>some ds.length
 | .str z=>if z.length<=fh then some z.length else none
 |d=>(A9 d).map List.length
def Jd(K:Fg):List V->Hp->VK->Prop:=λxs H Q=>∃x n,xs=[x]/\KE K x H n/\Q (.int (n:Nat)) H
theorem gM {X:Cx}(K:Fg)(h:X.K=K:=by rfl):fu X (.builtin "len") (Jd K):=h▸ER
noncomputable def jG:List PyData->Option PyData
 |[d]=>(yJ d).map λn:Nat=>.int (n:Nat)
 |_=>none
theorem Hu {F H:Hp}{x:V}{d:PyData}{n:Nat}(s:Same F H)(h:Is K F x d)(e:yJ d=some n):KE K x H n:=by
 unfold yJ at e;split at e
 · cases e;obtain⟨p,xs,rfl,q,ar⟩:=h;exact .inr ⟨xs,SqT.of (s _ _ q),ar.length.symm⟩
 · cases e;obtain⟨p,xs,rfl,q,ar⟩:=h;exact .inl ⟨xs,SqL.of (s _ _ q),ar.length.symm⟩
 · rename_i z;split at e
   · rename_i hl;cases e;rw [show x=.str z from h]
     exact⟨gG hl,rfl⟩
   · cases e
 · obtain⟨ns,e1,e2⟩:=Q0.mp e;subst e2;obtain⟨a,rfl,q⟩:=Ey e1 h;exact .inl ⟨_,s.seq q,by rw [zJ]⟩
theorem il:tE K (Jd K) jG:=λF H xs ds d Q s ar e k=>by
 unfold jG at e;split at e
 · obtain⟨n,e1,e2⟩:=Q0.mp e;subst e2;obtain⟨x,r,rfl,hx,hr⟩:=ar;rw [show r=[]from hr]
   exact⟨x,n,rfl,Hu s hx e1,k _ H F (Grow.refl s) rfl⟩
 · cases e
noncomputable def yK {α:Type}(xs:List α)(lo hi:Option Int):List α:=(xs.drop (HT.fK xs.length 0 lo)).take (HT.fK xs.length xs.length hi - HT.fK xs.length 0 lo)
def K4(K:Fg):V->Option Int->Option Int->Hp->VK->Prop:=λx lo hi H Q=>(Ll K x lo hi H Q\/Lc K x lo hi H Q)\/Lh K x lo hi H Q
theorem K5 {X:Cx}(K:Fg)(h:X.K=K:=by rfl):SlR X (K4 K):=h▸(Hg.or KJ).or HY
def N8(K:Fg)(r:V->Option Int->Option Int->Hp->VK->Prop)(g:PyData->Option Int->Option Int->Option PyData):Prop:=∀(F H:Hp) (x:V) (lo hi:Option Int) (dx d:PyData) (Q:VK),Same F H->Is K F x dx->g dx lo hi=some d->(∀v H' F',Grow F H F' H'->Is K F' v d->Q v H')->r x lo hi H Q
noncomputable def K6:PyData->Option Int->Option Int->Option PyData
 | .tuple ds,lo,hi=>some (.tuple (yK ds lo hi))
 | .list ds,lo,hi=>some (.list (yK ds lo hi))
 |_,_,_=>none
theorem Bo {F:Hp}{xs:List V}{ds:List PyData}(ar:Are K F xs ds)(lo hi:Option Int):Are K F (xq xs lo hi) (yK ds lo hi):=by
 unfold xq yK;rw [ar.length];exact(ar.drop _).take _
theorem Lz:N8 K (K4 K) K6:=λF H x lo hi dx d Q s hx e k=>by
 unfold K6 at e;split at e
 · cases e;obtain⟨p,xs,rfl,q,ar⟩:=hx
   by_cases hw:HT.fK xs.length 0 lo=0/\HT.fK xs.length xs.length hi=xs.length
   · refine .inl (.inl ⟨p,xs,rfl,SqT.of (s _ _ q),hw.1,hw.2,k _ H F (Grow.refl s) ⟨p,xs,rfl,q,?_⟩⟩);unfold yK;rw [<-ar.length,hw.1,hw.2,List.drop_zero,Nat.sub_zero,ar.length,C5];exact ar
   · refine .inl (.inr ⟨p,xs,rfl,SqT.of (s _ _ q),hw,λt ht=>?_⟩);exact k _ _ _ (Grow.new s ht) ⟨t,_,rfl,aT,(Bo ar lo hi).same (bv (s.free ht) _)⟩
 · cases e;obtain⟨p,xs,rfl,q,ar⟩:=hx;refine .inr ⟨p,xs,rfl,SqL.of (s _ _ q),λt ht=>?_⟩;exact k _ _ _ (Grow.new s ht) ⟨t,_,rfl,aT,(Bo ar lo hi).same (bv (s.free ht) _)⟩
 · cases e
def Mq(K:Fg)(to:TO)(f:aQ->Option (Option Int)):Prop:=∀(H0 F0 F:Hp) (σ:St) (H:Hp) (δ:aQ) (o:Option Int) (Q:Option Int->Hp->Prop),Rep K H0 F0 F σ H δ->f δ=some o->(∀H' F',Grow F H F' H'->Q o H')->to σ H Q
noncomputable def ly(_:aQ):Option (Option Int):=some none
noncomputable def vn(f:aQ->Option PyData)(δ:aQ):Option (Option Int):=(f δ).bind λd=>match d with
 | .int i=>some (some i)
 |_=>none
theorem Hv:Mq K B9 ly:=λH0 F0 F σ H δ o Q R e h=>by cases e;exact h H F (Grow.refl R.g.s)
theorem Hw {te:TE}{f:aQ->Option PyData}(a:SE K te f):Mq K (JX te) (vn f):=λH0 F0 F σ H δ o Q R e h=>by
 obtain⟨d,e1,e2⟩:=bind_some e;split at e2
 · rename_i i;cases e2;exact a H0 F0 F σ H δ _ _ R e1 λv H1 F1 g1 i1=>⟨i,i1,h H1 F1 g1⟩
 · cases e2
noncomputable def L0(f:aQ->Option PyData)(l h:aQ->Option (Option Int))(δ:aQ):Option PyData:=(f δ).bind λd=>(l δ).bind λlo=>(h δ).bind λhi=>K6 d lo hi
theorem MA {te:TE}{tl th:TO}{f:aQ->Option PyData}{l u:aQ->Option (Option Int)}(a:SE K te f)(b:Mq K tl l)(c:Mq K th u):SE K (N0 (K4 K) te tl th) (L0 f l u):=λH0 F0 F σ H δ d Q R e h=>by
 obtain⟨dx,e1,e⟩:=bind_some e;obtain⟨lo,e2,e⟩:=bind_some e;obtain⟨hi,e3,e⟩:=bind_some e;refine a H0 F0 F σ H δ dx _ R e1 λv H1 F1 g1 i1=>b H0 F0 F1 σ H1 δ lo _ (R.grow g1) e2 λH2 F2 g2=>c H0 F0 F2 σ H2 δ hi _ ((R.grow g1).grow g2) e3 λH3 F3 g3=>?_;exact Lz F3 H3 v lo hi dx d Q g3.s ((i1.same g2.f).same g3.f) e λv' H4 F4 g4 i4=>h v' H4 F4 (g1.trans (g2.trans (g3.trans g4))) i4
mutual
theorem Hy {H:Hp}:∀{x:V} (d:PyData),d.canLay0=true->Is K H x d->L2.IsD K H x d
 |_,.none,_,h=>h
 |_,.bool _,_,h=>h
 |_,.int _,_,h=>h
 |_,.str _,_,h=>h
 |_,.list ds,c,h=>by
  obtain⟨a,xs,e,q,r⟩:=h;exact⟨a,xs,e,SqL.of q,toDs ds (by simpa [PyData.canLay0]using c) r⟩
 |_,.tuple ds,c,h=>by
  obtain⟨a,xs,e,q,r⟩:=h;exact⟨a,xs,e,SqT.of q,toDs ds (by simpa [PyData.canLay0]using c) r⟩
 |_,.dict _,c,h=>by simp [PyData.canLay0]at c
theorem toDs {H:Hp}:∀{xs:List V} (ds:List PyData),PyData.canLayAll0 ds=true->Are K H xs ds->L2.AllD K H xs ds
 |_,[],_,h=>h
 |_,d::ds,c,h=>by
  obtain⟨x,r,e,q,t⟩:=h;simp only [PyData.canLayAll0,Q5]at c;exact⟨x,r,e,Hy d c.1 q,toDs ds c.2 t⟩
end
noncomputable def ul(d:PyData):Bool:=d.canLay0&&decide (d.depth<=60)
theorem d4 {d:PyData}(h:ul d=true):vX d:=by
 unfold ul at h;rw [Q5,decide_eq_true_eq]at h;exact h
noncomputable def gj(a b:PyData):Option PyData:=if(ul a&&ul b)=true then some (.bool (PyData.eqv a b))else none
noncomputable def tI(a b:PyData):Option PyData:=if(ul a&&ul b)=true then some (.bool (!PyData.eqv a b))else none
theorem fD:vi K (Ct K false) gj:=λF H x y dx dy d Q s hx hy e k=>by
 unfold gj at e;split at e
 · rename_i c;rw [Q5]at c;cases e;exact⟨dx,dy,Hy dx (d4 c.1).1 (hx.same s),Hy dy (d4 c.2).1 (hy.same s),d4 c.1,d4 c.2,k _ H F (Grow.refl s) rfl⟩
 · cases e
theorem tJ:vi K (Ct K true) tI:=λF H x y dx dy d Q s hx hy e k=>by
 unfold tI at e;split at e
 · rename_i c;rw [Q5]at c;cases e;exact⟨dx,dy,Hy dx (d4 c.1).1 (hx.same s),Hy dy (d4 c.2).1 (hy.same s),d4 c.1,d4 c.2,k _ H F (Grow.refl s) rfl⟩
 · cases e
noncomputable def K7:PyData->Bool
 | .none=>true
 |_=>false
noncomputable def K8(a b:PyData):Option PyData:=match b with
 | .none=>some (.bool (K7 a))
 |_=>none
noncomputable def Ez(a b:PyData):Option PyData:=match b with
 | .none=>some (.bool (!K7 a))
 |_=>none
theorem FA {F:Hp}{x:V}{d:PyData}(h:Is K F x d):decide (x=.non)=K7 d:=by
 cases d with
 |none=>rw [show x=.non from h];rfl
 |bool b=>rw [show x=.bl b from h];rfl
 |int b=>rw [show x=.int b from h];rfl
 |str b=>rw [show x=.str b from h];rfl
 |list ds=>obtain⟨a,xs,rfl,_⟩:=h;rfl
 |tuple ds=>obtain⟨a,xs,rfl,_⟩:=h;rfl
 |dict ds=>obtain⟨a,rfl,_⟩:=h;rfl
theorem K9:vi K (λx y H Q=>y=.non/\Q (.bl (decide (x=.non))) H) K8:=λF H x y dx dy d Q s hx hy e k=>by
 unfold K8 at e;split at e
 · cases e;exact⟨hy,k _ H F (Grow.refl s) (by rw [FA hx];rfl)⟩
 · cases e
theorem Hz:vi K (λx y H Q=>y=.non/\Q (.bl (!decide (x=.non))) H) Ez:=λF H x y dx dy d Q s hx hy e k=>by
 unfold Ez at e;split at e
 · cases e;exact⟨hy,k _ H F (Grow.refl s) (by rw [FA hx];rfl)⟩
 · cases e
noncomputable def wv(g g':PyData->PyData->Option PyData)(fa fb fc:aQ->Option PyData)(δ:aQ):Option PyData:=(fa δ).bind λa=>(fb δ).bind λb=>(g a b).bind λr=>match r with
 | .bool true=>(fc δ).bind λc=>g' b c
 | .bool false=>some (.bool false)
 |_=>none
theorem FC {r r':R2}{g g':PyData->PyData->Option PyData}{ta tb tc:TE}{fa fb fc:aQ->Option PyData}(o:vi K r g)(o':vi K r' g')(a:SE K ta fa)(b:SE K tb fb)(c:SE K tc fc):SE K (EN r r' ta tb tc) (wv g g' fa fb fc):=λH0 F0 F σ H δ d Q R e h=>by
 obtain⟨dx,ex,e⟩:=bind_some e;obtain⟨dy,ey,e⟩:=bind_some e;obtain⟨dz,ez,e⟩:=bind_some e;refine a H0 F0 F σ H δ dx _ R ex λv H1 F1 g1 i1=>b H0 F0 F1 σ H1 δ dy _ (R.grow g1) ey λw H2 F2 g2 i2=>?_;refine o F2 H2 v w dx dy dz _ g2.s (i1.same g2.f) i2 ez λv' H3 F3 g3 i3=>?_;split at e
 · refine⟨true,i3,mM ?_⟩;obtain⟨du,eu,e⟩:=bind_some e;refine c H0 F0 F3 σ H3 δ du _ ((R.grow (g1.trans g2)).grow g3) eu λu H4 F4 g4 i4=>?_;exact o' F4 H4 w u dy du d Q g4.s ((i2.same g3.f).same g4.f) i4 e λv5 H5 F5 g5 i5=>h v5 H5 F5 (g1.trans (g2.trans (g3.trans (g4.trans g5)))) i5
 · cases e;exact⟨false,i3,mL (h _ H3 F3 (g1.trans (g2.trans g3)) rfl)⟩
 · cases e
noncomputable def FD(f:aQ->Option PyData)(δ:aQ):Option PyData:=(f δ).bind λd=>match d with
 | .int i=>some (.int (-i))
 |_=>none
theorem Aa {te:TE}{f:aQ->Option PyData}(a:SE K te f):SE K (NZ (rU λi=>.int (-i)) te) (FD f):=λH0 F0 F σ H δ d Q R e h=>by
 obtain⟨dx,e1,e2⟩:=bind_some e;split at e2
 · rename_i i;cases e2;exact a H0 F0 F σ H δ _ _ R e1 λv H1 F1 g1 i1=>⟨i,i1,h _ H1 F1 g1 rfl⟩
 · cases e2
noncomputable def IA:PyData->String
 | .none=>"NoneType"
 | .bool _=>"bool"
 | .int _=>"int"
 | .str _=>"str"
 | .list _=>"list"
 | .tuple _=>"tuple"
 | .dict _=>"dict"
noncomputable def rX(d:PyData)(n:String):Bool:=IA d==n||(IA d== "bool"&&n== "int")
def FE(K:Fg):List V->Hp->VK->Prop:=λxs H Q=>∃x n d,xs=[x,.ty n]/\Is K H x d/\(d matches .dict _)=false/\n∈["int","bool","str","list","tuple"]/\Q (.bl (rX d n)) H
end
section
variable {X:Cx}
theorem NO {K:Fg}(d:PyData)(hd:(d matches .dict _)=false)(n:String)(hn:n∈["int","bool","str","list","tuple"]):PySem.W.kitOne K (.type (IA d)) (.type n)=some (rX d n):=by
 have go:∀t∈["NoneType","bool","int","str","list","tuple"],∀n∈["int","bool","str","list","tuple"],
  (if(Value.type t==Value.type n)=true then some true else if PySem.W.kitMeta n=true then(fastBuiltinMro t).map (·.contains (.type n))else none)=some (t==n||(t== "bool"&&n== "int")):=by decide+kernel
 have ht:IA d∈["NoneType","bool","int","str","list","tuple"]:=by
  cases d<;>simp [IA]at hd ⊢
 exact go _ ht n hn
theorem DD:fu X (.builtin "isinstance") (FE X.K):=by
 intro pins s σ H xs us Q I rv h;obtain⟨x,n,d,rfl,hx,hd,hn,q⟩:=h;obtain⟨u,w',rfl,r1,r2⟩:=rv.two;cases r2;have e:=NO (K:=X.K) d hd n hn;have fin:∀tk,EP X pins σ Q (.bool (rX d n)) {s with toks:=tk}:=λtk=>⟨.bl _,H,I.tok tk,rfl,q⟩
 cases d with
 |none=>exact iW I r1 (by rw [show x=.non from hx];exact TyOf.non) e fin
 |bool b=>exact iW I r1 (by rw [show x=.bl b from hx];exact TyOf.bl b) e fin
 |int b=>exact iW I r1 (by rw [show x=.int b from hx];exact TyOf.int b) e fin
 |str b=>exact iW I r1 (by rw [show x=.str b from hx];exact TyOf.str b) e fin
 |list ds=>
  obtain⟨a,ys,rfl,q',_⟩:=hx;exact iW I r1 (TyOf.lst q') e fin
 |tuple ds=>
  obtain⟨a,ys,rfl,q',_⟩:=hx;exact iW I r1 (TyOf.tup q') e fin
 |dict _=>cases hd
theorem iQ(K:Fg)(h:X.K=K:=by rfl):fu X (.builtin "isinstance") (FE K):=h▸DD
end
section
variable {K:Fg}
noncomputable def lL(n:String)(f:aQ->Option PyData)(δ:aQ):Option PyData:=(f δ).bind λd=>match d with
 | .dict _=>none
 |d=>some (.bool (rX d n))
theorem kC {te:TE}{n:String}{f:aQ->Option PyData}(a:SE K te f)(hn:n∈["int","bool","str","list","tuple"]:=by decide):SE K (KH (FE K) (bG te (bG (tC (.ty n)) dZ))) (lL n f):=λH0 F0 F σ H δ d Q R e h=>by
 obtain⟨dx,e1,e2⟩:=bind_some e;refine a H0 F0 F σ H δ dx _ R e1 λv H1 F1 g1 i1=>?_;cases dx with
 |dict _=>cases e2
 |none=>cases e2;exact⟨v,n,_,rfl,i1.same g1.s,rfl,hn,h _ H1 F1 g1 rfl⟩
 |bool _=>cases e2;exact⟨v,n,_,rfl,i1.same g1.s,rfl,hn,h _ H1 F1 g1 rfl⟩
 |int _=>cases e2;exact⟨v,n,_,rfl,i1.same g1.s,rfl,hn,h _ H1 F1 g1 rfl⟩
 |str _=>cases e2;exact⟨v,n,_,rfl,i1.same g1.s,rfl,hn,h _ H1 F1 g1 rfl⟩
 |list _=>cases e2;exact⟨v,n,_,rfl,i1.same g1.s,rfl,hn,h _ H1 F1 g1 rfl⟩
 |tuple _=>cases e2;exact⟨v,n,_,rfl,i1.same g1.s,rfl,hn,h _ H1 F1 g1 rfl⟩
noncomputable def nV:List PyData->Option (List Bool)
 |[]=>some []
 | .bool n::r=>(nV r).map (n:: ·)
 |_::_=>none
theorem rB:∀{ds:List PyData} {ns:List Bool},nV ds=some ns->ds=ns.map PyData.bool
 |[],ns,h=>by cases h;rfl
 | .bool n::r,ns,h=>by
  obtain⟨ms,e1,e2⟩:=Q0.mp h;subst e2;rw [rB e1];rfl
 | .none::r,ns,h=>by cases h
 | .int _::r,ns,h=>by cases h
 | .str _::r,ns,h=>by cases h
 | .list _::r,ns,h=>by cases h
 | .tuple _::r,ns,h=>by cases h
 | .dict _::r,ns,h=>by cases h
theorem nW:∀ns:List Bool,nV (ns.map PyData.bool)=some ns
 |[]=>rfl
 |n::r=>by
  show (nV (r.map PyData.bool)).map (n:: ·)=_
  rw [nW r];rfl
noncomputable def DE:List PyData->Option PyData
 |[.list ds]=>(nV ds).map λbs=>.bool (bs.all id)
 |_=>none
theorem FF:tE K (KW K) DE:=λF H xs ds d Q s ar e k=>by
 unfold DE at e;split at e
 · obtain⟨bs,e1,e2⟩:=Q0.mp e;subst e2;obtain⟨x,r,rfl,hx,hr⟩:=ar;rw [show r=[]from hr]
   obtain⟨p,ys,rfl,q,ar⟩:=hx;have:=rB e1;subst this;have:=Are.bools.mp ar;subst this;exact⟨p,bs,rfl,SqL.of (s _ _ q),k _ H F (Grow.refl s) rfl⟩
 · cases e
noncomputable def yL:List PyData->Option PyData
 |[.list ds]=>some (.tuple ds)
 |[.tuple ds]=>some (.tuple ds)
 |_=>none
theorem ww:tE K (xx K) yL:=λF H xs ds d Q s ar e k=>by
 unfold yL at e;split at e
 · cases e;obtain⟨x,r,rfl,hx,hr⟩:=ar;rw [show r=[]from hr]
   obtain⟨p,ys,rfl,q,ar⟩:=hx;exact⟨p,ys,rfl,.inl ⟨SqL.of (s _ _ q),λt ht=>k _ _ _ (Grow.new s ht) ⟨t,_,rfl,aT,ar.same (bv (s.free ht) _)⟩⟩⟩
 · cases e;obtain⟨x,r,rfl,hx,hr⟩:=ar;rw [show r=[]from hr]
   obtain⟨p,ys,rfl,q,ar⟩:=hx;exact⟨p,ys,rfl,.inr ⟨SqT.of (s _ _ q),k _ H F (Grow.refl s) ⟨p,ys,rfl,q,ar⟩⟩⟩
 · cases e
noncomputable def wx(fs:aQ->Option (List PyData))(δ:aQ):Option (List PyData):=(fs δ).bind λds=>match ds with
 |[d]=>kB d
 |_=>none
theorem DF {t:TA}{fs:aQ->Option (List PyData)}(a:SA K t fs):SO K (KH (Be K) t) (wx fs):=λH0 F0 F σ H δ es Q R e h=>by
 obtain⟨ds,e1,e2⟩:=bind_some e;refine a H0 F0 F σ H δ ds _ R e1 λvs H1 F1 g1 ar=>?_;split at e2
 · rename_i d;obtain⟨x,r,rfl,hx,hr⟩:=ar;rw [show r=[]from hr]
   cases d with
   |list us=>
    cases e2;obtain⟨p,ys,rfl,q,ar⟩:=hx;exact⟨p,ys,rfl,.inl (SqL.of (g1.s _ _ q)),λl hl=>h l ys _ F1 (g1.trans (Grow.fresh g1.s hl)) (g1.h.free hl) (g1.s.free hl) aT ar⟩
   |tuple us=>
    cases e2;obtain⟨p,ys,rfl,q,ar⟩:=hx;exact⟨p,ys,rfl,.inr (SqT.of (g1.s _ _ q)),λl hl=>h l ys _ F1 (g1.trans (Grow.fresh g1.s hl)) (g1.h.free hl) (g1.s.free hl) aT ar⟩
   |_=>cases e2
 · cases e2
noncomputable def oS(neg:Bool)(i:Nat)(f:aQ->Option PyData)(δ:aQ):Option PyData:=match δ[i]? with
 |some (some (.ow ds))=>(f δ).bind λd=>match d with
  | .int n=>(hZ ds).bind λns=>some (.bool (if neg=true then !decide (n∈ns)else decide (n∈ns)))
  |_=>none
 |_=>none
theorem FG {te:TE}{f:aQ->Option PyData}(neg:Bool)(i:Nat)(a:SE K te f):SE K (HH (NE K neg) te (au i)) (oS neg i f):=λH0 F0 F σ H δ d Q R e h=>by
 unfold oS at e;split at e
 · rename_i ds q;obtain⟨dx,e1,e2⟩:=bind_some e;split at e2
   · rename_i n;obtain⟨ns,e3,e4⟩:=bind_some e2;cases e4;obtain⟨p,xs,q1,q2,q3,q4,q5⟩:=R.ow i ds q;have ed:=cW e3;subst ed;have ex:=Are.ints.mp q5;subst ex;refine a H0 F0 F σ H δ _ _ R e1 λv H1 F1 g1 i1=>⟨.ref p,q1,p,_,rfl,.inl (SqL.of (g1.h _ _ q2)),?_,vZ _,?_⟩
     · rw [show v=.int n from i1];rfl
     · rw [show v=.int n from i1,Bf]
       exact h _ H1 F1 g1 (by cases neg<;>rfl)
   · cases e2
 · cases e
end
def IB(K:Fg)(neg:Bool):R2:=λx y H Q=>∃dx ds p xs,L2.IsD K H x dx/\y=.ref p/\(SqL K H p xs\/SqT K H p xs)/\L2.AllD K H xs ds/\vX dx/\(∀d∈ds,vX d)/\Q (.bl (if neg=true then !(ds.any λe=>PyData.eqv e dx)else ds.any λe=>PyData.eqv e dx)) H
noncomputable def kF(h:Heap)(dx:PyData)(y:Value):Bool:=@decide (∃d as,Reads h y d as/\d.canLay0=true/\PyData.eqv d dx=true) (Classical.propDecidable _)
theorem wy {h:Heap}{dx d:PyData}{y:Value}{as:List Addr}(r:Reads h y d as)(c:d.canLay0=true):kF h dx y=PyData.eqv d dx:=by
 unfold kF;cases e:PyData.eqv d dx with
 |true=>exact @decide_eq_true _ (Classical.propDecidable _) ⟨d,as,r,c,e⟩
 |false=>
  refine @decide_eq_false _ (Classical.propDecidable _) ?_;rintro⟨d',as',r',c',e'⟩;have:=(SeqAt.Reads.unique d d' y as as' c r r');subst this;rw [e]at e';cases e'
theorem qT {h:Heap}{dx:PyData}:∀{us:List Value} {ds:List PyData} {as:List Addr},ReadsAll h us ds as->(∀d∈ds,d.canLay0=true)->us.any (kF h dx)=ds.any λd=>PyData.eqv d dx
 |_,_,_,.nil,_=>rfl
 |_,_,_,.cons r t,c=>by
  rw [HA,HA,wy r (c _ j5),qT t λd hd=>c d (j4 _ hd)]
theorem qU {h:Heap}:∀{us:List Value} {ds:List PyData} {as:List Addr},ReadsAll h us ds as->∀y∈us,∃d∈ds,∃as',Reads h y d as'
 |_,_,_,.nil,y,hy=>by cases hy
 |_,_,_,.cons r t,y,hy=>by
  rcases Q8.mp hy with z|z
  · subst z;exact⟨_,j5,_,r⟩
  · obtain⟨d,hd,q⟩:=qU t y z;exact⟨d,j4 _ hd,q⟩
section
variable {X:Cx}
theorem NP(hu:X.A.units+64 < cLine):OpR X (compareOp .In) (IB X.K false):=by
 intro pins s σ H x y v u Q I rx ry h;obtain⟨dx,ds,p,xs,hx,rfl,hq,al,cx,cs,q⟩:=h;cases ry;obtain⟨as,ra⟩:=hx.reads I _ rx;have eq:∀{its:List Value},Vals xs its->(∀w∈its,SeqAt.EqAt X.A.in1 s w v (kF s.heap dx w))/\its.any (kF s.heap dx)=ds.any λe=>PyData.eqv e dx:=λ{its} r=>by
  obtain⟨bs,rb⟩:=AllD.reads I ds al r;refine⟨λw hw=>?_,qT rb λd hd=>(cs d hd).1⟩;obtain⟨d,hd,as',rd⟩:=qU rb w hw;rw [wy rd (cs d hd).1];refine SeqAt.eqAt_reads d dx X.A.in1 s w v as' as rd ra (cs d hd).1 cx.1 ?_;have:=cx.2;show X.A.units+1+min d.depth dx.depth < cLine;omega
 rcases hq with hq|hq
 · obtain⟨its,r,pl,hz⟩:=I.list hq;obtain⟨e1,e2⟩:=eq r;refine SeqAt.in_listAt (kF s.heap dx) pl.isList (λw hw=>e1 w (by simpa using hw)) ⟨.bl _,H,I,rfl,?_⟩
   rw [show its.toArray.any (kF s.heap dx)=its.any (kF s.heap dx)by simp,e2]
   exact q
 · obtain⟨its,r,pl,hz⟩:=I.tuple hq;obtain⟨e1,e2⟩:=eq r;refine SeqAt.in_tupleAt (kF s.heap dx) pl (λw hw=>e1 w (by simpa using hw)) ⟨.bl _,H,I,rfl,?_⟩
   rw [show its.toArray.any (kF s.heap dx)=its.any (kF s.heap dx)by simp,e2]
   exact q
theorem DG(hu:X.A.units+64 < cLine):OpR X (compareOp .NotIn) (IB X.K true):=by
 intro pins s σ H x y v u Q I rx ry h;obtain⟨dx,ds,p,xs,hx,rfl,hq,al,cx,cs,q⟩:=h;cases ry;obtain⟨as,ra⟩:=hx.reads I _ rx;have eq:∀{its:List Value},Vals xs its->(∀w∈its,SeqAt.EqAt X.A.in1 s w v (kF s.heap dx w))/\its.any (kF s.heap dx)=ds.any λe=>PyData.eqv e dx:=λ{its} r=>by
  obtain⟨bs,rb⟩:=AllD.reads I ds al r;refine⟨λw hw=>?_,qT rb λd hd=>(cs d hd).1⟩;obtain⟨d,hd,as',rd⟩:=qU rb w hw;rw [wy rd (cs d hd).1];refine SeqAt.eqAt_reads d dx X.A.in1 s w v as' as rd ra (cs d hd).1 cx.1 ?_;have:=cx.2;show X.A.units+1+min d.depth dx.depth < cLine;omega
 rcases hq with hq|hq
 · obtain⟨its,r,pl,hz⟩:=I.list hq;obtain⟨e1,e2⟩:=eq r;refine SeqAt.notIn_listAt (kF s.heap dx) pl.isList (λw hw=>e1 w (by simpa using hw)) ⟨.bl _,H,I,rfl,?_⟩
   rw [show its.toArray.any (kF s.heap dx)=its.any (kF s.heap dx)by simp,e2]
   exact q
 · obtain⟨its,r,pl,hz⟩:=I.tuple hq;obtain⟨e1,e2⟩:=eq r;refine SeqAt.notIn_tupleAt (kF s.heap dx) pl (λw hw=>e1 w (by simpa using hw)) ⟨.bl _,H,I,rfl,?_⟩
   rw [show its.toArray.any (kF s.heap dx)=its.any (kF s.heap dx)by simp,e2]
   exact q
theorem DH(K:Fg)(hu:X.A.units+64 < cLine)(h:X.K=K:=by rfl):OpR X (compareOp .NotIn) (IB K true):=h▸DG hu
end
section
variable {K:Fg}
noncomputable def MB(neg:Bool)(a b:PyData):Option PyData:=(kB b).bind λds=>if(ul a&&ds.all ul)=true then some (.bool (if neg=true then !(ds.any λe=>PyData.eqv e a)else ds.any λe=>PyData.eqv e a))else none
theorem sC {ds:List PyData}(h:∀d∈ds,d.canLay0=true):PyData.canLayAll0 ds=true:=by
 induction ds with
 |nil=>simp [PyData.canLayAll0]
 |cons d r ih=>simp [PyData.canLayAll0,h d j5,ih λx hx=>h x (j4 _ hx)]
theorem MC(neg:Bool):vi K (IB K neg) (MB neg):=λF H x y dx dy d Q s hx hy e k=>by
 obtain⟨ds,e1,e2⟩:=bind_some e;split at e2
 · rename_i c;rw [Q5,Q6]at c;cases e2;have cs:∀d∈ds,vX d:=λd hd=>d4 (c.2 d hd);cases dy with
   |list es=>
    cases e1;obtain⟨p,xs,rfl,q,ar⟩:=hy;exact⟨dx,_,p,xs,Hy dx (d4 c.1).1 (hx.same s),rfl,.inl (SqL.of (s _ _ q)),toDs _ (sC λd hd=>(cs d hd).1) (ar.same s),d4 c.1,cs,k _ H F (Grow.refl s) rfl⟩
   |tuple es=>
    cases e1;obtain⟨p,xs,rfl,q,ar⟩:=hy;exact⟨dx,_,p,xs,Hy dx (d4 c.1).1 (hx.same s),rfl,.inr (SqT.of (s _ _ q)),toDs _ (sC λd hd=>(cs d hd).1) (ar.same s),d4 c.1,cs,k _ H F (Grow.refl s) rfl⟩
   |_=>cases e1
 · cases e2
end
theorem FH {K:Fg}{f:List PyData->Option PyData}{H:Hp}{a:Addr}{ns:List Int}(h:f [tD ns]=some (.bool true))(q:SqL K H a (ns.map V.int))(tb:Tb K H):cD K 1 f [.ref a] H (λv _=>v=.bl true) λ_ _ _=>False:=
 ⟨H,[tD ns],.bool true,⟨Same.refl _,tb⟩,rfl,⟨.ref a,[],rfl,⟨a,rfl,.inl ⟨ns,rfl,q⟩⟩,rfl⟩,h,λv H' F' _ i=>i⟩
end DL
namespace DL
open PySem L2
theorem de {fg:PyData->aQ->Option aQ}{fb:aQ->Option DFlow}:∀{ds:List PyData} (P:Nat->aQ->Prop) {δ:aQ},P 0 δ->
 (∀(i:Nat) (hi:i < ds.length) (δ:aQ),P i δ->∃δ1 δ2,fg ds[i] δ=some δ1/\fb δ1=some (.nx δ2)/\P (i+1) δ2)->∃δ',kh fg fb ds δ=some (.nx δ')/\P ds.length δ'
 |[],P,δ,h0,_=>⟨δ,rfl,h0⟩
 |d::r,P,δ,h0,h=>by
  obtain⟨δ1,δ2,e1,e2,h1⟩:=h 0 (by simp) δ h0
  obtain⟨δ',e3,h3⟩:=de (ds:=r) (λi=>P (i+1)) h1 λi hi δ hp=>by
   have:=h (i+1) (by simpa using hi) δ hp
   simpa using this
  refine⟨δ',?_,h3⟩;have e1':fg d δ=some δ1:=e1;show ((fg d δ).bind λδ1=>(fb δ1).bind λfl=>match fl with
   | .nx δ2=>kh fg fb r δ2
   | .ct δ2=>kh fg fb r δ2
   | .bk δ2=>some (.nx δ2)
   | .rt v=>some (.rt v)
   | .ro v=>some (.ro v))=_
  rw [e1'];show ((fb δ1).bind λfl=>match fl with
   | .nx δ2=>kh fg fb r δ2
   | .ct δ2=>kh fg fb r δ2
   | .bk δ2=>some (.nx δ2)
   | .rt v=>some (.rt v)
   | .ro v=>some (.ro v))=_
  rw [e2];exact e3
theorem vo {f:PyData->Option (Option PyData)}{g:PyData->PyData}:∀{ds:List PyData},(∀d∈ds,f d=some (some (g d)))->ij f ds=some (ds.map g)
 |[],_=>rfl
 |d::r,h=>by
  show ((f d).bind λo=>match o with
   |some y=>(ij f r).map (y:: ·)
   |none=>ij f r)=_
  rw [h d j5];show (ij f r).map (g d:: ·)=_
  rw [vo λx hx=>h x (j4 _ hx)];rfl
theorem oU {f:PyData->Option (Option PyData)}{p:PyData->Bool}{g:PyData->PyData}:∀{ds:List PyData},(∀d∈ds,f d=some (if p d=true then some (g d)else none))->ij f ds=some ((ds.filter p).map g)
 |[],_=>rfl
 |d::r,h=>by
  have ih:=oU (ds:=r) (f:=f) (p:=p) (g:=g) λx hx=>h x (j4 _ hx);show ((f d).bind λo=>match o with
   |some y=>(ij f r).map (y:: ·)
   |none=>ij f r)=_
  rw [h d j5];cases e:p d with
  |true=>
   show (ij f r).map (g d:: ·)=_
   rw [ih,List.filter_cons,e];rfl
  |false=>
   show ij f r=_;rw [ih,List.filter_cons,e];rfl
theorem im {n:Nat}{fr:List (Str×Nat)}{fi:aQ->Option (List PyData)}{fg:PyData->aQ->Option aQ}{fc:aQ->Option Bool}{fe:aQ->Option PyData}{δ:aQ}{ds:List PyData}(g:PyData->PyData)(h1:fi δ=some ds)(hl:ds.length<=fh)
 (h:∀d∈ds,((fg d (gb n fr δ)).bind λδ1=>(fc δ1).bind λb=>if b=true then(fe δ1).map some else some none)=some (some (g d))):bR n fr fi fg fc fe δ=some (ds.map g):=by
 unfold bR;rw [h1];show (if ds.length<=fh then _ else none)=_;rw [if_pos hl];exact vo h
theorem fE {n:Nat}{fr:List (Str×Nat)}{fi:aQ->Option (List PyData)}{fg:PyData->aQ->Option aQ}{fc:aQ->Option Bool}{fe:aQ->Option PyData}{δ:aQ}{ds:List PyData}(p:PyData->Bool)(g:PyData->PyData)(h1:fi δ=some ds)(hl:ds.length<=fh)
 (h:∀d∈ds,((fg d (gb n fr δ)).bind λδ1=>(fc δ1).bind λb=>if b=true then(fe δ1).map some else some none)=some (if p d=true then some (g d)else none)):bR n fr fi fg fc fe δ=some ((ds.filter p).map g):=by
 unfold bR;rw [h1];show (if ds.length<=fh then _ else none)=_;rw [if_pos hl];exact oU h
noncomputable def aJ(c:List Int):PyData:=.tuple (c.map PyData.int)
mutual
noncomputable def nb:PyData->Bool
 | .none=>true
 | .bool _=>false
 | .int _=>true
 | .str _=>true
 | .list ds=>nbs ds
 | .tuple ds=>nbs ds
 | .dict _=>false
noncomputable def nbs:List PyData->Bool
 |[]=>true
 |d::r=>nb d&&nbs r
end
mutual
theorem wz:∀(a b:PyData),nb a=true->nb b=true->(PyData.eqv a b=true↔a=b)
 | .none,b,_,hb=>by cases b<;>simp [PyData.eqv,nb]at hb ⊢
 | .bool _,_,ha,_=>by simp [nb]at ha
 | .int i,b,_,hb=>by cases b<;>simp [PyData.eqv,nb]at hb ⊢
 | .str i,b,_,hb=>by cases b<;>simp [PyData.eqv,nb]at hb ⊢
 | .list xs,b,ha,hb=>by
  cases b with
  |list ys=>
   have:=eqvs_iff xs ys (by simpa [nb]using ha) (by simpa [nb]using hb)
   simp [PyData.eqv,this]
  |_=>simp [PyData.eqv,nb]at hb ⊢
 | .tuple xs,b,ha,hb=>by
  cases b with
  |tuple ys=>
   have:=eqvs_iff xs ys (by simpa [nb]using ha) (by simpa [nb]using hb)
   simp [PyData.eqv,this]
  |_=>simp [PyData.eqv,nb]at hb ⊢
 | .dict _,_,ha,_=>by simp [nb]at ha
theorem eqvs_iff:∀(a b:List PyData),nbs a=true->nbs b=true->(PyData.eqvAll a b=true↔a=b)
 |[],[],_,_=>by simp [PyData.eqvAll]
 |[],_::_,_,_=>by simp [PyData.eqvAll]
 |_::_,[],_,_=>by simp [PyData.eqvAll]
 |x::xs,y::ys,ha,hb=>by
  simp only [nbs,Q5]at ha hb;have h1:=wz x y ha.1 hb.1;have h2:=eqvs_iff xs ys ha.2 hb.2;simp [PyData.eqvAll,h1,h2]
end
theorem Bp {ds:List PyData}:nbs ds=true↔ ∀d∈ds,nb d=true:=by
 induction ds with
 |nil=>simp [nbs]
 |cons d r ih=>simp [nbs,ih]
theorem IC {ds:List PyData}(h:∀d∈ds,nb d=true):nb (.list ds)=true:=by simpa [nb]using Bp.mpr h
theorem Ka {ds:List PyData}(h:∀d∈ds,nb d=true):nb (.tuple ds)=true:=by simpa [nb]using Bp.mpr h
theorem xA(c:List Int):nb (aJ c)=true:=Ka λd hd=>by
 obtain⟨n,_,rfl⟩:=Qd.mp hd;rfl
def okN(n:Nat)(d:PyData):Prop:=d.canLay0=true/\d.depth<=n
theorem okN.ok {n:Nat}{d:PyData}(h:okN n d)(hn:n<=60:=by decide):ul d=true:=by
 unfold ul;rw [Q5,decide_eq_true_eq];exact⟨h.1,Qe h.2 hn⟩
theorem lz(i:Int):okN 0 (.int i):=⟨by simp [PyData.canLay0],by simp [PyData.depth]⟩
theorem FI {ds:List PyData}{n:Nat}(h:∀d∈ds,d.depth<=n):PyData.depthAll ds<=n:=by
 induction ds with
 |nil=>simp [PyData.depthAll]
 |cons d r ih=>
  have h1:=h d j5;have h2:=ih λx hx=>h x (j4 _ hx);simp only [PyData.depthAll];omega
theorem FJ {ds:List PyData}{n:Nat}(h:∀d∈ds,okN n d):okN (n+1) (.list ds):=by
 refine⟨?_,?_⟩
 · simp only [PyData.canLay0];exact sC λd hd=>(h d hd).1
 · simp only [PyData.depth];have:=FI λd hd=>(h d hd).2;omega
theorem ID {ds:List PyData}{n:Nat}(h:∀d∈ds,okN n d):okN (n+1) (.tuple ds):=by
 refine⟨?_,?_⟩
 · simp only [PyData.canLay0];exact sC λd hd=>(h d hd).1
 · simp only [PyData.depth];have:=FI λd hd=>(h d hd).2;omega
theorem io(c:List Int):okN 1 (aJ c):=ID λd hd=>by
 obtain⟨n,_,rfl⟩:=Qd.mp hd;exact lz n
theorem tK {a b:List Int}(h:aJ a=aJ b):a=b:=by
 unfold aJ at h;injection h with h
 have:=congrArg hZ h;rw [bZ,bZ]at this;exact zV this
theorem jg(a b:List Int):PyData.eqv (aJ a) (aJ b)=decide (a=b):=by
 rw [Bool.eq_iff_iff,wz _ _ (xA a) (xA b),decide_eq_true_eq];exact⟨tK,λh=>by rw [h]⟩
theorem Bq(i j:Int):PyData.eqv (.int i) (.int j)=decide (i=j):=by
 rw [PyData.eqv];rfl
theorem Ab {a b:PyData}(ha:ul a=true)(hb:ul b=true):gj a b=some (.bool (PyData.eqv a b)):=by
 unfold gj;rw [ha,hb];rfl
theorem Ac {a b:PyData}(ha:ul a=true)(hb:ul b=true):tI a b=some (.bool (!PyData.eqv a b)):=by
 unfold tI;rw [ha,hb];rfl
theorem dF(i j:Int):gj (.int i) (.int j)=some (.bool (decide (i=j))):=by rw [Ab (lz i).ok (lz j).ok,Bq]
theorem xB(i j:Int):tI (.int i) (.int j)=some (.bool (!decide (i=j))):=by rw [Ac (lz i).ok (lz j).ok,Bq]
theorem yM(a b:List Int):gj (aJ a) (aJ b)=some (.bool (decide (a=b))):=by rw [Ab (io a).ok (io b).ok,jg]
theorem FK(a b:List Int):tI (aJ a) (aJ b)=some (.bool (!decide (a=b))):=by rw [Ac (io a).ok (io b).ok,jg]
theorem FL(i:Int):rX (.int i) "int"=true:=by simp [rX,IA]
theorem FM(i:Int):rX (.int i) "bool"=false:=by simp [rX,IA]
theorem xC(ds:List PyData):rX (.tuple ds) "tuple"=true:=by simp [rX,IA]
theorem Kb(ds:List PyData):rX (.list ds) "list"=true:=by simp [rX,IA]
theorem lM(i j:Int):cp (.int i) (.int j)=some (.int (i+j)):=rfl
theorem xD(i j:Int):uv (.int i) (.int j)=some (.int (i - j)):=rfl
theorem tL(i j:Int):sB (.int i) (.int j)=some (.bool (decide (i < j))):=rfl
theorem Je(i j:Int):Lw (.int i) (.int j)=some (.bool (decide (i<=j))):=rfl
theorem MD(i j:Int):Lx (.int i) (.int j)=some (.bool (decide (j < i))):=rfl
theorem sD(i j:Int):rA (.int i) (.int j)=some (.int (i+j)):=rfl
theorem xE(i j:Int):lK (.int i) (.int j)=if oR i j=true then some (.int (i*j))else none:=rfl
theorem xF(i j:Int):DC (.int i) (.int j)=if A8 i j=true then some (.int (i % j))else none:=rfl
theorem Br(ds:List PyData):yJ (.tuple ds)=some ds.length:=rfl
theorem vp(ds:List PyData):yJ (.list ds)=some ds.length:=rfl
theorem yN(ns:List Int):A9 (tD ns)=some ns:=bZ ns
theorem yO(ns:List Int):yJ (tD ns)=some ns.length:=by
 show (A9 (tD ns)).map List.length=_;rw [yN];rfl
theorem IE(ns:List Int)(i:Int):cQ (tD ns) (.int i)=(uq ns i).map PyData.int:=by
 show ((A9 (tD ns)).bind λns=>(uq ns i).map PyData.int)=_;rw [yN];rfl
theorem yP {α:Type}{xs:List α}{j:Nat}(h:j < xs.length):uq xs (j:Int)=some xs[j]:=Ba (iF h)
end DL
namespace DL
open PySem PySem.Spec PyProof.Rows L2
noncomputable def Ad(f:Expr->Option PyData):List Expr->Option (List PyData)
 |[]=>some []
 |e::r=>(f e).bind λd=>(Ad f r).map (d:: ·)
noncomputable def lit:Nat->Expr->Option PyData
 |0,_=>none
 |n+1,e=>match e with
  | .Constant (.int i) _ _=>some (.int i)
  | .Constant (.bool b) _ _=>some (.bool b)
  | .Constant .none _ _=>some .none
  | .Constant (.str x) _ _=>some (.str x)
  | .Tuple es _ _=>(Ad (lit n) es).map .tuple
  | .List es _=>(Ad (lit n) es).map .list
  |_=>none
mutual
noncomputable def Mr:PyData->TE
 | .none=>tC .non
 | .bool b=>tC (.bl b)
 | .int i=>tC (.int i)
 | .str x=>tC (.str x)
 | .tuple ds=>HN (tOfs ds)
 | .list ds=>oH (tOfs ds)
 | .dict _=>λ_ _ _=>False
noncomputable def tOfs:List PyData->TA
 |[]=>dZ
 |d::r=>bG (Mr d) (tOfs r)
end
mutual
noncomputable def yQ:PyData->Bool
 | .none=>true
 | .bool _=>true
 | .int _=>true
 | .str _=>true
 | .tuple ds=>decide (ds.length<=fh)&&litsOk ds
 | .list ds=>decide (ds.length<=fh)&&litsOk ds
 | .dict _=>false
noncomputable def litsOk:List PyData->Bool
 |[]=>true
 |d::r=>yQ d&&litsOk r
end
section
variable {X:Cx}
theorem tM {n:Nat}{e:Expr}{d:PyData}{es:List Expr}(h:lit n e=some d):starEach (e::es) X.env=(false,eval e X.env)::starEach es X.env:=by
 cases n with
 |zero=>cases h
 |succ n=>cases e<;>first|rfl|(simp [lit]at h)
theorem oV {f:Expr->Option PyData}(hf:∀e d,f e=some d->PE X e (Mr d)/\∀es,starEach (e::es) X.env=(false,eval e X.env)::starEach es X.env):∀{es:List Expr} {ds:List PyData},Ad f es=some ds->PA X es (tOfs ds)
 |[],ds,h=>by cases h;exact aH
 |e::r,ds,h=>by
  obtain⟨d,e1,e2⟩:=bind_some h;obtain⟨us,e3,e4⟩:=Q0.mp e2;subst e4;exact aA (hf e d e1).1 (oV hf e3) ((hf e d e1).2 r)
theorem Ae:∀(n:Nat) (e:Expr) (d:PyData),lit n e=some d->PE X e (Mr d)
 |0,_,_,h=>by cases h
 |n+1,e,d,h=>by
  unfold lit at h;split at h
  · cases h;exact aO
  · cases h;exact j7
  · cases h;exact lA
  · cases h;exact AH
  · obtain⟨us,e3,e4⟩:=Q0.mp h;subst e4;exact gA (oV (λe d q=>⟨Ae n e d q,λes=>tM q⟩) e3)
  · obtain⟨us,e3,e4⟩:=Q0.mp h;subst e4;exact cw (oV (λe d q=>⟨Ae n e d q,λes=>tM q⟩) e3)
  · cases h
@[irreducible] noncomputable def vq (ds:List PyData):TA:=tOfs ds
theorem Bs {es:List Expr}(ds:List PyData)(h:Ad (lit 4) es=some ds):PA X es (vq ds):=by
 unfold vq;exact oV (λe d q=>⟨Ae 4 e d q,λes=>tM q⟩) h
theorem IF {i:Nat}{x:Str}{es:List Expr}{p1 p2 pos:Pos}(ds:List PyData)(hN:X.N.Nodup)(hi:X.N[i]? =some x)(hx:HE X.env.scope x)(h:Ad (lit 4) es=some ds)(hs:swapsWith (.List es p2) (some (.Name x p1)) pos.line X.env=pure false)(hf:X.fn x=true\/X.env.scope.names.lookup x=some .local):
 PS X (.Assign [.Name x p1] (.List es p2) pos) (hV (oH (vq ds)) (cE i)):=AJ hN hi hx (cw (Bs ds h)) hs hf
theorem tN {st:Stmt}{bt:List Stmt}{t u:TS}(h1:PS X st t)(h2:PSs X bt u):PSs X (st::bt) (eF t u):=aI h1 h2
end
section
variable {K:Fg}
noncomputable def rC(ds:List PyData)(_:aQ):Option (List PyData):=some ds
mutual
theorem Kc:∀(d:PyData),yQ d=true->SE K (Mr d) (dC d)
 | .none,_=>A3
 | .bool _,_=>lI
 | .int _,_=>aP
 | .str _,_=>A4
 | .tuple ds,h=>by
  simp only [yQ,Q5,decide_eq_true_eq]at h;have q:=gi (sa_litsF ds h.2);intro H0 F0 F σ H δ d Q R e k;refine q H0 F0 F σ H δ d Q R ?_ k;cases e;show ((some ds).bind λds=>if ds.length<=fh then some (PyData.tuple ds)else none)=_;simp [h.1]
 | .list ds,h=>by
  simp only [yQ,Q5,decide_eq_true_eq]at h;have q:=cP (dq (sa_litsF ds h.2));intro H0 F0 F σ H δ d Q R e k;refine q H0 F0 F σ H δ d Q R ?_ k;cases e;show (((some ds).bind λds=>if ds.length<=fh then some ds else none).map PyData.list)=_;simp [h.1]
 | .dict _,h=>by simp [yQ]at h
theorem sa_litsF:∀(ds:List PyData),litsOk ds=true->SA K (tOfs ds) (rC ds)
 |[],_=>aL
 |d::r,h=>by
  simp only [litsOk,Q5]at h;have q:=aD (Kc d h.1) (sa_litsF r h.2);intro H0 F0 F σ H δ ds Q R e k;refine q H0 F0 F σ H δ ds Q R ?_ k;cases e;rfl
end
theorem Bu(ds:List PyData)(h:litsOk ds=true):SA K (vq ds) (rC ds):=by
 unfold vq;exact sa_litsF ds h
end
section
variable {X:Cx}
end
section
variable {K:Fg}
end
section
variable {X:Cx}
end
section
variable {K:Fg}
end
end DL
namespace DL
open PySem L2 PyProof.Rows
section
variable {K:Fg}
structure XI where
 c:Addr
 z:Option Int
instance:Coe Addr XI:=⟨λc=>⟨c,none⟩⟩
def XI.ok(C:XI)(v:Value):Prop:=match C.z with
 |none=>∃ea,v=.ref ea
 |some n=>∃t,v=.int n t
def oW(K:Fg)(n:Nat)(C:XI)(g:List PyData->Bool):Sp:=λvs H _ E=>∃F ds,lH K F H/\vs.length=n/\Are K F vs ds/\g ds=true/\∀v F' H',Grow F H F' H'->C.ok v->E v (some C.c) H'
def SX(K:Fg)(E:XK)(C:XI)(ts:TS)(fx:aQ->Bool):Prop:=∀(H0 F0 F:Hp) (σ:St) (H:Hp) (δ:aQ) (D:Ends),Rep K H0 F0 F σ H δ->fx δ=true->(∀v F' H',Grow F0 H0 F' H'->C.ok v->E v (some C.c) H')->ts D σ H
def L1(K:Fg)(E:XK)(C:XI)(te:TE)(fx:aQ->Bool):Prop:=∀(H0 F0 F:Hp) (σ:St) (H:Hp) (δ:aQ) (Q:VK),Rep K H0 F0 F σ H δ->fx δ=true->(∀v F' H',Grow F H F' H'->C.ok v->E v (some C.c) H')->te σ H Q
variable {E:XK} {C:XI}
noncomputable def xG(fs:aQ->Option (List PyData))(δ:aQ):Bool:=match fs δ with
 |some ds=>decide (ds.length<=1000)
 |none=>false
theorem xH {F:Hp}:∀{xs:List V} {ds:List PyData},Are K F xs ds->xs.length=ds.length
 |_,[],h=>by cases h;rfl
 |_,d::ds,h=>by
  obtain⟨x,r,rfl,_,h⟩:=h;rw [zC,zC,xH h]
theorem yR {C:Addr}{ta:TA}{fs:aQ->Option (List PyData)}(a:SA K ta fs):SX K E C (El C E ta) (xG fs):=λH0 F0 F σ H δ D R e k=>by
 unfold xG at e;split at e
 · rename_i ds q;exact a H0 F0 F σ H δ ds _ R q λvs H' F' g ar=>⟨by rw [xH ar];exact sj (of_decide_eq_true e),λea=>k (.ref ea) F' H' (R.g.trans g) ⟨ea,rfl⟩⟩
 · cases e
noncomputable def Nc(c:aQ->Option Bool)(fx:aQ->Bool)(δ:aQ):Bool:=match c δ with
 |some true=>fx δ
 |_=>false
theorem mC {t u:TS}{fx:aQ->Bool}(b:SX K E C t fx):SX K E C (eF t u) fx:=λH0 F0 F σ H δ D R e k=>b H0 F0 F σ H δ _ R e k
noncomputable def dN(n:Nat)(g:List PyData->Bool)(fs:aQ->Option (List PyData))(δ:aQ):Bool:=match fs δ with
 |some ds=>decide (ds.length=n)&&g ds
 |none=>false
theorem fF {n:Nat}{g:List PyData->Bool}{t:TA}{fs:aQ->Option (List PyData)}(a:SA K t fs):L1 K E C (oJ (oW K n C g) [] E t) (dN n g fs):=λH0 F0 F σ H δ Q R e k=>by
 unfold dN at e;split at e
 · rename_i ds q;obtain⟨e1,e2⟩:=Bool.and_eq_true_iff.mp e;refine a H0 F0 F σ H δ ds _ R q λvs H' F' g' ar=>?_;show oW K n C g (vs++[]) H' Q E;rw [Q4];exact⟨F',ds,⟨g'.s,R.tb.same g'.f⟩,by rw [xH ar];exact of_decide_eq_true e1,ar,e2,λea F2 H2 g2=>k ea F2 H2 (g'.trans g2)⟩
 · cases e
theorem Kd {te:TE}{g:TG}{fx:aQ->Bool}(a:L1 K E C te fx):SX K E C (hV te g) fx:=λH0 F0 F σ H δ D R e k=>a H0 F0 F σ H δ _ R e λea F' H' g'=>k ea F' H' (R.g.trans g')
theorem lN {te:TE}{fx:aQ->Bool}(a:L1 K E C te fx):SX K E C (ju te) fx:=λH0 F0 F σ H δ D R e k=>a H0 F0 F σ H δ _ R e λea F' H' g'=>k ea F' H' (R.g.trans g')
end
section
variable {P:Program} {w:World} {K:Fg} {mg:Str->Option Value} {base:Heap}
noncomputable def kx(n:Nat)(fx:aQ->Bool)(ds:List PyData):Bool:=fx (cj n ds)
theorem jM {x qual:Str}{st:Stmt}{f:Addr}{fd:FuncData}{N ps:List Str}{k n m:Nat}{C:XI}{fx:aQ->Bool}(F:Fun K x qual st f fd)(S:FnScope N ps (aS st))(hN:N.length=n)(hm:ps.length=m)
 (hbody : ∀ (cdv : Value) (A : Around) (outer : List Env) (s : Shared) (H : Hp) (E : XK), Room k (A.deeper (envOfC qual (aS st) s.heap.objs.size f cdv)) ->
  ∃t,PSs (nI (sq P w) P w K mg base N qual (aS st) f cdv A outer s H E) (eV st) t/\SX K E C t fx):FnOk P w K mg base (sq P w) (k+1) f fd ps (oW K m C (kx n fx)):=by
 subst hN hm;obtain⟨oc,od,kV,doc,pm,an,cdv,ct,osl,rfl,lk,hcd⟩:=F.ex;refine JW lk hcd S (λvs H Q E h=>?_) (λA outer s H vs Q E hr h=>?_)
 · obtain⟨F',ds,_,hl,_⟩:=h;exact hl
 · obtain⟨F',ds,sF,hl,ar,e,q⟩:=h;obtain⟨t,ht,hs⟩:=hbody cdv A outer s H E hr;exact⟨t,ht,hs H F' F' (L2.dL N vs) H (cj N.length ds) _ (jf sF ar) e q⟩
end
section
variable {K:Fg}
noncomputable def rY(f:aQ->Option DFlow)(fx:aQ->Bool)(δ:aQ):Bool:=match f δ with
 |some (.nx δ')=>fx δ'
 |_=>false
theorem xI {E:XK}{C:XI}{t u:TS}{f:aQ->Option DFlow}{fx:aQ->Bool}(a:SS K t f)(b:SX K E C u fx):SX K E C (eF t u) (rY f fx):=λH0 F0 F σ H δ D R e k=>by
 unfold rY at e;split at e
 · rename_i δ' q;exact a H0 F0 F σ H δ (.nx δ') _ R q λF' σ' H' R' _=>b H0 F0 F' σ' H' δ' D R' e k
 · cases e
theorem IG {E:XK}{C:XI}{te:TE}{fx:aQ->Bool}(a:L1 K E C te fx):SX K E C (jJ te) fx:=λH0 F0 F σ H δ D R e k=>a H0 F0 F σ H δ _ R e λea F' H' g'=>k ea F' H' (R.g.trans g')
end
structure OwnX (P:Program) (w:World) (K:Fg) (mg:Str->Option Value) (base:Heap) (k:Nat) (x:Str) (ps:List Str) (sp:Sp):Prop where
 ex:∃(f:Addr) (fd:FuncData),FnOk P w K mg base (sq P w) k f fd ps sp/\mg x=some (.ref f)/\PySem.W.keepIn K (.ref f)=true/\Binds K fd ps []
section
variable {X:Cx}
theorem gu {k n:Nat}{x:Str}{ps:List Str}{sp:Sp}{p pos:Pos}{e:Expr}{es:List Expr}{t:TA}{E:XK}(O:OwnX X.prog X.w X.K X.mg X.base k x ps sp)(hr:Room n X.A)(hx:jw (sq X.prog X.w) X E)(ha:PA X (e::es) t)(hkn:k<=n:=by decide)(hg:Gl X x:=by rfl)
 (hdb:(x==("__debug__":Str))=false:=by decide) (he:starEach (e::es) X.env=(false,eval e X.env)::starEach es X.env:=by rfl) (hpl:(backTo pos (starEach es X.env)).any (·.1)=false:=by rfl):
 PE X (.Call (.Name x p) (e::es) [] pos) (oJ sp [] E t):=by
 obtain⟨f,fd,F,m,kp,b⟩:=O.ex;exact B7 F (hr.mono hkn) hg m kp b .nil hx ha hdb he hpl
end
end DL
namespace DL
open PySem PySem.Spec PyProof.Rows L2
noncomputable def Ke(nm:Str):PyData:=.dict [(.bool true,.str nm)]
structure OwnN (P:Program) (w:World) (K:Fg) (mg:Str->Option Value) (base:Heap) (k:Nat) (x:Str) (ps:List Str) (sp:Sp):Prop where
 ex:∃(f:Addr) (fd:FuncData),FnOk P w K mg base fZ k f fd ps sp/\PySem.W.nsIn K mainGlobals x=some (some (.ref f))/\PySem.W.keepIn K (.ref f)=true/\Binds K fd ps []
def FN(K:Fg)(i:Nat)(nm:Str)(sp:Sp)(t:TA):TE:=λσ H Q=>∃f,σ[i]? =some (some (.ref f))/\PySem.W.nsIn K mainGlobals nm=some (some (.ref f))/\t σ H λvs H1=>sp (vs++[]) H1 Q E0
theorem IH {X:Cx}{k n i:Nat}{x nm:Str}{ps:List Str}{sp:Sp}{p pos:Pos}{e:Expr}{es:List Expr}{t:TA}(O:OwnN X.prog X.w X.K X.mg X.base k nm ps sp)(hr:Room n X.A)(hv:PE X (.Name x p) (au i))(ha:PA X (e::es) t)(hkn:k<=n:=by decide)
 (he:starEach (e::es) X.env=(false,eval e X.env)::starEach es X.env:=by rfl) (hpl:(backTo pos (starEach es X.env)).any (·.1)=false:=by rfl):
 PE X (.Call (.Name x p) (e::es) [] pos) (FN X.K i nm sp t):=by
 intro pins s σ H Q I h;obtain⟨f,hs,hn,h⟩:=h;obtain⟨f',fd,F,m,kp,b⟩:=O.ex;rw [hn]at m;cases m;refine wpAny_Call_Name_kw (cU (hv pins s σ H (λv H1=>v=.ref f/\H1=H) I ⟨_,hs,rfl,rfl⟩) λu s1 ⟨v,H1,I1,r,q⟩=>?_);obtain⟨rfl,rfl⟩:=q;obtain rfl:u=.ref f:=r;refine PySem.W.callWith_K (h₀:=X.base) I1.ok.mod.kin kp (cU (ha pos pins s1 σ _ _ I1 h) λus s2 ⟨vs,H2,I2,r2,q2⟩=>⟨I2.kIn,?_⟩) he hpl;exact AU F (hr.mono hkn) b .nil oM I2 r2 q2
section
variable {K:Fg}
theorem ME {a:Addr}{nm:Str}(h:PySem.W.nsIn K mainGlobals nm=some (some (.ref a))):SE K (tC (.ref a)) (dC (Ke nm)):=by
 intro H0 F0 F σ H δ d Q R e k;cases e;exact k (.ref a) H F (Grow.refl R.g.s) ⟨a,rfl,.inr (.inr (.inl ⟨nm,rfl,h⟩))⟩
noncomputable def isFn(nm:Str):PyData->Bool
 | .dict [(.bool true,.str x)]=>x==nm
 |_=>false
theorem DI(nm:Str):isFn nm (Ke nm)=true:=by
 show (nm==nm)=true
 simp
noncomputable def xJ(i:Nat)(nm:Str)(n:Nat)(g:List PyData->Option PyData)(fs:aQ->Option (List PyData))(δ:aQ):Option PyData:=(aF i δ).bind λd=>if isFn nm d=true then aG n g fs δ else none
theorem FO {i n:Nat}{nm:Str}{g:List PyData->Option PyData}{t:TA}{fs:aQ->Option (List PyData)}(a:SA K t fs):SE K (FN K i nm (cD K n g) t) (xJ i nm n g fs):=by
 intro H0 F0 F σ H δ d Q R e h;obtain⟨d0,e1,e2⟩:=bind_some e;split at e2
 · rename_i hd;have hf:d0=Ke nm:=by
    unfold isFn at hd;split at hd
    · rw [show _=nm from eq_of_beq hd];rfl
    · cases hd
   subst hf;unfold aF at e1;split at e1
   · rename_i d1 e0;cases e1;obtain⟨v,hv,a0,rfl,hh⟩:=R.fz i _ e0
     rcases hh with ⟨ns,z,_⟩|⟨m,z,kv⟩|⟨nm',z,hn⟩|⟨m,z,kv⟩
     · cases z
     · obtain⟨q,m',_,q2,_⟩:=kv;cases q2.1
     · cases z;exact⟨a0,hv,hn,aV (K:=K) a H0 F0 F σ H δ d Q R e2 h⟩
     · cases kv.1
   · cases e1
 · cases e2
end
end DL
namespace SRT
open PySem PySem.W PyProof.Rows
noncomputable def DJ {α:Type}(lt:Nat->Nat->Bool)(n:Nat):KasT α->(α->Prop)->Prop
 | .ret a,Q=>Q a
 | .ask i j k,Q=>i < n/\j < n/\DJ lt n (k (lt i j)) Q
theorem h9 {α:Type}{lt:Nat->Nat->Bool}{n:Nat}{Q Q':α->Prop}(h:∀a,Q a->Q' a):∀{t:KasT α},DJ lt n t Q->DJ lt n t Q'
 | .ret a,q=>h a q
 | .ask i j k,q=>⟨q.1,q.2.1,h9 h q.2.2⟩
theorem jh {α β:Type}{lt:Nat->Nat->Bool}{n:Nat}{f:α->KasT β}{Q:β->Prop}:∀{t:KasT α},DJ lt n t (λa=>DJ lt n (f a) Q)->DJ lt n (t.bind f) Q
 | .ret a,q=>q
 | .ask i j k,q=>⟨q.1,q.2.1,jh q.2.2⟩
theorem FP {α:Type}{lt:Nat->Nat->Bool}{n:Nat}{cmp:Nat->Nat->(Bool->Shared->Prop)->Shared->Prop}{J:Shared->Prop}(hc:∀i j C s,i < n->j < n->J s->(∀s',J s'->C (lt i j) s')->cmp i j C s){Q:α->Prop}{Q':α->Shared->Prop}
 (h:∀a s,Q a->J s->Q' a s):∀{t:KasT α} {s:Shared},J s->DJ lt n t Q->t.kasWp cmp Q' s
 | .ret a,s,js,q=>h a s q js
 | .ask i j k,s,js,q=>hc i j _ s q.1 q.2.1 js λs' js'=>FP hc h js' q.2.2
noncomputable def g(p:Array Nat)(i:Nat):Nat:=(p[i]?).getD 0
theorem lO(p:Array Nat)(i:Nat):p.getD i 0=g p i:=by unfold g;rw [Array.getD_eq_getD_getElem?]
structure Ord (lt:Nat->Nat->Bool) (n:Nat):Prop where
 tr:∀a b c,lt a b=true->lt b c=true->lt a c=true
 to:∀a b,a < n->b < n->a≠b->lt a b=false->lt b a=true
structure Pm (n:Nat) (p:Array Nat):Prop where
 sz:p.size=n
 lt:∀i,i < n->g p i < n
 inj:∀i j,i < n->j < n->g p i=g p j->i=j
 pe:p.Perm (List.range n).toArray
def Af(lt:Nat->Nat->Bool)(p:Array Nat)(m:Nat):Prop:=∀i j,i < j->j < m->lt (g p i) (g p j)=true
def MF(lt:Nat->Nat->Bool)(p:Array Nat)(m:Nat):Prop:=∀i j,i < j->j < m->lt (g p j) (g p i)=true
theorem Bv {n:Nat}{p:Array Nat}(h:p.Perm (List.range n).toArray):Pm n p:=by
 have hl:p.toList.Perm (List.range n):=by simpa using Array.perm_iff_toList_perm.mp h
 have hz:p.size=n:=by rw [<-B2,hl.length_eq,List.length_range]
 have hnd:p.toList.Nodup:=hl.nodup_iff.mpr List.nodup_range;have hg:∀i (hi:i < p.toList.length),g p i=p.toList[i]:=λi hi=>by
  unfold g;rw [<-LX,iF hi];rfl
 have hlen:p.toList.length=n:=by rw [B2];exact hz
 refine⟨hz,λi hi=>?_,λi j hi hj e=>?_,h⟩
 · rw [hg i (by omega)]
   have:=hl.mem_iff.mp (C6 (l:=p.toList) (n:=i) (by omega))
   simpa using this
 · rw [hg i (by omega),hg j (by omega)]at e
   exact(List.getElem_inj hnd).mp e
section
variable {lt:Nat->Nat->Bool} {n:Nat} (O:Ord lt n)
include O
theorem FQ {p:Array Nat}{m:Nat}(h1:1<=m)(a:Af lt p m)(l:lt (g p (m - 1)) (g p m)=true):Af lt p (m+1):=λi j hij hj=>by
 by_cases e:j=m
 · subst e
   by_cases e2:i=j - 1
   · rw [e2];exact l
   · exact O.tr _ _ _ (a i (j - 1) (by omega) (by omega)) l
 · exact a i j hij (by omega)
theorem FR {p:Array Nat}{m:Nat}(h1:1<=m)(a:MF lt p m)(l:lt (g p m) (g p (m - 1))=true):MF lt p (m+1):=λi j hij hj=>by
 by_cases e:j=m
 · subst e
   by_cases e2:i=j - 1
   · rw [e2];exact l
   · exact O.tr _ _ _ l (a i (j - 1) (by omega) (by omega))
 · exact a i j hij (by omega)
theorem Ag {p:Array Nat}(P:Pm n p):∀(f m:Nat),1<=m->m+f=n->Af lt p m->DJ lt n (kas_asc p f m) (λr=>m<=r/\r<=n/\Af lt p r/\(r < n->lt (g p r) (g p (r - 1))=true))
 |0,m,h1,hm,a=>⟨Q2 _,by omega,a,λz=>absurd z (by omega)⟩
 |f+1,m,h1,hm,a=>by
  unfold kas_asc;rw [lO,lO];refine⟨P.lt _ (by omega),P.lt _ (by omega),?_⟩
  cases c:lt (g p m) (g p (m - 1))with
  |true=>exact⟨Q2 _,by omega,a,λ_=>c⟩
  |false=>
   have l:=O.to _ _ (P.lt m (by omega)) (P.lt (m - 1) (by omega)) (λe=>by have:=P.inj m (m - 1) (by omega) (by omega) e;omega) c
   exact h9 (λr q=>⟨by omega,q.2⟩) (Ag P f (m+1) (by omega) (by omega) (FQ O h1 a l))
theorem Bw {p:Array Nat}(P:Pm n p):∀(f m:Nat),1<=m->m+f=n->MF lt p m->DJ lt n (kas_desc f p m 0) (λr=>r.1=p/\r.2.2=0/\m<=r.2.1/\r.2.1<=n/\MF lt p r.2.1)
 |0,m,h1,hm,a=>⟨rfl,rfl,Q2 _,by show m<=n;omega,a⟩
 |f+1,m,h1,hm,a=>by
  unfold kas_desc;rw [lO,lO];refine⟨P.lt _ (by omega),P.lt _ (by omega),?_⟩
  cases c:lt (g p m) (g p (m - 1))with
  |true=>exact h9 (λr q=>⟨q.1,q.2.1,by omega,q.2.2.2⟩) (Bw P f (m+1) (by omega) (by omega) (FR O h1 a c))
  |false=>
   have l:=O.to _ _ (P.lt m (by omega)) (P.lt (m - 1) (by omega)) (λe=>by have:=P.inj m (m - 1) (by omega) (by omega) e;omega) c
   refine⟨P.lt _ (by omega),P.lt _ (by omega),?_⟩
   rw [l];exact⟨rfl,rfl,Q2 _,by show m<=n;omega,a⟩
omit O in
theorem FS {p:Array Nat}(P:Pm n p)(i j:Nat):Pm n (kas_rev p i j):=Bv ((mirror_perm _ _ _ _).trans P.pe)
omit O in
theorem II {p:Array Nat}(P:Pm n p){m:Nat}(hm:m<=n)(a:MF lt p m):Af lt (kas_rev p 0 m) m:=λi j hij hj=>by
 have e:∀k,k < m->g (kas_rev p 0 m) k=g p (m - 1 - k):=λk hk=>by
  unfold g kas_rev;rw [getElem?_mirror_all (by rw [P.sz];exact hm),if_pos ⟨zU _,hk⟩,Nat.zero_add]
 rw [e i (by omega),e j hj]
 exact a _ _ (by omega) (by omega)
theorem FT {p:Array Nat}(P:Pm n p)(hn:2<=n):DJ lt n (kas_count n p) (λr=>1<=r.1/\r.1<=n/\Pm n r.2/\Af lt r.2 r.1):=by
 unfold kas_count;refine jh (h9 (λm q_=>?_) (Ag O P (n - 1) 1 (Q2 _) (by omega) (λi j hij hj=>by omega)))
 obtain⟨h1,h2,a,h3⟩:=q_;split
 · exact⟨h1,h2,P,a⟩
 · rename_i ne;have hm:m < n:=by
    have:m≠n:=λz=>ne (by rw [z];exact beq_self_eq_true n)
    omega
   split
   · rename_i g1;rw [lO,lO];refine⟨P.lt _ (by omega),P.lt _ (by omega),?_⟩
     rw [a 0 (m - 1) (by omega) (by omega)]
     exact⟨h1,h2,P,a⟩
   · rename_i g1;have m1:m=1:=by omega
     subst m1;unfold kas_descPart;refine jh (h9 (λr ⟨q1,q2,q3,q4,q5⟩=>?_) (Bw O P (n - (1+1)) (1+1) (by omega) (by omega) (λi j hij hj=>?_)))
     · have:i=0:=by omega
       have:j=1:=by omega
       subst i j;exact h3 (by omega)
     · rw [q2,if_neg (by omega),q1]
       unfold kas_tail3;refine jh (h9 (λm q_=>?_) (Ag O (FS P 0 r.2.1) (n - r.2.1) r.2.1 (by omega) (by omega) (II P q4 q5)))
       obtain⟨h1,h2,a,h3⟩:=q_;exact⟨by show 1<=m;omega,h2,FS P 0 r.2.1,a⟩
theorem tO {p:Array Nat}(P:Pm n p){k:Nat}(hk:k < n)(a:Af lt p k):∀(f l r:Nat),l<=r->r<=k->r - l<=f->(∀i,i < l->lt (g p i) (g p k)=true)->(∀i,r<=i->i < k->lt (g p k) (g p i)=true)->
 DJ lt n (kas_place p k f l r) (λm=>m<=k/\(∀i,i < m->lt (g p i) (g p k)=true)/\∀i,m<=i->i < k->lt (g p k) (g p i)=true)
 |0,l,r,h1,h2,h3,b1,b2=>⟨by omega,b1,λi hi hk=>b2 i (by omega) hk⟩
 |f+1,l,r,h1,h2,h3,b1,b2=>by
  unfold kas_place;split
  · exact⟨by omega,b1,λi hi hk=>b2 i (by omega) hk⟩
  · rename_i hlr;rw [lO,lO];have hmid:(l+r) / 2 < r:=by omega
    refine⟨P.lt _ hk,P.lt _ (by omega),?_⟩
    cases c:lt (g p k) (g p ((l+r) / 2))with
    |true=>
     refine tO P hk a f l ((l+r) / 2) (by omega) (by omega) (by omega) b1 λi hi hik=>?_
     by_cases e:i=(l+r) / 2
     · rw [e];exact c
     · exact O.tr _ _ _ c (a _ i (by omega) hik)
    |false=>
     have q:=O.to _ _ (P.lt k hk) (P.lt ((l+r) / 2) (by omega)) (λe=>by have:=P.inj _ _ hk (by omega) e;omega) c
     refine tO P hk a f ((l+r) / 2+1) r (by omega) h2 (by omega) (λi hi=>?_) b2
     by_cases e:i=(l+r) / 2
     · rw [e];exact q
     · exact O.tr _ _ _ (a i _ (by omega) (by omega)) q
theorem FU:∀(f:Nat) {p:Array Nat} (_:Pm n p) (k:Nat),k+f=n->Af lt p k->DJ lt n (kas_bin f p k) (λq=>Pm n q/\Af lt q n)
 |0,p,P,k,hk,a=>⟨P,by rw [<-hk];exact a⟩
 |f+1,p,P,k,hk,a=>by
  unfold kas_bin;refine jh (h9 (λl q_=>?_) (tO O P (by omega) a k 0 k (zU _) (Q2 _) (by omega) (λi hi=>absurd hi (Nat.not_lt_zero _)) (λi hi hk=>by omega)))
  obtain⟨hl,b1,b2⟩:=q_;have e:∀i,i<=k->g (bubble p k (k - l)) i=if i=l then g p k else if l < i then g p (i - 1)else g p i:=λi hi=>by
   unfold g;rw [getElem?_bubble (by rw [P.sz];omega) (k - l) (by omega)]
   by_cases c1:i=l
   · rw [if_pos (by omega),if_pos c1]
   · rw [if_neg (by omega),if_neg c1]
     by_cases c2:l < i
     · rw [if_pos (by omega),if_pos c2]
     · rw [if_neg (by omega),if_neg c2]
  refine FU f (Bv ((bubble_perm _ _ _).trans P.pe)) (k+1) (by omega) λi j hij hj=>?_
  rw [e i (by omega),e j (by omega)]
  by_cases c1:i=l
  · rw [if_pos c1,if_neg (by omega),if_pos (by omega)]
    exact b2 _ (by omega) (by omega)
  · rw [if_neg c1]
    by_cases c2:j=l
    · rw [if_pos c2,if_neg (by omega)]
      exact b1 _ (by omega)
    · rw [if_neg c2]
      by_cases c3:l < i
      · rw [if_pos c3,if_pos (by omega)]
        exact a _ _ (by omega) (by omega)
      · rw [if_neg c3]
        by_cases c4:l < j
        · rw [if_pos c4];exact a _ _ (by omega) (by omega)
        · rw [if_neg c4];exact a _ _ hij (by omega)
theorem IJ(hn:2<=n):DJ lt n (kas_sort n) (λq=>Pm n q/\Af lt q n):=by
 unfold kas_sort;refine jh (h9 (λr q_=>?_) (FT O (Bv (Array.Perm.refl _)) hn));obtain⟨h1,h2,P,a⟩:=q_;split
 · have:max r.1 1=r.1:=by omega
   rw [this];exact FU O _ P r.1 (by omega) a
 · have:r.1=n:=by omega
   exact⟨P,by rw [<-this];exact a⟩
end
end SRT
namespace L2
open PySem PySem.Spec PyProof.Rows PySem.W Att
noncomputable def gc:List Int->List Int->Bool
 |[],[]=>false
 |[],_::_=>true
 |_::_,[]=>false
 |a::x,c::y=>if a=c then gc x y else decide (a < c)
noncomputable def Ah(fin:Bool):List Int->List Int->Bool
 |a::x,c::y=>if a=c then Ah fin x y else decide (a < c)
 |_,_=>fin
theorem Bx:∀(x y:List Int),Ah (decide (x.length < y.length)) x y=gc x y
 |[],[]=>rfl
 |[],_::_=>by simp [Ah,gc]
 |_::_,[]=>by simp [Ah,gc]
 |a::x,c::y=>by
  have e:decide ((a::x).length < (c::y).length)=decide (x.length < y.length):=by simp
  rw [e];unfold Ah gc;rw [Bx x y]
theorem sE:∀(x y z:List Int),gc x y=true->gc y z=true->gc x z=true
 |[],[],_,h,_=>by cases h
 |[],_::_,[],_,h=>by cases h
 |[],_::_,_::_,_,_=>rfl
 |_::_,[],_,h,_=>by cases h
 |_::_,_::_,[],_,h=>by cases h
 |a::x,b::y,c::z,h1,h2=>by
  unfold gc at h1 h2 ⊢
  by_cases e1:a=b
  · rw [if_pos e1]at h1
    by_cases e2:b=c
    · rw [if_pos e2]at h2;rw [if_pos (e1.trans e2)];exact sE x y z h1 h2
    · rw [if_neg e2]at h2;rw [if_neg (by omega),e1]
      exact h2
  · rw [if_neg e1]at h1;have l1:=of_decide_eq_true h1
    by_cases e2:b=c
    · rw [if_neg (by omega), <-e2]
      exact h1
    · rw [if_neg e2]at h2;have l2:=of_decide_eq_true h2;rw [if_neg (by omega)]
      exact decide_eq_true (by omega)
theorem xK:∀(x y:List Int),x≠y->gc x y=false->gc y x=true
 |[],[],h,_=>absurd rfl h
 |[],_::_,_,h=>by cases h
 |_::_,[],_,_=>rfl
 |a::x,c::y,hn,h=>by
  unfold gc at h ⊢
  by_cases e:a=c
  · rw [if_pos e]at h;rw [if_pos e.symm];exact xK x y (λz=>hn (by rw [e,z])) h
  · rw [if_neg e]at h;rw [if_neg (λz=>e z.symm)];have:=of_decide_eq_false h;exact decide_eq_true (by omega)
section
variable {prog:Program} {w:World} {A:Around} {E:Value->Shared->Prop} {s:Shared} {b:Bool} {Q:Bool->Shared->Prop}
theorem Ai {p:Bool}{x y:Int}{t u:Tok}(h:Q (decide (x < y)) s):wpAny (model prog w) A (oneLt' p (.int x t) (.int y u)) Q E s:=by
 cases p with
 |true=>exact oneLt_int h
 |false=>exact kat_one _ _ (lt_int h)
theorem yS {fin:Bool}{xs ys:List Value}{ns ms:List Int}(hx:IntsAre xs ns)(hy:IntsAre ys ms):∀i,Q (Ah fin ns ms) s->KatLex prog w A b fin Q (xs.zip ys) i s:=by
 induction hx generalizing ys ms with
 |nil=>exact λi h=>kat_nil h
 |cons a t hx ih=>
  intro i h;cases hy with
  |nil=>exact kat_nil h
  |cons c u hy=>
   refine kat_cons (wpAny_eqBool_int ?_);unfold Ah at h
   by_cases e:a=c
   · rw [if_pos e]at h;rw [show (a==c)=true from beq_iff_eq.mpr e]
     exact kat_yes (ih hy (i+1) h)
   · rw [if_neg e]at h;rw [show (a==c)=false from beq_eq_false_iff_ne.mpr e]
     exact kat_no (Ai h)
end
def TpI(h:Heap)(v:Value)(k:List Int):Prop:=∃a o arr n,v=.ref a/\h.get? a=some o/\o.cls=.type "tuple"/\o.data=.seq arr n/\IntsAre arr.toList k
theorem TpI.firsts {h:Heap}{vs:List Value}{ks:List (List Int)}(p:Paired (TpI h) vs ks)(hp:∀k∈ks,k≠[]):∃fs,KatTups h vs fs/\fs.length=vs.length/\∀f∈fs,∃n t,f=Value.int n t:=by
 induction p with
 |nil=>exact⟨[],KatTups.nil,rfl,λf hf=>nomatch hf⟩
 |cons q r ih=>
  obtain⟨a,o,arr,n,e1,e2,e3,e4,e5⟩:=q;obtain⟨fs,h1,h2,h3⟩:=ih λk hk=>hp k (j4 _ hk);subst e1;have ne:=hp _ j5;generalize hl:arr.toList=l at e5;cases e5 with
  |nil=>exact absurd rfl ne
  |cons x t hx=>
   refine⟨.int x t::fs,KatTups.cons e2 e3 e4 (by rw [<-LX,hl];rfl) h1,by rw [zC,zC,h2],λf hf=>?_⟩
   rcases Q8.mp hf with rfl|hf
   · exact⟨x,t,rfl⟩
   · exact h3 f hf
theorem yT {α β:Type}{R:α->β->Prop}{x:α}{y:β}:∀{l:List α} {m:List β} (i:Nat),Paired R l m->i < l.length->R (l.getD i x) (m.getD i y)
 |_,_,_,.nil,h=>absurd h (Nat.not_lt_zero _)
 |_,_,0,.cons r _,_=>r
 |_::_,_::_,i+1,.cons _ t,h=>yT i t (Nat.lt_of_succ_lt_succ h)
section
variable {prog:Program} {w:World} {A:Around} {E:Value->Shared->Prop} {s:Shared}
theorem yU {L D:Addr}{m:Str->Option Value}{c:Nat}{vs:List Value}{ks:List (List Int)}{Q:Value->Shared->Prop}(hL:s.heap.Ns L m)(hne:D≠L)(hD:s.heap.get? D=some (listOf vs.toArray c))(ht:Paired (TpI s.heap) vs ks)
 (hnd:ks.Nodup) (hpos:∀k∈ks,k≠[]) (h2:2<=vs.length) (h64:vs.length < 64)
 (k : ∀ h' c' (q : Array Nat), (∀ b o, b ≠ L -> b ≠ D -> s.heap.get? b = some o -> h'.get? b = some o) -> h'.Ns L m -> h'.get? D = some (listOf (q.toList.map λ i => vs.getD i .none).toArray c') ->
  SRT.Pm vs.length q->SRT.Af (λi j=>gc (ks.getD i []) (ks.getD j [])) q vs.length->Q .none {s with heap:=h'}):
 wpAny (model prog w) A (call (.builtin "list.sort") [.ref D]) Q E s:=by
 have hlen:vs.length=ks.length:=Paired.length ht;have led:∀p∈nK s.heap L D,p.1≠D:=λ⟨_,_⟩ hp=>(ic.mp hp).2.1;refine kat_lsort (h₀:=sf s.heap) (L:=L) (m:=m) (news:=(D,listOf vs.toArray c)::nK s.heap L D) (g:=λo=>(D,o)::nK s.heap L D) (its:=vs.toArray) (E3 hL) (qx hne hD) (.head led) (by simp) h2 h64 λe1 h' F' N'=>?_
 have keep:∀b o,b≠L->b≠D->s.heap.get? b=some o->h'.get? b=some o:=λb o n1 n2 e=>(N' (b,o) (j4 _ (ic.mpr ⟨n1,n2,e⟩))).1;obtain⟨oL,esL,epL,hoL,hdL,_⟩:=hL;have tup:∀{v:Value} {kk:List Int},TpI s.heap v kk->TpI h' v kk:=λq=>by
  obtain⟨a,o,arr,n,e1,e2,e3,e4,e5⟩:=q;exact⟨a,o,arr,n,e1,keep a o (λz=>by rw [z,hoL]at e2;cases e2;rw [hdL]at e4;cases e4) (λz=>by rw [z,hD]at e2;cases e2;exact absurd (Value.type.inj e3) (by decide)) e2,e3,e4,e5⟩
 have ht':Paired (TpI h') vs ks:=Paired.mapP ht λa b q=>tup q;obtain⟨fs,t1,t2,t3⟩:=TpI.firsts ht' hpos;refine kat_kind (T:=.type "int") t1 (by omega) (λv hv=>by obtain⟨n,t,rfl⟩:=t3 v hv;exact Looks.of_pure rfl) rfl ?_
 have O:SRT.Ord (λi j=>gc (ks.getD i []) (ks.getD j [])) vs.length:=⟨λa b c=>sE _ _ _,λa b ha hb hab=>xK _ _ λe=>hab (by
  rw [qF,qF,iF (by omega),iF (by omega)]at e
  exact(List.getElem_inj hnd).mp e)⟩
 refine SRT.FP (lt:=λi j=>gc (ks.getD i []) (ks.getD j [])) (n:=vs.length) (J:=λs'=>s'={s with heap:=h'}) (λi j C s' hi hj js hC=>?_) (λp s' hp js=>?_) rfl (SRT.IJ O h2)
 · subst js;obtain⟨a1,o1,r1,n1,x1,x2,x3,x4,x5⟩:=yT (x:=Value.none) (y:=[]) i ht' hi;obtain⟨a2,o2,r2,n2,y1,y2,y3,y4,y5⟩:=yT (x:=Value.none) (y:=[]) j ht' hj;unfold kas_ask;rw [x1,y1];refine kat_lt x2 x4 y2 y4 (yS x5 y5 0 ?_);have z1:r1.size=(ks.getD i []).length:=by rw [<-B2];exact x5.length
   have z2:r2.size=(ks.getD j []).length:=by rw [<-B2];exact y5.length
   rw [z1,z2,Bx];exact hC _ rfl
 · subst js;refine KasFin.intro F' N' (.head led) λh'' c' F'' N''=>?_;exact k h'' c' p (λb o n1 n2 e=>(N'' (b,o) (j4 _ (ic.mpr ⟨n1,n2,e⟩))).1) F''.ns (N'' _ j5).1 hp.1 hp.2
theorem yV {D:Addr}{c:Nat}{vs:List Value}{Q:Value->Shared->Prop}(hD:s.heap.get? D=some (listOf vs.toArray c))(h2:vs.length < 2)
 (k:∀h' c',(∀b o,b≠D->s.heap.get? b=some o->h'.get? b=some o)->h'.get? D=some (listOf vs.toArray c')->Q .none {s with heap:=h'}):wpAny (model prog w) A (call (.builtin "list.sort") [.ref D]) Q E s:=by
 refine wpAny_call_entry slot_list_sort ⟨_,hD,rfl⟩ entry_list_sort ?_ (args_list_sort _);rw [list_sort_plain];have ha:D < s.heap.objs.size:=g0 hD;refine wB (listItems_at hD rfl ?_);refine wB (listUpdate_at hD rfl ?_ (hsz:=by rw [zM,sizeLine_eq];omega))
 obtain⟨e1,ho1⟩:∃e1,(s.heap.update D (Obj.mapSeq λ_=> #[])).get? D=some (seqObj "list" #[] e1):=⟨_,get?_update_seq hD (λ_=> #[])⟩;have kk:∀b o,b≠D->s.heap.get? b=some o->(s.heap.update D (Obj.mapSeq λ_=> #[])).get? b=some o:=λb o nb e=>(AC _ _ (Ne.symm nb)).trans e;generalize s.heap.update D (Obj.mapSeq λ_=> #[])=G0 at ho1 kk;refine wB (seqEpoch_at ho1 rfl ?_);refine wB (wpAny_newTuple ?_ (by rw [List.toList_toArray,sizeLine_eq];omega));refine wB (wpAny_newList ?_);refine wpAny_holding ?_
 have ho2:=iM (seqObj "list" #[] 0) (iM (seqObj "tuple" vs.toArray 0) ho1);have k2:∀b o,b≠D->s.heap.get? b=some o->((G0.push (seqObj "tuple" vs.toArray 0)).push (seqObj "list" #[] 0)).get? b=some o:=λb o nb e=>iM _ (iM _ (kk b o nb e));show wpAny (model prog w) _ _ _ _ {s with heap:=(G0.push (seqObj "tuple" vs.toArray 0)).push (seqObj "list" #[] 0)}
 generalize (G0.push (seqObj "tuple" vs.toArray 0)).push (seqObj "list" #[] 0)=G at ho2 k2;have h2':vs.toArray.size < 2:=by rw [zM];exact h2
 rw [if_pos h2',if_pos h2'];refine wB (wP ?_);dsimp only;rw [StateT.run_pure];refine wB (wP ?_);dsimp only;have out:(arrOf (SortSt.mk' general' (vs.toArray.zip vs.toArray) #[] 7 none)).map (·.2)=vs.toArray:=by
  show (vs.toArray.zip vs.toArray).map (·.2)=vs.toArray
  rcases vs with _|⟨v,_|⟨u,r⟩⟩
  · simp
  · simp
  · exact absurd h2 (Nat.not_lt.mpr (Nat.le_add_left 2 _))
 rw [out];refine wB (seqEpoch_at ho2 rfl ?_);refine wB (listUpdate_at ho2 rfl ?_ (hsz2:=by show vs.toArray.size<=_;rw [sizeLine_eq];omega))
 simp only [bne_self_eq_false,zN,if_false];exact wP ⟨_,rfl,k _ _ (λb o nb e=>(AC _ _ (Ne.symm nb)).trans (k2 b o nb e)) (get?_update_seq ho2 (λ_=>vs.toArray))⟩
theorem FV {n:Nat}(h:n < 2)(lt:Nat->Nat->Bool):SRT.Pm n (Array.range n)/\SRT.Af lt (Array.range n) n:=by
 refine⟨SRT.Bv (by rw [show Array.range n=(List.range n).toArray by simp]),λi j hij hj=>?_⟩
 omega
theorem DK {vs:List Value}(h:vs.length < 2):((Array.range vs.length).toList.map λi=>vs.getD i .none)=vs:=by
 rcases vs with _|⟨v,_|⟨u,r⟩⟩
 · rfl
 · rfl
 · exact absurd h (Nat.not_lt.mpr (Nat.le_add_left 2 _))
theorem Aj {L D:Addr}{m:Str->Option Value}{c:Nat}{vs:List Value}{ks:List (List Int)}{Q:Value->Shared->Prop}(hL:s.heap.Ns L m)(hne:D≠L)(hD:s.heap.get? D=some (listOf vs.toArray c))(ht:Paired (TpI s.heap) vs ks)
 (hnd:ks.Nodup) (hpos:∀k∈ks,k≠[]) (h64:vs.length < 64)
 (k : ∀ h' c' (q : Array Nat), (∀ b o, b ≠ L -> b ≠ D -> s.heap.get? b = some o -> h'.get? b = some o) -> h'.Ns L m -> h'.get? D = some (listOf (q.toList.map λ i => vs.getD i .none).toArray c') ->
  SRT.Pm vs.length q->SRT.Af (λi j=>gc (ks.getD i []) (ks.getD j [])) q vs.length->Q .none {s with heap:=h'}):
 wpAny (model prog w) A (call (.builtin "list.sort") [.ref D]) Q E s:=by
 by_cases h2:2<=vs.length
 · exact yU hL hne hD ht hnd hpos h2 h64 k
 · have h2':vs.length < 2:=by omega
   obtain⟨p1,p2⟩:=FV h2' (λi j=>gc (ks.getD i []) (ks.getD j []));exact yV hD h2' λh' c' kp hD'=>k h' c' (Array.range vs.length) (λb o _ nb e=>kp b o nb e) (by obtain⟨o,es,ep,e1,e2⟩:=hL;exact⟨o,es,ep,kp _ _ hne.symm e1,e2⟩) (by rw [DK h2'];exact hD') p1 p2
end
end L2
namespace L2
open PySem PySem.Spec PyProof.Rows PySem.W
def Raw(h:Heap)(d:Addr)(es:Array DictEntry)(ep:Nat):Prop:=∃ob,h.get? d=some ob/\ob.ExactDict/\ob.data=.dict es ep
theorem Raw.ty {s:Shared}{d:Addr}{es:Array DictEntry}{ep:Nat}(x:Raw s.heap d es ep):s.TypeIs (.ref d) "dict":=let ⟨ob,e,c,_⟩:=x;⟨ob,e,c.1⟩
theorem Raw.lt {h:Heap}{d:Addr}{es:Array DictEntry}{ep:Nat}(x:Raw h d es ep):d < h.objs.size:=let ⟨_,e,_⟩:=x;g0 e
theorem Raw.stay {h h':Heap}{d:Addr}{es:Array DictEntry}{ep:Nat}(x:Raw h d es ep)(k:∀o,h.get? d=some o->h'.get? d=some o):Raw h' d es ep:=let ⟨ob,e,r⟩:=x;⟨ob,k _ e,r⟩
section
variable {prog:Program} {w:World} {A:Around} {E:Value->Shared->Prop} {s:Shared} {d it:Addr} {es:Array DictEntry} {ep:Nat}
theorem yW {Q:Value->Shared->Prop}(nsm:(d==sysModules)=false)(x:Raw s.heap d es ep)
 (q:Q (.ref s.heap.objs.size) {s with heap:=s.heap.push {cls:=.type "dict_keyiterator",data:=.fields #[.ref d,.int 0 0,.int es.size 0,.int ep 0]}}):wpAny (model prog w) A (pyIter (.ref d)) Q E s:=by
 have ty:=x.ty;obtain⟨ob,at_,ex,dat⟩:=x;refine wpAny_pyIter_slot ty F.slot_dict_iter (wpAny_call_entry F.slot_dict_iter ty F.entry_dict_iter ?_ (F.args_dict_iter_1 _));unfold Builtin.«dict.__iter__»;refine wB ?_;unfold Builtin.Dict.dictSlotNone;refine wB (wpAny_notOrdered_dict ty ?_);show wpAny _ _ (pure (Value.ref d)) _ _ s;refine wP ?_;show wpAny _ _ (Builtin.Dict.showsAll d >>=_) _ _ s;unfold Builtin.Dict.showsAll;rw [if_neg (by rw [nsm];exact Q7)]
 refine wB (wP ?_);refine wB (wpAny_dictEntries at_ dat ?_);refine wB (wpAny_dictEpoch at_ dat ?_);refine wB (wpAny_newObj_type (wP ⟨_,rfl,"dict_keyiterator",_,⟨_,kf _ rfl,rfl⟩,F.slot_dict_keyiterator_next.lookup,?_⟩));simpa [rawInt]using q
theorem yX {i:Nat}{Q:Option Value->Shared->Prop}(ki:s.heap.IsKeyIter it d i es.size ep)(x:Raw s.heap d es ep)(hi:i < es.size)
 (q:∀h',h'.IsKeyIter it d (i+1) es.size ep->Heap.SameBut it s.heap h'->Q (some es[i].key) {s with heap:=h'}):wpAny (model prog w) A (pyNext (.ref it)) Q E s:=by
 obtain⟨oi,ati,ci,di⟩:=id ki;obtain⟨ob,at_,ex,dat⟩:=id x;unfold pyNext;refine wB (wpAny_attempt (wpAny_callSpecial?_slot (name:=Str.ofString "__next__") ki.typeIs F.slot_dict_keyiterator_next (wpAny_call_entry F.slot_dict_keyiterator_next ki.typeIs F.entry_dict_keyiterator_next ?_ (F.args_dict_keyiterator_next_1 _))));refine wB (wP (wB (wB ?_)))
 first|refine wB (wpAny_typeNameOfWhole_keyiter ki.typeIs (wP ?_))|refine wB (wpAny_typeNameOf_keyiter ki.typeIs (wP ?_))
 refine wB (wpAny_fieldsOf ati di ?_);simp only [show Builtin.Dict_items.ownsTuple "dict_keyiterator"=false by decide,zN,if_false]
 show wpAny _ _ (if(Value.ref d==Value.none)=true then _ else _) _ _ s;rw [if_neg (show ¬((Value.ref d==Value.none)=true)from Q7)];refine wB (wP (wB (wpAny_dictEntries at_ dat ?_)))
 rw [if_neg (by simp)]
 refine wB (wP (wB (wpAny_dictEpoch at_ dat ?_)));rw [if_neg (by simp)]
 refine wP ?_;simp only [show ¬((i:Int) < 0)from by omega,if_false,Int.toNat_natCast,Array.getElem?_eq_getElem hi]
 refine wB ?_
 first|refine wB (wpAny_typeNameOfWhole_keyiter ki.typeIs (wP ?_))|refine wB (wpAny_typeNameOf_keyiter ki.typeIs (wP ?_))
 refine wB (wpAny_isOneOf_keyiter ki.typeIs ?_);show wpAny _ _ (setField (.ref it) 1 (rawInt ((i:Int)+1)) >>=_) _ _ s;refine wB (wpAny_setField ati di (by simp) ?_)
 have k2:(s.heap.update it (Obj.mapFields (·.setIfInBounds 1 (rawInt ((i:Int)+1))))).IsKeyIter it d (i+1) es.size ep:=
  ⟨_,Gy _ ati (Obj.isFreed_of_fields (Obj.data_mapFields di _)),(Obj.cls_mapFields ..).trans ci,by rw [Obj.data_mapFields di];simp [rawInt]⟩
 refine wB (wpAny_holding ?_);refine wB (wpAny_isOneOf_keyiter (s:={s with heap:=s.heap.update it (Obj.mapFields (·.setIfInBounds 1 (rawInt ((i:Int)+1))))}) k2.typeIs ?_)
 show wpAny _ _ (pure es[i].key) _ _ _;exact wP (wP ⟨_,rfl,wP (q _ k2 (Heap.SameBut.update ..))⟩)
theorem By {i:Nat}{Q:Option Value->Shared->Prop}(hh:A.handled=none)(ki:s.heap.IsKeyIter it d i es.size ep)(x:Raw s.heap d es ep)(hi:es.size<=i)
 (q:∀h',Heap.ExtBut it s.heap h'->Q none {s with heap:=h'}):wpAny (model prog w) A (pyNext (.ref it)) Q E s:=by
 obtain⟨oi,ati,ci,di⟩:=id ki;obtain⟨ob,at_,ex,dat⟩:=id x;unfold pyNext;refine wB (wpAny_attempt (wpAny_callSpecial?_slot (name:=Str.ofString "__next__") ki.typeIs F.slot_dict_keyiterator_next (wpAny_call_entry F.slot_dict_keyiterator_next ki.typeIs F.entry_dict_keyiterator_next ?_ (F.args_dict_keyiterator_next_1 _))));refine wB (wP (wB (wB ?_)))
 first|refine wB (wpAny_typeNameOfWhole_keyiter ki.typeIs (wP ?_))|refine wB (wpAny_typeNameOf_keyiter ki.typeIs (wP ?_))
 refine wB (wpAny_fieldsOf ati di ?_);simp only [show Builtin.Dict_items.ownsTuple "dict_keyiterator"=false by decide,zN,if_false]
 show wpAny _ _ (if(Value.ref d==Value.none)=true then _ else _) _ _ s;rw [if_neg (show ¬((Value.ref d==Value.none)=true)from Q7)];refine wB (wP (wB (wpAny_dictEntries at_ dat ?_)))
 rw [if_neg (by simp)]
 refine wB (wP (wB (wpAny_dictEpoch at_ dat ?_)));rw [if_neg (by simp)]
 refine wP ?_;simp only [show ¬((i:Int) < 0)from by omega,if_false,Int.toNat_natCast,Array.getElem?_eq_none hi]
 refine wB ?_
 first|refine wB (wpAny_typeNameOfWhole_keyiter ki.typeIs (wP ?_))|refine wB (wpAny_typeNameOf_keyiter ki.typeIs (wP ?_))
 show wpAny _ _ (setField (.ref it) 0 .none >>=_) _ _ s;refine wB (wpAny_setField ati di (by simp) ?_)
 show wpAny _ _ (newExc (.type "StopIteration") [] >>=_) _ _ _;refine wB ?_;simp only [newExc,newTuple];refine wB (wpAny_newObj_type ?_ (by size_fits))
 refine wB (m:=firstArgMember _ _) (wpAny_of_eq (a:=Value.none) (by first|rfl|(simp only [firstArgMember];rfl)) ?_);refine wpAny_newObj_type ?_ (by size_fits);simp only [raiseNew];refine wB (wpAny_handled ?_)
 rw [show A.in1.handled=none from hh];refine wB (wP (wpAny_throw (wB ?_)))
 refine wpAny_isInstance (T:="StopIteration") (b:=true) ⟨_,kf _ rfl,rfl⟩ isSubtype_stop ?_;exact wP (q _ (((Heap.SameBut.update ..).extBut.push _).push _))
end
theorem IK {prog:Program}{w:World}{d:Addr}{es:Array DictEntry}{ep:Nat}(nsm:(d==sysModules)=false):KdlSrc prog w "dict" d d es.size (λi v=>∃e,es[i]? =some e/\v=e.key) (λh=>Raw h d es ep) where
 type:=λ_ x=>x.ty
 there:=λ_ x=>⟨x.lt,x.lt⟩
 keep:=λ_ _ x k=>x.stay λo e=>k d (.inl rfl) o e
 notList:=by decide
 notTuple:=by decide
 hint:=λ_ _ _ _ x q=>kdl_hint_dict x.ty q
 iter:=λA s hh x=>⟨_,λi h=>h.IsKeyIter s.heap.objs.size d i es.size ep/\Raw h d es ep,(λ_ _ q=>yW nsm x q),{
  sub:=λb hb=>Q8.mpr (.inl (by simpa using hb))
  frame:=λ_ _ _ st k=>⟨st.1.at λo e=>k _ (by simp) o e,st.2.stay λo e=>k d (by simp) o e⟩
  item:=λi s2 Q E hi st q=>yX st.1 st.2 hi λh' k2 sb=>q es[i].key h' s2.toks ⟨es[i],by simp [hi],rfl⟩ ⟨k2,st.2.stay λo e=>sb.extBut d o (nA x.lt) e⟩ λb o hb e=>sb.extBut b o (λz=>hb (by simp [z])) e
  done:=λs2 Q E st q=>By hh st.1 st.2 (Q2 _) λh' xb=>q h' s2.toks λb o hb e=>xb b o (λz=>hb (by simp [z])) e
  self:=λ_ _ _ _ st q=>wpAny_pyIter_keyiter st.1 q},
  ⟨⟨_,kf _ rfl,rfl,rfl⟩,x.stay λo e=>iM _ e⟩⟩
end L2
namespace L2
open PySem PySem.Spec PyProof.Rows PySem.W Att
theorem DM {h:Heap}{L:Addr}{m m':Str->Option Value}(a:h.Ns L m)(b:h.Ns L m'):m=m':=by
 obtain⟨o,es,ep,e1,e2,e3,e4⟩:=a;obtain⟨o',es',ep',f1,f2,f3,f4⟩:=b;rw [e1]at f1;cases f1;rw [e2]at f2;cases f2
 funext x
 rw [<-e4 x, <-f4 x]
theorem xL {ks:List Int}{us:List Value}(h:Vals (ks.map V.int) us):IntsAre us ks:=by
 induction ks generalizing us with
 |nil=>cases h;exact .nil
 |cons k ks ih=>cases h with
  |cons r t=>
   obtain⟨tk,e⟩:=(show ∃t,_=Value.int k t from r)
   rw [e];exact .cons k tk (ih t)
theorem ji(k:List Int):(k.map (Sum.inl:Int->cK)).map kV=k.map V.int:=by
 rw [zO];rfl
theorem DN {α β:Type}{R:α->β->Prop}{x:α}{y:β}:∀{l:List α} {m:List β},l.length=m.length->(∀i,i < l.length->R (l.getD i x) (m.getD i y))->Paired R l m:=by
 intro l
 induction l with
 |nil=>intro m e h;cases m with
  |nil=>exact .nil
  |cons _ _=>cases e
 |cons a l ih=>intro m e h;cases m with
  |nil=>cases e
  |cons b m=>exact .cons (h 0 (Nat.succ_pos _)) (ih (Nat.succ.inj e) λi hi=>h (i+1) (Nat.succ_lt_succ hi))
theorem Ak {α β γ:Type}{R:α×β->α×γ->Prop}(hR:∀p q,R p q->p.1=q.1):∀{l:List (α×β)} {m:List (α×γ)},Paired R l m->l.map (·.1)=m.map (·.1):=by
 intro l m h
 induction h with
 |nil=>rfl
 |cons r t ih=>rw [zI,zI,hR _ _ r,ih]
theorem vt:∀bs:List Addr,Vals (bs.map V.ref) (bs.map Value.ref)
 |[]=>.nil
 |b::bs=>.cons rfl (vt bs)
theorem yY {α β:Type}(f:α->β)(l:List α)(i:Nat)(x:α):(l.map f).getD i (f x)=f (l.getD i x):=by
 rw [qF,qF,zK];cases l[i]? <;>rfl
def FW:List V->Hp->VK->Prop:=λxs H Q=>∃a kvs,∃ks:List (List Int),xs=[.ref a]/\H a=some (.dT kvs)/\kvs.map (·.1)=ks.map (λk=>k.map Sum.inl)/\(∀k∈ks,k≠[])/\ks.length < 64/\
 ∀p (bs:List Addr) (q:Array Nat),H p=none->SRT.Pm ks.length q->SRT.Af (λi j=>gc (ks.getD i []) (ks.getD j [])) q ks.length->bs.length=ks.length->
  (∀i,i < ks.length->H (bs.getD i 0)=some (.tup ((ks.getD (SRT.g q i) []).map V.int)))->Q (.ref p) (bH H p (.lst (bs.map V.ref)))
theorem tP {X:Cx}(hc:X.calm=true):fu X (.builtin "sorted") FW:=by
 intro pins s σ H xs us Q I rv h;obtain⟨a,kvs,ks,rfl,ha,hks,hpos,h64,q⟩:=h;obtain⟨u,rfl,ru⟩:=sX rv;cases (show u=Value.ref a from ru)
 obtain⟨hlen,nsm,ys,rel,ob,es,ep,at_,ex,dat,hes,nd,_⟩:=(show ObjOk X.prog X.w H s.heap a (.dT kvs)from I.hok a _ ha)
 obtain⟨m,hns,_⟩:=id I.loc;have neA:a≠X.env.locals:=λz=>by rw [z,I.free]at ha;cases ha
 have relLen:kvs.length=ys.length:=Paired.length rel;have ksLen:ks.length=kvs.length:=by rw [<-zJ (f:=λk:List Int=>k.map (Sum.inl:Int->cK)), <-hks,zJ]
 have esz:es.size=ys.length:=by rw [<-B2,hes,zJ]
 have kE:∀i,(kvs.getD i ([],.non)).1=(ks.getD i []).map Sum.inl:=λi=>by
  have e:=congrArg (λl:List (List cK)=>l.getD i []) hks;have e1:=yY (λp:List cK×V=>p.1) kvs i ([],.non);have e2:=yY (λk:List Int=>k.map (Sum.inl:Int->cK)) ks i [];exact e1.symm.trans (e.trans e2)
 have yk:∀i,i < ks.length->H (ys.getD i ([],0,.none)).2.1=some (.tup ((ks.getD i []).map V.int)):=λi hi=>by
  have r:=(yT (x:=(([],V.non):List cK×V)) (y:=(([],0,Value.none):List cK×Addr×Value)) i rel (by omega)).2.1
  rw [kE i,ji]at r;exact r
 have ksnd:ks.Nodup:=by
  have e:=Ak (λp q z=>z.1) rel;rw [<-e,hks]at nd;exact(List.pairwise_map.mp nd).imp λz e=>z (by rw [e])
 refine kdu_sorted (IK (es:=es) (ep:=ep) nsm) (I.ok.hd hc) (E3 hns) (qx neA at_) ⟨ob,at_,ex,dat⟩ (by rw [esz, <-relLen];exact hlen) λD h' tk vs F' N' lt hl hP=>?_
 have nD:=N' (D,listOf vs.toArray 0) j5;have inNews:∀b o,b≠X.env.locals->s.heap.get? b=some o->(b,o)∈([]++(a,ob)::nK s.heap X.env.locals a):=λb o nb e=>by
  by_cases z:b=a
  · subst z;rw [at_]at e;cases e;exact j5
  · exact j4 _ (ic.mpr ⟨nb,z,e⟩)
 have kp:∀b o,b≠X.env.locals->s.heap.get? b=some o->h'.get? b=some o:=λb o nb e=>(N' _ (j4 _ (inNews b o nb e))).1;have Dnew:s.heap.get? D=none:=by
  cases z:s.heap.get? D with
  |none=>rfl
  |some o=>exact absurd (lt _ (inNews D o nD.2.1 z)) (zT _)
 have HD:H D=none:=by
  cases z:H D with
  |none=>rfl
  |some o=>
   obtain⟨_,e⟩:=(I.hok D o z).there;rw [Dnew]at e;cases e
 have vlen:vs.length=ks.length:=by omega
 have vE:∀i,i < ks.length->vs.getD i .none=.ref (ys.getD i ([],0,.none)).2.1:=λi hi=>by
  have hv:i < vs.length:=by omega
  have hy:i < ys.length:=by omega
  obtain⟨e,e1,e2⟩:=hP i vs[i] (iF hv);rw [<-LX,hes,zK,iF hy]at e1;cases e1;rw [qF,iF hv,qF,iF hy];exact e2
 have ht:Paired (TpI h') vs ks:=DN (x:=Value.none) (y:=[]) vlen λi hi=>by
  rw [vE i (by omega)]
  have tr:=yk i (by omega)
  obtain⟨_,its,rl,⟨o,e1,e2,n,e3⟩,_⟩:=(show ObjOk X.prog X.w H s.heap _ (.tup _)from I.hok _ _ tr)
  refine⟨_,o,_,n,rfl,kp _ o (λz=>by rw [z,I.free]at tr;cases tr) e1,e2,e3,?_⟩
  rw [List.toList_toArray];exact xL rl
 refine Aj (s:={s with heap:=h',toks:=tk}) (L:=X.env.locals) (D:=D) (m:=m) (c:=0) F'.ns nD.2.1 nD.1 ht ksnd hpos (by omega) λh2 c2 qq kp2 ns2 hD2 P2 A2=>?_
 rw [vlen]at P2 A2;have hb:∀i,i < ks.length->SRT.g qq i < ks.length:=P2.lt;have outE:(qq.toList.map λi=>vs.getD i .none)=(qq.toList.map λi=>(ys.getD i ([],0,Value.none)).2.1).map Value.ref:=by
  rw [zO];apply List.map_congr_left
  intro i hi;have hl2:qq.toList.Perm (List.range ks.length):=by simpa using Array.perm_iff_toList_perm.mp P2.pe
  have:i < ks.length:=by simpa using hl2.mem_iff.mp hi
  exact vE i this
 rw [outE]at hD2;have kp3:∀b o,b≠X.env.locals->s.heap.get? b=some o->h2.get? b=some o:=λb o nb e=>kp2 b o nb (λz=>by rw [z,Dnew]at e;cases e) (kp b o nb e)
 have bl:(qq.toList.map λi=>(ys.getD i ([],0,Value.none)).2.1).length=ks.length:=by rw [zJ,B2,P2.sz]
 have hokN:HOk X.prog X.w (bH H D (.lst ((qq.toList.map λi=>(ys.getD i ([],0,Value.none)).2.1).map V.ref))) h2:=λb u e=>by
  by_cases z:b=D
  · subst z;rw [aT]at e;cases e;exact⟨by rw [zJ,bl];exact sj (by omega),_,c2,vt _,hD2⟩
  · rw [aN z]at e;refine(I.hok b u e).stay (λc v hc e1=>kp3 c v (λy=>?_) e1) (λc y=>by rw [aN (aR y HD)];exact y) (λc xs y=>by rw [aN (aR y HD)];exact y) λc ob xs y=>by rw [aN (aR y HD)];exact y
    subst y
    rcases hc with y|y
    · rw [<-y,I.free]at e;cases e
    · rw [I.free]at y;cases y
 have I2:Inv X pins σ (bH H D (.lst ((qq.toList.map λi=>(ys.getD i ([],0,Value.none)).2.1).map V.ref))) {s with heap:=h2,gens:=s.gens,drawn:=s.drawn,toks:=tk}:=
  Inv.step (s:=s) (ch:=[]) I (λ_ z=>nomatch z) (λb o nb _ _ e _=>kp3 b o nb e) (λb o nb _ _ e _=>⟨o.slots,kp3 b o nb e⟩) (λb o _ e n=>by rw [aN (λz=>by rw [z,Dnew]at e;cases e)];exact n)
   (λ b o _ e => by
    by_cases z:b=X.env.locals
    · subst z;obtain⟨o2,_,_,e2,_⟩:=ns2;exact⟨o2,e2⟩
    · exact⟨o,kp3 b o z e⟩)
   (λb xs e=>by rw [aN (aR e HD)];exact e) (λb o xs e=>by rw [aN (aR e HD)];exact e) (λb ps e=>⟨#[],by rw [aN (aR e HD),e];simp⟩) (λm2 hm2=>DM hns hm2▸ns2) hokN I.bare
 refine⟨.ref D,_,I2,rfl,q D _ qq HD P2 A2 bl λi hi=>?_⟩;have e:(qq.toList.map λi=>(ys.getD i ([],0,Value.none)).2.1).getD i 0=(ys.getD (SRT.g qq i) ([],0,Value.none)).2.1:=by
  have hq:i < qq.toList.length:=by rw [B2,P2.sz];exact hi
  rw [qF,zK,iF hq];show (ys.getD qq.toList[i] ([],0,Value.none)).2.1=_;congr 3
  unfold SRT.g;rw [<-LX,iF hq];rfl
 rw [e];exact yk _ (hb i hi)
end L2
namespace DL
open PySem L2
noncomputable def Dw(a b:List Int):Bool:=gc a b||decide (a=b)
noncomputable def mZ(ks:List (List Int)):List (List Int):=ks.mergeSort Dw
theorem oX:∀x:List Int,gc x x=false
 |[]=>rfl
 |a::x=>by unfold gc;rw [if_pos rfl];exact oX x
theorem Kf(a b c:List Int)(h1:Dw a b=true)(h2:Dw b c=true):Dw a c=true:=by
 unfold Dw at*
 rcases Bool.or_eq_true_iff.mp h1 with h1|h1
 · rcases Bool.or_eq_true_iff.mp h2 with h2|h2
   · rw [sE a b c h1 h2];rfl
   · rw [<-of_decide_eq_true h2,h1];rfl
 · rw [of_decide_eq_true h1];exact h2
theorem Kg(a b:List Int):(Dw a b||Dw b a)=true:=by
 unfold Dw
 by_cases e:a=b
 · simp [e]
 · cases h:gc a b with
   |true=>rfl
   |false=>rw [xK a b e h];simp
theorem m7:∀{l m:List (List Int)},l.Perm m->l.Pairwise (λa b=>gc a b=true)->m.Pairwise (λa b=>gc a b=true)->l=m
 |[],m,p,_,_=>by rw [List.nil_perm.mp p]
 |a::x,[],p,_,_=>absurd p.length_eq (by simp)
 |a::x,b::y,p,s1,s2=>by
  have e:a=b:=by
   have ha:a∈b::y:=p.mem_iff.mp j5;have hb:b∈a::x:=p.mem_iff.mpr j5
   rcases Q8.mp ha with ha|ha
   · exact ha
   · rcases Q8.mp hb with hb|hb
     · exact hb.symm
     · have l1:=(List.pairwise_cons.mp s1).1 b hb;have l2:=(List.pairwise_cons.mp s2).1 a ha;have:=sE a b a l1 l2;rw [oX]at this;cases this
  subst e;rw [m7 (List.Perm.cons_inv p) (List.pairwise_cons.mp s1).2 (List.pairwise_cons.mp s2).2]
theorem FX {ks l:List (List Int)}(nd:ks.Nodup)(p:l.Perm ks)(s:l.Pairwise λa b=>gc a b=true):l=mZ ks:=by
 have p2:(mZ ks).Perm ks:=List.mergeSort_perm ks Dw;have s2:(mZ ks).Pairwise λa b=>Dw a b=true:=List.pairwise_mergeSort Kf Kg ks;have n2:(mZ ks).Nodup:=p2.nodup_iff.mpr nd;refine m7 (p.trans p2.symm) s ((s2.and n2).imp λh=>?_)
 rcases Bool.or_eq_true_iff.mp h.1 with z|z
 · exact z
 · exact absurd (of_decide_eq_true z) h.2
theorem IL {ks:List (List Int)}{q:Array Nat}(nd:ks.Nodup)(P:SRT.Pm ks.length q)(A:SRT.Af (λi j=>gc (ks.getD i []) (ks.getD j [])) q ks.length):((List.range ks.length).map λi=>ks.getD (SRT.g q i) [])=mZ ks:=by
 have hl2:q.toList.Perm (List.range ks.length):=by simpa using Array.perm_iff_toList_perm.mp P.pe
 have ql:q.toList=(List.range ks.length).map (SRT.g q):=by
  apply List.ext_getElem
  · rw [B2,P.sz,zJ,List.length_range]
  · intro i h1 h2;rw [List.getElem_map,List.getElem_range];unfold SRT.g;rw [<-LX,iF h1];rfl
 have kr:(List.range ks.length).map (λi=>ks.getD i [])=ks:=by
  apply List.ext_getElem
  · rw [zJ,List.length_range]
  · intro i h1 h2;rw [List.getElem_map,List.getElem_range,qF,iF h2];rfl
 refine FX nd ?_ ?_
 · have:((List.range ks.length).map λi=>ks.getD (SRT.g q i) [])=q.toList.map λi=>ks.getD i []:=by rw [ql,zO];rfl
   rw [this];have p:=hl2.map (λi=>ks.getD i []);rw [kr]at p;exact p
 · rw [List.pairwise_map];refine List.pairwise_iff_getElem.mpr λi j hi hj hij=>?_;rw [List.getElem_range,List.getElem_range];exact A i j hij (by simpa using hj)
noncomputable def jH:PyData->Option (List Int)
 | .tuple ds=>hZ ds
 |_=>none
noncomputable def iL:List (PyData×PyData)->Option (List (List Int))
 |[]=>some []
 |p::r=>(jH p.1).bind λk=>(iL r).map (k:: ·)
noncomputable def tR:List PyData->Option PyData
 |[.dict kvs]=>(iL kvs).bind λks=>if(ks.all (λk=> !k.isEmpty)&&decide (ks.length < 64)&&decide ks.Nodup)=true then some (.list ((mZ ks).map λk=>.tuple (k.map .int)))else none
 |_=>none
theorem xM:∀{q:List cK} {ns:List Int},q.map kD=ns.map PyData.int->q=ns.map Sum.inl
 |[],[],_=>rfl
 |[],_::_,h=>by cases h
 |_::_,[],h=>by cases h
 |k::q,n::ns,h=>by
  rw [zI,zI]at h;injection h with h1 h2
  cases k with
  |inl i=>injection h1 with h1;rw [h1,xM h2];rfl
  |inr x=>cases h1
section
variable {K:Fg}
theorem tS {H:Hp}:∀{m:List (List cK×V)} {kvs:List (PyData×PyData)} {ks:List (List Int)},Kvs K H m kvs->iL kvs=some ks->m.map (·.1)=ks.map λk=>k.map Sum.inl
 |_,[],ks,h,e=>by
  cases e;rw [show _=[]from h]
  rfl
 |_,(k,d)::r,ks,h,e=>by
  obtain⟨q,m',rfl,⟨h1,_⟩,h2⟩:=h;unfold iL at e;obtain⟨k1,e1,e2⟩:=bind_some e;obtain⟨k2,e3,e4⟩:=Q0.mp e2;subst e4;rw [h1]at e1;have e5:=xM (cW e1);rw [zI,zI,e5,tS h2 e3]
theorem yZ {F:Hp}:∀{bs:List Addr} {ks:List (List Int)},bs.length=ks.length->(∀i,i < ks.length->F (bs.getD i 0)=some (.tup ((ks.getD i []).map V.int)))->Are K F (bs.map V.ref) (ks.map λk=>.tuple (k.map .int))
 |[],[],_,_=>rfl
 |[],_::_,e,_=>by cases e
 |_::_,[],e,_=>by cases e
 |b::bs,k::ks,e,h=>⟨.ref b,_,rfl,⟨b,_,rfl,h 0 (Nat.succ_pos _),Are.ints.mpr rfl⟩,yZ (Nat.succ.inj e) λi hi=>h (i+1) (Nat.succ_lt_succ hi)⟩
theorem Grow.tups {F H:Hp}(s:Same F H)(bs:List Addr)(hb:∀b∈bs,∃xs,H b=some (.tup xs)):∃F',Grow F H F' H/\∀b∈bs,F' b=H b:=by
 refine⟨λb=>if b∈bs then H b else F b,⟨λb u e=>?_,λb u e=>?_,Same.refl _,λb u e t n=>?_⟩,λb hb=>if_pos hb⟩
 · show (if b∈bs then H b else F b)=some u;split
   · exact s b u e
   · exact e
 · have e:(if b∈bs then H b else F b)=some u:=e;split at e
   · exact e
   · exact s b u e
 · show (if b∈bs then H b else F b)=none;split
   · rename_i hm;obtain⟨xs,z⟩:=hb b hm;rw [z]at e;cases e;exact absurd rfl (t xs)
   · exact n
theorem Bz:tE K FW tR:=λF H xs ds d Q s ar e k=>by
 unfold tR at e;split at e
 · rename_i kvs;obtain⟨ks,e1,e2⟩:=bind_some e;split at e2
   · rename_i c;cases e2;simp only [Q5,decide_eq_true_eq,Q6]at c;obtain⟨⟨c1,c3⟩,c4⟩:=c;obtain⟨x,r,rfl,⟨a,rfl,hx⟩,hr⟩:=ar;rw [show r=[]from hr]
     rcases hx with ⟨ns,z,_⟩|⟨m,z,kv⟩|⟨nm,z,_⟩|⟨m,z,kv⟩
     · subst z;cases e1
     rotate_left
     · subst z;cases e1
     · cases kvs with
       |nil=>exact kv.elim
       |cons p r=>
        obtain⟨rfl,_⟩:=kv;cases e1
     · refine⟨a,m,ks,rfl,s _ _ z,tS kv e1,(λk hk y=>absurd (c1 k hk) (by rw [y];decide)),c3,λp bs q hp P A hbl hbs=>?_⟩
       have allT:∀b∈bs,∃xs,H b=some (.tup xs):=λb hb=>by
        obtain⟨i,hi,rfl⟩:=List.getElem_of_mem hb;have:=hbs i (by omega)
        rw [qF,iF hi]at this;exact⟨_,this⟩
       obtain⟨F1,g1,f1⟩:=Grow.tups s bs allT;have g2:=g1.trans (Grow.new (p:=p) (o:=.lst (bs.map V.ref)) g1.s hp);refine k (.ref p) _ _ g2 ⟨p,_,rfl,aT,?_⟩;have sk:=IL c4 P A;have len:(mZ ks).length=ks.length:=by rw [<-sk,zJ,List.length_range]
       refine(yZ (F:=F1) (by rw [len];exact hbl) λi hi=>?_).same (bv (g1.s.free hp) _)
       have hi':i < ks.length:=by omega
       have mem:bs.getD i 0∈bs:=by
        rw [qF,iF (by omega)]
        exact C6 _
       rw [f1 _ mem,hbs i hi'];have:(mZ ks).getD i []=ks.getD (SRT.g q i) []:=by
        rw [<-sk,qF,zK,List.getElem?_range hi'];rfl
       rw [this]
   · cases e2
 · cases e
end
end DL
namespace L2
open PySem
section
variable {prog:Program} {w:World} {K:Type} [DecidableEq K] {knd:HeapKind prog w K} {A:Around} {E:Value->Shared->Prop} {s:Shared} {d a:Addr} {xs:List (K×Addr×Value)} {k:K} {v:Value} {o:Obj} {es:Array DictEntry} {ep:Nat}
theorem Al {Q:Unit->Shared->Prop}(hu:knd.room A.in1)(hkey:knd.is s.heap k a)(ho:s.heap.get? d=some o)(hc:o.ExactDict)(hd:o.data=.dict es ep)(he:es.toList=xs.map (entryOfKey knd))(his:∀x∈xs,knd.is s.heap x.1 x.2.1)(hn:(xs.map (·.1)).Nodup)(hep:ep=xs.length)
 (hQ:∀h' o' es',h'.get? d=some o'->o'.ExactDict->o'.data=.dict es' (storedH xs k a v).length->es'.toList=(storedH xs k a v).map (entryOfKey knd)->((storedH xs k a v).map (·.1)).Nodup->Heap.SameBut d s.heap h'->Q () {s with heap:=h',toks:=s.toks+knd.draws k}) (hsz:xs.length<=sizeLine):
 wpAny (model prog w) A (setItem (.ref d) (.ref a) v) Q E s:=by
 have hm:s.heap.DictOfH knd d xs:=⟨o,es,ep,ho,hc,hd,he,his,hn⟩;unfold setItem;(try with_reducible refine wpAny_holding ?_);refine wB (wpAny_sequenceKey hm.typeIs (by decide) ?_)
 refine wB (wpAny_callSpecial?_slot (name:=Str.ofString "__setitem__") hm.typeIs slot_dict_setitem (wpAny_call_entry slot_dict_setitem hm.typeIs entry_dict_setitem ?_ (args_dict_setitem _ _ _)));show wpAny _ _ (Builtin.Dict.notOrdered "__setitem__" ⟨[.ref d,.ref a,v],[]⟩ >>=_) _ _ s;refine wB (wpAny_notOrdered_dict hm.typeIs ?_);show wpAny _ _ (dictSet d (.ref a) v >>=_) _ _ s;refine wB ?_;unfold dictSet;(try with_reducible refine wpAny_holding ?_);refine wB (knd.pyHash hu hkey ?_);unfold dictSetHashed;(try with_reducible refine wpAny_holding ?_);refine wB (wpAny_dictFind_heap (s:={s with toks:=s.toks+knd.draws k}) hu hkey ho hd he his hn ?_ ?_)
 · intro hno;have hnot:k ∉ xs.map (·.1):=not_mem_keys_of_get hno
   have st:=storedH_new (atKey_none_of_get hno) a v;refine wB (wpAny_rule (wpAny_updateDictKeys (hz:=by have e:=size_of_entries he;omega) (s:={s with toks:=s.toks+knd.draws k}) ho hd ?_))
   refine wP ⟨.none,rfl,wP (hQ _ _ (es.push ⟨knd.hash k,.ref a,v⟩) (Gy _ ho (Obj.isFreed_of_dict (Obj.data_mapDictKeys hd _))) (hc.mapDictKeys _) ?_ ?_ ?_ (Heap.SameBut.update ..))⟩
   · rw [st,zQ,List.length_singleton, <-hep];exact Obj.data_mapDictKeys hd _
   · rw [st];simp [he,entryOfKey]
   · rw [st,AD,List.nodup_append];refine⟨hn,by simp,λx hx y hy=>?_⟩
     simp only [zI,zL,Q9]at hy;subst hy;exact λe=>hnot (e▸hx)
 · intro j p hj;have st:=storedH_old (atKey_of_get hn hj) a v;refine wB (wpAny_rule (wB (wpAny_updateDict (s:={s with toks:=s.toks+knd.draws k}) ho hd (wpAny_point ?_))))
   refine wP ⟨.none,rfl,wP (hQ _ _ (es.modify j λe=>{e with val:=v}) (Gy _ ho (Obj.isFreed_of_dict (Obj.data_mapDict hd _))) (hc.mapDict _) ?_ ?_ ?_ (Heap.SameBut.update ..))⟩
   · rw [st,zJ, <-hep];exact Obj.data_mapDict hd _
   · rw [st];have:=modify_map_putAt (entryOfKey knd) (λe:DictEntry=>{e with val:=v}) k v (λ_ _=>rfl) hn hj
     rw [<-he]at this;obtain⟨l⟩:=es;simpa using this
   · rw [st,keys_map_putAt];exact hn
end
end L2
namespace L2
open PySem PySem.Spec PyProof.Rows
section
variable {κ:Type} [DecidableEq κ]
noncomputable def iA(kvs:List (κ×V))(k:κ):Option V:=(kvs.find? λkv=>decide (kv.1=k)).map (·.2)
noncomputable def mT(kvs:List (κ×V))(k:κ)(v:V):List (κ×V):=
 if(kvs.any λkv=>decide (kv.1=k))=true then kvs.map (λkv=>if kv.1=k then(kv.1,v)else kv)else kvs++[(k,v)]
theorem oY {p:κ×V}{r:List (κ×V)}{k:κ}(e:p.1=k):iA (p::r) k=some p.2:=by simp [iA,List.find?_cons,e]
theorem oZ {p:κ×V}{r:List (κ×V)}{k:κ}(e:¬p.1=k):iA (p::r) k=iA r k:=by simp [iA,List.find?_cons,e]
theorem y6(k:κ):∀kvs:List (κ×V),(kvs.any λkv=>decide (kv.1=k))=(iA kvs k).isSome
 |[]=>rfl
 |p::r=>by
  rw [HA]
  by_cases e:p.1=k
  · simp only [oY e,decide_eq_true e,Bool.true_or,Option.isSome_some]
  · rw [oZ e,decide_eq_false e,Bool.false_or];exact y6 k r
theorem lP(kvs:List (κ×V))(k:κ)(v:V):(mT kvs k v).length<=kvs.length+1:=by
 unfold mT;split
 · rw [zJ];omega
 · rw [zQ,zC,zH];omega
theorem RelO.isSome_eq {o:Option V}{u:Option Value}(r:RelO o u):o.isSome=u.isSome:=by
 cases o with
 |none=>cases u with
  |none=>rfl
  |some _=>exact(show False from r).elim
 |some _=>cases u with
  |none=>exact(show False from r).elim
  |some _=>rfl
theorem RelO.getD {o:Option V}{u:Option Value}{d:V}{d':Value}(r:RelO o u)(rd:RelV d d'):RelV (o.getD d) (u.getD d'):=by
 cases o with
 |none=>cases u with
  |none=>exact rd
  |some _=>exact(show False from r).elim
 |some _=>cases u with
  |none=>exact(show False from r).elim
  |some _=>exact r
theorem KV.val {kvs:List (κ×V)}{vs:List (κ×Value)}(r:KV kvs vs)(k:κ):RelO (iA kvs k) (valueAt vs k):=by
 unfold KV at r
 induction r with
 |nil=>exact True.intro
 | @cons p q ps qs h t ih=>
  obtain⟨h1,h2⟩:=h
  by_cases e:p.1=k
  · have e':q.1=k:=h1.symm.trans e;have b:valueAt (q::qs) k=some q.2:=by simp [valueAt,List.find?_cons,e']
    rw [oY e,b];exact h2
  · have e':¬q.1=k:=λz=>e (h1.trans z);have b:valueAt (q::qs) k=valueAt qs k:=by simp [valueAt,List.find?_cons,e']
    rw [oZ e,b];exact ih
theorem KV.any {kvs:List (κ×V)}{vs:List (κ×Value)}(r:KV kvs vs)(k:κ):(kvs.any λkv=>decide (kv.1=k))=vs.any λkv=>decide (kv.1=k):=by
 unfold KV at r
 induction r with
 |nil=>rfl
 |cons h t ih=>rw [HA,HA,ih,h.1]
theorem KV.repl {kvs:List (κ×V)}{vs:List (κ×Value)}(r:KV kvs vs)(k:κ){y:V}{u:Value}(ry:RelV y u):
 KV (kvs.map λkv=>if kv.1=k then(kv.1,y)else kv) (vs.map λkv=>if kv.1=k then(kv.1,u)else kv):=by
 unfold KV at r ⊢
 induction r with
 |nil=>exact .nil
 | @cons p q ps qs h t ih=>
  rw [zI,zI];refine .cons ?_ ih;obtain⟨h1,h2⟩:=h
  by_cases e:p.1=k
  · rw [if_pos e,if_pos (h1.symm.trans e)];exact⟨h1,ry⟩
  · rw [if_neg e,if_neg (λz=>e (h1.trans z))];exact⟨h1,h2⟩
theorem KV.put {kvs:List (κ×V)}{vs:List (κ×Value)}(r:KV kvs vs)(k:κ){y:V}{u:Value}(ry:RelV y u):KV (mT kvs k y) (stored vs k u):=by
 unfold mT stored;rw [r.any k]
 by_cases e:(vs.any λkv=>decide (kv.1=k))=true
 · rw [if_pos e,if_pos e];exact r.repl k ry
 · rw [if_neg e,if_neg e];exact Paired.snoc r ⟨rfl,ry⟩
theorem KV.length {kvs:List (κ×V)}{vs:List (κ×Value)}(r:KV kvs vs):kvs.length=vs.length:=Paired.length r
end
theorem y7 {P:Program}{w:World}{k:cK}{u:Value}(r:RelV (kV k) u):(bX P w).is k u=true:=by
 cases k with
 |inl i=>obtain⟨t,e⟩:=(show ∃t,u=Value.int i t from r);subst e;exact xm P w i t
 |inr x=>obtain⟨t,e⟩:=(show ∃t,u=Value.str x t from r);subst e;exact xn P w x t
theorem vv {P:Program}{w:World}:∀{ks:List cK} {us:List Value},Vals (ks.map kV) us->ItemsAre (bX P w) ks us
 |[],_,r=>by rw [zL]at r;cases r;exact .nil
 |k::ks,_,r=>by
  rw [zI]at r;cases r with
  |cons h t=>exact .cons (y7 h) (vv t)
abbrev KT(H:Hp):List (List cK×V)->List (List cK×Addr×Value)->Prop:=Paired λp q=>p.1=q.1/\H q.2.1=some (.tup (p.1.map kV))/\RelV p.2 q.2.2
theorem KT.val {H:Hp}{kvs:List (List cK×V)}{xs:List (List cK×Addr×Value)}(r:KT H kvs xs)(k:List cK):RelO (iA kvs k) ((atKey xs k).map (·.2)):=by
 induction r with
 |nil=>exact True.intro
 | @cons p q ps qs h t ih=>
  obtain⟨h1,_,h2⟩:=h
  by_cases e:p.1=k
  · have e':q.1=k:=h1.symm.trans e;have b:atKey (q::qs) k=some q.2:=by simp [atKey,List.find?_cons,e']
    rw [oY e,b];exact h2
  · have e':¬q.1=k:=λz=>e (h1.trans z);have b:atKey (q::qs) k=atKey qs k:=by simp [atKey,List.find?_cons,e']
    rw [oZ e,b];exact ih
theorem KT.repl {H:Hp}{kvs:List (List cK×V)}{xs:List (List cK×Addr×Value)}(r:KT H kvs xs)(k:List cK){y:V}{u:Value}(ry:RelV y u):
 KT H (kvs.map λkv=>if kv.1=k then(kv.1,y)else kv) (xs.map (putAt k u)):=by
 induction r with
 |nil=>exact .nil
 | @cons p q ps qs h t ih=>
  rw [zI,zI];refine .cons ?_ ih;obtain⟨h1,h2,h3⟩:=h;unfold putAt
  by_cases e:p.1=k
  · rw [if_pos e,if_pos (h1.symm.trans e)];exact⟨h1,h2,ry⟩
  · rw [if_neg e,if_neg (λz=>e (h1.trans z))];exact⟨h1,h2,h3⟩
theorem KT.put {H:Hp}{kvs:List (List cK×V)}{xs:List (List cK×Addr×Value)}(r:KT H kvs xs)(k:List cK){b:Addr}{y:V}{u:Value}(hb:H b=some (.tup (k.map kV)))(ry:RelV y u):
 KT H (mT kvs k y) (storedH xs k b u):=by
 have e:(kvs.any λkv=>decide (kv.1=k))=(atKey xs k).isSome:=by
  rw [y6,(r.val k).isSome_eq,Option.isSome_map]
 unfold mT storedH;rw [e]
 by_cases q:(atKey xs k).isSome=true
 · rw [if_pos q,if_pos q];exact r.repl k ry
 · rw [if_neg q,if_neg q];exact Paired.snoc r ⟨rfl,hb,ry⟩
theorem KT.keeps {H H':Hp}{kvs:List (List cK×V)}{xs:List (List cK×Addr×Value)}(r:KT H kvs xs)(ht:∀b ys,H b=some (.tup ys)->H' b=some (.tup ys)):KT H' kvs xs:=
 Paired.mapP r λ_ _ z=>⟨z.1,ht _ _ z.2.1,z.2.2⟩
section
variable {P:Program} {w:World} {H:Hp} {h:Heap} {a:Addr}
theorem Jf {u:HO}(ok:HOk P w H h)(e:Rd H a u):ObjOk P w H h a u:=e.ok ok
theorem y8 {kvs:List (cK×V)}(ok:HOk P w H h)(e:Rd H a (.dK kvs)):kvs.length<=sizeLine/\(a==sysModules)=false/\∃vs,KV kvs vs/\h.DictOf (bX P w) a vs:=
 show ObjOk P w H h a (.dK kvs)from Jf ok e
theorem MG {kvs:List (cK×V)}(ok:HOk P w H h)(e:H a=some (.dK kvs)):kvs.length<=sizeLine/\(a==sysModules)=false/\∃vs,KV kvs vs/\h.DictOf (bX P w) a vs:=y8 ok (.inl e)
theorem nX {ks:List cK}(ok:HOk P w H h)(e:H a=some (.tup (ks.map kV))):(tupleKind (bX P w)).is h ks a:=by
 obtain⟨_,its,r,⟨o,h1,h2,n,h3⟩,_⟩:=(show ObjOk P w H h a (.tup (ks.map kV))from ok a _ e)
 exact⟨o,its.toArray,n,h1,h2,h3,by simpa using vv r⟩
theorem FY {kvs:List (List cK×V)}{xs:List (List cK×Addr×Value)}(ok:HOk P w H h)(r:KT H kvs xs):∀x∈xs,(tupleKind (bX P w)).is h x.1 x.2.1:=by
 have all:∀{l:List (List cK×V)} {m:List (List cK×Addr×Value)},KT H l m->∀x∈m,(tupleKind (bX P w)).is h x.1 x.2.1:=by
  intro l m q
  induction q with
  |nil=>intro x hx;exact nomatch hx
  | @cons p q ps qs hq t ih=>
   intro x hx
   rcases Q8.mp hx with e|hx
   · subst e;exact nX ok (by rw [<-hq.1];exact hq.2.1)
   · exact ih x hx
 exact all r
theorem CA {kvs:List (List cK×V)}(ok:HOk P w H h)(e:Rd H a (.dT kvs)):kvs.length<=sizeLine/\(a==sysModules)=false/\
 ∃xs,KT H kvs xs/\h.DictOfH (tupleKind (bX P w)) a xs:=by
 obtain⟨z,y,xs,r,o,es,ep,h1,h2,h3,h4,h5,_⟩:=(show ObjOk P w H h a (.dT kvs)from Jf ok e)
 refine⟨z,y,xs,r,o,es,ep,h1,h2,h3,h4,λx hx=>?_,h5⟩;have all:∀{l:List (List cK×V)} {m:List (List cK×Addr×Value)},KT H l m->∀x∈m,(tupleKind (bX P w)).is h x.1 x.2.1:=by
  intro l m q
  induction q with
  |nil=>intro x hx;exact nomatch hx
  | @cons p q ps qs hq t ih=>
   intro x hx
   rcases Q8.mp hx with e|hx
   · subst e;exact nX ok (by rw [<-hq.1];exact hq.2.1)
   · exact ih x hx
 exact all r x hx
end
def DGet(H:Hp)(a:Addr)(y:V)(r:Option V):Prop:=
 (∃kvs k,Rd H a (.dK kvs)/\y=kV k/\r=iA kvs k)\/∃kvs k b,Rd H a (.dT kvs)/\y=.ref b/\H b=some (.tup (k.map kV))/\r=iA kvs k
def DPut(H:Hp)(a:Addr)(y v:V)(H':Hp):Prop:=
 (∃kvs k,H a=some (.dK kvs)/\y=kV k/\kvs.length < sizeLine/\H'=bH H a (.dK (mT kvs k v)))\/
 ∃kvs k b,H a=some (.dT kvs)/\y=.ref b/\H b=some (.tup (k.map kV))/\kvs.length < sizeLine/\H'=bH H a (.dT (mT kvs k v))
theorem DGet.k {H:Hp}{a:Addr}{kvs:List (cK×V)}{k:cK}(e:H a=some (.dK kvs)):DGet H a (kV k) (iA kvs k):=.inl ⟨kvs,k,.inl e,rfl,rfl⟩
theorem DGet.t {H:Hp}{a b:Addr}{kvs:List (List cK×V)}{k:List cK}(e:H a=some (.dT kvs))(eb:H b=some (.tup (k.map kV))):DGet H a (.ref b) (iA kvs k):=.inr ⟨kvs,k,b,.inl e,rfl,eb,rfl⟩
theorem DPut.t {H:Hp}{a b:Addr}{kvs:List (List cK×V)}{k:List cK}{v:V}(e:H a=some (.dT kvs))(eb:H b=some (.tup (k.map kV)))(hl:kvs.length < sizeLine):
 DPut H a (.ref b) v (bH H a (.dT (mT kvs k v))):=.inr ⟨kvs,k,b,e,rfl,eb,hl,rfl⟩
section
variable {X:Cx} {pins:List (Addr×Obj)} {σ:St} {H:Hp} {s:Shared} {a:Addr} {y v:V} {u r:Value} {o:Option V} {A:Around} {E:Value->Shared->Prop}
theorem Inv.big(I:Inv X pins σ H s):sysModules < s.heap.objs.size:=by
 have h:mainGlobals < s.heap.objs.size:=(I.mod.glob.keeps I.bk).lt;exact Nat.lt_trans (by decide) h
theorem DO {Q:Value->Shared->Prop}(hu:A.units+1 < cLine)(I:Inv X pins σ H s)(g:DGet H a y (some v))(ry:RelV y u)(h:∀w' s',Inv X pins σ H s'->RelV v w'->Q w' s'):
 wpAny (model X.prog X.w) A (getItem (.ref a) u) Q E s:=by
 rcases g with ⟨kvs,k,e,ey,l⟩|⟨kvs,k,b,e,ey,eb,l⟩
 · subst ey;obtain⟨z,hd,vs,rel,dd⟩:=y8 I.hok e;obtain⟨w',hw,rw'⟩:=RelO.some_of (v:=v) (o:=valueAt vs k) (by rw [l];exact rel.val k)
   exact wpAny_getItem_of (y7 ry) dd.mapOf hw (h w' _ (I.tok _) rw')
 · subst ey;cases (show u=Value.ref b from ry)
   obtain⟨z,hd,xs,rel,dd⟩:=CA I.hok e;obtain⟨w',hw,rw'⟩:=RelO.some_of (v:=v) (o:=(atKey xs k).map (·.2)) (by rw [l];exact rel.val k)
   obtain⟨p,hp,hp2⟩:=Q0.mp hw;refine wpAny_getItem_heap (tupleKind_room_in1 hu) (nX I.hok eb) dd hp ?_;rw [hp2];exact h w' _ (I.tok _) rw'
theorem IM {Q:Value->Shared->Prop}(hu:A.units+1 < cLine)(I:Inv X pins σ H s)(g:DGet H a y o)(ry:RelV y u)(h:∀s',Inv X pins σ H s'->Q (.bool (!o.isSome)) s'):
 wpAny (model X.prog X.w) A (compareOp .NotIn u (.ref a)) Q E s:=by
 rcases g with ⟨kvs,k,e,ey,l⟩|⟨kvs,k,b,e,ey,eb,l⟩
 · subst ey;obtain⟨z,hd,vs,rel,dd⟩:=y8 I.hok e;refine wpAny_notIn_of (y7 ry) hd dd.mapOf ?_;rw [<-(rel.val k).isSome_eq, <-l];exact h _ (I.tok _)
 · subst ey;cases (show u=Value.ref b from ry)
   obtain⟨z,hd,xs,rel,dd⟩:=CA I.hok e;refine wpAny_notIn_heap (tupleKind_room_in1 hu) (nX I.hok eb) hd dd ?_;have q:=(rel.val k).isSome_eq;rw [Option.isSome_map]at q;rw [<-q, <-l];exact h _ (I.tok _)
theorem sG {h':Heap}{t':Nat}{ob:HO}(I:Inv X pins σ H s)(mu:L5 (H a))(hs:Heap.SameBut a s.heap h')(he:∃q,h'.get? a=some q)(new:ObjOk X.prog X.w (bH H a ob) h' a ob):
 Inv X pins σ (bH H a ob) {s with heap:=h',toks:=t'}:=
 I.write (x:=a) (e:=a) mu (.inl rfl) (λb q hb z=>(hs.2 b hb).trans z) he new
theorem Kh {P:Program}{w:World}{H':Hp}{h':Heap}{kvs:List (cK×V)}{vs:List (cK×Value)}(z:kvs.length<=sizeLine)(hd:(a==sysModules)=false)(rel:KV kvs vs)(dd:h'.DictOf (bX P w) a vs):
 ObjOk P w H' h' a (.dK kvs):=⟨z,hd,vs,rel,dd⟩
theorem DP {H':Hp}{Q:Unit->Shared->Prop}(hu:A.units+1 < cLine)(I:Inv X pins σ H s)(g:DPut H a y v H')(ry:RelV y u)(rv:RelV v r)(h:∀s',Inv X pins σ H' s'->Q () s'):
 wpAny (model X.prog X.w) A (setItem (.ref a) u r) Q E s:=by
 rcases g with ⟨kvs,k,e,ey,l,eH⟩|⟨kvs,k,b,e,ey,eb,l,eH⟩
 · subst ey eH;obtain⟨z,hd,vs,rel,dd⟩:=MG I.hok e;have hz:vs.length<=sizeLine:=by rw [<-rel.length];exact z
   have hl:(mT kvs k v).length<=sizeLine:=by have:=lP kvs k v;omega
   refine wpAny_setItem_pairs (hsz:=hz) (y7 ry) dd λh' dd' hs=>h _ ?_;have he:∃q,h'.get? a=some q:=let ⟨q,_,_,hq,_⟩:=dd';⟨q,hq⟩;exact sG I (by rw [e];exact True.intro) hs he (Kh hl hd (rel.put k rv) dd')
 · subst ey eH;cases (show u=Value.ref b from ry)
   obtain⟨z,hd,xs,rel,o,es,ep,h1,h2,h3,h4,h5,h6⟩:=(show ObjOk X.prog X.w H s.heap a (.dT kvs)from I.hok a _ e)
   have rel:KT H kvs xs:=rel;have hz:xs.length<=sizeLine:=by rw [<-Paired.length rel];exact z
   have hl:(mT kvs k v).length<=sizeLine:=by have:=lP kvs k v;omega
   refine Al (tupleKind_room_in1 hu) (nX I.hok eb) h1 h2 h3 h4 (FY I.hok rel) h5 h6 (λh' q es' hq g2 g3 g4 g5 hs=>h _ ?_) hz;refine sG I (by rw [e];exact True.intro) hs ⟨q,hq⟩ ⟨hl,hd,_,(rel.put k eb rv).keeps λc ys ec=>?_,q,es',_,hq,g2,g3,g4,g5,rfl⟩
   rw [aN (JP ec e (λz=>nomatch z))];exact ec
end
section
variable {X:Cx} {pins:List (Addr×Obj)} {σ:St} {H:Hp} {s:Shared} {a:Addr} {kvs:List (cK×V)} {k:cK} {u:Value} {A:Around} {E:Value->Shared->Prop}
end
def IN(i:Expr):Prop:=∀ov iv,subscripted i false ov iv=operate [ov,iv] (getItem ov iv)
theorem CB {prog:Program}{w:World}{A:Around}{E:Value->Shared->Prop}{s:Shared}{env:Env}{value slice:Expr}{pos:Pos}{T id:String}{Q:Value->Shared->Prop}
 (hl:typeLookup (.type T) "__getitem__"=pure (some (.builtin id))) (hs:IN slice)
 (h:wpAny (model prog w) A (eval value env) (λo s₁=>wpAny (model prog w) A (eval slice env) (λi s₂=>s₂.TypeIs o T/\wpAny (model prog w) A (getItem o i) Q E s₂) E s₁) E s):
 wpAny (model prog w) A (eval (.Subscript value slice pos) env) Q E s:=by
 refine Subscript_ (wpAny_mono h (λo s₁ h₁=>wpAny_mono h₁ (λi s₂ h₂=>?_) λ_ _ x=>x) λ_ _ x=>x);obtain⟨hT,h₂⟩:=h₂;unfold subscriptTail;refine wB ?_;rw [getitemInPython_of_ne hT.not_modules];refine wB (wpAny_specialOf hT hl ?_);have fin:wpAny (model prog w) A (subscripted slice false o i) (λr s₃=>wpAny (model prog w) A (letTemporaryGo value o r >>= λ_=>pure r) Q E s₃) E s₂:=by
  rw [hs o i];exact wpAny_operating (wpAny_mono h₂ (λr s₃ h₃=>wB (wpAny_letTemporaryGo (wP h₃))) λ_ _ x=>x)
 first
  |exact wP (wB fin)
  |exact wB (wP (wB fin))
  |exact wB fin
theorem y9 {X:Cx}{pins:List (Addr×Obj)}{σ:St}{H:Hp}{s:Shared}{a:Addr}{y:V}{o:Option V}(I:Inv X pins σ H s)(g:DGet H a y o):s.TypeIs (.ref a) "dict":=by
 rcases g with ⟨kvs,k,e,_,_⟩|⟨kvs,k,b,e,_,_,_⟩
 · obtain⟨_,_,vs,_,dd⟩:=y8 I.hok e;exact dd.typeIs
 · obtain⟨_,_,xs,_,dd⟩:=CA I.hok e;exact dd.typeIs
def ya(td ty:TE):TE:=λσ H Q=>td σ H λx H1=>ty σ H1 λy H2=>∃a v,x=.ref a/\DGet H2 a y (some v)/\Q v H2
def xN(ty td:TE):TE:=λσ H Q=>ty σ H λy H1=>td σ H1 λx H2=>∃a o,x=.ref a/\DGet H2 a y o/\Q (.bl (!o.isSome)) H2
def FZ(td ty tv:TE):TS:=λD σ H=>tv σ H λv H1=>td σ H1 λx H2=>ty σ H2 λy H3=>∃a H4,x=.ref a/\DPut H3 a y v H4/\D.nx σ H4
section
variable {X:Cx} {o i e value:Expr} {pos pos' tpos:Pos} {td ty tv:TE}
theorem sH(hu:X.A.units+1 < cLine)(ho:PE X o td)(hi:PE X i ty)(hs:IN i):PE X (.Subscript o i pos) (ya td ty):=by
 intro pins s σ H Q I h;refine CB PySem.F.slot_dict_getitem.lookup hs (cU (ho pins s σ H _ I h) λu s1 ⟨x,H1,I1,rx,q1⟩=>cU (hi pins s1 σ H1 _ I1 q1) λiv s2 q_=>?_);obtain⟨y,H2,I2,ry,a,v,ex,g,q2⟩:=q_;subst ex;obtain rfl:u=Value.ref a:=rx;exact⟨y9 I2 g,DO hu I2 g ry λw' s3 I3 rw'=>⟨v,H2,I3,rw',q2⟩⟩
theorem DQ(hu:X.A.units+1 < cLine)(hi:PE X i ty)(ho:PE X o td):PC X .NotIn i o (xN ty td):=by
 intro pins s σ H Q I h;refine cU (hi pins s σ H _ I h) λiv s1 ⟨y,H1,I1,ry,q1⟩=>cU (ho pins s1 σ H1 _ I1 q1) λu s2 q_=>?_;obtain⟨x,H2,I2,rx,a,ov,ex,g,q2⟩:=q_;subst ex;obtain rfl:u=Value.ref a:=rx;exact IM hu I2 g ry λs3 I3=>⟨.bl (!ov.isSome),H2,I3,rfl,q2⟩
theorem IP(hu:X.A.units+1 < cLine)(ho:PE X o td)(hi:PE X i ty)(hv:PE X value tv)(hs:swapsWith value (some (.Subscript o i pos')) pos.line X.env=pure false):
 PS X (.Assign [.Subscript o i pos'] value pos) (FZ td ty tv):=by
 intro pins s σ H D I h;refine wpAny_Assign_Subscript (cU (hv pins s σ H _ I h) λr s1 ⟨v,H1,I1,rv,q1⟩=>cU (ho pins s1 σ H1 _ I1 q1) λu s2 ⟨x,H2,I2,rx,q2⟩=>cU (hi pins s2 σ H2 _ I2 q2) λiv s3 q_=>?_) hs;obtain⟨y,H3,I3,ry,a,H4,ex,g,q3⟩:=q_;subst ex;obtain rfl:u=Value.ref a:=rx;exact DP hu I3 g ry rv λs4 I4=>⟨σ,H4,I4,q3⟩
end
theorem Fb {P:Program}{w:World}{H:Hp}(h:Heap)(hb:sysModules < h.objs.size):ObjOk P w H (h.push {cls:=.type "dict",data:=.dict #[]}) h.objs.size (.dT []):=
 ⟨zU _,beq_eq_false_iff_ne.mpr (Ne.symm (nA hb)),[],.nil,_, #[],0,kf _ rfl,⟨rfl,rfl,rfl⟩,rfl,rfl,List.nodup_nil,rfl⟩
def Fc:TE:=λ_ H Q=>∀p,H p=none->Q (.ref p) (bH H p (.dT []))
section
variable {X:Cx} {pos:Pos}
theorem yb:PE X (.Dict [] [] pos) Fc:=λpins s σ H Q I h=>
 wpAny_Dict_empty ⟨.ref s.heap.objs.size,_,I.laid (a:=s.heap.objs.size) (o:=.dT []) (t':=s.toks) (λ_ _ q=>iM _ q) (Q2 _) (Fb s.heap I.big),rfl,h _ (I.hok.fresh (Q2 _))⟩
end
structure M2 (X:Cx) (o:Expr) (m:Str) (apos:Pos) (e f:Expr) (cpos:Pos):Prop where
 base:attributeBase o m X.env (eval o X.env)=eval o X.env
 few:((backTo cpos (starEach [e,f] X.env)).all (λx=> !x.1)&&(backToKw cpos (keywordEach [] X.env)).all (λx=>x.1.isSome)
  &&decide (([e,f]:List Expr).length+([]:List Keyword).length+(if([]:List Keyword).isEmpty then 0 else 1) < 30))=true
 line:(apos.endLine==cpos.line)=true
 trees:backTo cpos (starEach [e,f] X.env)=[(false,eval e X.env),(false,eval f X.env)]
def MH(H:Hp)(a:Addr):Prop:=(∃kvs,Rd H a (.dK kvs))\/∃kvs,Rd H a (.dT kvs)
theorem Ki {X:Cx}{pins:List (Addr×Obj)}{σ:St}{H:Hp}{s:Shared}{a:Addr}(I:Inv X pins σ H s)(d:MH H a):
 s.TypeIs (.ref a) "dict"/\(∀b,Value.ref a=.ref b->∃ob,s.heap.get? b=some ob/\ob.dict=none)/\(a==sysModules)=false:=by
 rcases d with ⟨kvs,e⟩|⟨kvs,e⟩
 · obtain⟨_,hd,vs,_,dd⟩:=y8 I.hok e;refine⟨dd.typeIs,λb q=>?_,hd⟩;cases q;obtain⟨ob,_,_,h1,h2,_⟩:=dd;exact⟨ob,h1,h2.2.1⟩
 · obtain⟨_,hd,xs,_,dd⟩:=CA I.hok e;refine⟨dd.typeIs,λb q=>?_,hd⟩;cases q;obtain⟨ob,_,_,h1,h2,_⟩:=dd;exact⟨ob,h1,h2.2.1⟩
section
variable {X:Cx} {pins:List (Addr×Obj)} {σ:St} {H:Hp} {s:Shared} {a:Addr} {y d:V} {u r:Value} {o:Option V} {A:Around} {E:Value->Shared->Prop}
end
section
variable {X:Cx} {o e f:Expr} {apos cpos:Pos} {td ty tx:TE}
end
section
variable {X:Cx} {pins:List (Addr×Obj)} {σ:St} {H:Hp} {s:Shared} {a:Addr} {kvs:List (cK×V)} {A:Around} {E:Value->Shared->Prop}
end
section
variable {X:Cx} {pins:List (Addr×Obj)} {σ:St} {H:Hp} {s:Shared} {a:Addr} {y:V} {u:Value} {A:Around} {E:Value->Shared->Prop}
end
end L2
namespace DL
open PySem L2
section
variable {K:Fg} {H0 F0 F:Hp} {σ:St} {H:Hp} {δ:aQ}
theorem Rep.setD(R:Rep K H0 F0 F σ H δ){i:Nat}{a:Addr}{m:HO}{kvs:List (PyData×PyData)}(ha:H a=some m)(hf:F a=none)(h0:H0 a=none)(h:DcO K F m kvs)
 (hn:∀j es,j≠i->δ[j]? =some (some (.od es))->σ[j]? ≠some (some (.ref a))):Rep K H0 F0 F (σ.set i (some (.ref a))) H (δ.set i (some (.od kvs))) where
 g:=R.g
 len:=by rw [Qc,Qc];exact R.len
 fz:=λj e q=>by
  rcases ae q with ⟨rfl,z⟩|⟨n,q⟩
  · cases z
  · rw [aa n];exact R.fz j e q
 ow:=λj es q=>by
  rcases ae q with ⟨rfl,z⟩|⟨n,q⟩
  · cases z
  · rw [aa n];exact R.ow j es q
 ap:=λj k ds es b q1 q2 q3 q4=>by
  rcases ae q1 with ⟨rfl,z⟩|⟨n1,q1⟩
  · cases z
  · rcases ae q2 with ⟨rfl,z⟩|⟨n2,q2⟩
    · cases z
    · rw [aa n1]at q3;rw [aa n2]at q4;exact R.ap j k ds es b q1 q2 q3 q4
 od:=λj es q=>by
  have hj:=eW q;rw [Qc]at hj
  rcases ae q with ⟨rfl,z⟩|⟨n,q⟩
  · injection z with z
    injection z with z
    subst z;exact⟨a,m,jz (by rw [R.len];exact hj),ha,hf,h0,h⟩
  · rw [aa n];exact R.od j es q
 ad:=λj k ds' es' b q1 q2 q3 q4=>by
  have hj:=eW q1;have hk:=eW q2;rw [Qc]at hj hk
  rcases ae q1 with ⟨ej,z⟩|⟨n1,p1⟩
  · rcases ae q2 with ⟨ek,z2⟩|⟨n2,p2⟩
    · rw [ej,ek]
    · rw [ej,jz (by rw [R.len, <-ej];exact hj)]at q3
      rw [aa n2]at q4;cases q3;exact absurd q4 (hn k es' n2 p2)
  · rcases ae q2 with ⟨ek,z⟩|⟨n2,p2⟩
    · rw [ek,jz (by rw [R.len, <-ek];exact hk)]at q4
      rw [aa n1]at q3;cases q4;exact absurd q3 (hn j ds' n1 p1)
    · rw [aa n1]at q3;rw [aa n2]at q4;exact R.ad j k ds' es' b p1 p2 q3 q4
 tb:=R.tb
end
section
variable {K:Fg}
noncomputable def tT(i:Nat)(δ:aQ):Option DFlow:=some (.nx (δ.set i (some (.od []))))
theorem CC(i:Nat):SS K (hV Fc (cE i)) (tT i):=by
 intro H0 F0 F σ H δ r D R e h;cases e;intro p hp;have g1:Grow F H F (bH H p (.dT [])):=Grow.fresh R.g.s hp;refine h F _ _ ((R.grow g1).setD aT (R.g.s.free hp) (R.g.h.free hp) (.inl ⟨[],rfl,rfl⟩) λj es nj ej=>?_) (Same.refl _);obtain⟨b,ys,q1,q2,_⟩:=R.od j es ej;rw [q1];intro z;cases z;rw [q2]at hp;cases hp
end
section
variable {K:Fg}
theorem CD {q:List cK}{k:List Int}:jH (.tuple (q.map kD))=some k↔q=k.map Sum.inl:=by
 constructor
 · intro h;exact xM (cW h)
 · intro h;subst h;show hZ ((k.map Sum.inl).map kD)=some k;rw [zO];exact bZ k
noncomputable def MI:List (PyData×PyData)->Bool
 |(.none,_)::_=>false
 |_=>true
theorem Kj {F:Hp}{m:List (cK×V)}{kvs:List (PyData×PyData)}(h:KvsS K F m kvs):MI kvs=false:=by
 cases kvs with
 |nil=>exact h.elim
 |cons p r=>
  obtain⟨rfl,_⟩:=h;rfl
end
end DL
namespace L2
open PySem PySem.Spec PyProof.Rows
mutual
noncomputable def sB:PyData->PyData->Option Bool
 | .int i,.int j=>some (decide (i < j))
 | .bool p,.bool q=>some (decide (b2i p < b2i q))
 | .tuple xs,.tuple ys=>ltL xs ys
 |_,_=>none
noncomputable def ltL:List PyData->List PyData->Option Bool
 |[],[]=>some false
 |[],_::_=>some true
 |_::_,[]=>some false
 |x::xs,y::ys=>if PyData.eqv x y=true then ltL xs ys else sB x y
end
def Fd(A:Around)(s:Shared)(a b:Value)(r:Bool):Prop:=
 ∀(prog:Program) (w:World) (E:Value->Shared->Prop) (Q:Value->Shared->Prop),Q (.bool r) s->wpAny (model prog w) A (richCompare .Lt a b) Q E s
noncomputable def yc(A:Around)(s:Shared)(fin:Bool):List Value->List Value->Bool->Prop
 |v::vs,w::ws,r=>(SeqAt.EqAt A s v w true/\yc A s fin vs ws r)\/(SeqAt.EqAt A s v w false/\Fd A s v w r)
 |_,_,r=>r=fin
section
open PySem.SeqAt
open PySem.AutoSeq1 (wpAny_loadPart')
open PySem.MeetsSeq PySem.MeetsSeq2 PySem.MeetsSeq3
theorem xO(l b:Addr)(items items2:Array Value)(n n2:Nat)(dd dd2:Option Addr)(sl sl2:Array (Option Value))(r:Bool):
 Meets (Builtin.«tuple.__lt__» ⟨[.ref l,.ref b],[]⟩)
  (λ A R s => s.heap.get? l = some { cls := .type "tuple", dict := dd, data := .seq items n, slots := sl } /\ s.heap.get? b = some { cls := .type "tuple", dict := dd2, data := .seq items2 n2, slots := sl2 } /\
   yc A.in1 s (decide (items.size < items2.size)) items.toList items2.toList r/\R (.ok (.ret (.bool r))) s):=
 .of_wp λprog w A R s h=>by
  obtain⟨hp,g,d,tk,os⟩:=s;obtain⟨hl,hb,hx,h⟩:=h;have f2:=AutoSeq1.sub_tuple_tuple
  wp_walk using wpAny_loadPart' hl,wpAny_loadPart' hb,wpAny_forIn_list _ (λbt b s'=>b.1=none/\s'=⟨hp,g,d,tk,os⟩/\∃(vs ws:List Value),bt=vs.zip ws/\
   yc A.in1 ⟨hp,g,d,tk,os⟩ (decide (items.size < items2.size)) vs ws r) _
  case turn=>
   rintro⟨y,x⟩ bt b s' ⟨hb',rfl,vs,ws,hz,hL⟩;cases vs with
   |nil=>rw [List.zip_nil_left]at hz;cases hz
   |cons v vs=>
    cases ws with
    |nil=>rw [List.zip_nil_right]at hz;cases hz
    |cons u ws=>
     rw [List.zip_cons_cons]at hz;injection hz with hyx hrest
     injection hyx with hy hx
     subst hy hx
     rcases hL with ⟨he,hL⟩|⟨he,hlt⟩
     · refine wB (he prog w _ _ ?_)
       wp_walk
       exact⟨rfl,rfl,_,_,hrest,hL⟩
     · refine wB (he prog w _ _ ?_);have hri:=hlt prog w
       wp_walk using hri
       exact⟨_,rfl,by simpa using h⟩
  case fin=>
   rintro⟨b1,b2⟩ s' ⟨hb',rfl,vs,ws,hz,hL⟩;simp only at hb';subst hb';have hv:r=decide (items.size < items2.size):=by
    cases vs with
    |nil=>cases ws<;>exact hL
    |cons v vs=>
     cases ws with
     |nil=>exact hL
     |cons u ws=>rw [List.zip_cons_cons]at hz;cases hz
   subst hv
   wp_walk
   exact⟨_,rfl,by simpa [Builtin.Tuple.tupleCompareSizes]using h⟩
  case h=>
   exact⟨rfl,rfl,items.toList,items2.toList,rfl,hx⟩
end
theorem Fe {A:Around}{s:Shared}{l b:Addr}{items items2:Array Value}{r:Bool}(hl:s.heap.IsTuple l items)(hb:s.heap.IsTuple b items2)(hu:A.units < cLine)(hx:yc A.in1 s (decide (items.size < items2.size)) items.toList items2.toList r):
 Fd A s (.ref l) (.ref b) r:=by
 intro prog w E Q h;obtain⟨⟨cls,dd,data,sl⟩,ho,hc,n,hd⟩:=id hl;obtain⟨⟨cls2,dd2,data2,sl2⟩,ho2,hc2,n2,hd2⟩:=id hb;simp only at hc hd hc2 hd2;subst hc hd hc2 hd2;exact richCompare_meets_room (op:=.Lt) ⟨_,ho,rfl⟩ ⟨_,ho2,rfl⟩ PySem.F.slot_tuple_lt PySem.F.entry_tuple_lt (PySem.F.args_tuple_lt_2 _ _) (xO l b items items2 n n2 dd dd2 sl sl2 r)
  ⟨ho,ho2,hx,show Value.bool r≠Value.notImplemented/\Q (.bool r) s from ⟨(λx=>nomatch x),h⟩⟩ hu
open PySem.SeqAt (room_here room_in room_head room_tail)
theorem CF {xs ys:List PyData}{r:Bool}(h:ltL xs ys=some r)(e:xs=[]\/ys=[]):r=decide (xs.length < ys.length):=by
 cases xs with
 |nil=>
  cases ys with
  |nil=>cases h;rfl
  |cons y ys=>cases h;simp
 |cons x xs=>
  cases ys with
  |nil=>cases h;simp
  |cons y ys=>rcases e with e|e<;>cases e
mutual
theorem tU:∀(da db:PyData) (A:Around) (s:Shared) (a b:Value) (as bs:List Addr) (r:Bool),Reads s.heap a da as->Reads s.heap b db bs->da.canLay0=true->db.canLay0=true->
 A.units+min da.depth db.depth < cLine->sB da db=some r->Fd A s a b r
 | .int x,db,A,s,_,_,_,_,r,ra,rb,_,hb,hu,e=>by
  cases ra with
  |int _ t=>
   cases rb with
   |int y u=>
    cases e;exact λprog w E Q h=>(PyProof.Rows.lt_int h:wpAny (model prog w) A (compareOp .Lt _ _) Q E s)
   |_=>cases e
 | .bool x,db,A,s,_,_,_,_,r,ra,rb,_,hb,hu,e=>by
  cases ra;cases rb with
  |bool y=>
   cases e;exact λprog w E Q h=>(PyProof.Rows.lt_bool h:wpAny (model prog w) A (compareOp .Lt _ _) Q E s)
  |_=>cases e
 | .tuple xs,db,A,s,_,_,_,_,r,ra,rb,ha,hb,hu,e=>by
  cases ra with
  | @tuple l o vs n _ as₁ h1 h2 h3 h4=>
   cases rb with
   | @tuple l' o' vs' n' ys bs₁ k1 k2 k3 k4=>
    have hl:s.heap.IsTuple l vs:=⟨_,h1,h2,_,h3⟩;have hl':s.heap.IsTuple l' vs':=⟨_,k1,k2,_,k3⟩;have n1:vs.size=xs.length:=by simpa using SeqAt.ReadsAll.length _ _ _ h4
    have n2:vs'.size=ys.length:=by simpa using SeqAt.ReadsAll.length _ _ _ k4
    refine Fe hl hl' (room_here hu) ?_;have e2:ltL xs ys=some r:=by rw [sB]at e;exact e
    exact lexAt_reads xs ys A.in1 s vs.toList vs'.toList _ _ r _ h4 k4 ha hb (room_in hu) e2 ⟨0,by rw [n1,n2];rfl⟩
   |_=>simp [sB]at e
 | .none,_,_,_,_,_,_,_,_,_,_,_,_,_,e=>by simp [sB]at e
 | .str _,_,_,_,_,_,_,_,_,_,_,_,_,_,e=>by simp [sB]at e
 | .list _,_,_,_,_,_,_,_,_,_,_,_,_,_,e=>by simp [sB]at e
 | .dict _,_,_,_,_,_,_,_,_,_,_,_,_,_,e=>by simp [sB]at e
theorem lexAt_reads:∀(xs ys:List PyData) (A:Around) (s:Shared) (vs ws:List Value) (as bs:List Addr) (r fin:Bool),ReadsAll s.heap vs xs as->ReadsAll s.heap ws ys bs->PyData.canLayAll0 xs=true->PyData.canLayAll0 ys=true->
 A.units+min (PyData.depthAll xs) (PyData.depthAll ys) < cLine->ltL xs ys=some r->(∃k,fin=decide (xs.length+k < ys.length+k))->yc A s fin vs ws r
 |[],ys,A,s,_,ws,_,_,r,fin,ra,rb,_,_,_,e,⟨k,hf⟩=>by
  cases ra;have q:=CF e (.inl rfl);rw [hf,q];show decide _=decide _;exact decide_eq_decide.mpr (by omega)
 |x::xs,[],A,s,_,_,_,_,r,fin,ra,rb,_,_,_,e,⟨k,hf⟩=>by
  cases rb;have q:=CF e (.inr rfl);cases ra;rw [hf,q];show decide _=decide _;exact decide_eq_decide.mpr (by omega)
 |x::xs,y::ys,A,s,_,_,_,_,r,fin,ra,rb,ha,hb,hu,e,⟨k,hf⟩=>by
  have ha':x.canLay0=true/\PyData.canLayAll0 xs=true:=by simpa [PyData.canLayAll0]using ha
  have hb':y.canLay0=true/\PyData.canLayAll0 ys=true:=by simpa [PyData.canLayAll0]using hb
  cases ra with
  |cons r1 rs=>
   cases rb with
   |cons r1' rs'=>
    have eq:=SeqAt.eqAt_reads x y A s _ _ _ _ r1 r1' ha'.1 hb'.1 (room_head hu);rw [ltL]at e
    by_cases c:PyData.eqv x y=true
    · rw [if_pos c]at e;rw [c]at eq;exact .inl ⟨eq,lexAt_reads xs ys A s _ _ _ _ r fin rs rs' ha'.2 hb'.2 (room_tail hu) e ⟨k+1,by rw [hf];exact decide_eq_decide.mpr (by simp only [zC];omega)⟩⟩
    · rw [if_neg c]at e;have c':PyData.eqv x y=false:=by simpa using c
      rw [c']at eq;exact .inr ⟨eq,tU x y A s _ _ _ _ r r1 r1' ha'.1 hb'.1 (room_head hu) e⟩
end
end L2
namespace DL
open PySem L2
section
variable {K:Fg}
noncomputable def Jg(n:Int):PyData->Bool
 | .int i=>decide (i=n)
 |_=>false
theorem Kk {n:Int}(q:cK):Jg n (kD q)=decide (q=Sum.inl n):=by
 cases q with
 |inl i=>exact decide_eq_decide.mpr ⟨λe=>by rw [e],λe=>Sum.inl.inj e⟩
 |inr x=>exact(decide_eq_false (λe=>nomatch e)).symm
noncomputable def N9(kvs:List (PyData×PyData))(k:Int)(v:PyData):List (PyData×PyData):=
 if(kvs.any λp=>Jg k p.1)=true then kvs.map λp=>if Jg k p.1=true then(p.1,v)else p else kvs++[(.int k,v)]
noncomputable def Kl(K:Fg)(F:Hp)(ov:Option V):Option PyData->Prop
 |none=>ov=none
 |some d=>∃v,ov=some v/\Is K F v d
noncomputable def Am(n:Int):List (PyData×PyData)->Option (Option PyData)
 |(.none,.none)::r=>some ((r.find? λp=>Jg n p.1).map (·.2))
 |_=>none
noncomputable def CG(kvs:List (PyData×PyData)):PyData->Option (Option PyData)
 | .int n=>Am n kvs
 | .tuple ds=>(hZ ds).bind λks=>if MI kvs=true then some ((kvs.find? λp=>decide (jH p.1=some ks)).map (·.2))else none
 |_=>none
theorem ye {F:Hp}{k:List Int}:∀{m:List (List cK×V)} {kvs:List (PyData×PyData)},Kvs K F m kvs->Kl K F (iA m (k.map Sum.inl)) ((kvs.find? λp=>decide (jH p.1=some k)).map (·.2))
 |_,[],h=>by rw [show _=[]from h];rfl
 |_,(pk,pd)::r,h=>by
  obtain⟨q,m',rfl,⟨h1,h3⟩,h2⟩:=h;have ih:=ye (k:=k) h2;unfold iA at ih ⊢
  by_cases e:q.1=k.map Sum.inl
  · rw [Dy (by exact decide_eq_true e),Dy (by show decide _=true;rw [h1];exact decide_eq_true (CD.mpr e))]
    exact⟨_,rfl,h3⟩
  · rw [Dz (by exact λz=>e (of_decide_eq_true z)),Dz (by show ¬decide _=true;rw [h1];exact λz=>e (CD.mp (of_decide_eq_true z)))]
    exact ih
theorem vw {F:Hp}{k:Int}:∀{m:List (cK×V)} {kvs:List (PyData×PyData)},KvsI K F m kvs->Kl K F (iA m (Sum.inl k)) ((kvs.find? λp=>Jg k p.1).map (·.2))
 |_,[],h=>by rw [show _=[]from h];rfl
 |_,(pk,pd)::r,h=>by
  obtain⟨q,m',rfl,⟨h1,h3⟩,h2⟩:=h;have ih:=vw (k:=k) h2;have e0:Jg k pk=decide (q.1=Sum.inl k):=by rw [h1];exact Kk q.1
  unfold iA at ih ⊢
  by_cases e:q.1=Sum.inl k
  · rw [Dy (by exact decide_eq_true e),Dy (by show Jg k pk=true;rw [e0];exact decide_eq_true e)]
    exact⟨_,rfl,h3⟩
  · rw [Dz (by exact λz=>e (of_decide_eq_true z)),Dz (by show ¬Jg k pk=true;rw [e0,decide_eq_false e];decide)]
    exact ih
theorem IQ {F H:Hp}{a:Addr}{o:HO}{kvs:List (PyData×PyData)}{y:V}{k:PyData}{r:Option PyData}(s:Same F H)(ha:H a=some o)(hd:DcO K F o kvs)(hy:Is K F y k)(e:CG kvs k=some r):
 ∃ov,DGet H a y ov/\Kl K F ov r:=by
 cases k with
 |int n=>
  cases (show y=V.int n from hy)
  have e:Am n kvs=some r:=e;unfold Am at e;split at e
  · rename_i kr;cases e
    rcases hd with ⟨m,rfl,q⟩|⟨m,rfl,q⟩
    · obtain⟨z,m',_,q6,_⟩:=q;cases q6.1
    · exact⟨_,DGet.k (k:=Sum.inl n) ha,vw q.2⟩
  · cases e
 |tuple ds=>
  obtain⟨ks,e1,e2⟩:=bind_some (show ((hZ ds).bind λks=>if MI kvs=true then some ((kvs.find? λp=>decide (jH p.1=some ks)).map (·.2))else none)=some r from e)
  split at e2
  · rename_i ht;cases e2;obtain⟨c,xs,rfl,w1,w2⟩:=hy;rw [cW e1]at w2;have w3:=Are.ints.mp w2;subst w3;have hc:H c=some (.tup ((ks.map (Sum.inl:Int->cK)).map kV)):=by
     rw [ji];exact s _ _ w1
    rcases hd with ⟨m,rfl,q⟩|⟨m,rfl,q⟩
    · exact⟨_,DGet.t ha hc,ye q⟩
    · rw [Kj q]at ht;cases ht
  · cases e2
 |none=>cases e
 |bool b=>cases e
 |str x=>cases e
 |list ds=>cases e
 |dict ds=>cases e
end
end DL
namespace L2
open PySem PySem.Spec PyProof.Rows
noncomputable def qE(lt:Nat->Nat->Bool):Nat->Nat
 |0=>0
 |n+1=>if lt (n+1) (qE lt n)=true then n+1 else qE lt n
theorem Ff(lt:Nat->Nat->Bool):∀n,qE lt n<=n
 |0=>Q2 _
 |n+1=>by
  unfold qE;split
  · exact Q2 _
  · exact Nat.le_succ_of_le (Ff lt n)
theorem oh {xs:List V}{us:List Value}(r:Vals xs us){i:Nat}{u:Value}(e:us[i]? =some u):∃x,xs[i]? =some x/\RelV x u:=by
 induction r generalizing i with
 |nil=>simp at e
 |cons h _ ih=>
  cases i with
  |zero=>
   simp at e;subst e;exact⟨_,rfl,h⟩
  |succ i=>exact ih (by simpa using e)
theorem IR(a:Value):argsOk "min" ⟨[a],[]⟩:=by unfold argsOk;kernel_rfl
section
variable {X:Cx} {pins:List (Addr×Obj)} {σ:St} {S I l:Addr} {xs:List V} {F H0:Hp} {lt:Nat->Nat->Bool} {R:Result->Shared->Prop}
theorem IS(hcm:X.calm=true)(hFl:F l=some (.lst xs))(hFS:F S=none)(hSI:S≠I)
 (hc:∀(i j:Nat) (x y:V) (u v:Value) (H:Hp) (s:Shared),xs[i]? =some x->xs[j]? =some y->Inv X pins σ H s->Same F H->RelV x u->RelV y v->Fd X.A.in1 s u v (lt i j))
 (hR:∀(v:V) (u:Value) (H':Hp) (s':Shared),xs[qE lt (xs.length - 1)]? =some v->RelV v u->Inv X pins σ H' s'->Same F H'->(∀b,b≠S->H' b=H0 b)->R (.ok (.ret u)) s'):
 ∀(r j:Nat) (H:Hp) (s:Shared) (vb:V),xs.length - (j+1)=r->j+1<=xs.length->Inv X pins σ H s->Same F H->(∀b,b≠S->H b=H0 b)->H S=some (.lst [vb,vb])->xs[qE lt j]? =some vb->nH X pins H I->s.heap.IsListIter I l (j+1)->
  codeAny (model X.prog X.w) X.A (.builtin "min.loop" ⟨[.ref I,.none,.ref S],[]⟩) R s:=by
 have hname:(toString "min"++toString ".loop":String)="min.loop":=by decide
 intro r
 induction r with
 |zero=>
  intro j H s vb hr hj J sF hb hS hvb hI hit;have hin:j+1=xs.length:=by omega
  have hl:=sF _ _ hFl;have hlI:l≠I:=λz=>by rw [z,hI.1]at hl;cases hl
  obtain⟨zl,its,n,rl,ll,el⟩:=J.lstM hl;obtain⟨zS,itS,nS,rS,lS,eS⟩:=J.lstM hS;obtain⟨u1,u2,rfl,r1,r2⟩:=rS.two;have W:=Walks.list (prog:=X.prog) (w:=X.w) (A:=X.A.in1) (J.ok.hd hcm) I l hlI its.toArray;have hsz:its.toArray.size=its.length:=zM ..;refine codeAny_builtin PySem.F.entry_min_loop ?_;rw [Around.under_plainId PySem.F.plain_min_loop _];show wpAny _ X.A.in1 (seqItems? (.ref S) >>=_) _ _ _;refine wB (wpAny_seqItems eS rfl ?_);show wpAny _ X.A.in1 (tryCatch (pyNext (.ref I)) _ >>=_) _ _ _;refine wB (wpAny_tryCatch (W.done _ _ _ ⟨by rw [hsz, <-ll, <-hin];exact hit,⟨_,el,rfl,_,rfl⟩⟩ λh' tk' hk'=>?_))
  have J1:Inv X pins σ H {s with heap:=h',toks:=tk'}:=J.turned (it:=I) (λb o hb e=>hk' b o (by simpa using hb) e) hI.1 hI.2.1 hI.2.2.2.1 hI.2.2.2.2.1 hI.2.2.2.2.2
  have eS1:h'.get? S=some {cls:=.type "list",data:=.seq [u1,u2].toArray nS}:=hk' S _ (by simpa using hSI) eS
  show wpAny _ X.A.in1 (updateSeq S (λ_=> #[]) >>=_) _ _ _;refine wB ?_;refine wpAny_updateSeq eS1 rfl (wB (wpAny_letGo (wP ?_)));have J2:=J1.lset (l:=S) (ys:=[]) (its':=[]) (f:=λ_=> #[]) (t':=tk') hS eS1 rfl .nil (zU _);refine hR vb u1 _ _ (by rw [<-hin];exact hvb) r1 J2 (λb o e=>?_) λb n=>by rw [aN n];exact hb b n
  rw [aN (λz=>by rw [z,hFS]at e;cases e)]
  exact sF b o e
 |succ r ih=>
  intro j H s vb hr hj J sF hb hS hvb hI hit;have hlt:j+1 < xs.length:=by omega
  have hl:=sF _ _ hFl;have hlI:l≠I:=λz=>by rw [z,hI.1]at hl;cases hl
  obtain⟨zl,its,n,rl,ll,el⟩:=J.lstM hl;obtain⟨zS,itS,nS,rS,lS,eS⟩:=J.lstM hS;obtain⟨u1,u2,rfl,r1,r2⟩:=rS.two;have W:=Walks.list (prog:=X.prog) (w:=X.w) (A:=X.A.in1) (J.ok.hd hcm) I l hlI its.toArray;have hsz:its.toArray.size=its.length:=zM ..;refine codeAny_builtin PySem.F.entry_min_loop ?_;rw [Around.under_plainId PySem.F.plain_min_loop _];show wpAny _ X.A.in1 (seqItems? (.ref S) >>=_) _ _ _;refine wB (wpAny_seqItems eS rfl ?_);show wpAny _ X.A.in1 (tryCatch (pyNext (.ref I)) _ >>=_) _ _ _;refine wB (wpAny_tryCatch (W.item (j+1) _ _ _ (by rw [hsz, <-ll];exact hlt) ⟨hit,⟨_,el,rfl,_,rfl⟩⟩ λu h' tk' hP hst' hk'=>?_))
  have hv:its[j+1]? =some u:=by simpa using hP
  obtain⟨x,hx,rx⟩:=oh rl hv;have J1:Inv X pins σ H {s with heap:=h',toks:=tk'}:=J.turned (it:=I) (λb o hb e=>hk' b o (by simpa using hb) e) hI.1 hI.2.1 hI.2.2.2.1 hI.2.2.2.2.1 hI.2.2.2.2.2
  have eS1:h'.get? S=some {cls:=.type "list",data:=.seq [u1,u2].toArray nS}:=hk' S _ (by simpa using hSI) eS
  have cm:=hc (j+1) (qE lt j) x vb u u2 H _ hx hvb J1 sF rx r2;show wpAny _ X.A.in1 (pure u >>=_) _ _ _;refine wB (wP ?_);show wpAny _ X.A.in1 (tryCatch (holding [u,u] (richCompare .Lt u u2 >>=_)) _ >>=_) _ _ _;refine wB (wpAny_tryCatch (wpAny_holding (wB (cm _ _ _ _ ?_))));refine wB (wpAny_holding (wpAny_truthy_bool ?_));refine wB (wpAny_letGo (wP ?_))
  by_cases c:lt (j+1) (qE lt j)=true
  · rw [c];simp only [if_true];refine wB ?_;refine wpAny_updateSeq eS1 rfl (wB (wpAny_letGo ?_));rw [hname];have J2:=J1.lset (l:=S) (ys:=[x,x]) (its':=[u,u]) (f:=λ_=> #[u,u]) (t':=tk') hS eS1 rfl (.cons rx (.cons rx .nil)) (sj (show 2<=1000 by decide))
    obtain⟨oI,hoI,hoc,hod⟩:=id hst'.1;refine wP ⟨plainId_quiet PySem.F.plain_min_loop _,ih (j+1) _ _ x (by omega) hlt J2 (λb o e=>?_) (λb n=>by rw [aN n];exact hb b n) aT (by rw [qE,if_pos c];exact hx) ⟨by rw [aN hSI.symm];exact hI.1,hI.2⟩ ⟨oI,?_,hoc,hod⟩⟩
    · rw [aN (λz=>by rw [z,hFS]at e;cases e)]
      exact sF b o e
    · exact(AC h' _ hSI).trans hoI
  · have c':lt (j+1) (qE lt j)=false:=by simpa using c
    rw [c'];simp only [zN,if_false];refine wB (wpAny_letGo ?_);rw [hname];exact wP ⟨plainId_quiet PySem.F.plain_min_loop _,ih (j+1) H _ vb (by omega) hlt J1 sF hb hS (by rw [qE,if_neg c];exact hvb) hI hst'.1⟩
end
def Kn(K:Fg):List V->Hp->VK->Prop:=λas H Q=>∃(l:Addr) (xs:List V) (F:Hp) (ds:List PyData),as=[.ref l]/\F l=some (.lst xs)/\Same F H/\DL.Are K F xs ds/\xs≠[]/\(∀d∈ds,DL.ul d=true)/\
 (∀a∈ds,∀b∈ds,(sB a b).isSome=true)/\∀(v:V) (H':Hp),xs[qE (λi j=>(sB (ds.getD i .none) (ds.getD j .none)).getD false) (xs.length - 1)]? =some v->Same F H'->Same H H'->Q v H'
theorem Fh {X:Cx}(hcm:X.calm=true)(hu:X.A.units+64 < cLine):fu X (.builtin "min") (Kn X.K):=by
 intro pins s σ H as us Q J rv h;obtain⟨l,xs,F,ds,rfl,hFl,sF,ar,hne,hok,hcmp,q⟩:=h;obtain⟨u,rfl,ru⟩:=sX rv;cases (show u=Value.ref l from ru)
 have hname:(toString "min"++toString ".loop":String)="min.loop":=by decide
 have hl:=sF _ _ hFl;obtain⟨zl,its,n,rl,ll,el⟩:=J.lstM hl;have yJ:=ar.length;have hc:∀(i j:Nat) (x y:V) (u v:Value) (H:Hp) (s:Shared),xs[i]? =some x->xs[j]? =some y->Inv X pins σ H s->Same F H->RelV x u->RelV y v->Fd X.A.in1 s u v ((sB (ds.getD i .none) (ds.getD j .none)).getD false):=by
  intro i j x y u v H1 s1 hx hy J1 s1F rx ry;obtain⟨dx,ex,ix⟩:=ar.get' hx;obtain⟨dy,ey,iy⟩:=ar.get' hy;have gx:ds.getD i .none=dx:=by rw [qF,ex];rfl
  have gy:ds.getD j .none=dy:=by rw [qF,ey];rfl
  have mx:=JM ex;have my:=JM ey;have cx:=DL.d4 (hok dx mx);have cy:=DL.d4 (hok dy my);obtain⟨as,ra⟩:=(DL.Hy dx cx.1 (ix.same s1F)).reads J1 _ rx;obtain⟨bs,rb⟩:=(DL.Hy dy cy.1 (iy.same s1F)).reads J1 _ ry;obtain⟨b,hb⟩:=L4.mp (hcmp dx mx dy my);rw [gx,gy,hb];exact tU dx dy X.A.in1 s1 u v as bs b ra rb cx.1 cy.1 (by have:=cx.2;show X.A.units+1+_ < cLine;omega) hb
 refine kmk_tree PySem.F.kind_min PySem.F.plain_min PySem.F.entry_min (IR _) ?_;show wpAny _ X.A.in1 (Builtin.Builtins.bindParams "min" ["key","default"] 0 ⟨[],[]⟩ >>=_) _ _ s;refine wB (wpAny_of_eq (show Builtin.Builtins.bindParams "min" ["key","default"] 0 ⟨[],[]⟩=pure [none,none]from rfl) ?_)
 refine wB (wP ?_);refine wB (wpAny_pyIter_list ⟨_,el,rfl,_,rfl⟩ ?_);refine wB (wpAny_newList ?_ (zU _));rw [hname];have hlt:l < s.heap.objs.size:=g0 el;have hS:(s.heap.push {cls:=.type "list_iterator",data:=.fields #[.ref l,.int 0 0]}).objs.size=s.heap.objs.size+1:=size_push' ..;have hSI:(s.heap.push {cls:=.type "list_iterator",data:=.fields #[.ref l,.int 0 0]}).objs.size≠s.heap.objs.size:=by rw [hS];exact Dr (EA _)
 have hlI:l≠s.heap.objs.size:=nA hlt;refine wP ⟨plainId_quiet PySem.F.plain_min_loop _,?_⟩;have J0:Inv X pins σ H {s with heap:=s.heap.push {cls:=.type "list_iterator",data:=.fields #[.ref l,.int 0 0]}}:=J.kept (t':=s.toks) λb o e=>iM _ e
 have HS0:H (s.heap.push {cls:=.type "list_iterator",data:=.fields #[.ref l,.int 0 0]}).objs.size=none:=J0.fresh;have FS0:F (s.heap.push {cls:=.type "list_iterator",data:=.fields #[.ref l,.int 0 0]}).objs.size=none:=by
  cases e:F (s.heap.push {cls:=.type "list_iterator",data:=.fields #[.ref l,.int 0 0]}).objs.size with
  |none=>rfl
  |some o=>rw [sF _ _ e]at HS0;cases HS0
 have J1:=J0.lnew (ys:=[]) (its:=[]) (t':=s.toks) .nil (zU _);have gI:((s.heap.push {cls:=.type "list_iterator",data:=.fields #[.ref l,.int 0 0]}).push {cls:=.type "list",data:=.seq #[] 0}).get? s.heap.objs.size=some {cls:=.type "list_iterator",data:=.fields #[.ref l,.int 0 0]}:=iM _ (kf _ rfl);have gS:((s.heap.push {cls:=.type "list_iterator",data:=.fields #[.ref l,.int 0 0]}).push {cls:=.type "list",data:=.seq #[] 0}).get? (s.heap.push {cls:=.type "list_iterator",data:=.fields #[.ref l,.int 0 0]}).objs.size=some {cls:=.type "list",data:=.seq #[] 0}:=kf _ rfl;have fI:nH X pins (bH H (s.heap.push {cls:=.type "list_iterator",data:=.fields #[.ref l,.int 0 0]}).objs.size (.lst [])) s.heap.objs.size:=J.fpOk (Q2 _) (by rw [aN hSI.symm];exact J.fresh)
 have sF1:Same F (bH H (s.heap.push {cls:=.type "list_iterator",data:=.fields #[.ref l,.int 0 0]}).objs.size (.lst [])):=λb o e=>by
  rw [aN (λz=>by rw [z,FS0]at e;cases e)]
  exact sF b o e
 have el1:((s.heap.push {cls:=.type "list_iterator",data:=.fields #[.ref l,.int 0 0]}).push {cls:=.type "list",data:=.seq #[] 0}).get? l=some {cls:=.type "list",data:=.seq its.toArray n}:=iM _ (iM _ el);have W:=Walks.list (prog:=X.prog) (w:=X.w) (A:=X.A.in1) (J.ok.hd hcm) s.heap.objs.size l hlI its.toArray;have hsz:its.toArray.size=its.length:=zM ..;have pos:0 < xs.length:=by
  cases xs with
  |nil=>exact absurd rfl hne
  |cons _ _=>exact Nat.succ_pos _
 refine codeAny_builtin PySem.F.entry_min_loop ?_;rw [Around.under_plainId PySem.F.plain_min_loop _];show wpAny _ X.A.in1 (seqItems? (.ref _) >>=_) _ _ _;refine wB (wpAny_seqItems gS rfl ?_);show wpAny _ X.A.in1 (tryCatch (pyNext (.ref s.heap.objs.size)) _ >>=_) _ _ _;refine wB (wpAny_tryCatch (W.item 0 _ _ _ (by rw [hsz, <-ll];exact pos) ⟨⟨_,gI,rfl,rfl⟩,⟨_,el1,rfl,_,rfl⟩⟩ λu h' tk' hP hst' hk'=>?_))
 have hv:its[0]? =some u:=by simpa using hP
 obtain⟨x,hx,rx⟩:=oh rl hv;have J2:=J1.turned (h':=h') (t':=tk') (it:=s.heap.objs.size) (λb o hb e=>hk' b o (by simpa using hb) e) fI.1 fI.2.1 fI.2.2.2.1 fI.2.2.2.2.1 fI.2.2.2.2.2
 have eS1:=hk' _ _ (by simpa using hSI) gS
 show wpAny _ X.A.in1 (pure u >>=_) _ _ _;refine wB (wP ?_);show wpAny _ X.A.in1 (updateSeq (s.heap.push {cls:=.type "list_iterator",data:=.fields #[.ref l,.int 0 0]}).objs.size (λ_=> #[u,u]) >>=_) _ _ _;refine wB ?_;refine wpAny_updateSeq eS1 rfl ?_;rw [hname];have J3:=J2.lset (ys:=[x,x]) (its:=[]) (its':=[u,u]) (f:=λ_=> #[u,u]) (t':=tk') aT eS1 rfl (.cons rx (.cons rx .nil)) (sj (show 2<=1000 by decide))
 obtain⟨oI,hoI,hoc,hod⟩:=id hst'.1;refine wP ⟨plainId_quiet PySem.F.plain_min_loop _,IS (S:=(s.heap.push {cls:=.type "list_iterator",data:=.fields #[.ref l,.int 0 0]}).objs.size) (I:=s.heap.objs.size) (H0:=H) hcm hFl FS0 hSI hc (λv u' H' s' e1 e2 e3 e4 e5=>?_) _ 0 _ _ x rfl pos J3 (λb o e=>?_) (λb nb=>by rw [aN nb,aN nb]) aT hx ⟨by rw [aN hSI.symm];exact fI.1,fI.2⟩ ⟨oI,?_,hoc,hod⟩⟩
 · refine⟨v,H',e3,e2,q v H' e1 e4 λb o e=>?_⟩;rw [e5 b (λz=>by rw [z,HS0]at e;cases e)]
   exact e
 · rw [aN (λz=>by rw [z,FS0]at e;cases e)]
   exact sF1 b o e
 · exact(AC h' _ hSI).trans hoI
end L2
namespace DL
open PySem L2
section
variable {K:Fg}
noncomputable def IU:List PyData->Option PyData
 |[.list ds]=>if(!ds.isEmpty&&ds.all ul&&ds.all (λa=>ds.all λb=>(L2.sB a b).isSome))=true then ds[qE (λi j=>(L2.sB (ds.getD i .none) (ds.getD j .none)).getD false) (ds.length - 1)]? else none
 |_=>none
theorem Ko:tE K (Kn K) IU:=λF H xs ds d Q s ar e k=>by
 unfold IU at e;split at e
 · rename_i es;split at e
   · rename_i c;simp only [Q5,Q6,Bool.not_eq_true',List.isEmpty_eq_false_iff]at c;obtain⟨⟨c1,c2⟩,c3⟩:=c;obtain⟨x,r,rfl,⟨a,ys,rfl,h1,h2⟩,hr⟩:=ar;rw [show r=[]from hr]
     refine⟨a,ys,F,es,rfl,h1,s,h2,λz=>c1 ?_,c2,c3,λv H' e1 e2 e3=>?_⟩
     · have:=h2.length;rw [z]at this;exact List.length_eq_zero_iff.mp this.symm
     · rw [h2.length]at e1;obtain⟨v',e4,iv⟩:=h2.get e;rw [e4]at e1;cases e1;exact k _ H' F ⟨Same.refl _,e2,e3,λ_ _ _ _ n=>n⟩ iv
   · cases e
 · cases e
end
end DL
namespace L2
open PySem PySem.Spec PyProof.Rows
section
variable {X:Cx}
end
section
variable {prog:Program} {w:World} {A:Around} {E:Value->Shared->Prop} {s:Shared}
end
section
variable {X:Cx}
end
end L2
namespace DL
open PySem L2
section
variable {K:Fg}
end
section
variable {X:Cx}
theorem Fi(a b:Expr)(p:Pos)(x:Option Expr)(l:Nat)(env:Env):swapsWith (.Subscript a b p) x l env=pure false:=rfl
theorem DR {K:Fg}{i:Nat}{x:Str}{es:List Expr}{ie:Expr}{ti:TE}{p1 p2 p3 pos:Pos}(ds:List PyData)(hb:PE X ie ti)(hN:X.N.Nodup)(hi:X.N[i]? =some x)(hx:HE X.env.scope x)(h:Ad (lit 4) es=some ds)(hns:IN ie)(hf:X.fn x=true\/X.env.scope.names.lookup x=some .local)(hK:X.K=K:=by rfl):
 PS X (.Assign [.Name x p1] (.Subscript (.List es p2) ie p3) pos) (hV (HH (Mm K) (oH (vq ds)) ti) (cE i)):=AJ hN hi hx (ba (bc K hK) (cw (Bs ds h)) hb hns) (Fi ..) hf
theorem Kp(K:Fg)(hc:X.calm=true)(hu:X.A.units+64 < cLine)(h:X.K=K:=by rfl):fu X (.builtin "min") (Kn K):=h▸Fh hc hu
end
end DL
namespace L2
open PySem PySem.Spec PyProof.Rows PySem.W PySem.Calls PySem.Builtin PySem.Builtin.ObjectAttr PySem.Builtin.Getset_descriptor
section
variable {pr:Program} {wd:World} {Ar:Around} {Ex:Value->Shared->Prop} {t:Shared} {K:Frag} {x C:Addr}
theorem IV {M:Model}{h:Heap}{nm:Str}{a g:Value}(kin:K.In h)(ha:findIn K (.ref C) nm=some (some a))(hg:specialIn K a "__get__"=some (some g))(ht:takesIn K a=some true):Looks M h (find (.ref x) (.ref C) nm) (.bind g a):=
 (looks_findIn kin ha).andThen ((show Looks M h (getOf (some a)) (some g)from looks_specialIn kin hg).andThen ((show Looks M h (dataDescriptor? (some a) (some g)) (some (g,a))from (looks_takesIn kin ht).andThen .now).andThen (Looks.tag .now)))
theorem Kq {R:Result->Shared->Prop}{tp:Value}(kin:K.In t.heap)(ty:∀M,Looks M t.heap (typeOf (.ref x)) (.ref C))(om:mroIn K C (.type "object")=some true)
 (fin:R (.ok (.ret (.ref C))) t):codeAny (model pr wd) Ar (.call (.builtin "getset_descriptor.__get__") ⟨[.builtin "object.__class__",.ref x,tp],[]⟩) R t:=by
 obtain⟨hp,gs,dn,tk,ops⟩:=t;have T0:=ty (model pr wd);have T1:=looks_mroIn (M:=model pr wd) kin om;refine codeAny_call_builtin KF.slot_gs.plain KF.entry_gs (KF.slot_gs.check _ _ _ _ _ _ _ _ KF.type_class (KF.args_gs _ _ _) ?go)
 case go=>
  unfold Builtin.«getset_descriptor.__get__» descrGet;rw [dga_obj];refine wB (wP ?go2)
  case go2=>
   unfold descrGetter descrCheckInstance descrNameAndClass isInstance;simp only [KF.owner_class]
   (repeat lk)
   refine⟨Code.quiet_builtin _ (by decide+kernel),codeAny_builtin KF.entry_class ?go3⟩
   case go3=>
    unfold Builtin.«object.__class__» shownTypeOf;(repeat lk);exact fin
theorem Fj {Q:Fin->Shared->Prop}{tn:Tok}(kin:K.In t.heap)(ty:∀M,Looks M t.heap (typeOf (.ref x)) (.ref C))(ha:findIn K (.ref C) "__class__"=some (some (.builtin "object.__class__")))
 (hn:specialIn K (.builtin "object.__class__") "__get__"=some (some (.builtin "getset_descriptor.__get__"))) (htk:takesIn K (.builtin "object.__class__")=some true) (om:mroIn K C (.type "object")=some true)
 (fin:Q (.done (.ret (.ref C))) t):wpAny (model pr wd) Ar (Builtin.«object.__getattribute__» ⟨[.ref x,.str "__class__" tn],[]⟩) Q Ex t:=by
 obtain⟨hp,gs,dn,tk,ops⟩:=t;have T0:=ty (model pr wd);have T2:=IV (M:=model pr wd) (x:=x) kin ha hn htk;unfold Builtin.«object.__getattribute__»;refine wB (wpAny_of_eq (show slotArgs "__getattribute__" 1 ⟨[.ref x,.str "__class__" tn],[]⟩=pure (.ref x,[.str "__class__" tn])from rfl) ?go)
 case go=>
  refine wB (wpAny_of_eq (show attrName (.str "__class__" tn)=pure "__class__" from rfl) ?go1)
  case go1=>
   refine wB (T0.at (wB (T2.at ?go2)))
   case go2=>
    show wpAny _ _ (bindTo (.builtin "getset_descriptor.__get__") (.builtin "object.__class__") (.ref x) (.ref C)) _ _ _;show wpAny _ _ (holding [.builtin "object.__class__"] (call (.builtin "getset_descriptor.__get__") [.builtin "object.__class__",.ref x,.ref C]) >>=ret) _ _ _;refine wB (wpAny_holding (wpAny_mono (wpAny_call (Kq (t:=⟨hp,gs,dn,tk,ops⟩) kin ty om (R:=λr u=>match r with| .ok (.ret v)=>v=.ref C/\u=⟨hp,gs,dn,tk,ops⟩| .ok _=>False| .error _=>False) ⟨rfl,rfl⟩)) (λv u z=>?go3) λ_ _ z=>z.elim))
    case go3=>
     obtain⟨rfl,rfl⟩:=z;exact wP fin
theorem Fk {M:Model}{Q:Unit->Shared->Prop}{nv:Value}(kin:K.In t.heap)(ty:∀M,Looks M t.heap (typeOf (.ref x)) (.ref C))(ob:mroIn K C (.type "BaseException")=some true)(fin:Q () t):
 wpAny M Ar (checkBuiltinCall "BaseException.__getattribute__" ⟨[.ref x,nv],[]⟩) Q Ex t:=by
 have hk:builtinKind "BaseException.__getattribute__"=some .slot:=by decide+kernel
 have hsplit:splitId "BaseException.__getattribute__"=some ("BaseException","__getattribute__"):=by decide+kernel
 have ha:=PySem.F.args_bexc_ga (.ref x) nv;have T:Looks M t.heap (isInstance (.ref x) (.type "BaseException")) true:=(ty M).andThen (looks_mroIn kin ob);simp only [checkBuiltinCall,hk,hsplit];refine wB (T.here ?_)
 repeat (first|exact fin|wp_step)
theorem Fl {Q:Option Value->Shared->Prop}(kin:K.In t.heap)(ty:∀M,Looks M t.heap (typeOf (.ref x)) (.ref C))(g1:findIn K (.ref C) "__getattribute__"=some (some (.builtin "BaseException.__getattribute__")))(g2:findIn K (.ref C) "__getattr__"=some none)
 (ha:findIn K (.ref C) "__class__"=some (some (.builtin "object.__class__")))
 (hn:specialIn K (.builtin "object.__class__") "__get__"=some (some (.builtin "getset_descriptor.__get__"))) (htk:takesIn K (.builtin "object.__class__")=some true) (om:mroIn K C (.type "object")=some true) (ob:mroIn K C (.type "BaseException")=some true)
 (fin:Q (some (.ref C)) {t with toks:=t.toks+1}):wpAny (model pr wd) Ar (getAttr? (.ref x) "__class__") Q Ex t:=by
 obtain⟨hp,gs,dn,tk,ops⟩:=t;have T0:=ty (model pr wd);have T1:=looks_findIn (M:=model pr wd) kin g1;have T3:=looks_findIn (M:=model pr wd) kin g2;have bs:bindSpecial (.builtin "BaseException.__getattribute__") (.ref x)=pure (.builtin "BaseException.__getattribute__",[.ref x]):=(PySem.F.attrBase_ValueError.ga).bind (.ref x);unfold getAttr? getAttrBy? getAttrBy;refine wB (wpAny_mkText (wB (wpAny_attempt (wpAny_holding (wB (T0.at (wB (T1.at ?go))))))))
 case go=>
  show wpAny _ _ (getAttrByItsOwn (.ref x) (.str "__class__" tk) (.ref C) (.builtin "BaseException.__getattribute__") false false) _ _ _;unfold getAttrByItsOwn;refine wB (show wpAny _ _ (typeLookup (.ref C) "__getattr__") _ _ _ from T3.at ?go1)
  case go1=>
   refine wB (wpAny_attempt (wpAny_holding ?go2))
   case go2=>
    show wpAny _ _ (boundAndCalled (.builtin "BaseException.__getattribute__") (.ref x) (.str "__class__" tk)) _ _ _;unfold boundAndCalled;refine wB (wpAny_of_eq bs ?go3)
    case go3=>
     show wpAny _ _ (call (.builtin "BaseException.__getattribute__") [.ref x,.str "__class__" tk]) _ _ _;refine wpAny_mono (wpAny_call (E:=λ_ _=>False) (Q:=λv u=>v=.ref C/\u=⟨hp,gs,dn,tk+1,ops⟩) (codeAny_call_builtin (PySem.F.attrBase_ValueError.ga).plain PySem.F.entry_bexc_ga (Fk (t:=⟨hp,gs,dn,tk+1,ops⟩) kin ty ob (Fj (t:=⟨hp,gs,dn,tk+1,ops⟩) kin ty ha hn htk om ?go4)))) (λv u z=>?go5) λ_ _ z=>z.elim
     case go4=>exact⟨rfl,rfl⟩
     case go5=>
      obtain⟨rfl,rfl⟩:=z;exact handed_on rfl (wP fin)
end
structure ExcCls (K:Frag) (C:Addr):Prop where
 g1:findIn K (.ref C) "__getattribute__"=some (some (.builtin "BaseException.__getattribute__"))
 g2:findIn K (.ref C) "__getattr__"=some none
 ha:findIn K (.ref C) "__class__"=some (some (.builtin "object.__class__"))
 hn:specialIn K (.builtin "object.__class__") "__get__"=some (some (.builtin "getset_descriptor.__get__"))
 htk:takesIn K (.builtin "object.__class__")=some true
 om:mroIn K C (.type "object")=some true
 ob:mroIn K C (.type "BaseException")=some true
theorem ExcCls.isT {K:Frag}{C:Addr}(X:ExcCls K C){M:Model}{h:Heap}(kin:K.In h):Looks M h (isType (.ref C)) true:=by
 have e:=X.om;unfold mroIn at e;obtain⟨cd,hc,_⟩:=Option.bind_eq_some_iff.mp e;unfold clsIn at hc;split at hc
 · rename_i c' d' cd' sl' ho;intro A' Q' E' s' k q;unfold isType loadHead;exact wB (wpAny_loadPart (k _ _ (kin _ _ ho)) (wP q))
 · cases hc
theorem IW {prog:Program}{w:World}{A:Around}{E:Value->Shared->Prop}{s:Shared}{K:Frag}{ea C:Addr}{c:Value}{ob:Obj}{Q:Value->Shared->Prop}(kin:K.In s.heap)(at_:s.heap.get? ea=some ob)(cl:ob.cls=.ref C)(X:ExcCls K C)
 (no:kitOne K (.ref C) c=some false) (k:∀tk,Q (.bool false) {s with toks:=tk}):wpAny (model prog w) A (call (.builtin "isinstance") [.ref ea,c]) Q E s:=by
 refine call_isinstance (S:=λ_ R t=>(K.In t.heap/\t.heap.get? ea=some ob)/\∀tk,R (.ok (.ret (.bool false))) {t with toks:=tk}) (λpr w2 A2 R t ht=>isinstance_outer ?_ (by intro q;cases q)) ⟨⟨kin,at_⟩,k⟩
 obtain⟨hh,g,d,tt,os⟩:=t;obtain⟨⟨ki,here⟩,fin⟩:=ht;have ty:∀M,Looks M hh (typeOf (.ref ea)) (.ref C):=λM=>cl▸(Looks.ld here).andThen .now;have tyM:=ty (model pr w2);unfold Builtin.«isinstance.nested»;refine wB (tyM.at ?_);unfold kitOne at no
 by_cases q:(Value.ref C==c)=true
 · rw [if_pos q]at no;cases no
 · rw [if_neg q]at no;rw [if_neg q];obtain⟨a1,a2,a3⟩:=kit_cls (M:=model pr w2) ki no;have both:Looks (model pr w2) hh (isInstance (.ref ea) c) false:=tyM.andThen a3;refine wB (a1.at ?_);rw [if_pos (by decide)]
   k_delta "plainIsInstance"
   refine wB (wB (a2.at ?_));simp only [qG,zN,if_false];refine wB (both.at ?_);simp only [zN,if_false];refine wB (Fl (t:=⟨hh,g,d,tt,os⟩) ki ty X.g1 X.g2 X.ha X.hn X.htk X.om X.ob ?_);refine wB ((X.isT ki).at ?_);simp only [qG,zN,if_false];refine wB (wpAny_rule ?_);refine a3.at ?_
   first
    |exact wP (fin _)
    |exact wP (wP (fin _))
    |exact wB (wP (wP (fin _)))
def Jh(K:Frag):List V->Hp->VK->Prop:=λxs H Q=>∃ea C y c b,xs=[.ref ea,y]/\((∃D,y=.ref D/\c=.ref D)\/∃n,y=.ty n/\c=.type n)/\H ea=some (XO ea C)/\kitOne K (.ref C) c=some b/\ExcCls K C/\Q (.bl b) H
theorem iY {X:Cx}:fu X (.builtin "isinstance") (Jh X.K):=by
 intro pins s σ H xs us Q I rv h;obtain⟨ea,C,y,c,b,rfl,hy,tr,iG,xc,q⟩:=h;obtain⟨u,w',rfl,r1,r2⟩:=rv.two;cases (show u=Value.ref ea from r1)
 have ec:w'=c:=by
  rcases hy with ⟨D,rfl,rfl⟩|⟨n,rfl,rfl⟩
  · exact r2
  · exact r2
 subst ec;obtain⟨⟨ob,e,cl⟩,_⟩:=(show ObjOk X.prog X.w H s.heap ea (XO ea C)from I.hok ea _ tr)
 cases b with
 |true=>exact Cz I.kIn e cl iG λtk=>⟨.bl true,H,I.tok tk,rfl,q⟩
 |false=>exact IW I.kIn e cl xc iG λtk=>⟨.bl false,H,I.tok tk,rfl,q⟩
end L2
namespace DL
open PySem L2 PyProof.Rows
section
variable {X:Cx}
def MJ:TS:=λ_ _ _=>False
theorem eC {sts:List Stmt}:PSs X sts MJ:=λ_ _ _ _ _ _ h=>h.elim
theorem tV {sts:List Stmt}{t u:TS}(a:PSs X sts t)(b:PSs X sts u):PSs X sts (λD σ H=>t D σ H\/u D σ H):=λpins s σ H D I h=>h.elim (a pins s σ H D I) (b pins s σ H D I)
end
section
variable {K:Fg} {E:XK} {C:XI}
theorem Fm:SS K MJ dM:=λH0 F0 F σ H δ r D R e h=>nomatch e
noncomputable def Ji(_:aQ):Bool:=false
theorem CH {t:TS}:SX K E C t Ji:=λH0 F0 F σ H δ D R e k=>nomatch e
noncomputable def iR(f g:aQ->Bool)(δ:aQ):Bool:=f δ||g δ
theorem vx {t u:TS}{f g:aQ->Bool}(a:SX K E C t f)(b:SX K E C u g):SX K E C (λD σ H=>t D σ H\/u D σ H) (iR f g):=λH0 F0 F σ H δ D R e k=>by
 rcases Bool.or_eq_true_iff.mp e with e|e
 · exact .inl (a H0 F0 F σ H δ D R e k)
 · exact .inr (b H0 F0 F σ H δ D R e k)
noncomputable def rZ(c:aQ->Option Bool)(f g:aQ->Bool)(δ:aQ):Bool:=match c δ with
 |some true=>f δ
 |some false=>g δ
 |none=>false
theorem CI {c:TT}{fc:aQ->Option Bool}{t u:TS}{f g:aQ->Bool}(a:ST K c fc)(b:SX K E C t f)(d:SX K E C u g):SX K E C (nG c t u) (rZ fc f g):=λH0 F0 F σ H δ D R e k=>by
 unfold rZ at e;split at e
 · rename_i q;exact a H0 F0 F σ H δ true _ R q λH' F' g'=>mM (b H0 F0 F' σ H' δ D (R.grow g') e k)
 · rename_i q;exact a H0 F0 F σ H δ false _ R q λH' F' g'=>mL (d H0 F0 F' σ H' δ D (R.grow g') e k)
 · cases e
theorem sI {r:R2}{ta tb:TE}{f:aQ->Bool}(a:L1 K E C ta f):L1 K E C (HH r ta tb) f:=λH0 F0 F σ H δ Q R e k=>a H0 F0 F σ H δ _ R e k
end
section
variable {K:Fg} {E:XK} {C:Addr}
def Ans(K:Fg)(C:Addr)(y:V)(b:Bool):Prop:=∃c,((∃D,y=.ref D/\c=.ref D)\/∃n,y=.ty n/\c=.type n)/\PySem.W.kitOne K (.ref C) c=some b
theorem Ans.cls {D:Addr}{b:Bool}(h:PySem.W.kitOne K (.ref C) (.ref D)=some b):Ans K C (.ref D) b:=⟨_,.inl ⟨D,rfl,rfl⟩,h⟩
theorem Ans.ty {n:String}{b:Bool}(h:PySem.W.kitOne K (.ref C) (.type n)=some b):Ans K C (.ty n) b:=⟨_,.inr ⟨n,rfl,rfl⟩,h⟩
def Na(K:Fg)(i:Nat)(y:V):TE:=KH (Jh K) (bG (au i) (bG (tC y) dZ))
end
end DL
namespace L2
open PySem PySem.Spec PyProof.Rows
def MK(A:Around)(s:Shared)(a b:Value)(r:Bool):Prop:=
 ∀(prog:Program) (w:World) (E:Value->Shared->Prop) (Q:Value->Shared->Prop),Q (.bool r) s->wpAny (model prog w) A (richCompare .Gt a b) Q E s
noncomputable def Fn:PyData->PyData->Bool
 | .int i,.int j=>decide (i > j)
 |_,_=>false
theorem IX(a:Value):argsOk "max" ⟨[a],[]⟩:=by unfold argsOk;kernel_rfl
section
variable {X:Cx} {pins:List (Addr×Obj)} {σ:St} {S I l:Addr} {xs:List V} {F H0:Hp} {lt:Nat->Nat->Bool} {R:Result->Shared->Prop}
theorem IY(hcm:X.calm=true)(hFl:F l=some (.lst xs))(hFS:F S=none)(hSI:S≠I)
 (hc:∀(i j:Nat) (x y:V) (u v:Value) (H:Hp) (s:Shared),xs[i]? =some x->xs[j]? =some y->Inv X pins σ H s->Same F H->RelV x u->RelV y v->MK X.A.in1 s u v (lt i j))
 (hR:∀(v:V) (u:Value) (H':Hp) (s':Shared),xs[qE lt (xs.length - 1)]? =some v->RelV v u->Inv X pins σ H' s'->Same F H'->(∀b,b≠S->H' b=H0 b)->R (.ok (.ret u)) s'):
 ∀(r j:Nat) (H:Hp) (s:Shared) (vb:V),xs.length - (j+1)=r->j+1<=xs.length->Inv X pins σ H s->Same F H->(∀b,b≠S->H b=H0 b)->H S=some (.lst [vb,vb])->xs[qE lt j]? =some vb->nH X pins H I->s.heap.IsListIter I l (j+1)->
  codeAny (model X.prog X.w) X.A (.builtin "max.loop" ⟨[.ref I,.none,.ref S],[]⟩) R s:=by
 have hname:(toString "max"++toString ".loop":String)="max.loop":=by decide
 intro r
 induction r with
 |zero=>
  intro j H s vb hr hj J sF hb hS hvb hI hit;have hin:j+1=xs.length:=by omega
  have hl:=sF _ _ hFl;have hlI:l≠I:=λz=>by rw [z,hI.1]at hl;cases hl
  obtain⟨zl,its,n,rl,ll,el⟩:=J.lstM hl;obtain⟨zS,itS,nS,rS,lS,eS⟩:=J.lstM hS;obtain⟨u1,u2,rfl,r1,r2⟩:=rS.two;have W:=Walks.list (prog:=X.prog) (w:=X.w) (A:=X.A.in1) (J.ok.hd hcm) I l hlI its.toArray;have hsz:its.toArray.size=its.length:=zM ..;refine codeAny_builtin PySem.F.entry_max_loop ?_;rw [Around.under_plainId PySem.F.plain_max_loop _];show wpAny _ X.A.in1 (seqItems? (.ref S) >>=_) _ _ _;refine wB (wpAny_seqItems eS rfl ?_);show wpAny _ X.A.in1 (tryCatch (pyNext (.ref I)) _ >>=_) _ _ _;refine wB (wpAny_tryCatch (W.done _ _ _ ⟨by rw [hsz, <-ll, <-hin];exact hit,⟨_,el,rfl,_,rfl⟩⟩ λh' tk' hk'=>?_))
  have J1:Inv X pins σ H {s with heap:=h',toks:=tk'}:=J.turned (it:=I) (λb o hb e=>hk' b o (by simpa using hb) e) hI.1 hI.2.1 hI.2.2.2.1 hI.2.2.2.2.1 hI.2.2.2.2.2
  have eS1:h'.get? S=some {cls:=.type "list",data:=.seq [u1,u2].toArray nS}:=hk' S _ (by simpa using hSI) eS
  show wpAny _ X.A.in1 (updateSeq S (λ_=> #[]) >>=_) _ _ _;refine wB ?_;refine wpAny_updateSeq eS1 rfl (wB (wpAny_letGo (wP ?_)));have J2:=J1.lset (l:=S) (ys:=[]) (its':=[]) (f:=λ_=> #[]) (t':=tk') hS eS1 rfl .nil (zU _);refine hR vb u1 _ _ (by rw [<-hin];exact hvb) r1 J2 (λb o e=>?_) λb n=>by rw [aN n];exact hb b n
  rw [aN (λz=>by rw [z,hFS]at e;cases e)]
  exact sF b o e
 |succ r ih=>
  intro j H s vb hr hj J sF hb hS hvb hI hit;have hlt:j+1 < xs.length:=by omega
  have hl:=sF _ _ hFl;have hlI:l≠I:=λz=>by rw [z,hI.1]at hl;cases hl
  obtain⟨zl,its,n,rl,ll,el⟩:=J.lstM hl;obtain⟨zS,itS,nS,rS,lS,eS⟩:=J.lstM hS;obtain⟨u1,u2,rfl,r1,r2⟩:=rS.two;have W:=Walks.list (prog:=X.prog) (w:=X.w) (A:=X.A.in1) (J.ok.hd hcm) I l hlI its.toArray;have hsz:its.toArray.size=its.length:=zM ..;refine codeAny_builtin PySem.F.entry_max_loop ?_;rw [Around.under_plainId PySem.F.plain_max_loop _];show wpAny _ X.A.in1 (seqItems? (.ref S) >>=_) _ _ _;refine wB (wpAny_seqItems eS rfl ?_);show wpAny _ X.A.in1 (tryCatch (pyNext (.ref I)) _ >>=_) _ _ _;refine wB (wpAny_tryCatch (W.item (j+1) _ _ _ (by rw [hsz, <-ll];exact hlt) ⟨hit,⟨_,el,rfl,_,rfl⟩⟩ λu h' tk' hP hst' hk'=>?_))
  have hv:its[j+1]? =some u:=by simpa using hP
  obtain⟨x,hx,rx⟩:=oh rl hv;have J1:Inv X pins σ H {s with heap:=h',toks:=tk'}:=J.turned (it:=I) (λb o hb e=>hk' b o (by simpa using hb) e) hI.1 hI.2.1 hI.2.2.2.1 hI.2.2.2.2.1 hI.2.2.2.2.2
  have eS1:h'.get? S=some {cls:=.type "list",data:=.seq [u1,u2].toArray nS}:=hk' S _ (by simpa using hSI) eS
  have cm:=hc (j+1) (qE lt j) x vb u u2 H _ hx hvb J1 sF rx r2;show wpAny _ X.A.in1 (pure u >>=_) _ _ _;refine wB (wP ?_);show wpAny _ X.A.in1 (tryCatch (holding [u,u] (richCompare .Gt u u2 >>=_)) _ >>=_) _ _ _;refine wB (wpAny_tryCatch (wpAny_holding (wB (cm _ _ _ _ ?_))));refine wB (wpAny_holding (wpAny_truthy_bool ?_));refine wB (wpAny_letGo (wP ?_))
  by_cases c:lt (j+1) (qE lt j)=true
  · rw [c];simp only [if_true];refine wB ?_;refine wpAny_updateSeq eS1 rfl (wB (wpAny_letGo ?_));rw [hname];have J2:=J1.lset (l:=S) (ys:=[x,x]) (its':=[u,u]) (f:=λ_=> #[u,u]) (t':=tk') hS eS1 rfl (.cons rx (.cons rx .nil)) (sj (show 2<=1000 by decide))
    obtain⟨oI,hoI,hoc,hod⟩:=id hst'.1;refine wP ⟨plainId_quiet PySem.F.plain_max_loop _,ih (j+1) _ _ x (by omega) hlt J2 (λb o e=>?_) (λb n=>by rw [aN n];exact hb b n) aT (by rw [qE,if_pos c];exact hx) ⟨by rw [aN hSI.symm];exact hI.1,hI.2⟩ ⟨oI,?_,hoc,hod⟩⟩
    · rw [aN (λz=>by rw [z,hFS]at e;cases e)]
      exact sF b o e
    · exact(AC h' _ hSI).trans hoI
  · have c':lt (j+1) (qE lt j)=false:=by simpa using c
    rw [c'];simp only [zN,if_false];refine wB (wpAny_letGo ?_);rw [hname];exact wP ⟨plainId_quiet PySem.F.plain_max_loop _,ih (j+1) H _ vb (by omega) hlt J1 sF hb hS (by rw [qE,if_neg c];exact hvb) hI hst'.1⟩
end
def Kr(K:Fg):List V->Hp->VK->Prop:=λas H Q=>∃(l:Addr) (xs:List V) (F:Hp) (ds:List PyData),as=[.ref l]/\F l=some (.lst xs)/\Same F H/\DL.Are K F xs ds/\xs≠[]/\(∀d∈ds,∃n,d=PyData.int n)/\
 ∀(v:V) (H':Hp),xs[qE (λi j=>Fn (ds.getD i .none) (ds.getD j .none)) (xs.length - 1)]? =some v->Same F H'->Same H H'->Q v H'
theorem Fo {X:Cx}(hcm:X.calm=true)(hu:X.A.units+64 < cLine):fu X (.builtin "max") (Kr X.K):=by
 intro pins s σ H as us Q J rv h;obtain⟨l,xs,F,ds,rfl,hFl,sF,ar,hne,hok,q⟩:=h;obtain⟨u,rfl,ru⟩:=sX rv;cases (show u=Value.ref l from ru)
 have hname:(toString "max"++toString ".loop":String)="max.loop":=by decide
 have hl:=sF _ _ hFl;obtain⟨zl,its,n,rl,ll,el⟩:=J.lstM hl;have yJ:=ar.length;have hc:∀(i j:Nat) (x y:V) (u v:Value) (H:Hp) (s:Shared),xs[i]? =some x->xs[j]? =some y->Inv X pins σ H s->Same F H->RelV x u->RelV y v->MK X.A.in1 s u v (Fn (ds.getD i .none) (ds.getD j .none)):=by
  intro i j x y u v H1 s1 hx hy J1 s1F rx ry;obtain⟨dx,ex,ix⟩:=ar.get' hx;obtain⟨dy,ey,iy⟩:=ar.get' hy;have gx:ds.getD i .none=dx:=by rw [qF,ex];rfl
  have gy:ds.getD j .none=dy:=by rw [qF,ey];rfl
  have mx:=JM ex;have my:=JM ey;obtain⟨n,rfl⟩:=hok dx mx;obtain⟨m,rfl⟩:=hok dy my;cases (show x=V.int n from ix)
  cases (show y=V.int m from iy)
  obtain⟨t1,rfl⟩:=rx;obtain⟨t2,rfl⟩:=ry;rw [gx,gy];exact λprog w E Q h=>(PyProof.Rows.gt_int h:wpAny (model prog w) X.A.in1 (compareOp .Gt _ _) Q E s1)
 refine kmk_tree PySem.F.kind_max PySem.F.plain_max PySem.F.entry_max (IX _) ?_;show wpAny _ X.A.in1 (Builtin.Builtins.bindParams "max" ["key","default"] 0 ⟨[],[]⟩ >>=_) _ _ s;refine wB (wpAny_of_eq (show Builtin.Builtins.bindParams "max" ["key","default"] 0 ⟨[],[]⟩=pure [none,none]from rfl) ?_)
 refine wB (wP ?_);refine wB (wpAny_pyIter_list ⟨_,el,rfl,_,rfl⟩ ?_);refine wB (wpAny_newList ?_ (zU _));rw [hname];have hlt:l < s.heap.objs.size:=g0 el;have hS:(s.heap.push {cls:=.type "list_iterator",data:=.fields #[.ref l,.int 0 0]}).objs.size=s.heap.objs.size+1:=size_push' ..;have hSI:(s.heap.push {cls:=.type "list_iterator",data:=.fields #[.ref l,.int 0 0]}).objs.size≠s.heap.objs.size:=by rw [hS];exact Dr (EA _)
 have hlI:l≠s.heap.objs.size:=nA hlt;refine wP ⟨plainId_quiet PySem.F.plain_max_loop _,?_⟩;have J0:Inv X pins σ H {s with heap:=s.heap.push {cls:=.type "list_iterator",data:=.fields #[.ref l,.int 0 0]}}:=J.kept (t':=s.toks) λb o e=>iM _ e
 have HS0:H (s.heap.push {cls:=.type "list_iterator",data:=.fields #[.ref l,.int 0 0]}).objs.size=none:=J0.fresh;have FS0:F (s.heap.push {cls:=.type "list_iterator",data:=.fields #[.ref l,.int 0 0]}).objs.size=none:=by
  cases e:F (s.heap.push {cls:=.type "list_iterator",data:=.fields #[.ref l,.int 0 0]}).objs.size with
  |none=>rfl
  |some o=>rw [sF _ _ e]at HS0;cases HS0
 have J1:=J0.lnew (ys:=[]) (its:=[]) (t':=s.toks) .nil (zU _);have gI:((s.heap.push {cls:=.type "list_iterator",data:=.fields #[.ref l,.int 0 0]}).push {cls:=.type "list",data:=.seq #[] 0}).get? s.heap.objs.size=some {cls:=.type "list_iterator",data:=.fields #[.ref l,.int 0 0]}:=iM _ (kf _ rfl);have gS:((s.heap.push {cls:=.type "list_iterator",data:=.fields #[.ref l,.int 0 0]}).push {cls:=.type "list",data:=.seq #[] 0}).get? (s.heap.push {cls:=.type "list_iterator",data:=.fields #[.ref l,.int 0 0]}).objs.size=some {cls:=.type "list",data:=.seq #[] 0}:=kf _ rfl;have fI:nH X pins (bH H (s.heap.push {cls:=.type "list_iterator",data:=.fields #[.ref l,.int 0 0]}).objs.size (.lst [])) s.heap.objs.size:=J.fpOk (Q2 _) (by rw [aN hSI.symm];exact J.fresh)
 have sF1:Same F (bH H (s.heap.push {cls:=.type "list_iterator",data:=.fields #[.ref l,.int 0 0]}).objs.size (.lst [])):=λb o e=>by
  rw [aN (λz=>by rw [z,FS0]at e;cases e)]
  exact sF b o e
 have el1:((s.heap.push {cls:=.type "list_iterator",data:=.fields #[.ref l,.int 0 0]}).push {cls:=.type "list",data:=.seq #[] 0}).get? l=some {cls:=.type "list",data:=.seq its.toArray n}:=iM _ (iM _ el);have W:=Walks.list (prog:=X.prog) (w:=X.w) (A:=X.A.in1) (J.ok.hd hcm) s.heap.objs.size l hlI its.toArray;have hsz:its.toArray.size=its.length:=zM ..;have pos:0 < xs.length:=by
  cases xs with
  |nil=>exact absurd rfl hne
  |cons _ _=>exact Nat.succ_pos _
 refine codeAny_builtin PySem.F.entry_max_loop ?_;rw [Around.under_plainId PySem.F.plain_max_loop _];show wpAny _ X.A.in1 (seqItems? (.ref _) >>=_) _ _ _;refine wB (wpAny_seqItems gS rfl ?_);show wpAny _ X.A.in1 (tryCatch (pyNext (.ref s.heap.objs.size)) _ >>=_) _ _ _;refine wB (wpAny_tryCatch (W.item 0 _ _ _ (by rw [hsz, <-ll];exact pos) ⟨⟨_,gI,rfl,rfl⟩,⟨_,el1,rfl,_,rfl⟩⟩ λu h' tk' hP hst' hk'=>?_))
 have hv:its[0]? =some u:=by simpa using hP
 obtain⟨x,hx,rx⟩:=oh rl hv;have J2:=J1.turned (h':=h') (t':=tk') (it:=s.heap.objs.size) (λb o hb e=>hk' b o (by simpa using hb) e) fI.1 fI.2.1 fI.2.2.2.1 fI.2.2.2.2.1 fI.2.2.2.2.2
 have eS1:=hk' _ _ (by simpa using hSI) gS
 show wpAny _ X.A.in1 (pure u >>=_) _ _ _;refine wB (wP ?_);show wpAny _ X.A.in1 (updateSeq (s.heap.push {cls:=.type "list_iterator",data:=.fields #[.ref l,.int 0 0]}).objs.size (λ_=> #[u,u]) >>=_) _ _ _;refine wB ?_;refine wpAny_updateSeq eS1 rfl ?_;rw [hname];have J3:=J2.lset (ys:=[x,x]) (its:=[]) (its':=[u,u]) (f:=λ_=> #[u,u]) (t':=tk') aT eS1 rfl (.cons rx (.cons rx .nil)) (sj (show 2<=1000 by decide))
 obtain⟨oI,hoI,hoc,hod⟩:=id hst'.1;refine wP ⟨plainId_quiet PySem.F.plain_max_loop _,IY (S:=(s.heap.push {cls:=.type "list_iterator",data:=.fields #[.ref l,.int 0 0]}).objs.size) (I:=s.heap.objs.size) (H0:=H) hcm hFl FS0 hSI hc (λv u' H' s' e1 e2 e3 e4 e5=>?_) _ 0 _ _ x rfl pos J3 (λb o e=>?_) (λb nb=>by rw [aN nb,aN nb]) aT hx ⟨by rw [aN hSI.symm];exact fI.1,fI.2⟩ ⟨oI,?_,hoc,hod⟩⟩
 · refine⟨v,H',e3,e2,q v H' e1 e4 λb o e=>?_⟩;rw [e5 b (λz=>by rw [z,HS0]at e;cases e)]
   exact e
 · rw [aN (λz=>by rw [z,FS0]at e;cases e)]
   exact sF1 b o e
 · exact(AC h' _ hSI).trans hoI
end L2
namespace DL
open PySem L2
section
variable {K:Fg}
noncomputable def Fq:List PyData->Option PyData
 |[.list ds]=>if(!ds.isEmpty&&(hZ ds).isSome)=true then ds[qE (λi j=>Fn (ds.getD i .none) (ds.getD j .none)) (ds.length - 1)]? else none
 |_=>none
theorem Ks:tE K (Kr K) Fq:=λF H xs ds d Q s ar e k=>by
 unfold Fq at e;split at e
 · rename_i es;split at e
   · rename_i c;simp only [Q5,Bool.not_eq_true',List.isEmpty_eq_false_iff]at c;obtain⟨c1,c2⟩:=c;obtain⟨ns,c2⟩:=L4.mp c2;obtain⟨x,r,rfl,⟨a,ys,rfl,h1,h2⟩,hr⟩:=ar;rw [show r=[]from hr]
     refine⟨a,ys,F,es,rfl,h1,s,h2,λz=>c1 ?_,λd hd=>?_,λv H' e1 e2 e3=>?_⟩
     · have:=h2.length;rw [z]at this;exact List.length_eq_zero_iff.mp this.symm
     · rw [cW c2]at hd;obtain⟨n,_,rfl⟩:=Qd.mp hd;exact⟨n,rfl⟩
     · rw [h2.length]at e1;obtain⟨v',e4,iv⟩:=h2.get e;rw [e4]at e1;cases e1;exact k _ H' F ⟨Same.refl _,e2,e3,λ_ _ _ _ n=>n⟩ iv
   · cases e
 · cases e
theorem Kt {X:Cx}(K:Fg)(hc:X.calm=true)(hu:X.A.units+64 < cLine)(h:X.K=K:=by rfl):fu X (.builtin "max") (Kr K):=h▸Fo hc hu
end
section
variable {K:Fg}
end
end DL
namespace L2
open PySem PySem.Spec PyProof.Rows PySem.W
end L2
namespace DL
open PySem L2
section
variable {K:Fg}
end
end DL
namespace L2
open PySem PySem.Spec PyProof.Rows PySem.W
section
variable {X:Cx} {pins:List (Addr×Obj)} {σ:St} {H:Hp} {s:Shared}
end
end L2
namespace DL
open PySem PySem.Spec PyProof.Rows L2 PySem.W
section
variable {K:Fg}
end
section
variable {X:Cx} {pins:List (Addr×Obj)} {σ:St} {S I l f:Addr} {xs:List V} {ds ks:List PyData} {Fa Ha:Hp} {R:Result->Shared->Prop}
def Turn(X:Cx)(σ:St)(f:Addr)(xs:List V)(ks:List PyData)(Fa Ha:Hp):Prop:=∀(i:Nat) (x:V),xs[i]? =some x->∀(pins':List (Addr×Obj)) (F H:Hp) (s:Shared) (u:Value),Inv X pins' σ H s->Grow Fa Ha F H->RelV x u->
 wpAny (model X.prog X.w) X.A.in1 (call (.ref f) [u]) (λr s'=>∃v H' F',Inv X pins' σ H' s'/\RelV v r/\Grow F H F' H'/\Is X.K F' v (ks.getD i .none)) (λ_ _=>False) s
end
section
variable {X:Cx}
end
end DL
namespace L2
open PySem PySem.Spec PyProof.Rows PySem.W
section
variable {prog:Program} {w:World} {A:Around} {E:Value->Shared->Prop} {s:Shared} {d it r:Addr} {es:Array DictEntry} {ep:Nat}
end
noncomputable def AF(ns:List Int):Nat->Int
 |0=>ns.getD 0 0
 |j+1=>if decide (ns.getD (j+1) 0 > AF ns j)=true then ns.getD (j+1) 0 else AF ns j
section
variable {X:Cx} {pins:List (Addr×Obj)} {σ:St} {S I d:Addr} {ns:List Int} {es:Array DictEntry} {ep:Nat} {H0:Hp} {R:Result->Shared->Prop}
end
section
variable {X:Cx} {pins:List (Addr×Obj)} {σ:St} {H:Hp} {s:Shared}
end
end L2
namespace DL
open PySem L2
section
variable {X:Cx} {K:Fg}
end
end DL
namespace L2
open PySem PySem.Spec PyProof.Rows PySem.W Att
section
variable {prog:Program} {w:World} {A:Around} {E:Value->Shared->Prop} {s:Shared} {d it r S:Addr} {es:Array DictEntry} {ep:Nat}
end
section
variable {prog:Program} {w:World} {A:Around} {s:Shared} {R:Result->Shared->Prop} {es:Array DictEntry} {ep:Nat}
end
section
variable {prog:Program} {w:World} {A:Around} {E:Value->Shared->Prop} {s:Shared} {r d:Addr} {es:Array DictEntry} {ep:Nat}
end
theorem oX:∀x:List Int,gc x x=false
 |[]=>rfl
 |a::x=>by unfold gc;rw [if_pos rfl];exact oX x
section
variable {prog:Program} {w:World} {A:Around} {E:Value->Shared->Prop} {s:Shared}
end
end L2
namespace L2
open PySem PySem.Spec PyProof.Rows PySem.W
end L2
namespace DL
open PySem L2
section
variable {X:Cx} {K:Fg}
theorem qV:∀{kvs:List (PyData×PyData)} {ks:List (List Int)},iL kvs=some ks->ks.length=kvs.length
 |[],_,h=>by cases h;rfl
 |p::r,_,h=>by
  obtain⟨k,_,e2⟩:=bind_some h;obtain⟨us,e3,rfl⟩:=Q0.mp e2;simp [qV e3]
end
end DL
namespace DL
open PySem PySem.Spec PyProof.Rows L2 PySem.W
noncomputable def Fs(K:Frag)(q:Addr×Obj):Option (Addr×Array Value):=match q.2.data with
 | .func fd=>(J6 fd).bind λps=>match fd.code with
  | .ref c=>match K.lookup c with
   |some ⟨_,_,.fields vs,_⟩=>match (vs[11]? :Option Value)with
    |some (.ref P)=>if codeHdIn K c P=true then some (P,ps)else none
    |_=>none
   |_=>none
  |_=>none
 |_=>none
noncomputable def eK(K:Frag):List (Addr×Array Value):=K.filterMap (Fs K)
theorem yf {K:Frag}{c P:Addr}(h:codeHdIn K c P=true):∃a b d vs,K.lookup c=some ⟨a,b,.fields vs,d⟩/\vs[11]? =some (Value.ref P):=by
 unfold codeHdIn at h;split at h
 · rename_i b vs d hk;simp only [Q5]at h;have e1:=h.1.1.1.1.1;split at e1
   · rename_i P' h11;exact⟨_,b,d,vs,hk,by rw [h11,beq_iff_eq.mp e1]⟩
   · cases e1
 · cases h
theorem Ft {α:Type}:∀{l:List (Addr×α)} {a:Addr} {o:α},l.lookup a=some o->(a,o)∈l
 |[],_,_,h=>by cases h
 |(b,u)::r,a,o,h=>by
  rw [um]at h;split at h
  · rename_i z;cases h;rw [eq_of_beq z];exact j5
  · exact j4 _ (Ft h)
theorem Fu {K:Frag}{P:Addr}{ps:Array Value}(t:Lq K P ps):(P,ps)∈eK K:=by
 obtain⟨f,oc,od,fd,sl,c,h1,h2,h3,h4⟩:=t;obtain⟨a,b,d,vs,k1,k2⟩:=yf h3;refine List.mem_filterMap.mpr ⟨(f,⟨oc,od,.func fd,sl⟩),Ft h1,?_⟩;unfold Fs;simp only [h4,zD,h2,k1,k2,h3,if_true]
theorem IZ {K:Frag}{q:Addr×Array Value}(m:q∈eK K):∃c,codeHdIn K c q.1=true:=by
 obtain⟨⟨f,o⟩,_,e⟩:=List.mem_filterMap.mp m;unfold Fs at e;split at e
 · obtain⟨ps,_,e⟩:=bind_some e;split at e
   · split at e
     · split at e
       · split at e
         · rename_i hc;cases e;exact⟨_,hc⟩
         · cases e
       · cases e
     · cases e
   · cases e
 · cases e
structure Tabs (K:Frag) (h:Heap):Prop where
 one:∀x∈eK K,∀y∈eK K,x.1=y.1->x=y
 out:(eK K).all (λq=>(K.lookup q.1).isNone)=true
 at_:∀q∈eK K,h.get? q.1=some (tabObj #[])
theorem Fv {α:Type}{l:List α}(h:l.length<=1){x y:α}(hx:x∈l)(hy:y∈l):x=y:=by
 match l,h with
 |[],_=>cases hx
 |[z],_=>rw [Q9.mp hx,Q9.mp hy]
noncomputable def Fw(K:Frag):Hp:=λb=>((eK K).find? λq=>q.1==b).map λq=>.tbl q.2
theorem DS {K:Frag}{b:Addr}{o:HO}(e:Fw K b=some o):∃ps,(b,ps)∈eK K/\o=.tbl ps:=by
 unfold Fw at e;obtain⟨q,e1,e2⟩:=Q0.mp e;have m:=zR e1;have z:q.1=b:=by
  have y:=List.find?_some e1;exact beq_iff_eq.mp y
 exact⟨q.2,by rw [<-z];exact m,e2.symm⟩
theorem I0 {K:Frag}(h1:∀x∈eK K,∀y∈eK K,x.1=y.1->x=y){b:Addr}{ps:Array Value}(m:(b,ps)∈eK K):Fw K b=some (.tbl ps):=by
 unfold Fw;cases z:(eK K).find? λq=>q.1==b with
 |none=>exact absurd (beq_self_eq_true b) (by have:=List.find?_eq_none.mp z _ m;simpa using this)
 |some q=>rw [h1 q (zR z) (b,ps) m (beq_iff_eq.mp (List.find?_some (p:=λq:Addr×Array Value=>q.1==b) z))];rfl
structure BMdB (base:Heap) (mg:Str->Option Value):Prop where
 ex:∃(bm:Addr) (o:Obj),mg "__builtins__"=some (.ref bm)/\bm≠builtinsNs/\bm≠mainGlobals/\base.get? bm=some o/\o.cls=.type "module"/\o.dict=some builtinsNs/\o.data=.plain
noncomputable def kG(K:Frag)(a:Addr)(o:Option HO):Hp:=λb=>if b=a then o else Fw K b
theorem DT {P:Program}{w:World}{K:Frag}{mg mb:Str->Option Value}{CX:Ce}{k:Nat}{fa a:Addr}{fd:FuncData}{x:Str}{sp:Sp}{s₁:Shared}{vs:List Value}{ns:List Int}
 (KX:K.In s₁.heap) (TB:Tabs K s₁.heap) (hns:s₁.heap.Ns mainGlobals mg) (hb:s₁.heap.Ns builtinsNs mb) (hbb:∀x:Str,x≠ "__name__"->mb x=bootBuiltins x) (hlim:s₁.heap.NoLimit) (hbm:∃bm ob,mg "__builtins__"=some (.ref bm)/\bm≠builtinsNs/\s₁.heap.get? bm=some ob/\ob.cls=.type "module"/\ob.dict=some builtinsNs/\ob.data=.plain) (hg:s₁.gens= #[])
 (ha:s₁.heap.get? a=some {cls:=.type "list",data:=.seq vs.toArray}) (hi:IntsAre vs ns) (hl:ns.length<=sizeLine) (hr:Room k callerA)
 (F:∀base:Heap,K.In base->base.Ns mainGlobals mg->BMdB base mg->FnOk P w K mg base CX k fa fd [x] sp) (hbind:∀(s:Shared) (u:Value),BindsTo s fd ⟨[u],[]⟩ [(x,u)])
 (hsp:∀H:Hp,Tb K H->SqL K H a (ns.map V.int)->sp [.ref a] H (λv _=>v=.bl true) λ_ _ _=>False)
 (hCX:∀H e s',CX [] H s₁ (λ_ _ _=>False) e s'->False):
 codeAny (model P w) callerA (.call (.ref fa) ⟨[.ref a],[]⟩) (λr s'=>r=.ok (.ret (.bool true))/\OldK s₁.heap s'.heap/\s'.os=s₁.os/\AllBare s'.gens) s₁:=by
 have rv:=Cm hi;have lenV:=hi.length;have atT:∀{b ps},(b,ps)∈eK K->s₁.heap.get? b=some (tabObj #[]):=λ{b ps} m=>TB.at_ _ m;have naT:∀{ps},(a,ps) ∉ eK K:=λ{ps} m=>by
  have e:=atT m;rw [ha]at e;cases e
 have core:∀o:Option HO,(o=none\/∃ob xs,o=some (.frz ob (.lst xs)))->SqL K (kG K a o) a (ns.map V.int)->(∀u,o=some u->ObjOk P w (kG K a o) s₁.heap a u)->(o≠none->K.lookup a=none)->
  codeAny (model P w) callerA (.call (.ref fa) ⟨[.ref a],[]⟩) (λr s'=>r=.ok (.ret (.bool true))/\OldK s₁.heap s'.heap/\s'.os=s₁.os/\AllBare s'.gens) s₁:=by
  intro o hO hS hok0 hK;have cases3:∀b u,kG K a o b=some u->(b=a/\o=some u)\/∃ps,(b,ps)∈eK K/\u=.tbl ps:=λb u e=>by
   unfold kG at e;split at e
   · exact .inl ⟨by assumption,e⟩
   · exact .inr (DS e)
  have hok:HOk P w (kG K a o) s₁.heap:=λb u e=>by
   rcases cases3 b u e with ⟨rfl,z⟩|⟨ps,m,rfl⟩
   · exact hok0 u z
   · exact Or.inl (atT m)
  have noA:∀{b:Addr} {ob:Obj} {es:Array DictEntry} {ep:Nat},s₁.heap.get? b=some ob->ob.data=.dict es ep->kG K a o b=none:=λ{b ob es ep} e d=>by
   cases q:kG K a o b with
   |none=>rfl
   |some u=>
    rcases cases3 b u q with ⟨rfl,z⟩|⟨ps,m,rfl⟩
    · rw [ha]at e;cases e;cases d
    · rw [atT m]at e;cases e;cases d
  have nsK:∀{b:Addr} {m:Str->Option Value},s₁.heap.Ns b m->(wW s₁.heap (kG K a o)).Ns b m:=λ{b m} ⟨ob,es,ep,e,d,r⟩=>⟨ob,es,ep,sQ e (noA e d),d,r⟩;have hKb:K.In (wW s₁.heap (kG K a o)):=λb ob e=>sQ (KX b ob e) (by
   cases q:kG K a o b with
   |none=>rfl
   |some u=>
    rcases cases3 b u q with ⟨rfl,z⟩|⟨ps,m,rfl⟩
    · rw [hK (by rw [z];exact λy=>nomatch y)]at e;cases e
    · have z:=Q6.mp TB.out _ m;rw [e]at z;cases z)
  have hB:BMdB (wW s₁.heap (kG K a o)) mg:=by
   obtain⟨bm,ob,m1,m2,m3,m4,m5,m6⟩:=hbm;refine⟨bm,ob,m1,m2,λz=>?_,sQ m3 ?_,m4,m5,m6⟩
   · obtain⟨og,es,ep,g1,g2,_⟩:=hns;rw [<-z,m3]at g1;cases g1;rw [m6]at g2;cases g2
   · cases q:kG K a o bm with
     |none=>rfl
     |some u=>
      rcases cases3 bm u q with ⟨rfl,z⟩|⟨ps,m,rfl⟩
      · rw [ha]at m3;cases m3;cases m6
      · rw [atT m]at m3;cases m3;cases m6
  have hM:Mod K mg (wW s₁.heap (kG K a o)):=⟨hKb,nsK hns,⟨mb,nsK hb,hbb⟩,let ⟨mc,h1,h2⟩:=hlim;⟨mc,nsK h1,h2⟩⟩;have e0:Env0 P w K mg (wW s₁.heap (kG K a o)) callerA [] s₁ (kG K a o):=⟨rfl,hM,λb o e=>HB e,Nat.le_of_eq (C9 _ _),trivial,(λb hb=>absurd (show b∈([]:List Addr)from hb) (by simp)),hok,.of_eq hg⟩
  have tb:Tb K (kG K a o):=λb ps t=>by
   have m:=Fu t;unfold kG;rw [if_neg (λz=>naT (z▸m))];exact I0 TB.one m
  refine codeAny_mono ((F _ hKb (nsK hns) hB).run callerA [] s₁ (kG K a o) ⟨[.ref a],[]⟩ [.ref a] [.ref a] _ _ hr e0 (hbind s₁ (.ref a)) (.cons rfl .nil) (hsp _ tb hS)) λr s' h=>?_;cases r with
  |error e=>exact(hCX _ e s' h).elim
  |ok fl=>
   cases fl with
   |next=>exact False.elim h
   |brk=>exact False.elim h
   |cont=>exact False.elim h
   |ret u=>
    obtain⟨v,H',os,bare,un,hok',r',q⟩:=h;have q':v=.bl true:=q;subst q';obtain rfl:u=Value.bool true:=r';have key:∀b ob,s₁.heap.get? b=some ob->s'.heap.get? b=some ob\/(∃arr,isCodeTable s₁.heap b/\ob=tabObj #[]/\s'.heap.get? b=some (tabObj arr)):=λb ob e=>by
     cases q:kG K a o b with
     |none=>exact .inl (un.keep b ob e q (by intro z;exact absurd (show b∈([]:List Addr)from z) (by simp)) (by simp))
     |some u=>
      rcases cases3 b u q with ⟨rfl,z⟩|⟨ps,m,rfl⟩
      · rcases hO with y|⟨oo,xs,y⟩
        · rw [y]at z;cases z
        · rw [y]at z;cases z;have z2:=un.frzs b oo _ q;obtain⟨e1,_⟩:=hok b _ q;obtain⟨e2,_⟩:=hok' b _ z2;rw [e]at e1;cases e1;exact .inl e2
      · obtain⟨more,z2⟩:=un.tbls b _ q;obtain⟨c,hc⟩:=IZ m;have ct:=((codeHd_of_K KX hc).tab (atT m)).isCodeTable;have eo:=atT m;rw [e]at eo;cases eo
        rcases(show ObjOk P w H' s'.heap b (.tbl _)from hok' b _ z2)with y|⟨c',oo,uu,l,cc,q0,t0,t2,vs',_,y,_⟩
        · exact .inr ⟨#[],ct,rfl,y⟩
        · exact .inr ⟨_,ct,rfl,y⟩
    refine⟨rfl,⟨λb ob e=>?_,λb ob e=>?_⟩,os,bare⟩
    · rcases key b ob e with z|⟨arr,z1,z2,z3⟩
      · exact .inl z
      · subst z2;exact .inr (.inl ⟨z1,rfl, #[],arr,rfl,by rw [Array.empty_append];exact z3⟩)
    · rcases key b ob e with z|⟨arr,_,_,z3⟩
      · exact⟨_,z⟩
      · exact⟨_,z3⟩
 cases hk:K.lookup a with
 |some o=>
  have e:=KX a o hk;rw [ha]at e;cases e;exact core none (.inl rfl) (.inr ⟨_,vs.toArray,_,hk,rfl,rfl,rfl,by rw [zM,lenV];exact hl,by simpa using rv⟩) (λu z=>nomatch z) λz=>absurd rfl z
 |none=>
  refine core (some (.frz {cls:=.type "list",data:=.seq vs.toArray} (.lst (ns.map V.int)))) (.inr ⟨_,_,rfl⟩) (.inl (.inr ⟨{cls:=.type "list",data:=.seq vs.toArray},if_pos rfl⟩)) (λu z=>?_) λ_=>hk;cases z;exact⟨ha,by rw [zJ];exact hl,vs,_,rv,ha⟩
theorem Fy {l:OpenLaw}{n k:Nat}{q:Program}{loose:List Str}{XP:(Str->Option Value)->Heap->Prop}{YP:World->Heap->Prop}{d:DefRec}{K:Params->Frag}{CX:World->Ce}{sp:World->Sp}{x:Str}
 (hn:l.most=some n) (hn2:n<=sizeLine) (hdf:d.params.defaults=[]) (hr:Room k callerA)
 (hY:∀(w:World) (h:Heap),YP w h->(K w.params).In h/\Tabs (K w.params) h)
 (F : ∀ (w : World) (mg : Str -> Option Value) (fa : Addr) (h : Heap), (K w.params).In h -> h.Ns mainGlobals mg -> mg d.name = some (.ref fa) ->
  ∃fd:FuncData,(∀(s:Shared) (u:Value),BindsTo s fd ⟨[u],[]⟩ [(x,u)])/\∀base:Heap,(K w.params).In base->base.Ns mainGlobals mg->BMdB base mg->FnOk l.prog w (K w.params) mg base (CX w) k fa fd [x] (sp w))
 (hsp:∀(w:World) (H:Hp) (a:Addr) (ns:List Int),ns.length<=n->Tb (K w.params) H->SqL (K w.params) H a (ns.map V.int)->sp w [.ref a] H (λv _=>v=.bl true) λ_ _ _=>False)
 (hCX:∀(w:World) (H:Hp) (s:Shared) (e:Value) (s':Shared),CX w [] H s (λ_ _ _=>False) e s'->False):
 WalkO q loose XP YP l.row.toRowW d [] (λf vs=>PySem.call f vs):=by
 refine Att.xt hn hdf λw s₀ s₁ mg mb fa o pm cd doc a vs ns G Y ho hd hcd hmg hobj hints hlen hg=>?_;obtain⟨KX,TB⟩:=hY w _ Y;obtain⟨fd,hb,hF⟩:=F w mg fa _ KX G.T.g hmg;exact DT KX TB G.T.g G.T.b G.T.builtins G.T.nolimit G.T.bmain hg hobj hints (Qe hlen hn2) hr hF hb (λH hO hS=>hsp w H a ns hlen hO hS) λH e s'=>hCX w H s₁ e s'
theorem CK {K:Frag}{h:Heap}{ts:List Addr}(hT:∀P∈ts,h.get? P=some (tabObj #[]))(e:(eK K).map (·.1)=ts)(h1:ts.length<=1)(h2:(eK K).all (λq=>(K.lookup q.1).isNone)=true):Tabs K h:=
 ⟨λx hx y hy _=>Fv (by rw [<-zJ (f:=λq:Addr×Array Value=>q.1),e];exact h1) hx hy,h2,λq m=>hT _ (e▸zP m)⟩
section
variable {P:Program} {w:World} {K:Frag} {mg:Str->Option Value} {base:Heap}
end
end DL
namespace DL
open PySem L2
noncomputable abbrev Cl:=List (List Int×List PyData)
noncomputable abbrev Es:=List (List Int×Addr×List V)
noncomputable def cF:Cl->List Int->PyData->Cl
 |[],k,d=>[(k,[d])]
 |p::r,k,d=>if p.1=k then(p.1,p.2++[d])::r else p::cF r k d
noncomputable def iq(c:Cl):List (PyData×PyData):=c.map λp=>(aJ p.1,.list p.2)
noncomputable def vy(es:Es):List (List cK×V):=es.map λe=>(e.1.map Sum.inl,V.ref e.2.1)
noncomputable def rc(es:Es):List Addr:=es.map λe=>e.2.1
noncomputable def gO(δ:aQ):Bool:=δ.all λs=>match s with
 |some (.ow _)=>false
 |some (.od _)=>false
 |_=>true
theorem cY {δ:aQ}(h:gO δ=true){j:Nat}{s:Sl}(e:δ[j]? =some (some s)):∃d,s=.fz d:=by
 have:=Q6.mp h _ (JM e);cases s with
 |fz d=>exact⟨d,rfl⟩
 |ow _=>cases this
 |od _=>cases this
theorem tW {δ:aQ}(h:gO δ=true)(j:Nat)(d:PyData):gO (δ.set j (some (.fz d)))=true:=by
 unfold gO;rw [Q6];intro s hs
 rcases List.mem_or_eq_of_mem_set hs with z|z
 · exact Q6.mp h s z
 · rw [z]
section
variable {K:Fg} {H0 F0 F F':Hp} {σ:St} {H H':Hp} {δ:aQ}
noncomputable def Ent(K:Fg)(H0 F H:Hp):Es->Cl->Prop
 |[],[]=>True
 |e::es,p::ps=>(e.1=p.1/\H e.2.1=some (.lst e.2.2)/\F e.2.1=none/\H0 e.2.1=none/\Are K F e.2.2 p.2)/\Ent K H0 F H es ps
 |_,_=>False
theorem Ent.len {es:Es}{ps:Cl}(h:Ent K H0 F H es ps):es.length=ps.length:=by
 induction es generalizing ps with
 |nil=>
  cases ps with
  |nil=>rfl
  |cons _ _=>exact h.elim
 |cons e es ih=>
  cases ps with
  |nil=>exact h.elim
  |cons p ps=>
   rw [zC,zC,ih h.2]
theorem Ent.grow(g:Grow F H F' H'){es:Es}{ps:Cl}(h:Ent K H0 F H es ps):Ent K H0 F' H' es ps:=by
 induction es generalizing ps with
 |nil=>
  cases ps with
  |nil=>exact True.intro
  |cons _ _=>exact h.elim
 |cons e es ih=>
  cases ps with
  |nil=>exact h.elim
  |cons p ps=>
   obtain⟨⟨h1,h2,h3,h4,h5⟩,r⟩:=h;exact⟨⟨h1,g.h _ _ h2,g.o _ _ h2 (λ_ z=>nomatch z) h3,h4,h5.same g.f⟩,ih r⟩
theorem Ent.updH {c:Addr}{o:HO}{es:Es}{ps:Cl}(h:Ent K H0 F H es ps)(n:c ∉ rc es):Ent K H0 F (bH H c o) es ps:=by
 induction es generalizing ps with
 |nil=>
  cases ps with
  |nil=>exact True.intro
  |cons _ _=>exact h.elim
 |cons e es ih=>
  cases ps with
  |nil=>exact h.elim
  |cons p ps=>
   obtain⟨⟨h1,h2,h3,h4,h5⟩,r⟩:=h;exact⟨⟨h1,by rw [aN (λz=>n (by rw [<-z];exact j5))];exact h2,h3,h4,h5⟩,ih r λz=>n (j4 _ z)⟩
theorem Ent.snoc {k:List Int}{b:Addr}(hb:H b=some (.lst []))(fb:F b=none)(h0:H0 b=none){es:Es}{ps:Cl}(h:Ent K H0 F H es ps):Ent K H0 F H (es++[(k,b,[])]) (ps++[(k,[])]):=by
 induction es generalizing ps with
 |nil=>
  cases ps with
  |nil=>exact⟨⟨rfl,hb,fb,h0,rfl⟩,True.intro⟩
  |cons _ _=>exact h.elim
 |cons e es ih=>
  cases ps with
  |nil=>exact h.elim
  |cons p ps=>
   exact⟨h.1,ih h.2⟩
theorem Ent.at_ {es:Es}{ps:Cl}(h:Ent K H0 F H es ps):∀e∈es,H e.2.1=some (.lst e.2.2)/\F e.2.1=none/\H0 e.2.1=none/\∃p∈ps,Are K F e.2.2 p.2:=by
 induction es generalizing ps with
 |nil=>
  cases ps with
  |nil=>exact λe he=>nomatch he
  |cons _ _=>exact h.elim
 |cons e es ih=>
  cases ps with
  |nil=>exact h.elim
  |cons p ps=>
   obtain⟨⟨h1,h2,h3,h4,h5⟩,r⟩:=h;intro x hx
   rcases Q8.mp hx with rfl|hx
   · exact⟨h2,h3,h4,p,j5,h5⟩
   · obtain⟨a,b,c,q,hq,d⟩:=ih r x hx;exact⟨a,b,c,q,j4 _ hq,d⟩
theorem sJ:∀{a b:List Int},a.map (Sum.inl:Int->cK)=b.map Sum.inl->a=b
 |[],[],_=>rfl
 |[],_::_,h=>by cases h
 |_::_,[],h=>by cases h
 |x::a,y::b,h=>by
  rw [zI,zI]at h;injection h with h1 h2
  injection h1 with h1
  rw [h1,sJ h2]
theorem oj(k:List Int):∀es:Es,iA (vy es) (k.map Sum.inl)=(es.find? λe=>decide (e.1=k)).map λe=>V.ref e.2.1
 |[]=>rfl
 |e::es=>by
  show iA ((e.1.map Sum.inl,V.ref e.2.1)::vy es) (k.map Sum.inl)=_
  by_cases h:e.1=k
  · rw [oY (by rw [h]),Dy (by simpa using h)]
    rfl
  · rw [oZ (λz=>h (sJ z)),Dz (by simpa using h)]
    exact oj k es
theorem yg {k:List Int}{b:Addr}{es:Es}(h:es.find? (λe=>decide (e.1=k))=none):mT (vy es) (k.map Sum.inl) (.ref b)=vy (es++[(k,b,[])]):=by
 have any:((vy es).any λkv=>decide (kv.1=k.map (Sum.inl:Int->cK)))=false:=by
  rw [List.any_eq_false];intro q hq;obtain⟨e,he,rfl⟩:=Qd.mp hq;have:=List.find?_eq_none.mp h e he;intro z;exact this (decide_eq_true (sJ (of_decide_eq_true z)))
 unfold mT;rw [any,if_neg Q7];simp [vy]
theorem Ent.find {es:Es}{ps:Cl}{k:List Int}(h:Ent K H0 F H es ps):(es.find? λe=>decide (e.1=k)).isSome=(ps.find? λp=>decide (p.1=k)).isSome:=by
 induction es generalizing ps with
 |nil=>
  cases ps with
  |nil=>rfl
  |cons _ _=>exact h.elim
 |cons e es ih=>
  cases ps with
  |nil=>exact h.elim
  |cons p ps=>
   obtain⟨⟨h1,_⟩,r⟩:=h
   by_cases h:p.1=k
   · rw [Dy (by simpa using h1.trans h),Dy (by simpa using h)]
     rfl
   · rw [Dz (by rw [h1];simpa using h),Dz (by simpa using h)]
     exact ih r
theorem Ent.app {k:List Int}{x:V}{d:PyData}(ix:Is K F x d):∀{es:Es} {ps:Cl} {e:List Int×Addr×List V},Ent K H0 F H es ps->(rc es).Nodup->es.find? (λe=>decide (e.1=k))=some e->
 ∃es',vy es'=vy es/\rc es'=rc es/\Ent K H0 F (bH H e.2.1 (.lst (e.2.2++[x]))) es' (cF ps k d)
 |[],[],_,_,_,h=>by cases h
 |a::es,p::ps,e,⟨⟨h1,h2,h3,h4,h5⟩,r⟩,nd,hf=>by
  obtain⟨n1,n2⟩:=uk.mp (show (a.2.1::rc es).Nodup from nd)
  by_cases h:a.1=k
  · rw [Dy (by simpa using h)]at hf
    cases hf;refine⟨(a.1,a.2.1,a.2.2++[x])::es,rfl,rfl,?_⟩;unfold cF;rw [if_pos (h1.symm.trans h)];exact⟨⟨h1,aT,h3,h4,h5.append (Are.one ix)⟩,r.updH n1⟩
  · rw [Dz (by simpa using h)]at hf
    obtain⟨es',q1,q2,q3⟩:=Ent.app ix r n2 hf;have ne:a.2.1≠e.2.1:=λz=>n1 (by rw [z];exact zP (zR hf))
    refine⟨a::es',by show _::vy es'=_::vy es;rw [q1],by show _::rc es'=_::rc es;rw [q2],?_⟩
    unfold cF;rw [if_neg (λz=>h (h1.trans z))];exact⟨⟨h1,by rw [aN ne];exact h2,h3,h4,h5⟩,q3⟩
 |[],_::_,_,h,_,_=>h.elim
 |_::_,[],_,h,_,_=>h.elim
theorem qW {k:List Int}{d:PyData}:∀{ps:Cl},ps.find? (λp=>decide (p.1=k))=none->cF (ps++[(k,[])]) k d=cF ps k d
 |[],_=>by
  show (if k=k then(k,([]:List PyData)++[d])::[]else _)=_;rw [if_pos rfl];rfl
 |p::ps,h=>by
  have h1:¬p.1=k:=λz=>by rw [Dy (by simpa using z)]at h;cases h
  rw [Dz (by simpa using h1)]at h
  show cF (p::(ps++[(k,[])])) k d=_;rw [cF,cF,if_neg h1,if_neg h1,qW h]
theorem Ent.kvs {es:Es}{ps:Cl}(h:Ent K H0 F H es ps)(s:Same F F')(q:∀e∈es,F' e.2.1=H e.2.1):Kvs K F' (vy es) (iq ps):=by
 induction es generalizing ps with
 |nil=>
  cases ps with
  |nil=>rfl
  |cons _ _=>exact h.elim
 |cons e es ih=>
  cases ps with
  |nil=>exact h.elim
  |cons p ps=>
   obtain⟨⟨h1,h2,h3,h4,h5⟩,r⟩:=h;refine⟨(e.1.map Sum.inl,V.ref e.2.1),vy es,rfl,⟨?_,?_⟩,ih r λx hx=>q x (j4 _ hx)⟩
   · rw [h1];show aJ p.1=.tuple ((p.1.map Sum.inl).map kD);unfold aJ;rw [zO];rfl
   · exact⟨e.2.1,e.2.2,rfl,(q e j5).trans h2,h5.same s⟩
theorem Rep.hide(R:Rep K H0 F0 F σ H δ)(i:Nat):Rep K H0 F0 F σ H (δ.set i none):=by
 have old:∀{j:Nat} {s:Sl},(δ.set i none)[j]? =some (some s)->δ[j]? =some (some s):=λ{j s} e=>by
  rcases ae e with ⟨_,z⟩|⟨_,z⟩
  · cases z
  · exact z
 exact⟨R.g,by rw [Qc];exact R.len,λj d e=>R.fz j d (old e),λj ds e=>R.ow j ds (old e),λj l ds es a e1 e2=>R.ap j l ds es a (old e1) (old e2),λj ds e=>R.od j ds (old e),λj l ds es a e1 e2=>R.ad j l ds es a (old e1) (old e2),R.tb⟩
theorem Rep.upd_ {c:Addr}{o:HO}(R:Rep K H0 F0 F σ H δ)(z:gO δ=true)(fc:F c=none)(hc:H0 c=none):Rep K H0 F0 F σ (bH H c o) δ:=by
 refine⟨⟨R.g.f,λb u e=>by rw [aN (aR e fc)];exact R.g.s b u e,λb u e=>by rw [aN (aR e hc)];exact R.g.h b u e,R.g.o⟩,R.len,R.fz,λj ds e=>?_,R.ap,λj ds e=>?_,R.ad,R.tb⟩
 · obtain⟨d,y⟩:=cY z e;cases y
 · obtain⟨d,y⟩:=cY z e;cases y
theorem Rep.frzE {es:Es}{ps:Cl}(R:Rep K H0 F0 F σ H δ)(z:gO δ=true)(E:Ent K H0 F H es ps):∃F',Same F F'/\Rep K H0 F0 F' σ H δ/\Kvs K F' (vy es) (iq ps)/\∀b,b ∉ rc es->F' b=F b:=by
 have inA:∀{b},b∈rc es->∃e∈es,e.2.1=b:=λhb=>Qd.mp hb;have s1:Same F (λb=>if b∈rc es then H b else F b):=λb u e=>by
  show (if b∈rc es then H b else F b)=some u;split
  · exact R.g.s b u e
  · exact e
 refine⟨λb=>if b∈rc es then H b else F b,s1,⟨⟨R.g.f.trans s1,λb u e=>?_,R.g.h,λb u e t n=>?_⟩,R.len,λj d e=>let ⟨v,h1,h2⟩:=R.fz j d e;⟨v,h1,h2.same s1⟩,λj ds e=>?_,R.ap,λj ds e=>?_,R.ad,R.tb.same s1⟩,E.kvs s1 λe he=>if_pos (zP he),λb hb=>if_neg hb⟩
 · have e:(if b∈rc es then H b else F b)=some u:=e;split at e
   · exact e
   · exact R.g.s b u e
 · show (if b∈rc es then H b else F b)=none;split
   · rename_i hm;obtain⟨e',he,rfl⟩:=inA hm;rw [(E.at_ e' he).2.2.1]at e;cases e
   · exact R.g.o b u e t n
 · obtain⟨d,y⟩:=cY z e;cases y
 · obtain⟨d,y⟩:=cY z e;cases y
theorem Rep.putD {i:Nat}{a:Addr}{o:HO}{kvs:List (PyData×PyData)}(R:Rep K H0 F0 F σ H δ)(z:gO δ=true)(hs:σ[i]? =some (some (.ref a)))(ha:H a=some o)(fa:F a=none)(h0:H0 a=none)(hd:DcO K F o kvs):Rep K H0 F0 F σ H (δ.set i (some (.od kvs))):=by
 have no:∀{j:Nat} {s:Sl},(δ.set i (some (.od kvs)))[j]? =some (some s)->(j=i/\s=.od kvs)\/δ[j]? =some (some s):=λ{j s} e=>by
  rcases ae e with ⟨y,w⟩|⟨_,w⟩
  · exact .inl ⟨y,zV w⟩
  · exact .inr w
 refine⟨R.g,by rw [Qc];exact R.len,λj d e=>?_,λj ds e=>?_,λj l ds es c e1 e2=>?_,λj ds e=>?_,λj l ds es c e1 e2=>?_,R.tb⟩
 · rcases no e with ⟨_,y⟩|y
   · cases y
   · exact R.fz j d y
 · rcases no e with ⟨_,y⟩|y
   · cases y
   · obtain⟨_,w⟩:=cY z y;cases w
 · rcases no e1 with ⟨_,y⟩|y
   · cases y
   · obtain⟨_,w⟩:=cY z y;cases w
 · rcases no e with ⟨rfl,y⟩|y
   · cases y;exact⟨a,o,hs,ha,fa,h0,hd⟩
   · obtain⟨_,w⟩:=cY z y;cases w
 · rcases no e1 with ⟨rfl,_⟩|y
   · rcases no e2 with ⟨rfl,_⟩|y
     · exact λ_ _=>rfl
     · obtain⟨_,w⟩:=cY z y;cases w
   · obtain⟨_,w⟩:=cY z y;cases w
noncomputable def rD(fy:aQ->Option PyData)(jc jo i:Nat):List PyData->aQ->Cl->Option DFlow
 |[],δ,kls=>some (.nx (δ.set i (some (.od (iq kls)))))
 |d::r,δ,kls=>(fy (δ.set jc (some (.fz d)))).bind λo=>(jH o).bind λk=>if(decide (kls.length < fh)&&kls.all λp=>decide (p.2.length < fh))=true then rD fy jc jo i r ((δ.set jc (some (.fz d))).set jo (some (.fz o))) (cF kls k d)else none
noncomputable def tX(fi:aQ->Option (List PyData))(jc jo i:Nat)(fy:aQ->Option PyData)(δ:aQ):Option DFlow:=match δ[i]? with
 |some (some (.od []))=>if(gO (δ.set i none)&&decide (jc < δ.length)&&decide (jo < δ.length))=true then(fi δ).bind λds=>rD fy jc jo i ds (δ.set i none) []else none
 |_=>none
structure PI (K:Fg) (H0 F0 F:Hp) (σ:St) (H:Hp) (δ:aQ) (i N:Nat) (kls:Cl):Prop where
 R:Rep K H0 F0 F σ H δ
 z:gO δ=true
 ln:δ.length=N
 ex:∃a es,σ[i]? =some (some (.ref a))/\H a=some (.dT (vy es))/\F a=none/\H0 a=none/\Ent K H0 F H es kls/\(a::rc es).Nodup
theorem PI.grow {i N:Nat}{kls:Cl}(P:PI K H0 F0 F σ H δ i N kls)(g:Grow F H F' H'):PI K H0 F0 F' σ H' δ i N kls:=by
 obtain⟨a,es,h1,h2,h3,h4,h5,h6⟩:=P.ex;exact⟨P.R.grow g,P.z,P.ln,a,es,h1,g.h _ _ h2,g.o _ _ h2 (λ_ z=>nomatch z) h3,h4,h5.grow g,h6⟩
theorem PI.set {i j N:Nat}{kls:Cl}{v:V}{d:PyData}(P:PI K H0 F0 F σ H δ i N kls)(n:j≠i)(h:Is K F v d):PI K H0 F0 F (σ.set j (some v)) H (δ.set j (some (.fz d))) i N kls:=by
 obtain⟨a,es,h1,r⟩:=P.ex;exact⟨P.R.set h,tW P.z j d,by rw [Qc];exact P.ln,a,es,by rw [JN n];exact h1,r⟩
end
section
variable {K:Fg}
theorem Fz {wi:TI}{ty:TE}{fi:aQ->Option (List PyData)}{fy:aQ->Option PyData}(jc jo i:Nat)(hi:SI K wi fi)(hy:SE K ty fy)(n1:jc≠i:=by decide)(n2:jo≠i:=by decide)(n3:jo≠jc:=by decide):
 SS K (rP wi (cE jc) (eF (hV ty (cE jo)) (eF (nG (xo (xN (au jo) (au i))) (FZ (au i) (au jo) (oH dZ)) ib) (jJ (EZ K "list" gr (ya (au i) (au jo)) (bG (au jc) dZ)))))) (tX fi jc jo i fy):=by
 intro H0 F0 F σ H δ r D R e h;unfold tX at e;split at e
 rotate_left
 · cases e
 rename_i q;split at e
 rotate_left
 · cases e
 rename_i z3;rw [Q5,Q5]at z3;obtain⟨⟨z,lc⟩,lo⟩:=z3;have lc:=of_decide_eq_true lc;have lo:=of_decide_eq_true lo;obtain⟨ds,e1,e2⟩:=bind_some e;refine hi H0 F0 F σ H δ ds _ R e1 λJ H1 F1 g1 it=>?_;have P0:PI K H0 F0 F1 σ H1 (δ.set i none) i δ.length []:=by
  obtain⟨a,o,q1,q2,q3,q4,q5⟩:=R.od i _ q;have hm:o=.dT []:=by
   rcases q5 with ⟨m,rfl,k⟩|⟨m,rfl,k⟩
   · rw [show m=[]from k]
   · exact k.elim
  subst hm;exact⟨(R.grow g1).hide i,z,Qc ..,a,[],q1,g1.h _ _ q2,g1.o _ _ q2 (λ_ y=>nomatch y) q3,q4,⟨⟩,uk.mpr ⟨(λy=>nomatch y),List.nodup_nil⟩⟩
 refine⟨λj m σ H=>m=ds.length - j/\j<=ds.length/\∃F' δ' kls,PI K H0 F0 F' σ H δ' i δ.length kls/\Same F1 F'/\rD fy jc jo i (ds.drop j) δ' kls=some r,⟨ds.length,by simp,zU _,F1,_,[],P0,Same.refl _,e2⟩,?_⟩
 rintro j m σ' H' ⟨rfl,hle,F',δ',kls,P,s',e'⟩
 by_cases hlt:j < ds.length
 · refine .inr ⟨it.go j F' H' hlt s' P.R.g.s,λσ H=>j+1<=ds.length/\∃F' δ' kls,PI K H0 F0 F' σ H δ' i δ.length kls/\Same F1 F'/\rD fy jc jo i (ds.drop (j+1)) δ' kls=some r,λσ2 H2 q=>⟨ds.length - (j+1),by omega,rfl,q⟩,λx H2 y=>?_⟩
   have hd:ds[j]? =some ds[j]:=iF hlt;obtain⟨F2,g2,is⟩:=it.yld j _ F' H' x H2 hd s' P.R.g.s y;rw [L3 hlt]at e';obtain⟨o,w1,e4⟩:=bind_some e';obtain⟨k,w2,e5⟩:=bind_some e4;clear e' e4;split at e5
   rotate_left
   · cases e5
   rename_i lims;have e':=e5;clear e5;rw [Q5]at lims;have P2:=(P.grow g2).set n1 is;refine hy H0 F0 F2 _ H2 _ o _ P2.R w1 λv H3 F3 g3 i3=>?_;have P3:=(P2.grow g3).set n2 i3;have sF3:Same F1 F3:=s'.trans (g2.f.trans g3.f);have ix:Is K F3 x ds[j]:=is.same g3.f;have sl:σ'.length=δ.length:=P.R.len.trans P.ln;generalize hσ4:(σ'.set jc (some x)).set jo (some v)=σ4 at P3;have hjc:σ4[jc]? =some (some x):=by rw [<-hσ4,JN n3,LW (by omega)]
   have hjo:σ4[jo]? =some (some v):=by rw [<-hσ4,LW (by rw [Qc];omega)]
   generalize hδ4:(δ'.set jc (some (.fz ds[j]))).set jo (some (.fz o))=δ4 at P3 e';show nG (xo (xN (au jo) (au i))) (FZ (au i) (au jo) (oH dZ)) ib {D with nx:=jJ (EZ K "list" gr (ya (au i) (au jo)) (bG (au jc) dZ)) {D with nx:=_,ct:=_,bk:=D.nx},ct:=_,bk:=D.nx} ((σ'.set jc (some x)).set jo (some v)) H3
   rw [hσ4];unfold jH at w2;split at w2
   rotate_left
   · cases w2
   rename_i dk;obtain⟨c,xs,rfl,u1,u2⟩:=i3;rw [cW w2]at u2;have u3:=Are.ints.mp u2;subst u3;have hc:H3 c=some (.tup ((k.map (Sum.inl:Int->cK)).map kV)):=by rw [ji];exact P3.R.g.s _ _ u1
   obtain⟨a,es,h1,h2,h3,h4,h5,h6⟩:=P3.ex;obtain⟨h7,h8⟩:=uk.mp h6;have fin:∀(H4:Hp) (es4:Es) (kls4:Cl) (e4:List Int×Addr×List V),Rep K H0 F0 F3 σ4 H4 δ4->H4 a=some (.dT (vy es4))->Ent K H0 F3 H4 es4 kls4->(a::rc es4).Nodup->es4.find? (λe=>decide (e.1=k))=some e4->H4 c=some (.tup ((k.map (Sum.inl:Int->cK)).map kV))->
    e4.2.2.length < sizeLine->cF kls4 k ds[j]=cF kls k ds[j]->jJ (EZ K "list" gr (ya (au i) (au jo)) (bG (au jc) dZ)) {D with nx:=λσ H=>j+1<=ds.length/\∃F' δ' kls,PI K H0 F0 F' σ H δ' i δ.length kls/\Same F1 F'/\rD fy jc jo i (ds.drop (j+1)) δ' kls=some r,ct:=λσ H=>j+1<=ds.length/\∃F' δ' kls,PI K H0 F0 F' σ H δ' i δ.length kls/\Same F1 F'/\rD fy jc jo i (ds.drop (j+1)) δ' kls=some r,bk:=D.nx} σ4 H4:=by
    intro H4 es4 kls4 e4 R4 hm4 E4 nd4 hf4 hc4 hz4 hp4;obtain⟨b1,b2,b3,_⟩:=E4.at_ e4 (zR hf4);obtain⟨n41,n42⟩:=uk.mp nd4;have na:a≠e4.2.1:=λz=>n41 (by rw [z];exact zP (zR hf4))
    have dg:DGet H4 a (.ref c) (some (.ref e4.2.1)):=by
     have:=DGet.t (k:=k.map Sum.inl) hm4 hc4;rw [oj,hf4]at this;exact this
    obtain⟨es5,m5,a5,E5⟩:=Ent.app ix E4 n42 hf4;refine⟨.ref a,h1,.ref c,hjo,a,.ref e4.2.1,rfl,dg,.inl ⟨rfl,e4.2.2,SqL.of b1⟩,x,hjc,e4.2.1,e4.2.2,x,rfl,rfl,b1,hz4,hlt,F3,δ4,cF kls k ds[j],⟨R4.upd_ P3.z b2 b3,P3.z,P3.ln,a,es5,h1,by rw [aN na,m5];exact hm4,h3,h4,hp4▸E5,by rw [a5];exact nd4⟩,sF3,e'⟩
   refine⟨.ref c,hjo,.ref a,h1,a,iA (vy es) (k.map Sum.inl),rfl,DGet.t h2 hc,_,rfl,?_⟩;rw [oj];cases hf:es.find? λe=>decide (e.1=k)with
   |some e4=>
    obtain⟨_,_,_,p4,hp4,ar4⟩:=h5.at_ e4 (zR hf);exact fin H3 es kls e4 P3.R h2 h5 h6 hf hc (by rw [ar4.length];exact nP (Dq (of_decide_eq_true (Q6.mp lims.2 p4 hp4)))) rfl
   |none=>
    refine⟨zU _,λp hp=>⟨.ref a,h1,.ref c,hjo,a,_,rfl,DPut.t (k:=k.map Sum.inl) (by rw [aN (aR h2 hp)];exact h2) (by rw [aN (aR hc hp)];exact hc) ?_,?_⟩⟩
    · unfold vy;rw [zJ,h5.len];exact nP (Dq (of_decide_eq_true lims.1))
    · have Fp:F3 p=none:=P3.R.g.s.free hp;have H0p:H0 p=none:=P3.R.g.h.free hp;have np:p ∉ rc es:=λhm=>by
       obtain⟨e,he,z⟩:=Qd.mp hm;have:=(h5.at_ e he).1;rw [show e.2.1=p from z,hp]at this
       cases this
      have nap:a≠p:=aR h2 hp;have nac:c≠a:=λz=>by rw [z,h2]at hc;cases hc
      rw [yg hf];have adE:rc (es++[(k,p,[])])=rc es++[p]:=by simp [rc]
      refine fin _ (es++[(k,p,[])]) (kls++[(k,[])]) (k,p,[]) ((P3.R.upd_ P3.z Fp H0p).upd_ P3.z h3 h4) aT (((h5.updH np).snoc aT Fp H0p).updH ?_) ?_ ?_ ?_ (j6 (Nat.succ_pos 0) (by decide)) (qW ?_)
      · rw [adE];intro hm
        rcases Du.mp hm with hm|hm
        · exact h7 hm
        · exact nap (Q9.mp hm)
      · rw [adE];refine uk.mpr ⟨λhm=>?_,List.nodup_append.mpr ⟨h8,List.pairwise_singleton _ _,λy hy w hw z=>?_⟩⟩
        · rcases Du.mp hm with hm|hm
          · exact h7 hm
          · exact nap (Q9.mp hm)
        · rw [Q9.mp hw]at z;exact np (z▸hy)
      · rw [List.find?_append,hf]
        simp
      · rw [aN nac,aN (aR hc hp)];exact hc
      · have:=h5.find (k:=k);rw [hf]at this;cases hz:kls.find? λp=>decide (p.1=k)with
        |none=>rfl
        |some _=>rw [hz]at this;cases this
 · have e3:j=ds.length:=by omega
   subst e3;rw [List.drop_length]at e';cases e';obtain⟨a,es,h1,h2,h3,h4,h5,h6⟩:=P.ex;obtain⟨F3,s3,R3,k3,o3⟩:=P.R.frzE P.z h5;exact .inl ⟨it.stop F' H' s' P.R.g.s,h F3 σ' H' (R3.putD P.z h1 h2 (by rw [o3 a (uk.mp h6).1];exact h3) h4 (.inl ⟨_,rfl,k3⟩)) (g1.f.trans (s'.trans s3))⟩
end
end DL
namespace L2
open PySem PySem.Spec PyProof.Rows PySem.W
def NQ(a:Addr)(N:Nat):It:=
 ⟨λi H=>(∃kvs,H a=some (.dT kvs)/\kvs.length=N)/\i < N,λi H x H'=>H'=H/\∃kvs q c,H a=some (.dT kvs)/\kvs[i]? =some q/\x=.ref c/\H c=some (.tup (q.1.map kV)),λi H=>(∃kvs,H a=some (.dT kvs)/\kvs.length=N)/\N<=i⟩
theorem Inv.rawE {X:Cx}{pins:List (Addr×Obj)}{σ:St}{H:Hp}{s:Shared}{a:Addr}{kvs:List (List cK×V)}(I:Inv X pins σ H s)(ha:H a=some (.dT kvs)):(a==sysModules)=false/\∃es:Array DictEntry,es.size=kvs.length/\Raw s.heap a es kvs.length/\
 ∀(i:Nat) (h:i < es.size),∃q c,kvs[i]? =some q/\es[i].key=.ref c/\H c=some (.tup (q.1.map kV)):=by
 obtain⟨hlen,nsm,ys,rel,ob,es,ep,at_,ex,dat,hes,nd,hep⟩:=(show ObjOk X.prog X.w H s.heap a (.dT kvs)from I.hok a _ ha)
 have yl:kvs.length=ys.length:=Paired.length rel;have esz:es.size=ys.length:=by rw [<-B2,hes,zJ]
 refine⟨nsm,es,esz.trans yl.symm,⟨ob,at_,ex,by rw [yl, <-hep];exact dat⟩,λi h=>?_⟩
 have hi:i < kvs.length:=by omega
 have hy:i < ys.length:=by omega
 obtain⟨r1,r2,r3⟩:=yT (x:=(([],V.non):List cK×V)) (y:=(([],0,Value.none):List cK×Addr×Value)) i rel hi;have e5:es[i]? =some (entryOfKey (tupleKind (bX X.prog X.w)) ys[i]):=by rw [<-LX,hes,zK,iF hy];rfl
 rw [Array.getElem?_eq_getElem h]at e5;have w1:kvs.getD i ([],V.non)=kvs[i]:=by rw [qF,iF hi];rfl
 have w2:ys.getD i ([],0,Value.none)=ys[i]:=by rw [qF,iF hy];rfl
 rw [w1,w2]at r2;exact⟨kvs[i],ys[i].2.1,iF hi,by rw [zV e5];rfl,r2⟩
theorem DU {P:Program}{w:World}{K:Fg}{tg:Expr}(a it:Addr)(N:Nat):Turn P w K tg (NQ a N) [it] it (λi h=>h.IsKeyIter it a i N N/\a≠it) where
 mem:=by simp
 obj:=λi h st b hb=>by
  have e:b=it:=by simpa using hb
  subst e;obtain⟨⟨o,e,c,d⟩,_⟩:=st;exact⟨o,e,λv z=>by rw [d]at z;cases z⟩
 keep:=λi h h' st k=>⟨st.1.at λo e=>k it (by simp) o e,st.2⟩
 item:=by
  intro X hP hw hK hc i pins s σ H E I hf st hg;subst hP hw hK;obtain⟨⟨kvs,hk,hN⟩,hlt⟩:=hg;obtain⟨nsm,es,esz,raw,all⟩:=I.rawE hk;obtain⟨f0,f1,f2,f3,f4,f5⟩:=hf it (by simp)
  have hi:i < es.size:=by omega
  have st1:s.heap.IsKeyIter it a i es.size kvs.length:=by rw [esz,hN];exact st.1
  refine yX st1 raw hi λh' st' sb=>?_;have I1:Inv X pins σ H {s with heap:=h'}:=I.turned (t':=s.toks) (λb o hb e=>sb.extBut b o hb e) f0 f1 f3 f4 f5
  obtain⟨q,c,q1,q2,q3⟩:=all i hi;rw [q2];obtain⟨o,e,cc,d⟩:=id st';exact⟨.ref c,rfl,B5 (s:={s with heap:=h'}) e cc d (by decide) ⟨.ref c,H,I1,rfl,⟨rfl,kvs,q,c,hk,q1,rfl,q3⟩,⟨by rw [esz,hN]at st';exact st',st.2⟩,λb hb=>(hf b hb).1⟩⟩
 done:=by
  intro X hP hw hK hc i pins s σ H E I hf st hg;subst hP hw hK;obtain⟨⟨kvs,hk,hN⟩,hge⟩:=hg;obtain⟨nsm,es,esz,raw,all⟩:=I.rawE hk;obtain⟨f0,f1,f2,f3,f4,f5⟩:=hf it (by simp)
  have st1:s.heap.IsKeyIter it a i es.size kvs.length:=by rw [esz,hN];exact st.1
  exact By (I.ok.hd hc) st1 raw (by omega) λh' eb=>⟨rfl,I.turned (t':=s.toks) (λb o hb e=>eb b o hb e) f0 f1 f3 f4 f5⟩
 self:=λ_ _ _ _ _ st h=>wpAny_pyIter_keyiter st.1 h
def Jj(tl:TE):TI:=λσ H R=>tl σ H λx H1=>∃a kvs,x=.ref a/\H1 a=some (.dT kvs)/\R (NQ a kvs.length) H1
theorem Ia {X:Cx}{tg l:Expr}{tl:TE}(hl:PE X l tl):PI X tg l (Jj tl):=by
 intro pins s σ H R I h;refine cU (hl pins s σ H _ I h) λv s1 q_=>?_;obtain⟨x,H1,I1,r1,q1⟩:=q_;obtain⟨a,kvs,e,hk,q⟩:=q1;subst e;cases r1;obtain⟨nsm,es,esz,raw,_⟩:=I1.rawE hk;refine yW nsm raw ?_;refine⟨s1.heap.objs.size,[s1.heap.objs.size],_,_,H1,rfl,I1.kept (t':=s1.toks) λb o e=>iM _ e,DU a _ kvs.length,⟨⟨_,kf _ rfl,rfl,by rw [esz];rfl⟩,nA raw.lt⟩,λb hb=>?_,q⟩
 have e:b=s1.heap.objs.size:=by simpa using hb
 subst e;exact I1.fpOk (Q2 _) (I1.hok.fresh (Q2 _))
end L2
namespace DL
open PySem L2
section
variable {K:Fg}
theorem GA {F:Hp}{v:V}{kvs:List (PyData×PyData)}{ks:List (List Int)}(e:iL kvs=some ks)(h:Is K F v (.dict kvs)):∃p m,v=.ref p/\F p=some (.dT m)/\Kvs K F m kvs:=by
 obtain⟨p,rfl,hh⟩:=h
 rcases hh with ⟨ms,rfl,_⟩|⟨m,z,kv⟩|⟨nm,rfl,_⟩|⟨m,z,kv⟩
 · cases e
 · exact⟨p,m,rfl,z,kv⟩
 · cases e
 · cases kvs with
   |nil=>exact kv.elim
   |cons q r=>rw [kv.1]at e;cases e
theorem tY {F:Hp}:∀{m:List (List cK×V)} {kvs:List (PyData×PyData)},Kvs K F m kvs->m.length=kvs.length
 |_,[],h=>by rw [show _=[]from h];rfl
 |_,_::_,h=>by
  obtain⟨q,m',rfl,_,h2⟩:=h;rw [zC,zC,tY h2]
noncomputable def CL:PyData->Option (List PyData)
 | .dict kvs=>(iL kvs).map λks=>ks.map aJ
 |_=>none
noncomputable def GD(fe:aQ->Option PyData)(δ:aQ):Option (List PyData):=(fe δ).bind CL
theorem Ib {te:TE}{fe:aQ->Option PyData}(a:SE K te fe):SI K (Jj te) (GD fe):=by
 intro H0 F0 F σ H δ ds R Rp e k;obtain⟨d,e1,e2⟩:=bind_some e;unfold CL at e2;split at e2
 · rename_i kvs;obtain⟨ks,e3,e4⟩:=Q0.mp e2;subst e4;refine a H0 F0 F σ H δ _ _ Rp e1 λv H1 F1 g1 i1=>?_;obtain⟨p,m,rfl,hm,kv⟩:=GA e3 i1;have ml:m.length=ks.length:=(tY kv).trans (qV e3).symm;refine⟨p,m,rfl,g1.s _ _ hm,k (NQ p m.length) H1 F1 g1 ⟨λi F2 H2 hi s1 s2=>⟨⟨m,s2 _ _ (s1 _ _ hm),rfl⟩,by rw [zJ]at hi;omega⟩,λF2 H2 s1 s2=>⟨⟨m,s2 _ _ (s1 _ _ hm),rfl⟩,by rw [zJ];omega⟩,λi d F2 H2 x H3 hd s1 s2 y=>?_⟩⟩
   obtain⟨rfl,kvs',q,c,ha,hq,rfl,hc⟩:=y;have hmm:=s2 _ _ (s1 _ _ hm);rw [ha]at hmm;cases hmm;obtain⟨F3,g3,f3⟩:=Grow.tups s2 [c] λb hb=>by rw [Q9.mp hb];exact⟨_,hc⟩
   refine⟨F3,g3,?_⟩;rw [zK]at hd;obtain⟨kk,q1,q2⟩:=Q0.mp hd;subst q2;have e5:=congrArg (λl:List (List cK)=>l[i]?) (tS kv e3);simp only [zK,hq,q1,zG]at e5;rw [zV e5,ji]at hc;exact⟨c,_,rfl,(f3 c (Q9.mpr rfl)).trans hc,Are.ints.mpr rfl⟩
 · cases e2
noncomputable def m8(d k:PyData):Option PyData:=match d with
 | .dict kvs=>(iL kvs).bind λ_=>(CG kvs k).bind λr=>r
 |_=>none
theorem tZ {td ty:TE}{fd fk:aQ->Option PyData}(a:SE K td fd)(b:SE K ty fk):SE K (ya td ty) (d2 m8 fd fk):=by
 intro H0 F0 F σ H δ d Q R e h;obtain⟨x,e1,e⟩:=bind_some e;obtain⟨y,e2,e⟩:=bind_some e;unfold m8 at e;split at e
 · rename_i kvs;obtain⟨ks,e3,e⟩:=bind_some e;obtain⟨r,e4,e⟩:=bind_some e;subst e;refine a H0 F0 F σ H δ _ _ R e1 λv H1 F1 g1 i1=>?_;obtain⟨p,m,rfl,hm,kv⟩:=GA e3 i1;refine b H0 F0 F1 σ H1 δ _ _ (R.grow g1) e2 λv2 H2 F2 g2 i2=>?_;obtain⟨ov,g,v3,rfl,iv⟩:=IQ g2.s (g2.h _ _ (g1.s _ _ hm)) (DcO.same g2.f (.inl ⟨m,rfl,kv⟩)) i2 e4;exact⟨p,v3,rfl,g,h v3 H2 F2 (g1.trans g2) iv⟩
 · cases e
end
end DL
namespace L2
open PySem PySem.Spec PyProof.Rows PySem.W
section
variable {prog:Program} {w:World} {A:Around} {E:Value->Shared->Prop} {s:Shared} {a b:Addr} {es:Array DictEntry} {ep ep2:Nat}
end
end L2
namespace DL
open PySem L2
section
variable {K:Fg}
end
theorem Gw {P:List Value->Prop}(h:∀a,P [a]):∀us:List Value,us.length=1->P us:=λus e=>by
 rcases us with _|⟨a,_|⟨b,r⟩⟩
 · cases e
 · exact h a
 · exact absurd e (by simp)
theorem uw {P:List Value->Prop}(h:∀a b,P [a,b]):∀us:List Value,us.length=2->P us:=λus e=>by
 rcases us with _|⟨a,r⟩
 · cases e
 · exact Gw (P:=λr=>P (a::r)) (h a) r (Nat.succ.inj e)
theorem Ie {P:List Value->Prop}(h:∀a b c,P [a,b,c]):∀us:List Value,us.length=3->P us:=λus e=>by
 rcases us with _|⟨a,r⟩
 · cases e
 · exact uw (P:=λr=>P (a::r)) (h a) r (Nat.succ.inj e)
theorem N3 {P:List Value->Prop}(h:∀a b c d,P [a,b,c,d]):∀us:List Value,us.length=4->P us:=λus e=>by
 rcases us with _|⟨a,r⟩
 · cases e
 · exact Ie (P:=λr=>P (a::r)) (h a) r (Nat.succ.inj e)
end DL
namespace L2
open PySem
theorem ac {X:Cx}{pos:Pos}{i:Nat}{x:Str}{e:Expr}{te:TE}{pos':Pos}(hN:X.N.Nodup)(he:PE X e te)(hi:X.N[i]? =some x:=by rfl)(hx:HE X.env.scope x:=by first|exact Or.inl rfl|exact Or.inr rfl)(hs:swapsWith e (some (.Name x pos')) pos.line X.env=pure false:=by rfl)
 (hf:X.fn x=true\/X.env.scope.names.lookup x=some .local:=by first|exact .inl rfl|exact .inr rfl|assumption):PS X (.Assign [.Name x pos'] e pos) (hV te (cE i)):=AJ hN hi hx he hs hf
theorem kI {N P:List Str}{sc:Scope}(a:sc.kind=.function:=by rfl)(b:sc.isCoroutine=false:=by rfl)(c:sc.isGenerator=false:=by rfl)(d:N.Nodup:=by decide+kernel)(e:N.take P.length=P:=by rfl)
 (f:∀x∈P,sc.names.lookup x=some .local\/sc.names.lookup x=some .cell:=by decide+kernel) (g:∀y∈sc.names,y.2≠ .free:=by decide+kernel):FnScope N P sc:=⟨a,b,c,d,e,f,g⟩
end L2
namespace L2
open PySem PySem.Spec PyProof.Rows PySem.W
section
variable {X:Cx}
end
end L2
namespace DL
open PySem PySem.Spec PyProof.Rows L2
section
variable {K:Fg}
end
end DL
namespace L2
open PySem PySem.Spec PyProof.Rows PySem.W
section
variable {prog:Program} {w:World} {A:Around} {E:Value->Shared->Prop} {hp:Heap} {gs:Array GenState} {dr:Drawn} {tk:Nat} {ost:OsState}
variable {n1 n2:Str} {C NS:Addr} {b1 b2 b3:List Value} {f1:Bool} {ss:List Str} {vs:List Value} {f2:Bool} {f3:Option Bool} {od:Option Addr} {z0 z1 z2 z3 z5:Option Value} {B nid iid:String}
end
section
variable {X:Cx}
end
section
variable {X:Cx} {pins:List (Addr×Obj)} {σ:St} {H:Hp} {s:Shared}
end
section
variable {P:Program} {w:World} {K:Frag} {mg:Str->Option Value} {base:Heap} {N:List Str} {qual:Str} {scope:Scope} {f:Addr} {cd:Value} {A:Around} {outer:List Env} {s₀:Shared} {H₀:Hp} {E:XK}
end
end L2
namespace DL
open PySem L2 PyProof.Rows
section
variable {K:Fg} {E:XK} {C:Addr}
noncomputable def tQ(K:Fg)(i:Nat):List V->TA
 |[]=>dZ
 |y::r=>bG (Na K i y) (tQ K i r)
inductive AllAns (K:Fg) (C:Addr):List V->List Bool->Prop
 |nil:AllAns K C [] []
 |cons {y:V} {b:Bool} {ys:List V} {bs:List Bool}:Ans K C y b->AllAns K C ys bs->AllAns K C (y::ys) (b::bs)
theorem Ku {ea:Addr}{i:Nat}{σ:St}{H:Hp}(hs:σ[i]? =some (some (.ref ea)))(hH:H ea=some (XO ea C))(xc:ExcCls K C){ys:List V}{bs:List Bool}(a:AllAns K C ys bs):∀{Q:List V->Hp->Prop},Q (bs.map V.bl) H->tQ K i ys σ H Q:=by
 induction a with
 |nil=>intro Q q;exact q
 |cons a1 r ih=>
  intro Q q;obtain⟨c,w,k⟩:=a1;exact⟨.ref ea,hs,ea,C,_,c,_,rfl,w,hH,k,xc,ih q⟩
end
end DL
namespace L2
open PySem PySem.Spec PyProof.Rows PySem.W
section
variable {M:Model} {A:Around} {E:Value->Shared->Prop} {s:Shared}
end
section
variable {X:Cx} {pins:List (Addr×Obj)} {σ:St} {H:Hp} {s:Shared}
end
section
variable {prog:Program} {w:World} {A:Around} {R:Result->Shared->Prop} {s:Shared}
end
section
variable {X:Cx}
section
variable {N:List Str} {sc:Scope} {C:Addr} {fp:List Addr} {s0:Shared} {H0:Hp} {E:XK} {pins:List (Addr×Obj)} {σ:St} {H:Hp} {s:Shared}
end
end
end L2
namespace DL
open PySem L2 PyProof.Rows
section
variable {K:Fg} {E:XK} {C:XI}
end
end DL
namespace L2
open PySem PySem.Spec PyProof.Rows PySem.W
section
variable {X:Cx} {pins:List (Addr×Obj)} {σ:St} {H:Hp} {s:Shared}
end
end L2
namespace DL
open PySem L2 PyProof.Rows
section
variable {K:Fg} {E:XK} {C:Addr}
end
end DL
namespace L2
open PySem PySem.Spec PyProof.Rows PySem.W
section
variable {prog:Program} {w:World} {A:Around} {E:Value->Shared->Prop} {hp:Heap} {gs:Array GenState} {dr:Drawn} {tk:Nat} {ost:OsState}
variable {n1 n2:Str} {C NS:Addr} {b1 b2 b3:List Value} {f1:Bool} {ss:List Str} {vs:List Value} {f2:Bool} {f3:Option Bool} {od:Option Addr} {z0 z1 z2 z3 z5:Option Value} {B nid iid:String}
end
section
variable {X:Cx} {pins:List (Addr×Obj)} {σ:St} {H:Hp} {s:Shared}
end
end L2
namespace DL
open PySem L2 PyProof.Rows
section
variable {K:Fg} {E:XK} {C:XI}
end
section
variable {K:Fg} {E:XK} {C:Addr}
end
end DL
namespace L2
open PySem
section
variable {prog:Program} {w:World} {K:Type} [DecidableEq K] (hk:HeapKind prog w K)
inductive RefsAre (h:Heap):List K->List Value->Prop
 |nil:RefsAre h [] []
 |cons {k:K} {b:Addr} {ks:List K} {vs:List Value}:hk.is h k b->RefsAre h ks vs->RefsAre h (k::ks) (.ref b::vs)
def IsTupH(h:Heap)(ks:List K)(a:Addr):Prop:=∃o items n,h.get? a=some o/\o.cls=.type "tuple"/\o.data=.seq items n/\RefsAre hk h ks items.toList
variable {hk}
theorem RefsAre.inj {h:Heap}{x:List K}{vs:List Value}(hx:RefsAre hk h x vs):∀{y:List K},RefsAre hk h y vs->x=y:=by
 induction hx with
 |nil=>intro y hy;cases hy;rfl
 |cons h1 _ ih=>
  intro y hy;cases hy with
  |cons h2 t2=>rw [hk.inj h1 h2,ih t2]
theorem RefsAre.keeps {h h':Heap}{d:Addr}{o:Obj}{es ep}{x:List K}{vs:List Value}(hx:RefsAre hk h x vs)(ho:h.get? d=some o)(hd:o.data=.dict es ep)(hs:Heap.SameBut d h h'):RefsAre hk h' x vs:=by
 induction hx with
 |nil=>exact .nil
 |cons h1 _ ih=>exact .cons (hk.keeps h1 ho hd hs) ih
theorem IsTupH.typeIs {s:Shared}{ks:List K}{a:Addr}(x:IsTupH hk s.heap ks a):s.TypeIs (.ref a) "tuple":=let ⟨o,_,_,ho,hc,_⟩:=x;⟨o,ho,hc⟩
theorem IsTupH.inj {h:Heap}{a:Addr}{x y:List K}(hx:IsTupH hk h x a)(hy:IsTupH hk h y a):x=y:=by
 obtain⟨o,items,n,ho,_,hd,hi⟩:=hx;obtain⟨o',items',n',ho',_,hd',hi'⟩:=hy;rw [ho]at ho';cases ho';rw [hd]at hd';cases hd';exact hi.inj hi'
theorem IsTupH.keeps {h h':Heap}{ks:List K}{a d:Addr}{o:Obj}{es ep}(x:IsTupH hk h ks a)(ho:h.get? d=some o)(hd:o.data=.dict es ep)(hs:Heap.SameBut d h h'):IsTupH hk h' ks a:=by
 obtain⟨o',items,n,ho',hc,hd',hi⟩:=x;have hne:a≠d:=λe=>by
  subst e;rw [ho]at ho';cases ho';rw [hd]at hd';cases hd'
 exact⟨o',items,n,(hs.2 a hne).trans ho',hc,hd',hi.keeps ho hd hs⟩
noncomputable def cH(hk:HeapKind prog w K)(ks:List K):Int:=reduceHash (Builtin.Tuple.tupleHashOf (ks.map hk.hash))
noncomputable def cN(hk:HeapKind prog w K)(ks:List K):Nat:=(ks.map hk.draws).sum+1
variable {A:Around} {E:Value->Shared->Prop} {s:Shared}
theorem vz {ks:List K}{a:Addr}{Q:Int->Shared->Prop}(hr:hk.room A.in1)(hu:A.units < cLine)(hkk:IsTupH hk s.heap ks a)(h:Q (cH hk ks) {s with toks:=s.toks+cN hk ks}):
 wpAny (model prog w) A (pyHash (.ref a)) Q E s:=by
 have hT:=hkk.typeIs;obtain⟨o,items,n,ho,_,hd,hi⟩:=hkk;unfold pyHash
 first|unfold pyHashByItsType|skip
 first|refine wB (wpAny_cRoomFor_or (.inr hu) ?_)|skip
 refine wB (wpAny_specialOf hT F.slot_tuple_hash.lookup ?_);show wpAny _ _ (if(some (Value.builtin "tuple.__hash__")==some Value.none)=true then _ else _) Q E s;rw [if_neg (by rw [beq_builtin_none];exact Q7)]
 refine wB (wpAny_specialOf hT F.slot_tuple_hash.lookup ?_);show wpAny _ _ (callSpecialIfBoundUnlessNone? (.ref a) "__hash__" _ >>=_) Q E s;refine wB (wpAny_callSpecialIfBoundUnlessNone?_slot hT F.slot_tuple_hash (wpAny_call_entry F.slot_tuple_hash hT F.entry_tuple_hash ?_ (F.args_tuple_hash_1 _)));show wpAny _ _ (Builtin.Tuple.tupleItemsOf (.ref a) >>=_) _ _ s;refine wB (wpAny_tupleItemsOf ho hd ?_);refine wB ?_;rw [<-Array.forIn_toList];refine wpAny_forIn_list _
  (λbt (b:Array Int) s'=>∃done left,ks=done++left/\RefsAre hk s.heap left bt/\b.toList=done.map hk.hash/\s'={s with toks:=s.toks+(done.map hk.draws).sum})
  _ ?_ ?_ _ _ ⟨[],ks,rfl,hi,rfl,rfl⟩
 · rintro x bt b s' ⟨done,left,rfl,hl,hb,rfl⟩;cases hl with
   | @cons k _ ks' _ h1 hl'=>
    refine wB (hk.pyHash hr h1 ?_);have fin:∃done' left',done++k::ks'=done'++left'/\RefsAre hk s.heap left' bt/\(b.push (hk.hash k)).toList=done'.map hk.hash/\
     ({s with toks:=s.toks+(done.map hk.draws).sum+hk.draws k}:Shared)={s with toks:=s.toks+(done'.map hk.draws).sum}:=
     ⟨done++[k],ks',by simp,hl',by simp [hb],by simp [Nat.add_assoc]⟩
    first
     |exact wP fin
     |exact wB (wP (wP fin))
 · rintro b s' ⟨done,left,rfl,hl,hb,rfl⟩;cases hl;rw [Q4]at h;show wpAny _ _ (retInt (Builtin.Tuple.tupleHashOf b.toList)) _ _ _;rw [hb];refine wpAny_ret_mkInt ?_;show wpAny _ _ (if(decide (-(2:Int) ^ 63<=Builtin.Tuple.tupleHashOf (done.map hk.hash))&&decide (Builtin.Tuple.tupleHashOf (done.map hk.hash) < 2 ^ 63))=true then _ else _) Q E _;unfold cH reduceHash cN at h
   by_cases hr:(decide (-(2:Int) ^ 63<=Builtin.Tuple.tupleHashOf (done.map hk.hash))&&decide (Builtin.Tuple.tupleHashOf (done.map hk.hash) < 2 ^ 63))=true
   · rw [if_pos hr];rw [if_pos hr]at h;exact wP (by simpa [Nat.add_assoc]using h)
   · rw [if_neg hr];rw [if_neg hr]at h;exact wB (wpAny_rule (wP (by simpa [Nat.add_assoc]using h)))
theorem GE {x y:List K}{a b:Addr}{P:PySem.Fin->Shared->Prop}(hr:hk.room A)(hx:IsTupH hk s.heap x a)(hy:IsTupH hk s.heap y b)(h:P (.done (.ret (.bool (decide (x=y))))) s):
 wpAny (model prog w) A (Builtin.«tuple.__eq__» ⟨[.ref a,.ref b],[]⟩) P E s:=by
 have hTb:=hy.typeIs;obtain⟨oa,xs,na,hoa,_,hda,hia⟩:=hx;obtain⟨ob,ys,nb,hob,_,hdb,hib⟩:=hy;show wpAny _ _ (isInstance (.ref b) (.type "tuple") >>=_) _ _ s;refine wB (wpAny_isInstance hTb isSubtype_tuple_tuple ?_);simp only [qG,zN,if_false];refine wB (wpAny_tupleItemsOf hoa hda ?_);refine wB (wpAny_tupleItemsOf hob hdb ?_);refine wB ?_;refine wpAny_forIn_list _
  (λbt r s'=>r.1=none/\s'=s/\∃x' y' xs' ys',bt=List.zip xs' ys'/\RefsAre hk s.heap x' xs'/\RefsAre hk s.heap y' ys'/\decide (x'=y')=decide (x=y)/\(xs'.length==ys'.length)=(xs.size==ys.size))
  _ ?_ ?_ _ _ ⟨rfl,rfl,x,y,xs.toList,ys.toList,rfl,hia,hib,rfl,by simp⟩
 · rintro⟨u,v⟩ bt r s' ⟨hrr,rfl,x',y',xs',ys',hz,hx',hy',hdec,hlen⟩;cases hx' with
   |nil=>simp at hz
   | @cons k1 u' x'' xs'' h1 hx''=>
    cases hy' with
    |nil=>simp at hz
    | @cons k2 v' y'' ys'' h2 hy''=>
     simp only [List.zip_cons_cons,List.cons.injEq,Prod.mk.injEq]at hz;obtain⟨⟨rfl,rfl⟩,rfl⟩:=hz;refine wB (hk.eqBool hr (x:=k1) (y:=k2) h1 h2 ?_)
     by_cases hkk:k1=k2
     · subst hkk;rw [decide_eq_true rfl];simp only [qG,zN,if_false];refine wP ⟨rfl,rfl,x'',y'',xs'',ys'',rfl,hx'',hy'',?_,by simpa using hlen⟩
       rw [<-hdec]
       by_cases hxy:x''=y''
       · simp [hxy]
       · simp [hxy]
     · rw [decide_eq_false hkk];simp only [Gu,if_true];have hf:decide (x=y)=false:=by rw [<-hdec];simp [hkk]
       rw [hf]at h;exact wB (wP (wP (wP h)))
 · rintro⟨r1,r2⟩ s' ⟨hrr,rfl,x',y',xs',ys',hz,hx',hy',hdec,hlen⟩;simp only at hrr;subst hrr;refine wP ?_;have hfin:(xs.size==ys.size)=decide (x=y):=by
    rw [<-hdec, <-hlen];cases hx' with
    |nil=>
     cases hy' with
     |nil=>simp
     |cons _ _=>simp
    |cons _ _=>
     cases hy' with
     |nil=>simp
     |cons _ _=>simp at hz
   show P (.done (.ret (.bool (xs.size==ys.size)))) s';rw [hfin];exact h
theorem CM {x y:List K}{a b:Addr}{Q:Bool->Shared->Prop}(hr:hk.room A.in1)(hu:A.units < cLine)(hx:IsTupH hk s.heap x a)(hy:IsTupH hk s.heap y b)(h:Q (decide (x=y)) s):
 wpAny (model prog w) A (eqBool (.ref a) (.ref b)) Q E s:=by
 unfold eqBool
 try with_reducible refine wpAny_holding ?_
 show wpAny _ _ (if(Value.ref a==Value.ref b)=true then _ else _) Q E s
 by_cases hab:(Value.ref a==Value.ref b)=true
 · rw [if_pos hab];have e:a=b:=by have:=eq_of_beq hab;injection this
   subst e;obtain rfl:=hx.inj hy;exact wB (wpAny_rule (wP (by simpa using h)))
 · rw [if_neg hab];refine wB (wpAny_richCompare_same_room (op:=.Eq) hx.typeIs hy.typeIs F.slot_tuple_eq (wpAny_call_entry F.slot_tuple_eq hx.typeIs F.entry_tuple_eq ?_ (F.args_tuple_eq_2 _ _)) hu);exact GE hr hx hy ⟨_,rfl,(λe=>nomatch e),wpAny_truthy_bool h⟩
end
section
variable {prog:Program} {w:World} {K:Type} [DecidableEq K] {knd:KeyKind prog w K} {A:Around} {E:Value->Shared->Prop} {s:Shared}
theorem wA {n:Nat}{ks:List K}{a:Addr}{Q:Bool->Shared->Prop}(hk:IsTupleKey knd s.heap ks a)(h:Q true s):wpAny (model prog w) A (eqIsQuiet (n+1) (.ref a)) Q E s:=by
 have hT:=hk.typeIs;obtain⟨o,items,m,ho,_,hd,hi⟩:=hk;unfold eqIsQuiet;refine wB (wpAny_specialOf hT F.slot_tuple_eq.lookup ?_);show wpAny _ _ (isInstance (.ref a) (.type "tuple") >>=_) _ _ s;refine wB (wpAny_isInstance hT isSubtype_tuple_tuple ?_);simp only [qG,zN,if_false];refine wB (wpAny_seqItems ho hd ?_);refine wB ?_;show wpAny _ _ (forIn items _ _) _ _ s;rw [<-Array.forIn_toList];refine wpAny_forIn_list _ (λbt r s'=>r.1=none/\s'=s/\∀v∈bt,carriedByValue v=true) _ ?_ ?_ _ _ ⟨rfl,rfl,hi.byValue⟩
 · rintro v bt r s' ⟨hr,rfl,hall⟩;rw [eqIsQuiet_byValue _ (hall v j5)];refine wB (wP ?_);simp only [qG,zN,if_false];exact wP ⟨rfl,rfl,λu hu'=>hall u (j4 _ hu')⟩
 · rintro⟨r1,r2⟩ s' ⟨hr,rfl,_⟩;simp only at hr;subst hr;exact wP h
theorem An {ks:List (List K)}{a:Addr}{Q:Bool->Shared->Prop}(hk:IsTupH (tupleKind knd) s.heap ks a)(h:Q true s):wpAny (model prog w) A (eqIsQuiet 8 (.ref a)) Q E s:=by
 have hT:=hk.typeIs;obtain⟨o,items,m,ho,_,hd,hi⟩:=hk;unfold eqIsQuiet;refine wB (wpAny_specialOf hT F.slot_tuple_eq.lookup ?_);show wpAny _ _ (isInstance (.ref a) (.type "tuple") >>=_) _ _ s;refine wB (wpAny_isInstance hT isSubtype_tuple_tuple ?_);simp only [qG,zN,if_false];refine wB (wpAny_seqItems ho hd ?_);refine wB ?_;show wpAny _ _ (forIn items _ _) _ _ s;rw [<-Array.forIn_toList];refine wpAny_forIn_list _ (λbt r s'=>r.1=none/\s'=s/\∃left,RefsAre (tupleKind knd) s.heap left bt) _ ?_ ?_ _ _ ⟨rfl,rfl,ks,hi⟩
 · rintro v bt r s' ⟨hr,rfl,left,hl⟩;cases hl with
   | @cons k b ks' _ h1 hl'=>
    refine wB (wA (n:=6) (knd:=knd) h1 ?_);simp only [qG,zN,if_false];exact wP ⟨rfl,rfl,ks',hl'⟩
 · rintro⟨r1,r2⟩ s' ⟨hr,rfl,_⟩;simp only at hr;subst hr;exact wP h
noncomputable def yh {prog:Program}{w:World}{K:Type}[DecidableEq K](knd:KeyKind prog w K):HeapKind prog w (List (List K)) where
 is:=IsTupH (tupleKind knd)
 hash:=cH (tupleKind knd)
 draws:=cN (tupleKind knd)
 room:=λA=>A.units+1 < cLine
 inj:=λhx hy=>hx.inj hy
 keeps:=λx ho hd hs=>x.keeps ho hd hs
 pyHash:=λhu hk h=>vz (tupleKind_room_in1 hu) (Nat.lt_of_succ_lt hu) hk h
 eqBool:=λhu hx hy h=>CM (tupleKind_room_in1 hu) (Nat.lt_of_succ_lt hu) hx hy h
 quiet:=λhk h=>An hk h
end
noncomputable abbrev Ek:=List (List cK)×Addr×Value
def Nb(P:Program)(w:World)(a:Addr)(xs:List Ek):HO:=.ext λh=>∃(o:Obj) (es:Array DictEntry) (ep:Nat),h.get? a=some o/\o.ExactDict/\o.data=.dict es ep/\es.toList=xs.map (entryOfKey (yh (bX P w)))/\(xs.map (·.1)).Nodup/\xs.length<=sizeLine/\(a==sysModules)=false
def KeyAt(H:Hp)(b:Addr)(k:List (List cK)):Prop:=∃bs:List Addr,H b=some (.tup (bs.map .ref))/\Paired (λ(ks:List cK) (c:Addr)=>H c=some (.tup (ks.map kV))) k bs
section
variable {P:Program} {w:World} {H:Hp} {h:Heap}
theorem Ig {b:Addr}{k:List (List cK)}(ok:HOk P w H h)(e:KeyAt H b k):(yh (bX P w)).is h k b:=by
 obtain⟨bs,e1,e2⟩:=e;obtain⟨zz,its,r,⟨o,h1,h2,n,h3⟩,zz2⟩:=(show ObjOk P w H h b (.tup (bs.map .ref))from ok b _ e1)
 refine⟨o,its.toArray,n,h1,h2,h3,?_⟩;rw [List.toList_toArray];clear e1 h1 h2 h3 zz zz2
 induction e2 generalizing its with
 |nil=>cases r;exact .nil
 | @cons ks c k' bs' hc _ ih=>
  cases r with
  |cons r1 r2=>
   cases (show _=Value.ref c from r1)
   exact .cons (nX ok hc) (ih _ r2)
end
section
variable {X:Cx} {pins:List (Addr×Obj)} {σ:St} {H:Hp} {s:Shared} {a b:Addr} {xs:List Ek} {k:List (List cK)} {A:Around} {E:Value->Shared->Prop}
end
section
variable {X:Cx} {o i e value:Expr} {pos pos' tpos:Pos} {td ty tv:TE}
end
end L2
namespace DL
open PySem L2
noncomputable abbrev Cn:=List (List (List Int)×PyData)
noncomputable def nY:List PyData->Option (List (List Int))
 |[]=>some []
 |d::r=>(jH d).bind λk=>(nY r).map (k:: ·)
noncomputable def k2(k:List (List Int)):List (List cK):=k.map λr=>r.map Sum.inl
theorem Kw {a b:List (List Int)}(h:k2 a=k2 b):a=b:=by
 unfold k2 at h;exact(List.map_inj_right λx y z=>sJ z).mp h
section
variable {K:Fg} {H0 F0 F F':Hp} {σ:St} {H H':Hp} {δ:aQ}
theorem GF {ds:List PyData}{k:List (List Int)}{c:Addr}{xs:List V}(e:nY ds=some k)(hc:F c=some (.tup xs))(ar:Are K F xs ds):KeyAt F c (k2 k):=by
 have:∃bs:List Addr,xs=bs.map V.ref/\Paired (λ(ks:List cK) (c:Addr)=>F c=some (.tup (ks.map kV))) (k2 k) bs:=by
  clear hc
  induction ds generalizing k xs with
  |nil=>cases e;cases (show xs=[]from ar);exact⟨[],rfl,.nil⟩
  |cons d ds ih=>
   obtain⟨k1,e1,e2⟩:=bind_some (show (jH d).bind (λk=>(nY ds).map (k:: ·))=some k from e)
   obtain⟨kr,e3,rfl⟩:=Q0.mp e2;obtain⟨x,r,rfl,ix,ir⟩:=ar;obtain⟨bs,rfl,pr⟩:=ih e3 ir;unfold jH at e1;split at e1
   rotate_left
   · cases e1
   obtain⟨b,ys,rfl,hb,ay⟩:=ix;rw [cW e1]at ay;rw [Are.ints.mp ay, <-ji]at hb;exact⟨b::bs,rfl,.cons hb pr⟩
 obtain⟨bs,rfl,pr⟩:=this;exact⟨bs,hc,pr⟩
theorem KeyAt.same {b:Addr}{k:List (List cK)}(h:KeyAt F b k)(s:Same F F'):KeyAt F' b k:=by
 obtain⟨bs,e1,e2⟩:=h;refine⟨bs,s _ _ e1,?_⟩;clear e1
 induction e2 with
 |nil=>exact .nil
 |cons h1 _ ih=>exact .cons (s _ _ h1) ih
noncomputable def EntN(K:Fg)(F:Hp):List Ek->Cn->Prop
 |[],[]=>True
 |x::xs,e::es=>(x.1=k2 e.1/\KeyAt F x.2.1 x.1/\∃c,x.2.2=Value.ref c/\Is K F (.ref c) e.2)/\EntN K F xs es
 |_,_=>False
theorem EntN.len {xs:List Ek}{es:Cn}(h:EntN K F xs es):xs.length=es.length:=by
 induction xs generalizing es with
 |nil=>
  cases es with
  |nil=>rfl
  |cons _ _=>exact h.elim
 |cons y xs ih=>
  cases es with
  |nil=>exact h.elim
  |cons e es=>rw [zC,zC,ih h.2]
theorem Rep.any(R:Rep K H0 F0 F σ H δ)(i:Nat)(v:V):Rep K H0 F0 F (σ.set i (some v)) H (δ.set i none):=by
 have old:∀{j:Nat} {s:Sl},(δ.set i none)[j]? =some (some s)->j≠i/\δ[j]? =some (some s):=λ{j s} e=>by
  rcases ae e with ⟨_,z⟩|⟨n,z⟩
  · cases z
  · exact⟨n,z⟩
 have ps:∀{j:Nat},j≠i->(σ.set i (some v))[j]? =σ[j]? :=λn=>JN (Ne.symm n);refine⟨R.g,by rw [Qc,Qc];exact R.len,λj d e=>?_,λj ds e=>?_,λj l ds es a e1 e2 e3 e4=>?_,λj ds e=>?_,λj l ds es a e1 e2 e3 e4=>?_,R.tb⟩
 · rw [ps (old e).1];exact R.fz j d (old e).2
 · rw [ps (old e).1];exact R.ow j ds (old e).2
 · rw [ps (old e1).1]at e3;rw [ps (old e2).1]at e4;exact R.ap j l ds es a (old e1).2 (old e2).2 e3 e4
 · rw [ps (old e).1];exact R.od j ds (old e).2
 · rw [ps (old e1).1]at e3;rw [ps (old e2).1]at e4;exact R.ad j l ds es a (old e1).2 (old e2).2 e3 e4
structure QI (P:Program) (w:World) (K:Fg) (H0 F0 F:Hp) (σ:St) (H:Hp) (δ:aQ) (i j N:Nat) (es:Cn) (ps:List PyData):Prop where
 R:Rep K H0 F0 F σ H δ
 z:gO δ=true
 ln:δ.length=N
 ex:∃a b xs vs,σ[i]? =some (some (.ref a))/\H a=some (Nb P w a xs)/\F a=none/\H0 a=none/\EntN K F xs es/\σ[j]? =some (some (.ref b))/\H b=some (.lst vs)/\F b=none/\H0 b=none/\Are K F vs ps
variable {P:Program} {w:World}
theorem QI.set {i j l N:Nat}{es:Cn}{ps:List PyData}{v:V}{d:PyData}(I:QI P w K H0 F0 F σ H δ i j N es ps)(n1:l≠i)(n2:l≠j)(h:Is K F v d):QI P w K H0 F0 F (σ.set l (some v)) H (δ.set l (some (.fz d))) i j N es ps:=by
 obtain⟨a,b,xs,vs,h1,h2,h3,h4,h5,h6,r⟩:=I.ex;exact⟨I.R.set h,tW I.z l d,by rw [Qc];exact I.ln,a,b,xs,vs,by rw [JN n1];exact h1,h2,h3,h4,h5,by rw [JN n2];exact h6,r⟩
end
section
variable {K:Fg} {C:Addr}
theorem DV {Dc:Addr}{i:Nat}{tb:XK->TS}{u:TS}{fx:aQ->Bool}{ys:List V}{bs:List Bool}{vs:List V}{ds:List PyData}{F H:Hp}{Q:VK}{N:List Str}(sx:∀E,SX K E C (tb E) fx)(hex:PySem.W.exmOne K (.ref C) (.ref Dc)=some true)(xc:ExcCls K C)
 (a:AllAns K C ys bs) (l1:bs.length<=1000) (hi:i < N.length) (s:lH K F H) (ar:Are K F vs ds) (e:fx (cj N.length ds)=true) (q:∀v H' F',Grow F H F' H'->Is K F' v (.list (bs.map PyData.bool))->Q v H'):
 eF (Hj K Dc i N.length tb (λ_=>ju (oH (tQ K i ys)))) u {nx:=λ_ H'=>Q .non H',rt:=Q} (L2.dL N vs) H:=by
 have R:=jf (K:=K) (N:=N) s ar;refine sx _ H F F _ H (cj N.length ds) _ R e (λv F' H' g' hv=>⟨C,rfl,hex,λea e' hf σ' hσ=>?_⟩);refine Ku (by rw [LW (by rw [hσ];exact hi)]) aT xc a ⟨by rw [zJ];exact sj l1,λp hp=>?_⟩
 have g1:Grow F H F' (bH H' ea (XO ea C)):=g'.trans (Grow.fresh g'.s hf);have g2:=g1.trans (Grow.new (p:=p) (o:=.lst (bs.map V.bl)) g1.s hp);exact q (.ref p) _ _ g2 ⟨p,_,rfl,aT,Are.bools.mpr rfl⟩
end
end DL
namespace L2
open PySem PySem.Spec PyProof.Rows
section
variable {X:Cx} {pins:List (Addr×Obj)} {σ:St} {S I l:Addr} {xs:List V} {F H0:Hp} {lt:Nat->Nat->Bool} {R:Result->Shared->Prop}
end
end L2
namespace DL
open PySem L2
section
variable {K:Fg}
end
end DL
namespace L2
open PySem
section
variable {prog:Program} {w:World} {K:Type} [DecidableEq K] {knd:HeapKind prog w K} {A:Around} {E:Value->Shared->Prop} {s:Shared} {d a:Addr} {xs:List (K×Addr×Value)} {k:K} {v:Value} {o:Obj} {es:Array DictEntry} {ep:Nat}
theorem DW {Q:Value->Shared->Prop}(hu:knd.room A)(hkey:knd.is s.heap k a)(ho:s.heap.get? d=some o)(hc:o.ExactDict)(hd:o.data=.dict es ep)(he:es.toList=xs.map (entryOfKey knd))(his:∀x∈xs,knd.is s.heap x.1 x.2.1)(hn:(xs.map (·.1)).Nodup)(hep:ep=xs.length)
 (h1:∀p,atKey xs k=some p->Q p.2 {s with toks:=s.toks+knd.draws k})
 (h2:atKey xs k=none->∀h' o' es',h'.get? d=some o'->o'.ExactDict->o'.data=.dict es' (storedH xs k a v).length->es'.toList=(storedH xs k a v).map (entryOfKey knd)->((storedH xs k a v).map (·.1)).Nodup->Heap.SameBut d s.heap h'->Q v {s with heap:=h',toks:=s.toks+knd.draws k})
 (hz:xs.length<=sizeLine):wpAny (model prog w) A (dictSetDefault d (.ref a) v) Q E s:=by
 unfold dictSetDefault
 try with_reducible refine wpAny_holding ?_
 refine wB (knd.pyHash hu hkey (wB (wpAny_dictFind_heap (s:={s with toks:=s.toks+knd.draws k}) hu hkey ho hd he his hn ?_ ?_)))
 · intro hno;have hnot:k ∉ xs.map (·.1):=not_mem_keys_of_get hno
   have hnone:=atKey_none_of_get hno;have st:=storedH_new hnone a v;refine wB (wpAny_rule (wB (wpAny_updateDictKeys (hz:=by have e:=size_of_entries he;omega) (s:={s with toks:=s.toks+knd.draws k}) ho hd (wP ?_))))
   refine h2 hnone _ _ (es.push ⟨knd.hash k,.ref a,v⟩) (Gy _ ho (Obj.isFreed_of_dict (Obj.data_mapDictKeys hd _))) (hc.mapDictKeys _) ?_ ?_ ?_ (Heap.SameBut.update ..)
   · rw [st,zQ,List.length_singleton, <-hep];exact Obj.data_mapDictKeys hd _
   · rw [st];simp [he,entryOfKey]
   · rw [st,AD,List.nodup_append];refine⟨hn,by simp,λx hx y hy=>?_⟩
     simp only [zI,zL,Q9]at hy;subst hy;exact λe=>hnot (e▸hx)
 · intro j p hj;have hs:=atKey_of_get hn hj;refine wB (wpAny_dictEntries (s:={s with toks:=s.toks+knd.draws k}) ho hd ?_)
   rw [entry_at he j,hj];exact wB (wpAny_rule (wP (h1 p hs)))
theorem kJ(knd:HeapKind prog w K)(d a:Addr)(hds:(d==sysModules)=false)(dflt:Value):
 MeetsIn prog w (Builtin.«dict.setdefault» ⟨[.ref d,.ref a,dflt],[]⟩) (λA R s=>knd.room A.in1/\∃k xs o es ep,knd.is s.heap k a/\s.heap.get? d=some o/\o.ExactDict/\o.data=.dict es ep/\es.toList=xs.map (entryOfKey knd)/\(∀x∈xs,knd.is s.heap x.1 x.2.1)/\(xs.map (·.1)).Nodup/\ep=xs.length/\xs.length<=sizeLine/\
  (∀p,atKey xs k=some p->R (.ok (.ret p.2)) {s with toks:=s.toks+knd.draws k})/\
  (atKey xs k=none->∀h' o' es',h'.get? d=some o'->o'.ExactDict->o'.data=.dict es' (storedH xs k a dflt).length->es'.toList=(storedH xs k a dflt).map (entryOfKey knd)->((storedH xs k a dflt).map (·.1)).Nodup->Heap.SameBut d s.heap h'->R (.ok (.ret dflt)) {s with heap:=h',toks:=s.toks+knd.draws k})):=
 .of_wp λA R s hyp=>by
  obtain⟨hu,k,xs,o,es,ep,hkey,ho,hc,hd,he,his,hn,hep,hz,h1,h2⟩:=hyp;have hm:s.heap.DictOfH knd d xs:=⟨o,es,ep,ho,hc,hd,he,his,hn⟩;unfold Builtin.«dict.setdefault»;refine wB ?_;unfold Builtin.Dict.keyAndDefault;refine wB (wpAny_notOrdered_dict hm.typeIs ?_);show wpAny _ _ (pure (d,Value.ref a,some dflt)) _ _ s;refine wP ?_;show wpAny _ _ (if(d==sysModules)=true then _ else(dictSetDefault d (.ref a) dflt >>=_)) _ _ s;rw [if_neg (by rw [hds];exact Q7)]
  exact wB (DW hu hkey ho hc hd he his hn hep (λp hp=>wP ⟨p.2,rfl,h1 p hp⟩) (λhn' h' o' es' q1 q2 q3 q4 q5 q6=>wP ⟨dflt,rfl,h2 hn' h' o' es' q1 q2 q3 q4 q5 q6⟩) hz)
end
section
variable {X:Cx} {pins:List (Addr×Obj)} {σ:St} {H:Hp} {s:Shared} {a b:Addr} {d:V} {u r:Value} {A:Around} {E:Value->Shared->Prop} {kvs:List (List cK×V)} {k:List cK}
theorem GG {Q:Value->Shared->Prop}(hu:A.units+1 < cLine)(I:Inv X pins σ H s)(e:H a=some (.dT kvs))(eb:H b=some (.tup (k.map kV)))(rd:RelV d r)(hl:kvs.length < sizeLine)
 (h1:∀x,iA kvs k=some x->∀w' s',Inv X pins σ H s'->RelV x w'->Q w' s') (h2:iA kvs k=none->∀s',Inv X pins σ (bH H a (.dT (mT kvs k d))) s'->Q r s'):
 wpAny (model X.prog X.w) A (call (.builtin "dict.setdefault") [.ref a,.ref b,r]) Q E s:=by
 obtain⟨z,hd,xs,rel,o,es,ep,g1,g2,g3,g4,g5,g6⟩:=(show ObjOk X.prog X.w H s.heap a (.dT kvs)from I.hok a _ e)
 have rel:KT H kvs xs:=rel;have hz:xs.length<=sizeLine:=by rw [<-Paired.length rel];exact z
 have rv:=rel.val k;refine call_meetsIn PySem.F.slot_dict_setdefault ⟨o,g1,g2.1⟩ PySem.F.entry_dict_setdefault (PySem.F.args_dict_setdefault_3 _ _ _) (kJ (tupleKind (bX X.prog X.w)) a b hd r)
  ⟨tupleKind_room_in1 hu,k,xs,o,es,ep,nX I.hok eb,g1,g2,g3,g4,FY I.hok rel,g5,g6,hz,λp hp=>?_,λhn h' o' es' q1 q2 q3 q4 q5 q6=>?_⟩
 · rw [hp]at rv;cases hv:iA kvs k with
   |none=>rw [hv]at rv;exact False.elim rv
   |some x=>
    rw [hv]at rv;exact h1 x hv _ _ (I.tok _) rv
 · rw [hn]at rv;have hv:iA kvs k=none:=by
    cases hv:iA kvs k with
    |none=>rfl
    |some x=>rw [hv]at rv;exact False.elim rv
   refine h2 hv _ ?_;have hl2:(mT kvs k d).length<=sizeLine:=by have:=lP kvs k d;omega
   refine sG I (by rw [e];exact True.intro) q6 ⟨o',q1⟩ ⟨hl2,hd,_,(rel.put k eb rd).keeps λc ys ec=>?_,o',es',_,q1,q2,q3,q4,q5,rfl⟩
   rw [aN (JP ec e (λz=>nomatch z))];exact ec
end
def Ao(td ty tx:TE):TE:=λσ H Q=>td σ H λx H1=>∃a,x=.ref a/\MH H1 a/\ty σ H1 λy H2=>tx σ H2 λz H3=>∃b kvs k,y=.ref b/\H3 a=some (.dT kvs)/\H3 b=some (.tup (List.map kV k))/\kvs.length < sizeLine/\
 (∀v,iA kvs k=some v->Q v H3)/\(iA kvs k=none->Q z (bH H3 a (.dT (mT kvs k z))))
section
variable {X:Cx} {o e f:Expr} {apos cpos:Pos} {td ty tx:TE}
theorem GH(hu:X.A.units+1 < cLine)(ho:PE X o td)(he:PE X e ty)(hf:PE X f tx)(m:M2 X o "setdefault" apos e f cpos):PE X (.Call (.Attribute o "setdefault" apos) [e,f] [] cpos) (Ao td ty tx):=by
 intro pins s σ H Q I h;refine wpAny_Call_method m.base m.few m.line PySem.F.plainAttrs_dict PySem.F.slot_dict_setdefault PySem.F.type_dict_setdefault (cU (ho pins s σ H _ I h) λu s1 q_=>?_);obtain⟨x,H1,I1,rx,a,ex,d,q1⟩:=q_;subst ex;obtain rfl:u=Value.ref a:=rx;obtain⟨t1,t2,_⟩:=Ki I1 d;refine⟨t1,t2,?_⟩;rw [m.trees];refine Calls.callWith_builtin rfl (Calls.evalArgs_plain (Calls.spliced_cons (cU (he pins s1 σ H1 _ I1 q1) λiv s2 q_=>?_)));obtain⟨y,H2,I2,ry,q2⟩:=q_;refine Calls.spliced_cons (cU (hf pins s2 σ H2 _ I2 q2) λfv s3 q_=>Calls.spliced_nil ?_);obtain⟨z,H3,I3,rz,b,kvs,k,rfl,e1,e2,e3,q3,q4⟩:=q_;obtain rfl:iv=Value.ref b:=ry;exact GG hu I3 e1 e2 rz e3 (λv hv w' s' I' r'=>⟨v,H3,I',r',q3 v hv⟩) λhv s' I'=>⟨z,_,I',rz,q4 hv⟩
end
section
variable {prog:Program} {w:World} {K:Type} [DecidableEq K] {knd:KeyKind prog w K} {A:Around} {E:Value->Shared->Prop} {s:Shared}
theorem yi {n:Nat}{ks:List (List K)}{a:Addr}{Q:Bool->Shared->Prop}(hk:IsTupH (tupleKind knd) s.heap ks a)(h:Q true s):wpAny (model prog w) A (eqIsQuiet (n+2) (.ref a)) Q E s:=by
 have hT:=hk.typeIs;obtain⟨o,items,m,ho,_,hd,hi⟩:=hk;unfold eqIsQuiet;refine wB (wpAny_specialOf hT F.slot_tuple_eq.lookup ?_);show wpAny _ _ (isInstance (.ref a) (.type "tuple") >>=_) _ _ s;refine wB (wpAny_isInstance hT isSubtype_tuple_tuple ?_);simp only [qG,zN,if_false];refine wB (wpAny_seqItems ho hd ?_);refine wB ?_;show wpAny _ _ (forIn items _ _) _ _ s;rw [<-Array.forIn_toList];refine wpAny_forIn_list _ (λbt r s'=>r.1=none/\s'=s/\∃left,RefsAre (tupleKind knd) s.heap left bt) _ ?_ ?_ _ _ ⟨rfl,rfl,ks,hi⟩
 · rintro v bt r s' ⟨hr,rfl,left,hl⟩;cases hl with
   | @cons k b ks' _ h1 hl'=>
    refine wB (wA (n:=n) (knd:=knd) h1 ?_);simp only [qG,zN,if_false];exact wP ⟨rfl,rfl,ks',hl'⟩
 · rintro⟨r1,r2⟩ s' ⟨hr,rfl,_⟩;simp only at hr;subst hr;exact wP h
def IsTupM(knd:KeyKind prog w K)(h:Heap)(k:List (List K)×K)(a:Addr):Prop:=∃(o:Obj) (items:Array Value) (n:Nat) (b:Addr) (v:Value),h.get? a=some o/\o.cls=.type "tuple"/\o.data=.seq items n/\items.toList=[.ref b,v]/\IsTupH (tupleKind knd) h k.1 b/\knd.is k.2 v=true
theorem IsTupM.typeIs {k:List (List K)×K}{a:Addr}(x:IsTupM knd s.heap k a):s.TypeIs (.ref a) "tuple":=let ⟨o,_,_,_,_,ho,hc,_⟩:=x;⟨o,ho,hc⟩
theorem IsTupM.inj {h:Heap}{a:Addr}{x y:List (List K)×K}(hx:IsTupM knd h x a)(hy:IsTupM knd h y a):x=y:=by
 obtain⟨o,items,n,b,v,ho,_,hd,hi,h1,h2⟩:=hx;obtain⟨o',items',n',b',v',ho',_,hd',hi',h1',h2'⟩:=hy;rw [ho]at ho';cases ho';rw [hd]at hd';cases hd';rw [hi]at hi';cases hi';exact Prod.ext (h1.inj h1') (knd.inj _ _ _ h2 h2')
theorem IsTupM.keeps {h h':Heap}{k:List (List K)×K}{a d:Addr}{o:Obj}{es ep}(x:IsTupM knd h k a)(ho:h.get? d=some o)(hd:o.data=.dict es ep)(hs:Heap.SameBut d h h'):IsTupM knd h' k a:=by
 obtain⟨o',items,n,b,v,ho',hc,hd',hi,h1,h2⟩:=x;have hne:a≠d:=λe=>by
  subst e;rw [ho]at ho';cases ho';rw [hd]at hd';cases hd'
 exact⟨o',items,n,b,v,(hs.2 a hne).trans ho',hc,hd',hi,h1.keeps ho hd hs,h2⟩
noncomputable def GI(knd:KeyKind prog w K)(k:List (List K)×K):Int:=reduceHash (Builtin.Tuple.tupleHashOf [cH (tupleKind knd) k.1,knd.hash k.2])
noncomputable def Ap(knd:KeyKind prog w K)(k:List (List K)×K):Nat:=cN (tupleKind knd) k.1+2
theorem DX {k:List (List K)×K}{a:Addr}{Q:Int->Shared->Prop}(hr:(tupleKind knd).room A.in1.in1)(hu:A.units+1 < cLine)(hkk:IsTupM knd s.heap k a)(h:Q (GI knd k) {s with toks:=s.toks+Ap knd k}):
 wpAny (model prog w) A (pyHash (.ref a)) Q E s:=by
 have hT:=hkk.typeIs;obtain⟨o,items,n,b,v,ho,_,hd,hi,h1,h2⟩:=hkk;unfold pyHash
 first|unfold pyHashByItsType|skip
 first|refine wB (wpAny_cRoomFor_or (.inr (Nat.lt_of_succ_lt hu)) ?_)|skip
 refine wB (wpAny_specialOf hT F.slot_tuple_hash.lookup ?_);show wpAny _ _ (if(some (Value.builtin "tuple.__hash__")==some Value.none)=true then _ else _) Q E s;rw [if_neg (by rw [beq_builtin_none];exact Q7)]
 refine wB (wpAny_specialOf hT F.slot_tuple_hash.lookup ?_);show wpAny _ _ (callSpecialIfBoundUnlessNone? (.ref a) "__hash__" _ >>=_) Q E s;refine wB (wpAny_callSpecialIfBoundUnlessNone?_slot hT F.slot_tuple_hash (wpAny_call_entry F.slot_tuple_hash hT F.entry_tuple_hash ?_ (F.args_tuple_hash_1 _)));show wpAny _ _ (Builtin.Tuple.tupleItemsOf (.ref a) >>=_) _ _ s;refine wB (wpAny_tupleItemsOf ho hd ?_);refine wB ?_;rw [<-Array.forIn_toList,hi];refine wpAny_forIn_list _
  (λ bt (z : Array Int) s' => (bt = [.ref b, v] /\ z.toList = [] /\ s' = s) \/ (bt = [v] /\ z.toList = [cH (tupleKind knd) k.1] /\ s' = { s with toks := s.toks + cN (tupleKind knd) k.1 }) \/
   (bt=[]/\z.toList=[cH (tupleKind knd) k.1,knd.hash k.2]/\s'={s with toks:=s.toks+cN (tupleKind knd) k.1+1}))
  _ ?_ ?_ _ _ (.inl ⟨rfl,rfl,rfl⟩)
 · rintro x bt z s' (⟨e1,e2,rfl⟩|⟨e1,e2,rfl⟩|⟨e1,_⟩)
   · cases e1;refine wB (vz hr hu h1 ?_);have fin:=(Or.inr (Or.inl ⟨rfl,by simp [e2],rfl⟩):(([v]:List Value)=[.ref b,v]/\(z.push (cH (tupleKind knd) k.1)).toList=[]/\({s' with toks:=s'.toks+cN (tupleKind knd) k.1}:Shared)=s')\/(([v]:List Value)=[v]/\(z.push (cH (tupleKind knd) k.1)).toList=[cH (tupleKind knd) k.1]/\({s' with toks:=s'.toks+cN (tupleKind knd) k.1}:Shared)={s' with toks:=s'.toks+cN (tupleKind knd) k.1})\/
      (([v]:List Value)=[]/\(z.push (cH (tupleKind knd) k.1)).toList=[cH (tupleKind knd) k.1,knd.hash k.2]/\({s' with toks:=s'.toks+cN (tupleKind knd) k.1}:Shared)={s' with toks:=s'.toks+cN (tupleKind knd) k.1+1}))
     first
      |exact wP fin
      |exact wB (wP (wP fin))
   · cases e1;refine wB (knd.pyHash h2 ?_);have fin:=(Or.inr (Or.inr ⟨rfl,by simp [e2],rfl⟩):(([]:List Value)=[.ref b,v]/\(z.push (knd.hash k.2)).toList=[]/\({s with toks:=s.toks+cN (tupleKind knd) k.1+1}:Shared)=s)\/(([]:List Value)=[v]/\(z.push (knd.hash k.2)).toList=[cH (tupleKind knd) k.1]/\({s with toks:=s.toks+cN (tupleKind knd) k.1+1}:Shared)={s with toks:=s.toks+cN (tupleKind knd) k.1})\/
      (([]:List Value)=[]/\(z.push (knd.hash k.2)).toList=[cH (tupleKind knd) k.1,knd.hash k.2]/\({s with toks:=s.toks+cN (tupleKind knd) k.1+1}:Shared)={s with toks:=s.toks+cN (tupleKind knd) k.1+1}))
     first
      |exact wP fin
      |exact wB (wP (wP fin))
   · cases e1
 · rintro z s' (⟨e1,_⟩|⟨e1,_⟩|⟨_,e2,rfl⟩)
   · cases e1
   · cases e1
   · show wpAny _ _ (retInt (Builtin.Tuple.tupleHashOf z.toList)) _ _ _;rw [e2];refine wpAny_ret_mkInt ?_;show wpAny _ _ (if(decide (-(2:Int) ^ 63<=Builtin.Tuple.tupleHashOf [cH (tupleKind knd) k.1,knd.hash k.2])&&decide (Builtin.Tuple.tupleHashOf [cH (tupleKind knd) k.1,knd.hash k.2] < 2 ^ 63))=true then _ else _) Q E _;unfold GI reduceHash Ap at h
     by_cases hr:(decide (-(2:Int) ^ 63<=Builtin.Tuple.tupleHashOf [cH (tupleKind knd) k.1,knd.hash k.2])&&decide (Builtin.Tuple.tupleHashOf [cH (tupleKind knd) k.1,knd.hash k.2] < 2 ^ 63))=true
     · rw [if_pos hr];rw [if_pos hr]at h;exact wP (by simpa [Nat.add_assoc]using h)
     · rw [if_neg hr];rw [if_neg hr]at h;exact wB (wpAny_rule (wP (by simpa [Nat.add_assoc]using h)))
theorem GJ {x y:List (List K)×K}{a b:Addr}{P:PySem.Fin->Shared->Prop}(hr:(tupleKind knd).room A.in1)(hu:A.units < cLine)(hx:IsTupM knd s.heap x a)(hy:IsTupM knd s.heap y b)(h:P (.done (.ret (.bool (decide (x=y))))) s):
 wpAny (model prog w) A (Builtin.«tuple.__eq__» ⟨[.ref a,.ref b],[]⟩) P E s:=by
 have hTb:=hy.typeIs;obtain⟨oa,xs,na,c,u,hoa,_,hda,hia,h1,h2⟩:=hx;obtain⟨ob,ys,nb,c',u',hob,_,hdb,hib,h1',h2'⟩:=hy;show wpAny _ _ (isInstance (.ref b) (.type "tuple") >>=_) _ _ s;refine wB (wpAny_isInstance hTb isSubtype_tuple_tuple ?_);simp only [qG,zN,if_false];refine wB (wpAny_tupleItemsOf hoa hda ?_);refine wB (wpAny_tupleItemsOf hob hdb ?_);refine wB ?_;have sz:(xs.size==ys.size)=true:=by
  rw [<-B2, <-B2,hia,hib];rfl
 refine wpAny_forIn_list _
  (λbt r s'=>r.1=none/\s'=s/\(bt=[(.ref c,.ref c'),(u,u')]\/(bt=[(u,u')]/\x.1=y.1)\/(bt=[]/\x.1=y.1/\x.2=y.2)))
  _ ?_ ?_ _ _ ⟨rfl,rfl,.inl (by rw [hia,hib];rfl)⟩
 · rintro q bt r s' ⟨hrr,rfl,e|⟨e,e1⟩|⟨e,_⟩⟩
   · cases e;refine wB (CM hr hu h1 h1' ?_)
     by_cases hkk:x.1=y.1
     · rw [decide_eq_true hkk];simp only [qG,zN,if_false];exact wP ⟨rfl,rfl,by simp [hkk]⟩
     · rw [decide_eq_false hkk];simp only [Gu,if_true];rw [decide_eq_false (λz=>hkk (congrArg Prod.fst z))]at h;exact wB (wP (wP (wP h)))
   · cases e;refine wB (knd.eqBool h2 h2' ?_)
     by_cases hkk:x.2=y.2
     · rw [decide_eq_true hkk];simp only [qG,zN,if_false];exact wP ⟨rfl,rfl,by simp [e1,hkk]⟩
     · rw [decide_eq_false hkk];simp only [Gu,if_true];rw [decide_eq_false (λz=>hkk (congrArg Prod.snd z))]at h;exact wB (wP (wP (wP h)))
   · cases e
 · rintro⟨r1,r2⟩ s' ⟨hrr,rfl,e|⟨e,_⟩|⟨_,e1,e2⟩⟩
   · cases e
   · cases e
   · simp only at hrr;subst hrr;refine wP ?_;show P (.done (.ret (.bool (xs.size==ys.size)))) s';rw [sz];rw [decide_eq_true (Prod.ext e1 e2)]at h;exact h
theorem Ih {x y:List (List K)×K}{a b:Addr}{Q:Bool->Shared->Prop}(hr:(tupleKind knd).room A.in1.in1)(hu:A.units+1 < cLine)(hx:IsTupM knd s.heap x a)(hy:IsTupM knd s.heap y b)(h:Q (decide (x=y)) s):
 wpAny (model prog w) A (eqBool (.ref a) (.ref b)) Q E s:=by
 unfold eqBool
 try with_reducible refine wpAny_holding ?_
 show wpAny _ _ (if(Value.ref a==Value.ref b)=true then _ else _) Q E s
 by_cases hab:(Value.ref a==Value.ref b)=true
 · rw [if_pos hab];have e:a=b:=by have:=eq_of_beq hab;injection this
   subst e;obtain rfl:=hx.inj hy;exact wB (wpAny_rule (wP (by simpa using h)))
 · rw [if_neg hab];refine wB (wpAny_richCompare_same_room (op:=.Eq) hx.typeIs hy.typeIs F.slot_tuple_eq (wpAny_call_entry F.slot_tuple_eq hx.typeIs F.entry_tuple_eq ?_ (F.args_tuple_eq_2 _ _)) (Nat.lt_of_succ_lt hu));exact GJ hr hu hx hy ⟨_,rfl,(λe=>nomatch e),wpAny_truthy_bool h⟩
theorem Aq {k:List (List K)×K}{a:Addr}{Q:Bool->Shared->Prop}(hk:IsTupM knd s.heap k a)(h:Q true s):wpAny (model prog w) A (eqIsQuiet 8 (.ref a)) Q E s:=by
 have hT:=hk.typeIs;obtain⟨o,items,m,b,v,ho,_,hd,hi,h1,h2⟩:=hk;unfold eqIsQuiet;refine wB (wpAny_specialOf hT F.slot_tuple_eq.lookup ?_);show wpAny _ _ (isInstance (.ref a) (.type "tuple") >>=_) _ _ s;refine wB (wpAny_isInstance hT isSubtype_tuple_tuple ?_);simp only [qG,zN,if_false];refine wB (wpAny_seqItems ho hd ?_);refine wB ?_;show wpAny _ _ (forIn items _ _) _ _ s;rw [<-Array.forIn_toList,hi];refine wpAny_forIn_list _ (λbt r s'=>r.1=none/\s'=s/\(bt=[.ref b,v]\/bt=[v]\/bt=[])) _ ?_ ?_ _ _ ⟨rfl,rfl,.inl rfl⟩
 · rintro x bt r s' ⟨hr,rfl,e|e|e⟩
   · cases e;refine wB (yi (n:=5) (knd:=knd) h1 ?_);simp only [qG,zN,if_false];exact wP ⟨rfl,rfl,by simp⟩
   · cases e;rw [eqIsQuiet_byValue _ (knd.byValue _ _ h2)];refine wB (wP ?_);simp only [qG,zN,if_false];exact wP ⟨rfl,rfl,by simp⟩
   · cases e
 · rintro⟨r1,r2⟩ s' ⟨hr,rfl,_⟩;simp only at hr;subst hr;exact wP h
noncomputable def jN(knd:KeyKind prog w K):HeapKind prog w (List (List K)×K) where
 is:=IsTupM knd
 hash:=GI knd
 draws:=Ap knd
 room:=λA=>A.units+2 < cLine
 inj:=λhx hy=>hx.inj hy
 keeps:=λx ho hd hs=>x.keeps ho hd hs
 pyHash:=λhu hk h=>DX (tupleKind_room_in1 (by show _+1+1 < _;omega)) (by omega) hk h
 eqBool:=λhu hx hy h=>Ih (tupleKind_room_in1 (by show _+1+1 < _;omega)) (by omega) hx hy h
 quiet:=λhk h=>Aq hk h
end
noncomputable abbrev Km:=List (List cK)×cK
noncomputable abbrev Em:=Km×Addr×V
noncomputable def uV:V->Value
 | .ref a=>.ref a
 | .bl b=>.bool b
 |_=>.none
noncomputable def yj:V->Bool
 | .ref _=>true
 | .bl _=>true
 | .non=>true
 |_=>false
theorem ML {v:V}{u:Value}(r:RelV v u)(s:yj v=true):u=uV v:=by
 cases v<;>first|exact r|cases s
theorem Kx {v:V}(s:yj v=true):RelV v (uV v):=by
 cases v<;>first|rfl|cases s
noncomputable def qX(xs:List Em):List (Km×Addr×Value):=xs.map λx=>(x.1,x.2.1,uV x.2.2)
noncomputable def eG(xs:List Em)(k:Km):Option (Addr×V):=(xs.find? λx=>decide (x.1=k)).map (·.2)
noncomputable def j0(xs:List Em)(k:Km)(b:Addr)(v:V):List Em:=if(eG xs k).isSome then xs.map λx=>if x.1=k then(x.1,x.2.1,v)else x else xs++[(k,b,v)]
theorem xP(xs:List Em)(k:Km):atKey (qX xs) k=(eG xs k).map λp=>(p.1,uV p.2):=by
 unfold atKey eG qX;rw [List.find?_map];cases h:xs.find? ((λx=>decide (x.1=k))∘ λx:Em=>(x.1,x.2.1,uV x.2.2))with
 |none=>
  rw [show (xs.find? λx=>decide (x.1=k))=none from h]
  rfl
 |some p=>
  rw [show (xs.find? λx=>decide (x.1=k))=some p from h]
  rfl
theorem Ii(xs:List Em)(k:Km)(b:Addr)(v:V):qX (j0 xs k b v)=storedH (qX xs) k b (uV v):=by
 unfold j0 storedH;rw [xP,Option.isSome_map];split
 · unfold qX;rw [zO,zO];apply List.map_congr_left
   intro x _;show _=putAt k (uV v) (x.1,x.2.1,uV x.2.2);unfold putAt
   by_cases h:x.1=k
   · simp only [Function.comp,if_pos h]
   · simp only [Function.comp,if_neg h]
 · unfold qX;rw [AD];rfl
theorem ym(xs:List Em):(qX xs).map (·.1)=xs.map (·.1):=by
 unfold qX;rw [zO];rfl
theorem Ij(xs:List Em)(k:Km)(b:Addr)(v:V):(j0 xs k b v).length<=xs.length+1:=by
 unfold j0;split
 · rw [zJ];omega
 · rw [zQ];exact Q2 _
def cr(P:Program)(w:World)(a:Addr)(xs:List Em):HO:=.ext λh=>∃(o:Obj) (es:Array DictEntry) (ep:Nat),h.get? a=some o/\o.ExactDict/\o.data=.dict es ep/\es.toList=(qX xs).map (entryOfKey (jN (bX P w)))/\(xs.map (·.1)).Nodup/\xs.length<=sizeLine/\(a==sysModules)=false
def KeyM(H:Hp)(b:Addr)(k:Km):Prop:=∃c,H b=some (.tup [.ref c,kV k.2])/\KeyAt H c k.1
def rE(H:Hp)(xs:List Em):Prop:=∀x∈xs,KeyM H x.2.1 x.1/\yj x.2.2=true
section
variable {P:Program} {w:World} {H:Hp} {h:Heap}
theorem sK {b:Addr}{k:Km}(ok:HOk P w H h)(e:KeyM H b k):(jN (bX P w)).is h k b:=by
 obtain⟨c,e1,e2⟩:=e;obtain⟨zz,its,r,⟨o,h1,h2,n,h3⟩,zz2⟩:=(show ObjOk P w H h b (.tup [.ref c,kV k.2])from ok b _ e1)
 cases r with
 |cons r1 r2=>
  cases r2 with
  | @cons _ v _ _ r2 r3=>
   cases r3;cases (show _=Value.ref c from r1)
   exact⟨o,_,n,c,v,h1,h2,h3,List.toList_toArray ..,Ig ok e2,y7 r2⟩
theorem Ky {a:Addr}{xs:List Em}{H':Hp}(hk:∀x∈qX xs,(jN (bX P w)).is h x.1 x.2.1)(d:h.DictOfH (jN (bX P w)) a (qX xs))(z:xs.length<=sizeLine)(m:(a==sysModules)=false):ObjOk P w H' h a (cr P w a xs):=by
 obtain⟨o,es,ep,h1,h2,h3,h4,_,h5⟩:=d;rw [ym]at h5;refine⟨⟨o,es,ep,h1,h2,h3,h4,h5,z,m⟩,⟨o,h1⟩,λg1 g2 p q=>?_⟩;obtain⟨o',es',ep',e1,r⟩:=p;exact⟨o',es',ep',q o' e1,r⟩
theorem As {a:Addr}{xs:List Em}(ok:HOk P w H h)(e:H a=some (cr P w a xs))(ks:rE H xs):h.DictOfH (jN (bX P w)) a (qX xs)/\xs.length<=sizeLine/\(a==sysModules)=false:=by
 obtain⟨⟨o,es,ep,h1,h2,h3,h4,h5,z,m⟩,_⟩:=(show ObjOk P w H h a (cr P w a xs)from ok a _ e)
 refine⟨⟨o,es,ep,h1,h2,h3,h4,λx hx=>?_,by rw [ym];exact h5⟩,z,m⟩
 obtain⟨y,hy,rfl⟩:=Qd.mp hx;exact sK ok (ks y hy).1
end
section
variable {X:Cx} {pins:List (Addr×Obj)} {σ:St} {H:Hp} {s:Shared} {a b:Addr} {xs:List Em} {k:Km} {A:Around} {E:Value->Shared->Prop}
theorem MM {p:Addr×V}{Q:Value->Shared->Prop}(hu:A.units+3 < cLine)(I:Inv X pins σ H s)(e:H a=some (cr X.prog X.w a xs))(ks:rE H xs)(kb:KeyM H b k)(hp:eG xs k=some p)(h:∀s',Inv X pins σ H s'->Q (uV p.2) s'):
 wpAny (model X.prog X.w) A (getItem (.ref a) (.ref b)) Q E s:=by
 obtain⟨d,z,m⟩:=As I.hok e ks;exact wpAny_getItem_heap (knd:=jN (bX X.prog X.w)) (show A.units+1+2 < cLine by omega) (sK I.hok kb) d (p:=(p.1,uV p.2)) (by rw [xP,hp];rfl) (h _ (I.tok _))
theorem Ik {Q:Value->Shared->Prop}(hu:A.units+3 < cLine)(I:Inv X pins σ H s)(e:H a=some (cr X.prog X.w a xs))(ks:rE H xs)(kb:KeyM H b k)(h:∀s',Inv X pins σ H s'->Q (.bool (!(eG xs k).isSome)) s'):
 wpAny (model X.prog X.w) A (compareOp .NotIn (.ref b) (.ref a)) Q E s:=by
 obtain⟨d,z,m⟩:=As I.hok e ks;refine PyProof.Rows.wpAny_notIn_heap (knd:=jN (bX X.prog X.w)) (show A.units+1+2 < cLine by omega) (sK I.hok kb) m d ?_
 rw [xP,Option.isSome_map];exact h _ (I.tok _)
theorem MN {v:V}{r:Value}{Q:Unit->Shared->Prop}(hu:A.units+3 < cLine)(I:Inv X pins σ H s)(e:H a=some (cr X.prog X.w a xs))(ks:rE H xs)(kb:KeyM H b k)(hl:xs.length < sizeLine)(rv:RelV v r)(sv:yj v=true)(h:∀s',Inv X pins σ (bH H a (cr X.prog X.w a (j0 xs k b v))) s'->Q () s'):
 wpAny (model X.prog X.w) A (setItem (.ref a) (.ref b) r) Q E s:=by
 obtain⟨d,z,m⟩:=As I.hok e ks;obtain rfl:=ML rv sv;refine wpAny_setItem_heap (knd:=jN (bX X.prog X.w)) (show A.units+1+2 < cLine by omega) (sK I.hok kb) d (λh' d' hs=>h _ ?_) (by unfold qX;rw [zJ];exact z)
 rw [<-Ii]at d';have all:=d';obtain⟨q,es,ep,hq,_,_,_,hk,_⟩:=d';exact sG I (by rw [e];exact True.intro) hs ⟨q,hq⟩ (Ky hk all (by have:=Ij xs k b v;omega) m)
end
def GK(P:Program)(w:World):TE:=λ_ H Q=>∀p,H p=none->Q (.ref p) (bH H p (cr P w p []))
def xQ(P:Program)(w:World)(ty td:TE):TE:=λσ H Q=>ty σ H λy H1=>td σ H1 λx H2=>∃a b xs k,x=.ref a/\y=.ref b/\H2 a=some (cr P w a xs)/\rE H2 xs/\KeyM H2 b k/\Q (.bl (!(eG xs k).isSome)) H2
def rF(P:Program)(w:World)(td ty:TE):TE:=λσ H Q=>td σ H λx H1=>ty σ H1 λy H2=>∃a b xs k c v,x=.ref a/\y=.ref b/\H2 a=some (cr P w a xs)/\rE H2 xs/\KeyM H2 b k/\eG xs k=some (c,v)/\yj v=true/\Q v H2
def CN(P:Program)(w:World)(td ty tv:TE):TS:=λD σ H=>tv σ H λv H1=>td σ H1 λx H2=>ty σ H2 λy H3=>∃a b xs k,x=.ref a/\y=.ref b/\yj v=true/\H3 a=some (cr P w a xs)/\rE H3 xs/\KeyM H3 b k/\xs.length < sizeLine/\
 D.nx σ (bH H3 a (cr P w a (j0 xs k b v)))
section
variable {X:Cx} {o i e value:Expr} {pos pos' tpos:Pos} {td ty tv:TE}
theorem CO:PE X (.Dict [] [] pos) (GK X.prog X.w):=λpins s σ H Q I h=>by
 refine wpAny_Dict_empty ⟨.ref s.heap.objs.size,_,I.laid (a:=s.heap.objs.size) (o:=cr X.prog X.w s.heap.objs.size []) (t':=s.toks) (λ_ _ q=>iM _ q) (Q2 _) ⟨⟨_, #[],0,kf _ rfl,⟨rfl,rfl,rfl⟩,rfl,rfl,List.nodup_nil,zU _,beq_eq_false_iff_ne.mpr (Ne.symm (nA I.big))⟩,⟨_,kf _ rfl⟩,λg1 g2 p q=>?_⟩,rfl,h _ (I.hok.fresh (Q2 _))⟩;obtain⟨o',es',ep',e1,r⟩:=p;exact⟨o',es',ep',q o' e1,r⟩
theorem wC(hu:X.A.units+3 < cLine)(hi:PE X i ty)(ho:PE X o td):PC X .NotIn i o (xQ X.prog X.w ty td):=by
 intro pins s σ H Q I h;refine cU (hi pins s σ H _ I h) λiv s1 q_=>?_;obtain⟨y,H1,I1,ry,q1⟩:=q_;refine cU (ho pins s1 σ H1 _ I1 q1) λu s2 q_=>?_;obtain⟨x,H2,I2,rx,a,b,xs,k,rfl,rfl,e1,e2,e3,q2⟩:=q_;obtain rfl:u=Value.ref a:=rx;obtain rfl:iv=Value.ref b:=ry;exact Ik hu I2 e1 e2 e3 λs3 I3=>⟨.bl _,H2,I3,rfl,q2⟩
theorem CQ(hu:X.A.units+3 < cLine)(ho:PE X o td)(hi:PE X i ty)(hs:IN i):PE X (.Subscript o i pos) (rF X.prog X.w td ty):=by
 intro pins s σ H Q I h;refine CB PySem.F.slot_dict_getitem.lookup hs (cU (ho pins s σ H _ I h) λu s1 q_=>?_);obtain⟨x,H1,I1,rx,q1⟩:=q_;refine cU (hi pins s1 σ H1 _ I1 q1) λiv s2 q_=>?_;obtain⟨y,H2,I2,ry,a,b,xs,k,c,v,rfl,rfl,e1,e2,e3,e4,e5,q2⟩:=q_;obtain rfl:u=Value.ref a:=rx;obtain rfl:iv=Value.ref b:=ry;obtain⟨⟨o1,es,ep,h1,h2,_⟩,_⟩:=(show ObjOk X.prog X.w H2 s2.heap a (cr X.prog X.w a xs)from I2.hok a _ e1)
 exact⟨⟨o1,h1,h2.1⟩,MM hu I2 e1 e2 e3 e4 λs3 I3=>⟨v,H2,I3,Kx e5,q2⟩⟩
theorem xR(hu:X.A.units+3 < cLine)(ho:PE X o td)(hi:PE X i ty)(hv:PE X value tv)(hs:swapsWith value (some (.Subscript o i pos')) pos.line X.env=pure false:=by rfl):
 PS X (.Assign [.Subscript o i pos'] value pos) (CN X.prog X.w td ty tv):=by
 intro pins s σ H D I h;refine wpAny_Assign_Subscript (cU (hv pins s σ H _ I h) λr s1 q_=>?_) hs;obtain⟨v,H1,I1,rv,q1⟩:=q_;refine cU (ho pins s1 σ H1 _ I1 q1) λu s2 q_=>?_;obtain⟨x,H2,I2,rx,q2⟩:=q_;refine cU (hi pins s2 σ H2 _ I2 q2) λiv s3 q_=>?_;obtain⟨y,H3,I3,ry,a,b,xs,k,rfl,rfl,e0,e1,e2,e3,e4,q3⟩:=q_;obtain rfl:u=Value.ref a:=rx;obtain rfl:iv=Value.ref b:=ry;exact MN hu I3 e1 e2 e3 e4 rv e0 λs4 I4=>⟨σ,_,I4,q3⟩
end
end L2
namespace DL
open PySem L2
noncomputable def fC(k:List (List Int)×Int):Km:=(k2 k.1,Sum.inl k.2)
theorem tf {a b:List (List Int)×Int}(h:fC a=fC b):a=b:=by
 unfold fC at h;injection h with h1 h2
 injection h2 with h2
 exact Prod.ext (Kw h1) h2
noncomputable def GL:PyData->Option (List (List Int)×Int)
 | .tuple [.tuple ds,.int n]=>(nY ds).map λk=>(k,n)
 |_=>none
noncomputable def yo:PyData->Bool
 | .none=>true
 | .bool _=>true
 | .tuple _=>true
 |_=>false
theorem Il {P:Program}{w:World}{a:Addr}{xs:List Em}(ys:List V):cr P w a xs≠ .tup ys:=λh=>by unfold cr at h;cases h
theorem Im {P:Program}{w:World}{a:Addr}{xs:List Em}{ys:List V}(h:some (cr P w a xs)=some (.lst ys)):False:=by unfold cr at h;cases h
theorem xS {P:Program}{w:World}{a C dx:Addr}{xs:List Em}{fs:List (Str×V)}(h:some (cr P w a xs)=some (.ins C dx fs)):False:=by unfold cr at h;cases h
section
variable {K:Fg} {P:Program} {w:World} {H0 F0 F F':Hp} {σ:St} {H H':Hp} {δ:aQ}
theorem Kz {a:Addr}{xs:List Em}{o:HO}{kvs:List (PyData×PyData)}(h:some (cr P w a xs)=some o)(q:DcO K F o kvs):False:=by
 cases h;unfold cr at q
 rcases q with ⟨_,e,_⟩|⟨_,e,_⟩<;>cases e
theorem CS {d:PyData}{k:List (List Int)×Int}{v:V}(e:GL d=some k)(h:Is K F v d):∃b,v=.ref b/\KeyM F b (fC k):=by
 unfold GL at e;split at e
 · rename_i ds n;obtain⟨k1,e1,rfl⟩:=Q0.mp e;obtain⟨a,xs,rfl,h1,x,r,rfl,ix,y,r2,rfl,iy,ir⟩:=h;cases (show r2=[]from ir)
   cases (show y=V.int n from iy)
   obtain⟨c,ys,rfl,h2,h3⟩:=ix;exact⟨a,rfl,c,h1,GF e1 h2 h3⟩
 · cases e
theorem KeyM.same {b:Addr}{k:Km}(h:KeyM F b k)(s:Same F F'):KeyM F' b k:=by
 obtain⟨c,h1,h2⟩:=h;exact⟨c,s _ _ h1,KeyAt.same h2 s⟩
theorem xT {v:V}{d:PyData}(h:Is K F v d)(s:yo d=true):yj v=true:=by
 cases d with
 |none=>rw [show v=.non from h];rfl
 |bool b=>rw [show v=.bl b from h];rfl
 |tuple ds=>obtain⟨a,xs,rfl,_⟩:=h;rfl
 |int _=>cases s
 |str _=>cases s
 |list _=>cases s
 |dict _=>cases s
structure Mv (K:Fg) (W:List (List Int)×Int->PyData->Prop) (F:Hp) (xs:List Em):Prop where
 nd:(xs.map (·.1)).Nodup
 all:∀x∈xs,∃k v,x.1=fC k/\KeyM F x.2.1 x.1/\Is K F x.2.2 v/\yo v=true/\W k v
variable {W:List (List Int)×Int->PyData->Prop} {xs:List Em}
theorem Mv.nil:Mv K W F []:=⟨List.nodup_nil,λx hx=>nomatch hx⟩
theorem Mv.same(m:Mv K W F xs)(s:Same F F'):Mv K W F' xs:=⟨m.nd,λx hx=>by
 obtain⟨k,v,h1,h2,h3,h4,h5⟩:=m.all x hx;exact⟨k,v,h1,KeyM.same h2 s,h3.same s,h4,h5⟩⟩
theorem Mv.imp {W':List (List Int)×Int->PyData->Prop}(m:Mv K W F xs)(h:∀k v,W k v->W' k v):Mv K W' F xs:=⟨m.nd,λx hx=>by
 obtain⟨k,v,h1,h2,h3,h4,h5⟩:=m.all x hx;exact⟨k,v,h1,h2,h3,h4,h k v h5⟩⟩
theorem Mv.keys(m:Mv K W F xs)(s:Same F H):rE H xs:=λx hx=>by
 obtain⟨k,v,h1,h2,h3,h4,h5⟩:=m.all x hx;exact⟨KeyM.same h2 s,xT h3 h4⟩
theorem tj {k:Km}{c:Addr}{v:V}(e:eG xs k=some (c,v)):(k,c,v)∈xs:=by
 unfold eG at e;obtain⟨x,h1,h2⟩:=Q0.mp e;have:=of_decide_eq_true (List.find?_some (p:=λx:Em=>decide (x.1=k)) h1);have h3:=zR h1;obtain⟨a,b⟩:=x;cases h2;cases this;exact h3
theorem Mv.look(m:Mv K W F xs){k:List (List Int)×Int}{c:Addr}{v:V}(e:eG xs (fC k)=some (c,v)):∃d,W k d/\Is K F v d/\yj v=true:=by
 obtain⟨k',d,h1,h2,h3,h4,h5⟩:=m.all _ (tj e);cases tf h1;exact⟨d,h5,h3,xT h3 h4⟩
theorem qY {k:Km}(e:eG xs k=none):k ∉ xs.map (·.1):=λh=>by
 obtain⟨x,hx,rfl⟩:=Qd.mp h;unfold eG at e;rw [Option.map_eq_none_iff,List.find?_eq_none]at e;exact e x hx (decide_eq_true rfl)
theorem CT {k:Km}{b:Addr}{v:V}(n:(xs.map (·.1)).Nodup):((j0 xs k b v).map (·.1)).Nodup:=by
 unfold j0;split
 · rw [zO];have:xs.map ((λx:Em=>x.1)∘ λx=>if x.1=k then(x.1,x.2.1,v)else x)=xs.map (·.1):=List.map_congr_left λx _=>by
    show (if x.1=k then(x.1,x.2.1,v)else x).1=x.1;split<;>rfl
   rw [this];exact n
 · rename_i h;have hn:eG xs k=none:=by
    cases z:eG xs k with
    |none=>rfl
    |some _=>rw [z]at h;exact absurd rfl h
   rw [AD,List.nodup_append];refine⟨n,by simp,λx hx y hy=>?_⟩
   rw [show y=k by simpa using hy]
   exact λe=>qY hn (e▸hx)
theorem tq {k:Km}{b:Addr}{v:V}{x:Em}(h:x∈j0 xs k b v):(x∈xs/\x.1≠k)\/(x.1=k/\x.2.2=v/\(x.2.1=b\/∃y∈xs,y.1=k/\y.2.1=x.2.1)):=by
 unfold j0 at h;split at h
 · obtain⟨y,hy,e⟩:=Qd.mp h
   by_cases z:y.1=k
   · rw [if_pos z]at e;subst e;exact .inr ⟨z,rfl,.inr ⟨y,hy,z,rfl⟩⟩
   · rw [if_neg z]at e;subst e;exact .inl ⟨hy,z⟩
 · rename_i hg;have hn:eG xs k=none:=by
    cases z:eG xs k with
    |none=>rfl
    |some _=>rw [z]at hg;exact absurd rfl hg
   rcases Du.mp h with h|h
   · exact .inl ⟨h,λz=>qY hn (Qd.mpr ⟨x,h,z⟩)⟩
   · rw [Q9.mp h];exact .inr ⟨rfl,rfl,.inl rfl⟩
theorem tu {k:Km}{b:Addr}{v:V}:∃c,eG (j0 xs k b v) k=some (c,v):=by
 cases h:eG (j0 xs k b v) k with
 |none=>
  refine absurd ?_ (qY h);unfold j0;split
  · rename_i z;obtain⟨⟨c,u⟩,hc⟩:=L4.mp z;have hm:=tj hc;rw [zO];exact Qd.mpr ⟨_,hm,by show (if k=k then(k,c,v)else _).1=k;rw [if_pos rfl]⟩
  · rw [AD];exact C4 _ (by simp)
 |some p=>
  obtain⟨c,u⟩:=p
  rcases tq (tj h)with ⟨_,z⟩|⟨_,z,_⟩
  · exact absurd rfl z
  · exact⟨c,by rw [show u=v from z]⟩
theorem Mv.put {k:List (List Int)×Int}{b:Addr}{v:V}{d:PyData}(m:Mv K W F xs)(kb:KeyM F b (fC k))(iv:Is K F v d)(sd:yo d=true)(hw:W k d):Mv K W F (j0 xs (fC k) b v):=
 ⟨CT m.nd, λ x hx => by
  rcases tq hx with ⟨h,_⟩|⟨e1,e2,e3⟩
  · exact m.all x h
  · refine⟨k,d,e1,?_,by rw [e2];exact iv,sd,hw⟩
    rcases e3 with e3|⟨y,hy,y1,y2⟩
    · rw [e1,e3];exact kb
    · obtain⟨_,_,_,q,_⟩:=m.all y hy;rw [e1, <-y2, <-y1];exact q⟩
theorem Grow.memU {d:Addr}{xs:List Em}(s:Same F H)(n:F d=none)(hd:H d=some (cr P w d xs)):Grow F (bH H d (cr P w d xs)) F H:=
 ⟨Same.refl _, s, λ b u e => by
  by_cases hb:b=d
  · subst hb;rw [aT]at e;rw [hd];exact e
  · rw [aN hb]at e;exact e,λ_ _ _ _ z=>z⟩
theorem Grow.at_ {d:Addr}{xs:List Em}(g:Grow F (bH H d (cr P w d xs)) F' H'):H' d=some (cr P w d xs):=g.h _ _ aT
theorem Grow.no_ {d:Addr}{xs:List Em}(g:Grow F (bH H d (cr P w d xs)) F' H')(n:F d=none):F' d=none:=g.o _ _ aT (λys=>Il ys) n
theorem Grow.ne_ {d a:Addr}{o:HO}{xs:List Em}(g:Grow F (bH H d (cr P w d xs)) F' H')(n:a≠d)(e:H a=some o):H' a=some o:=g.h _ _ (by rw [aN n];exact e)
theorem Grow.memT {d:Addr}{xs xs':List Em}{F1 H1:Hp}(g:Grow F (bH H d (cr P w d xs)) F1 H1)(g':Grow F1 (bH H1 d (cr P w d xs')) F' H'):Grow F (bH H d (cr P w d xs')) F' H':=
 ⟨g.f.trans g'.f, g'.s, λ b u e => by
  by_cases hb:b=d
  · subst hb;rw [aT]at e;rw [<-e];exact g'.at_
  · rw [aN hb]at e;exact g'.ne_ hb (g.ne_ hb e),λb u e t n=>by
  by_cases hb:b=d
  · subst hb;exact g'.no_ (g.no_ n)
  · rw [aN hb]at e;exact g'.o b u (by rw [aN hb];exact g.ne_ hb e) t (g.o b u (by rw [aN hb];exact e) t n)⟩
theorem Rep.memU {d:Addr}{xs xs':List Em}(R:Rep K (bH H0 d (cr P w d xs)) F0 F σ H δ)(g:Grow F (bH H d (cr P w d xs')) F' H'):Rep K (bH H0 d (cr P w d xs')) F0 F' σ H' δ where
 g:=R.g.memT g
 len:=R.len
 fz:=λi e q=>let ⟨v,h1,h2⟩:=R.fz i e q;⟨v,h1,h2.same g.f⟩
 ow:=λi ds q=>by
  obtain⟨a,ys,h1,h2,h3,h4,h5⟩:=R.ow i ds q;have na:a≠d:=λz=>by rw [z,R.g.at_]at h2;exact Im h2
  exact⟨a,ys,h1,g.ne_ na h2,g.o a (.lst ys) (by rw [aN na];exact h2) (λ_ z=>nomatch z) h3,by rw [aN na]at h4 ⊢;exact h4,h5.same g.f⟩
 ap:=R.ap
 od:=λi ds q=>by
  obtain⟨a,o,h1,h2,h3,h4,h5⟩:=R.od i ds q;have na:a≠d:=λz=>by rw [z,R.g.at_]at h2;exact Kz h2 h5
  exact⟨a,o,h1,g.ne_ na h2,g.o a _ (by rw [aN na];exact h2) h5.ntup h3,by rw [aN na]at h4 ⊢;exact h4,h5.same g.f⟩
 ad:=R.ad
 tb:=R.tb.same g.f
theorem Grow.memPut {d:Addr}{xs xs':List Em}(s:Same F H)(n:F d=none)(hd:H d=some (cr P w d xs)):Grow F (bH H d (cr P w d xs')) F (bH H d (cr P w d xs')):=
 Grow.refl λb u e=>by rw [aN (λz=>by rw [z,n]at e;cases e)];exact s b u e
theorem Rep.zero {d:Addr}{xs:List Em}(s:lH K F H)(n:F d=none)(hd:H d=some (cr P w d xs)):Rep K (bH H d (cr P w d xs)) F F σ H (List.replicate σ.length none):=by
 have no:∀{j:Nat} {z:Sl},(List.replicate σ.length (none:Option Sl))[j]? =some (some z)->False:=λ{j z} e=>by
  have:=JM e;have:=(List.mem_replicate.mp this).2;cases this
 exact⟨Grow.memU s.1 n hd,by rw [Gr],λ_ _ e=>(no e).elim,λ_ _ e=>(no e).elim,λ_ _ _ _ _ e=>(no e).elim,λ_ _ e=>(no e).elim,λ_ _ _ _ _ e=>(no e).elim,s.2⟩
theorem Rep.know {i:Nat}{v:V}{d:PyData}(R:Rep K H0 F0 F σ H δ)(hs:σ[i]? =some (some v))(h:Is K F v d):Rep K H0 F0 F σ H (δ.set i (some (.fz d))):=by
 have:=R.set (i:=i) h;have e:σ.set i (some v)=σ:=by
  have hi:=eW hs;rw [<-(Dx.mp hs).2];exact List.set_getElem_self hi
 rw [e]at this;exact this
def Self(K:Fg)(C:Addr)(cd:PyData)(F H:Hp)(p d:Addr):Prop:=∃dx l,H p=some (.ins C dx [("codes",.ref l),("found",.ref d)])/\Is K F (.ref l) cd
theorem Self.grow {C p d:Addr}{cd:PyData}{xs:List Em}(s:Self K C cd F H p d)(hd:∃xs,H d=some (cr P w d xs))(g:Grow F (bH H d (cr P w d xs)) F' H'):Self K C cd F' H' p d:=by
 obtain⟨dx,l,h1,h2⟩:=s;obtain⟨ys,hd⟩:=hd;have np:p≠d:=λz=>by rw [z,hd]at h1;exact xS h1
 exact⟨dx,l,g.ne_ np h1,h2.same g.f⟩
theorem Self.pure {C p d:Addr}{cd:PyData}(s:Self K C cd F H p d)(g:Grow F H F' H'):Self K C cd F' H' p d:=by
 obtain⟨dx,l,h1,h2⟩:=s;exact⟨dx,l,g.h _ _ h1,h2.same g.f⟩
def ux(K:Fg)(P:Program)(w:World)(C:Addr)(cd:PyData)(W:List (List Int)×Int->PyData->Prop)(na:Nat)(dom:List PyData->PyData->Prop):Sp:=λvs H Q _=>∃F p d xs args ds r,vs=.ref p::args/\args.length=na/\lH K F H/\Self K C cd F H p d/\H d=some (cr P w d xs)/\F d=none/\Mv K W F xs/\Are K F args ds/\dom ds r/\
 ∀v H' F' xs',Grow F (bH H d (cr P w d xs')) F' H'->Mv K W F' xs'->Is K F' v r->Q v H'
theorem Are.of_len {xs:List V}{ds:List PyData}{n:Nat}(h:Are K F xs ds)(e:ds.length=n):xs.length=n:=by rw [h.length,e]
theorem iZ {i:Nat}{C p d:Addr}{cd:PyData}{W:List (List Int)×Int->PyData->Prop}{na:Nat}{dom:List PyData->PyData->Prop}{m:Str}{E:XK}{t:TA}{f:aQ->Option (List PyData)}{ds:List PyData}{r:PyData}{Q:VK}
 (R:Rep K (bH H0 d (cr P w d xs)) F0 F σ H δ) (n0:F0 d=none) (M:Mv K W F xs) (hs:σ[i]? =some (some (.ref p))) (S:Self K C cd F H p d) (hm1:("codes":Str)≠m) (hm2:("found":Str)≠m) (ha:SA K t f) (e:f δ=some ds) (hl:ds.length=na) (hd:dom ds r)
 (q:∀v H' F' xs',Rep K (bH H0 d (cr P w d xs')) F0 F' σ H' δ->Mv K W F' xs'->Self K C cd F' H' p d->Same F F'->Is K F' v r->Q v H'):qv C m (ux K P w C cd W na dom) [] E (au i) t σ H Q:=by
 obtain⟨dx,l,h1,h2⟩:=id S;have lk:List.lookup m ([("codes",V.ref l),("found",V.ref d)]:List (Str×V))=none:=by
  rw [um,um];have a1:(m==("codes":Str))=false:=by simpa using λz=>hm1 z.symm
  have a2:(m==("found":Str))=false:=by simpa using λz=>hm2 z.symm
  rw [a1,a2];rfl
 refine⟨.ref p,hs,p,dx,_,rfl,h1,lk,ha _ F0 F σ H δ ds _ R e λvs H1 F1 g1 ar=>?_⟩;have R1:=R.grow g1;refine⟨F1,p,d,xs,vs,ds,r,by rw [Q4],ar.of_len hl,⟨g1.s,R1.tb⟩,S.pure g1,R1.g.at_,R1.g.no_ n0,M.same g1.f,ar,hd,λv H' F' xs' g' M' i'=>?_⟩
 exact q v H' F' xs' (R1.memU g') M' ((S.pure g1).grow ⟨xs,R1.g.at_⟩ g') (g1.f.trans g'.f) i'
end
noncomputable abbrev Cs:=List (List Int)
noncomputable def av(cs:Cs):PyData:=.list (cs.map aJ)
noncomputable def bD(fit:Cs)(g k:List Int):Cs:=fit.filter λx=>decide (GC.iG x g=k)
noncomputable def dH(g:List Int)(m:Cl)(cs:Cs):Cl:=cs.foldl (λm x=>cF m (GC.iG x g) (aJ x)) m
noncomputable def dw(fit:Cs)(g:List Int):Cs:=mZ ((dH g [] fit).map (·.1))
noncomputable def mD:PyData->Bool
 | .none=>true
 |_=>false
noncomputable def cz(pw:Cs->PyData)(fit:Cs)(g:List Int):PyData:=if(dw fit g).all (λk=> !mD (pw (bD fit g k)))=true then .tuple [aJ g,.tuple ((dw fit g).map λk=>.tuple [aJ k,pw (bD fit g k)])]else .none
noncomputable def d5(pw:Cs->PyData)(fit:Cs):Cs->PyData
 |[]=>.none
 |g::r=>if mD (cz pw fit g)=true then d5 pw fit r else cz pw fit g
noncomputable def ag(cs:Cs):Nat->Cs->PyData
 |0,fit=>if fit.length=1 then aJ (fit.headD [])else .none
 |m+1,fit=>if fit.length=1 then aJ (fit.headD [])else if mD (ag cs m fit)=true then d5 (ag cs m) fit cs else ag cs m fit
noncomputable def gP(cs:Cs)(m:Nat)(fit:Cs):PyData:=if mD (ag cs m fit)=true then d5 (ag cs m) fit cs else ag cs m fit
theorem qZ(cs:Cs){fit:Cs}(h:fit.length=1):∀m,ag cs m fit=aJ (fit.headD [])
 |0=>if_pos h
 |m+1=>if_pos h
theorem tw(cs:Cs){fit:Cs}(h:fit.length≠1):ag cs 0 fit=.none:=if_neg h
theorem iu(cs:Cs){fit:Cs}(h:fit.length≠1)(m:Nat):ag cs (m+1) fit=gP cs m fit:=if_neg h
theorem At(pw:Cs->PyData)(fit:Cs)(g:List Int):yo (cz pw fit g)=true:=by
 unfold cz;split<;>rfl
theorem nZ(pw:Cs->PyData)(fit:Cs):∀gs,yo (d5 pw fit gs)=true
 |[]=>rfl
 |g::r=>by
  unfold d5;split
  · exact nZ pw fit r
  · exact At pw fit g
theorem wD(cs:Cs):∀m fit,yo (ag cs m fit)=true
 |0,fit=>by
  unfold ag;split<;>rfl
 |m+1,fit=>by
  unfold ag;split
  · rfl
  · split
    · exact nZ _ _ _
    · exact wD cs m fit
theorem rG(cs:Cs)(m:Nat)(fit:Cs):yo (gP cs m fit)=true:=by
 unfold gP;split
 · exact nZ _ _ _
 · exact wD cs m fit
theorem ol(fit:Cs)(g k:List Int):(bD fit g k).Sublist fit:=List.filter_sublist
noncomputable def DY {α:Type}:List α->List (List α)
 |[]=>[[]]
 |x::r=>DY r++(DY r).map (x:: ·)
theorem yp {α:Type}:∀l:List α,(DY l).length=2 ^ l.length
 |[]=>rfl
 |x::r=>by
  rw [DY,zQ,zJ,yp r,zC,Nat.pow_succ];omega
theorem GM {α:Type}{l:List α}{s:List α}(h:s.Sublist l):s∈DY l:=by
 induction h with
 |slnil=>exact Q9.mpr rfl
 |cons a _ ih=>exact List.mem_append_left _ ih
 |cons_cons a _ ih=>exact C4 _ (zP ih)
theorem Au {α:Type}[DecidableEq α]:∀{l L:List α},l.Nodup->(∀x∈l,x∈L)->l.length<=L.length
 |[],_,_,_=>zU _
 |x::r,L,nd,h=>by
  obtain⟨h1,h2⟩:=uk.mp nd;have hx:=h x j5;have:=Au (l:=r) (L:=L.erase x) h2 λy hy=>(List.mem_erase_of_ne (λz:y=x=>h1 (by rw [<-z];exact hy))).mpr (h y (j4 _ hy))
  rw [List.length_erase_of_mem hx]at this;have:=List.length_pos_of_mem hx;rw [zC];omega
noncomputable def Io(cs:Cs):List Km:=(List.range 17).flatMap λm:Nat=>(DY cs).map λs=>fC (s,(m:Int))
theorem GN {cs:Cs}(h:cs.length<=16):(Io cs).length < sizeLine:=by
 have e:(Io cs).length=17*2 ^ cs.length:=by
  unfold Io;rw [List.length_flatMap];simp only [zJ,yp,List.map_const',List.sum_replicate_nat,List.length_range]
 have:2 ^ cs.length<=2 ^ 16:=Nat.pow_le_pow_right (by decide) h
 rw [e];show _ < 2 ^ 24;omega
section
variable {K:Fg} {F:Hp} {W:List (List Int)×Int->PyData->Prop} {xs:List Em}
theorem Av {cs:Cs}(hc:cs.length<=16)(M:Mv K W F xs)(hW:∀k v,W k v->k.1.Sublist cs/\∃m:Nat,k.2=(m:Int)/\m<=16):xs.length < sizeLine:=by
 have:=Au (L:=Io cs) M.nd λk hk=>by
  obtain⟨x,hx,rfl⟩:=Qd.mp hk;obtain⟨k,v,e,_,_,_,h⟩:=M.all x hx;obtain⟨h1,m,h2,h3⟩:=hW k v h;rw [e];refine List.mem_flatMap.mpr ⟨m,List.mem_range.mpr (by omega),Qd.mpr ⟨k.1,GM h1,?_⟩⟩
  rw [<-h2]
 rw [zJ]at this;exact Nat.lt_of_le_of_lt this (GN hc)
end
def WPl(cs:Cs)(k:List (List Int)×Int)(d:PyData):Prop:=∃m:Nat,k.2=(m:Int)/\m<=16/\k.1.Sublist cs/\d=ag cs m k.1
theorem WPl.dom {cs:Cs}(k:List (List Int)×Int)(d:PyData)(h:WPl cs k d):k.1.Sublist cs/\∃m:Nat,k.2=(m:Int)/\m<=16:=by
 obtain⟨m,h1,h2,h3,_⟩:=h;exact⟨h3,m,h1,h2⟩
def uy(cs:Cs)(n:Nat)(ds:List PyData)(r:PyData):Prop:=∃(fit:Cs) (m:Nat),ds=[av fit,.int (m:Int)]/\fit.Sublist cs/\fit≠[]/\m<=n/\r=ag cs m fit
def Ip(cs:Cs)(n:Nat)(ds:List PyData)(r:PyData):Prop:=∃(fit:Cs) (m:Nat),ds=[av fit,.int ((m+1:Nat):Int)]/\fit.Sublist cs/\fit≠[]/\m+1<=n/\r=gP cs m fit
def Iq(cs:Cs)(n:Nat)(ds:List PyData)(r:PyData):Prop:=∃(fit:Cs) (g:List Int) (m:Nat),ds=[av fit,aJ g,.int ((m+1:Nat):Int)]/\fit.Sublist cs/\fit≠[]/\g∈cs/\m+1<=n/\r=cz (ag cs m) fit g
theorem uA:∀fit:Cs,nY (fit.map aJ)=some fit
 |[]=>rfl
 |x::r=>by
  show (jH (aJ x)).bind (λk=>(nY (r.map aJ)).map (k:: ·))=_
  rw [uA r,show jH (aJ x)=some x from bZ x]
  rfl
theorem wE(fit:Cs)(m:Int):GL (.tuple [.tuple (fit.map aJ),.int m])=some (fit,m):=by
 show (nY (fit.map aJ)).map _=_;rw [uA];rfl
section
variable {K:Fg} {P:Program} {w:World} {C:Addr} {cs:Cs} {n:Nat} {E:XK}
structure PlC (K:Fg) (C:Addr):Prop where
 cl:Cls K C
 nC:NoAttr K C "codes"
 nF:NoAttr K C "found"
theorem mE {T:PlC K C}{H:Hp}{σ:St}{p d dx l:Addr}{Q:VK}(hs:σ[0]? =some (some (.ref p)))(h:H p=some (.ins C dx [("codes",.ref l),("found",.ref d)]))(q:Q (.ref d) H):uo K (au 0) "found" σ H Q:=
 ⟨.ref p,hs,p,C,dx,_,.ref d,rfl,h,T.cl,T.nF,rfl,q⟩
theorem DZ {T:PlC K C}{H:Hp}{σ:St}{p d dx l:Addr}{Q:VK}(hs:σ[0]? =some (some (.ref p)))(h:H p=some (.ins C dx [("codes",.ref l),("found",.ref d)]))(q:Q (.ref l) H):uo K (au 0) "codes" σ H Q:=
 ⟨.ref p,hs,p,C,dx,_,.ref l,rfl,h,T.cl,T.nC,rfl,q⟩
noncomputable def δ2(fit:Cs)(m:Nat):aQ:=[none,some (.fz (av fit)),some (.fz (.int (m:Int))),none]
theorem MO(T:PlC K C)(hc:cs.length<=16)(hn:n<=16){t1 t2:TT}{te1 tk:TE}{f1 f2:aQ->Option Bool}{g1 gk:aQ->Option PyData}(h1:ST K t1 f1)(h2:SE K te1 g1)(h3:ST K t2 f2)(h4:SE K tk gk)
 (e1:∀fit m,f1 (δ2 fit m)=some (decide (fit.length=1))) (e2:∀fit m,fit.length=1->g1 (δ2 fit m)=some (aJ (fit.headD []))) (e3:∀fit m,f2 (δ2 fit m)=some (decide (m=0))) (e4:∀fit m,fit.length<=16->gk (δ2 fit m)=some (.tuple [.tuple (fit.map aJ),.int (m:Int)]))
 {vs:List V} {H:Hp} {Q:VK} {E':XK} {D:Ends} (hD:D.rt=Q) (h:ux K P w C (av cs) (WPl cs) 2 (uy cs n) vs H Q E'):
 eF (nG t1 (ju te1) ib) (eF (nG t2 (ju (tC .non)) ib) (eF (hV tk (cE 3)) (eF (nG (tB (xQ P w (au 3) (uo K (au 0) "found"))) (CN P w (uo K (au 0) "found") (au 3) (qv C "search" (ux K P w C (av cs) (WPl cs) 2 (Ip cs n)) [] E (au 0) (bG (au 1) (bG (au 2) dZ)))) ib) (ju (rF P w (uo K (au 0) "found") (au 3)))))) D (vs.map some++[none]) H:=by
 obtain⟨F,p,d,xs,args,ds,r,rfl,hl,sT,S,hd,nF,M,ar,⟨fit,m,rfl,sub,ne,mn,rfl⟩,q⟩:=h;subst hD;obtain⟨x,_,rfl,ix,y,_,rfl,iy,ir⟩:=ar;cases ir;cases (show y=V.int (m:Int)from iy)
 have R1:Rep K (bH H d (cr P w d xs)) F F [some (.ref p),some x,some (.int (m:Int)),none] H (δ2 fit m):=((Rep.zero (σ:=[some (.ref p),some x,some (.int (m:Int)),none]) sT nF hd).know (i:=1) rfl ix).know (i:=2) (d:=.int (m:Int)) rfl rfl;refine h1 _ F F _ H _ _ _ R1 (e1 fit m) λH1 F1 g1'=>?_;have R1':=R1.grow g1'
 by_cases hl1:fit.length=1
 · rw [decide_eq_true hl1,if_pos rfl];refine h2 _ F F1 _ H1 _ _ _ R1' (e2 fit m hl1) λv H2 F2 g2 i2=>?_;refine q v H2 F2 xs (R1'.grow g2).g (M.same (g1'.f.trans g2.f)) ?_;rw [qZ cs hl1];exact i2
 · rw [decide_eq_false hl1,if_neg Q7];refine h3 _ F F1 _ H1 _ _ _ R1' (e3 fit m) λH2 F2 g2'=>?_;have R2:=R1'.grow g2';have sF2:Same F F2:=g1'.f.trans g2'.f;cases m with
   |zero=>
    rw [decide_eq_true rfl,if_pos rfl];refine q .non H2 F2 xs R2.g (M.same sF2) ?_;rw [tw cs hl1];rfl
   |succ m=>
    rw [decide_eq_false (Nat.succ_ne_zero m),if_neg Q7];have fl:fit.length<=16:=Qe sub.length_le hc;refine h4 _ F F2 _ H2 _ _ _ R2 (e4 fit (m+1) fl) λkv H3 F3 g3 i3=>?_;obtain⟨b,rfl,kb⟩:=CS (wE fit ((m+1:Nat):Int)) i3;have R3:=(R2.grow g3).set (i:=3) i3;have sF3:Same F F3:=sF2.trans g3.f;have M3:=M.same sF3;have S3:Self K C (av cs) F3 H3 p d:=((S.pure g1').pure g2').pure g3;obtain⟨dx,l,hp,hcd⟩:=id S3;have hd3:H3 d=some (cr P w d xs):=R3.g.at_;have nF3:F3 d=none:=R3.g.no_ nF;refine⟨.ref b,rfl,mE (T:=T) rfl hp ⟨d,b,xs,fC (fit,((m+1:Nat):Int)),rfl,rfl,hd3,M3.keys R3.g.s,KeyM.same kb R3.g.s,_,rfl,?_⟩⟩;cases hg:eG xs (fC (fit,((m+1:Nat):Int)))with
    |some cv=>
     obtain⟨c,v⟩:=cv;refine mL ?_;obtain⟨dv,hw,iv,sv⟩:=M3.look hg;show rF P w (uo K (au 0) "found") (au 3) _ _ D.rt;unfold rF;refine mE (T:=T) rfl hp ⟨.ref b,rfl,d,b,xs,_,c,v,rfl,rfl,hd3,M3.keys R3.g.s,KeyM.same kb R3.g.s,hg,sv,?_⟩;obtain⟨m',z1,_,_,rfl⟩:=hw;have:m+1=m':=by have:=z1;simp only at this;omega
     subst this;exact q v H3 F3 xs R3.g M3 iv
    |none=>
     refine mM ?_;refine iZ (ds:=[av fit,.int ((m+1:Nat):Int)]) (r:=gP cs m fit) R3 nF M3 rfl S3 (by decide) (by decide) (aD (aE 1) (aD (aE 2) aL)) rfl rfl ⟨fit,m,rfl,sub,ne,mn,rfl⟩ λv H4 F4 xs4 R4 M4 S4 s4 i4=>?_
     obtain⟨dx4,l4,hp4,_⟩:=id S4;have hd4:H4 d=some (cr P w d xs4):=R4.g.at_;have nF4:F4 d=none:=R4.g.no_ nF;have kb4:KeyM F4 b (fC (fit,((m+1:Nat):Int))):=KeyM.same kb s4;have sv:=xT i4 (rG cs m fit);refine mE (T:=T) rfl hp4 ⟨.ref b,rfl,d,b,xs4,_,rfl,rfl,sv,hd4,M4.keys R4.g.s,KeyM.same kb4 R4.g.s,Av hc M4 (λk v h=>WPl.dom k v h),?_⟩;have np:p≠d:=λz=>by rw [z,hd4]at hp4;exact xS hp4
     have M5:=M4.put kb4 i4 (rG cs m fit) ⟨m+1,rfl,by omega,sub,(iu cs hl1 m).symm⟩
     have g5:=R4.g.memT (Grow.memPut (xs':=j0 xs4 (fC (fit,((m+1:Nat):Int))) b v) R4.g.s nF4 hd4);obtain⟨c,hg5⟩:=tu (xs:=xs4) (k:=fC (fit,((m+1:Nat):Int))) (b:=b) (v:=v);show rF P w (uo K (au 0) "found") (au 3) _ _ D.rt;unfold rF;refine mE (T:=T) rfl (by rw [aN np];exact hp4) ⟨.ref b,rfl,d,b,_,_,c,v,rfl,rfl,aT,M5.keys g5.s,KeyM.same kb4 g5.s,hg5,sv,?_⟩
     refine q v _ F4 _ g5 M5 ?_;rw [iu cs hl1];exact i4
end
section
variable {K:Fg} {P:Program} {w:World} {C:Addr} {cs:Cs} {n:Nat} {E:XK}
noncomputable def δ5(fit:Cs)(m:Nat)(v3 v4:Option Sl):aQ:=[none,some (.fz (av fit)),some (.fz (.int (m:Int))),v3,v4]
theorem D0(T:PlC K C)(hc:cs.length<=16){tm:TE}{tn:TT}{fm:aQ->Option PyData}{fn:aQ->Option Bool}(h1:SE K tm fm)(h2:ST K tn fn)
 (e1:∀fit m v3 v4,fm (δ5 fit (m+1) v3 v4)=some (.int (m:Int))) (e2:∀fit m d v4,fn (δ5 fit m (some (.fz d)) v4)=some (!mD d))
 {vs:List V} {H:Hp} {Q:VK} {E':XK} {D:Ends} (hD:D.rt=Q) (h:ux K P w C (av cs) (WPl cs) 2 (Ip cs (n+1)) vs H Q E'):
 eF (hV (qv C "plan_within" (ux K P w C (av cs) (WPl cs) 2 (uy cs n)) [] E (au 0) (bG (au 1) (bG tm dZ))) (cE 3)) (eF (nG tn (ju (au 3)) ib)
  (eF (rP (DB K (uo K (au 0) "codes")) (cE 4) (eF (hV (qv C "plan_by" (ux K P w C (av cs) (WPl cs) 3 (Iq cs (n+1))) [] E (au 0) (bG (au 1) (bG (au 4) (bG (au 2) dZ)))) (cE 3)) (nG tn (ju (au 3)) ib))) (ju (tC .non)))) D (vs.map some++[none,none]) H:=by
 obtain⟨F,p,d,xs,args,ds,r,rfl,hl,sT,S,hd,nF,M,ar,⟨fit,m,rfl,sub,ne,mn,rfl⟩,q⟩:=h;subst hD;obtain⟨x,_,rfl,ix,y,_,rfl,iy,ir⟩:=ar;cases ir;cases (show y=V.int ((m+1:Nat):Int)from iy)
 have R1:Rep K (bH H d (cr P w d xs)) F F [some (.ref p),some x,some (.int ((m+1:Nat):Int)),none,none] H (δ5 fit (m+1) none none):=((Rep.zero (σ:=[some (.ref p),some x,some (.int ((m+1:Nat):Int)),none,none]) sT nF hd).know (i:=1) rfl ix).know (i:=2) (d:=.int ((m+1:Nat):Int)) rfl rfl;have sa:SA K (bG (au 1) (bG tm dZ)) (aB (aF 1) (aB fm aK)):=aD (aE 1) (aD h1 aL);refine iZ (ds:=[av fit,.int (m:Int)]) (r:=ag cs m fit) R1 nF M rfl S (by decide) (by decide) sa (by show (some (av fit)).bind _=_;rw [zD];show ((fm (δ5 fit (m+1) none none)).bind _).bind _=_;rw [e1];rfl) rfl ⟨fit,m,rfl,sub,ne,by omega,rfl⟩ λv H2 F2 xs2 R2 M2 S2 s2 i2=>?_
 have R3:=R2.set (i:=3) i2;have R3:Rep K (bH H d (cr P w d xs2)) F F2 [some (.ref p),some x,some (.int ((m+1:Nat):Int)),some v,none] H2 (δ5 fit (m+1) (some (.fz (ag cs m fit))) none):=R3;refine h2 _ F F2 _ H2 _ _ _ R3 (e2 fit (m+1) _ none) λH4 F4 g4=>?_;have R4:=R3.grow g4;have sF4:Same F F4:=s2.trans g4.f;have M4:=M2.same g4.f;cases hN:mD (ag cs m fit)with
 |false=>
  refine mM ?_;refine⟨v,rfl,q v H4 F4 xs2 R4.g M4 ?_⟩;unfold gP;rw [hN,if_neg Q7];exact i2.same g4.f
 |true=>
  refine mL ?_;have S4:=S2.pure g4;obtain⟨dx,l,hp,icd⟩:=id S4;obtain⟨l',ys,z,fl,ay⟩:=icd;cases z;have it:=yE (K:=K) fl ay;show rP (DB K (uo K (au 0) "codes")) (cE 4) _ _ _ _;unfold rP DB;refine DZ (T:=T) rfl hp ⟨l,rfl,.inl ⟨⟨ys,SqL.of (R4.g.s _ _ fl)⟩,?_⟩⟩;have gN:ag cs m fit=.none:=by
   cases hz:ag cs m fit<;>rw [hz]at hN<;>first|rfl|cases hN
  rw [gN]at R4;have done:gP cs m fit=d5 (ag cs m) fit cs:=by
   unfold gP;rw [gN,if_pos (show mD PyData.none=true from rfl)]
  rw [done]at q;have dl:(cs.map aJ).length=cs.length:=zJ _;refine⟨λj k σ H'=>k=cs.length - j/\j<=cs.length/\∃F' xs' v3 v4 vs4,σ=[some (.ref p),some x,some (.int ((m+1:Nat):Int)),v3,v4]/\Rep K (bH H d (cr P w d xs')) F F' σ H' (δ5 fit (m+1) (some (.fz .none)) vs4)/\Mv K (WPl cs) F' xs'/\Self K C (av cs) F' H' p d/\Same F4 F'/\d5 (ag cs m) fit cs=d5 (ag cs m) fit (cs.drop j),⟨cs.length,by simp,zU _,F4,xs2,some v,none,none,rfl,R4,M4,S4,Same.refl _,rfl⟩,?_⟩
  rintro j k σ' H' ⟨rfl,hle,F',xs',v3,v4,vs4,rfl,R',M',S',s',e'⟩
  by_cases hlt:j < cs.length
  · refine .inr ⟨it.go j F' H' (by omega) s' R'.g.s,λσ H'=>j+1<=cs.length/\∃F' xs' v3 v4 vs4,σ=[some (.ref p),some x,some (.int ((m+1:Nat):Int)),v3,v4]/\Rep K (bH H d (cr P w d xs')) F F' σ H' (δ5 fit (m+1) (some (.fz .none)) vs4)/\Mv K (WPl cs) F' xs'/\Self K C (av cs) F' H' p d/\Same F4 F'/\d5 (ag cs m) fit cs=d5 (ag cs m) fit (cs.drop (j+1)),
     λσ2 H2 q=>⟨cs.length - (j+1),by omega,rfl,q⟩,λu H5 y=>?_⟩
    have hdj:(cs.map aJ)[j]? =some (aJ cs[j]):=by rw [zK,iF hlt];rfl
    obtain⟨F5,g5,i5⟩:=it.yld j _ F' H' u H5 hdj s' R'.g.s y;have R5:=(R'.grow g5).set (i:=4) i5;have R5:Rep K (bH H d (cr P w d xs')) F F5 [some (.ref p),some x,some (.int ((m+1:Nat):Int)),v3,some u] H5 (δ5 fit (m+1) (some (.fz .none)) (some (.fz (aJ cs[j])))):=R5;have gm:cs[j]∈cs:=C6 hlt;refine iZ (ds:=[av fit,aJ cs[j],.int ((m+1:Nat):Int)]) (r:=cz (ag cs m) fit cs[j]) R5 nF (M'.same g5.f) rfl (S'.pure g5) (by decide) (by decide) (aD (aE 1) (aD (aE 4) (aD (aE 2) aL))) rfl rfl ⟨fit,cs[j],m,rfl,sub,ne,gm,mn,rfl⟩ λv6 H6 F6 xs6 R6 M6 S6 s6 i6=>?_
    have R7:=R6.set (i:=3) i6;have R7:Rep K (bH H d (cr P w d xs6)) F F6 [some (.ref p),some x,some (.int ((m+1:Nat):Int)),some v6,some u] H6 (δ5 fit (m+1) (some (.fz (cz (ag cs m) fit cs[j]))) (some (.fz (aJ cs[j])))):=R7;refine h2 _ F F6 _ H6 _ _ _ R7 (e2 fit (m+1) _ _) λH8 F8 g8=>?_;have R8:=R7.grow g8;have M8:=M6.same g8.f;have S8:=S6.pure g8;rw [L3 hlt]at e';cases hB:mD (cz (ag cs m) fit cs[j])with
    |false=>
     refine mM ?_;refine⟨v6,rfl,q v6 H8 F8 xs6 R8.g M8 ?_⟩;rw [e',d5,hB,if_neg Q7];exact i6.same g8.f
    |true=>
     refine mL ?_;have bN:cz (ag cs m) fit cs[j]=.none:=by
      cases hz:cz (ag cs m) fit cs[j]<;>rw [hz]at hB<;>first|rfl|cases hB
     rw [bN]at R8;refine⟨hlt,F8,xs6,some v6,some u,some (.fz (aJ cs[j])),rfl,R8,M8,S8,s'.trans (g5.f.trans (s6.trans g8.f)),?_⟩;rw [e',d5,hB,if_pos rfl]
  · have e3:j=cs.length:=by omega
    subst e3;refine .inl ⟨by rw [<-dl];exact it.stop F' H' s' R'.g.s,?_⟩
    rw [List.drop_length]at e';exact q .non H' F' xs' R'.g M' (by rw [e'];rfl)
end
section
variable {K:Fg} {P:Program} {w:World} {C:Addr} {cs:Cs} {n:Nat} {E:XK}
theorem Self.of_rep {C p d:Addr}{cd:PyData}{xs xs':List Em}{H0 F0 F H:Hp}{σ:St}{δ:aQ}(s:Self K C cd F0 H0 p d)(hd:H0 d=some (cr P w d xs))(R:Rep K (bH H0 d (cr P w d xs')) F0 F σ H δ):Self K C cd F H p d:=by
 obtain⟨dx,l,h1,h2⟩:=s;have np:p≠d:=λz=>by rw [z,hd]at h1;exact xS h1
 exact⟨dx,l,R.g.ne_ np h1,h2.same R.g.f⟩
theorem D3 {H0 F0 F H:Hp}{σ:St}{δ:aQ}{i:Nat}{te:TE}{fe:aQ->Option PyData}{ds:List PyData}{d:PyData}{D:Ends}(R:Rep K H0 F0 F σ H δ)(q:δ[i]? =some (some (.ow ds)))(a:SE K te fe)(e:fe δ=some d)(hl:ds.length < fh)
 (k:∀F' H',Rep K H0 F0 F' σ H' (δ.set i (some (.ow (ds++[d]))))->Same F F'->D.nx σ H'):jJ (EZ K "list" gr (au i) (bG te dZ)) D σ H:=by
 obtain⟨p,xs,q1,q2,q3,q4,q5⟩:=R.ow i ds q;refine⟨.ref p,q1,.inl ⟨rfl,xs,SqL.of q2⟩,a H0 F0 F σ H δ d _ R e λv H1 F1 g1 i1=>⟨p,xs,v,rfl,rfl,g1.h _ _ q2,?_,?_⟩⟩
 · rw [q5.length];exact nP (Dq hl)
 · exact k F1 _ ((R.grow g1).mut q q1 (g1.o _ _ q2 (λ_ z=>nomatch z) q3) q4 ((q5.same g1.f).append (Are.one i1))) g1.f
noncomputable def δ8(fit:Cs)(g:List Int)(m:Nat)(v4 v5 v6 v7:Option Sl):aQ:=[none,some (.fz (av fit)),some (.fz (aJ g)),some (.fz (.int (m:Int))),v4,v5,v6,v7]
theorem MP(pd:Cs->List Int->PyData){tp tg tm trow tret:TE}{ws:TI}{tn:TT}{fp fg fm frow fret:aQ->Option PyData}{fs:aQ->Option (List PyData)}{fn:aQ->Option Bool}
 (hp:SE K tp fp) (hs:SI K ws fs) (hg:SE K tg fg) (hm:SE K tm fm) (hn:ST K tn fn) (hrow:SE K trow frow) (hret:SE K tret fret)
 (ne':∀fit g k,k∈dw fit g->bD fit g k≠[]) (few:∀fit g,fit.Sublist cs->g∈cs->(dw fit g).length<=1000)
 (ep:∀fit g m,fit.Sublist cs->g∈cs->fp (δ8 fit g m none none none none)=some (pd fit g)) (es:∀fit g m v5,fit.Sublist cs->g∈cs->fs (δ8 fit g m (some (.fz (pd fit g))) v5 none none)=some ((dw fit g).map aJ))
 (eg:∀fit g m v5 v7 k,fit.Sublist cs->g∈cs->k∈dw fit g->fg (δ8 fit g m (some (.fz (pd fit g))) v5 (some (.fz (aJ k))) v7)=some (av (bD fit g k)))
 (em:∀fit g m v4 v5 v6 v7,fm (δ8 fit g (m+1) v4 v5 v6 v7)=some (.int (m:Int))) (en:∀fit g m v4 v5 v6 d,fn (δ8 fit g m v4 v5 v6 (some (.fz d)))=some (mD d))
 (er:∀fit g m v4 v5 a d,frow (δ8 fit g m v4 v5 (some (.fz a)) (some (.fz d)))=some (.tuple [a,d])) (et:∀fit g m v4 v6 v7 rows,rows.length<=1000->fret (δ8 fit g m v4 (some (.fz (.list rows))) v6 v7)=some (.tuple [aJ g,.tuple rows]))
 {vs:List V} {H:Hp} {Q:VK} {E':XK} {D:Ends} (hD:D.rt=Q) (h:ux K P w C (av cs) (WPl cs) 3 (Iq cs (n+1)) vs H Q E'):
 eF (hV tp (cE 4)) (eF (hV (oH dZ) (cE 5)) (eF (rP ws (cE 6) (eF (hV (qv C "plan_within" (ux K P w C (av cs) (WPl cs) 2 (uy cs n)) [] E (au 0) (bG tg (bG tm dZ))) (cE 7)) (eF (nG tn (ju (tC .non)) ib) (jJ (EZ K "list" gr (au 5) (bG trow dZ)))))) (ju tret))) D (vs.map some++[none,none,none,none]) H:=by
 obtain⟨F,p,d,xs,args,ds,r,rfl,hl,sT,S,hd,nF,M,ar,⟨fit,g,m,rfl,sub,ne,gm,mn,rfl⟩,q⟩:=h;subst hD;obtain⟨x,_,rfl,ix,y,_,rfl,iy,z,_,rfl,iz,ir⟩:=ar;cases ir;cases (show z=V.int ((m+1:Nat):Int)from iz)
 have R1:Rep K (bH H d (cr P w d xs)) F F [some (.ref p),some x,some y,some (.int ((m+1:Nat):Int)),none,none,none,none] H (δ8 fit g (m+1) none none none none):=(((Rep.zero (σ:=[some (.ref p),some x,some y,some (.int ((m+1:Nat):Int)),none,none,none,none]) sT nF hd).know (i:=1) rfl ix).know (i:=2) rfl iy).know (i:=3) (d:=.int ((m+1:Nat):Int)) rfl rfl;refine hp _ F F _ H _ _ _ R1 (ep fit g (m+1) sub gm) λv2 H2 F2 g2 i2=>?_;have R2:=(R1.grow g2).set (i:=4) i2;have R2:Rep K (bH H d (cr P w d xs)) F F2 [some (.ref p),some x,some y,some (.int ((m+1:Nat):Int)),some v2,none,none,none] H2 (δ8 fit g (m+1) (some (.fz (pd fit g))) none none none):=R2;have so:SO K (oH dZ) (bd aK):=dq aL;show hV (oH dZ) (cE 5) _ _ _;unfold hV;refine so _ F F2 _ H2 _ [] _ R2 rfl λa ys H3 F3 g3 n0 nf3 ha3 ar3=>?_;have R3:Rep K (bH H d (cr P w d xs)) F F3 [some (.ref p),some x,some y,some (.int ((m+1:Nat):Int)),some v2,some (.ref a),none,none] H3 (δ8 fit g (m+1) (some (.fz (pd fit g))) (some (.ow [])) none none):=
  (R2.grow g3).setO (i := 5) ha3 nf3 (R2.g.h.free n0) ar3 λ j es _ e => by
   rcases j with _|_|_|_|_|_|_|_|j<;>simp [δ8]at e
 refine hs _ F F3 _ H3 _ _ _ R3 (es fit g (m+1) _ sub gm) λJ H4 F4 g4 it=>?_;have R4:=R3.grow g4;have M4:=M.same (g2.f.trans (g3.f.trans g4.f));have dl:((dw fit g).map aJ).length=(dw fit g).length:=zJ _;have rowL:=few fit g sub gm;generalize hK:dw fit g=ks at*;refine⟨λj k σ H'=>k=ks.length - j/\j<=ks.length/\∃F' xs' v6 v7 w6 w7,σ=[some (.ref p),some x,some y,some (.int ((m+1:Nat):Int)),some v2,some (.ref a),v6,v7]/\
  Rep K (bH H d (cr P w d xs')) F F' σ H' (δ8 fit g (m+1) (some (.fz (pd fit g))) (some (.ow ((ks.take j).map λk=>.tuple [aJ k,ag cs m (bD fit g k)]))) w6 w7)/\Mv K (WPl cs) F' xs'/\Same F4 F'/\∀k∈ks.take j,mD (ag cs m (bD fit g k))=false,
  ⟨ks.length,by simp,zU _,F4,xs,none,none,none,none,rfl,R4,M4,Same.refl _,λk hk=>by rw [List.take_zero]at hk;cases hk⟩,?_⟩
 rintro j k σ' H' ⟨rfl,hle,F',xs',v6,v7,w6,w7,rfl,R',M',s',ok⟩
 by_cases hlt:j < ks.length
 · refine .inr ⟨it.go j F' H' (by omega) s' R'.g.s,λσ H'=>j+1<=ks.length/\∃F' xs' v6 v7 w6 w7,σ=[some (.ref p),some x,some y,some (.int ((m+1:Nat):Int)),some v2,some (.ref a),v6,v7]/\
    Rep K (bH H d (cr P w d xs')) F F' σ H' (δ8 fit g (m+1) (some (.fz (pd fit g))) (some (.ow ((ks.take (j+1)).map λk=>.tuple [aJ k,ag cs m (bD fit g k)]))) w6 w7)/\Mv K (WPl cs) F' xs'/\Same F4 F'/\∀k∈ks.take (j+1),mD (ag cs m (bD fit g k))=false,
    λσ2 H2 q=>⟨ks.length - (j+1),by omega,rfl,q⟩,λu H5 y'=>?_⟩
   have hdj:(ks.map aJ)[j]? =some (aJ ks[j]):=by rw [zK,iF hlt];rfl
   obtain⟨F5,g5,i5⟩:=it.yld j _ F' H' u H5 hdj s' R'.g.s y';have R5:=(R'.grow g5).set (i:=6) i5;have R5:Rep K (bH H d (cr P w d xs')) F F5 [some (.ref p),some x,some y,some (.int ((m+1:Nat):Int)),some v2,some (.ref a),some u,v7] H5 (δ8 fit g (m+1) (some (.fz (pd fit g))) (some (.ow ((ks.take j).map λk=>.tuple [aJ k,ag cs m (bD fit g k)]))) (some (.fz (aJ ks[j]))) w7):=R5;have km:ks[j]∈ks:=C6 hlt;have sa:SA K (bG tg (bG tm dZ)) (aB fg (aB fm aK)):=aD hg (aD hm aL);refine iZ (ds:=[av (bD fit g ks[j]),.int (m:Int)]) (r:=ag cs m (bD fit g ks[j])) R5 nF (M'.same g5.f) rfl (S.of_rep hd R5) (by decide) (by decide) sa (by
    show (fg _).bind _=_;rw [eg fit g (m+1) _ _ _ sub gm (by rw [hK];exact km),zD]
    show ((fm _).bind _).bind _=_;rw [em];rfl) rfl ⟨bD fit g ks[j],m,rfl,(ol fit g ks[j]).trans sub,ne' fit g _ (by rw [hK];exact km),by omega,rfl⟩ λv6 H6 F6 xs6 R6 M6 S6 s6 i6=>?_
   have R7:=R6.set (i:=7) i6;have R7:Rep K (bH H d (cr P w d xs6)) F F6 [some (.ref p),some x,some y,some (.int ((m+1:Nat):Int)),some v2,some (.ref a),some u,some v6] H6 (δ8 fit g (m+1) (some (.fz (pd fit g))) (some (.ow ((ks.take j).map λk=>.tuple [aJ k,ag cs m (bD fit g k)]))) (some (.fz (aJ ks[j]))) (some (.fz (ag cs m (bD fit g ks[j]))))):=R7;refine hn _ F F6 _ H6 _ _ _ R7 (en fit g (m+1) _ _ _ _) λH8 F8 g8=>?_;have R8:=R7.grow g8;have M8:=M6.same g8.f;cases hB:mD (ag cs m (bD fit g ks[j]))with
   |true=>
    refine mM ?_;refine q .non H8 F8 xs6 R8.g M8 ?_;have:cz (ag cs m) fit g=.none:=by
     unfold cz;rw [hK,if_neg];rw [Q6];intro z;have:=z _ km;rw [hB]at this;cases this
    rw [this];rfl
   |false=>
    refine mL ?_;show jJ (EZ K "list" gr (au 5) (bG trow dZ)) _ _ _;refine D3 (i:=5) R8 rfl hrow (er fit g (m+1) _ _ _ _) (by rw [zJ,Dt];exact j6 (show _ < 1001 by omega) (by decide)) λF9 H9 R9 s9=>?_
    have tk:ks.take (j+1)=ks.take j++[ks[j]]:=LU hlt;refine⟨hlt,F9,xs6,some u,some v6,some (.fz (aJ ks[j])),some (.fz (ag cs m (bD fit g ks[j]))),rfl,?_,M8.same s9,s'.trans (g5.f.trans (s6.trans (g8.f.trans s9))),λk hk=>?_⟩
    · rw [tk,AD];exact R9
    · rw [tk]at hk
      rcases Du.mp hk with hk|hk
      · exact ok k hk
      · rw [Q9.mp hk];exact hB
 · have e3:j=ks.length:=by omega
   subst e3;refine .inl ⟨by rw [<-dl];exact it.stop F' H' s' R'.g.s,?_⟩
   rw [C5]at R' ok;obtain⟨F9,s9,R9⟩:=R'.frz 5;have R9:Rep K (bH H d (cr P w d xs')) F F9 _ H' (δ8 fit g (m+1) (some (.fz (pd fit g))) (some (.fz (.list (ks.map λk=>.tuple [aJ k,ag cs m (bD fit g k)])))) w6 w7):=R9;refine hret _ F F9 _ H' _ _ _ R9 (et fit g (m+1) _ _ _ _ (by rw [zJ];exact rowL)) λv H10 F10 g10 i10=>?_
   refine q v H10 F10 xs' (R9.grow g10).g (M'.same (s9.trans g10.f)) ?_;have:cz (ag cs m) fit g=.tuple [aJ g,.tuple (ks.map λk=>.tuple [aJ k,ag cs m (bD fit g k)])]:=by
    unfold cz;rw [hK,if_pos];rw [Q6];intro k hk;rw [ok k hk];rfl
   rw [this];exact i10
end
end DL
namespace L2
open PySem
section
variable {prog:Program} {w:World} {A:Around} {E:Value->Shared->Prop} {s:Shared} {d:Addr} {o:Obj} {es:Array DictEntry} {ep:Nat}
theorem GO {Q:Value->Shared->Prop}(hd:(d==sysModules)=false)(ho:s.heap.get? d=some o)(hc:o.ExactDict)(hda:o.data=.dict es ep)(hfit:(es.size:Int) < 2 ^ 63)
 (h:Q (.int es.size (s.toks+1)) {s with toks:=s.toks+1+1}):wpAny (model prog w) A (call (.builtin "len") [.ref d]) Q E s:=by
 have hT:s.TypeIs (.ref d) "dict":=⟨o,ho,hc.1⟩;have hl:MeetsIn prog w (Builtin.«dict.__len__» ⟨[.ref d],[]⟩) (λ_ R s=>∃o es ep,s.heap.get? d=some o/\o.ExactDict/\o.data=.dict es ep/\R (.ok (.ret (.int es.size s.toks))) {s with toks:=s.toks+1}):=
  .of_wp λA R s q=>by
   obtain⟨o,es,ep,ho,hc,hda,h⟩:=q;show wpAny _ _ (dictSize d >>=_) _ _ s;unfold dictSize;refine wB (wB (wpAny_dictEntries ho hda (wP ?_)));show wpAny _ _ (Builtin.Dict.pendingCount d >>=_) _ _ s;refine wB (wpAny_pendingCount_other hd ?_);refine wpAny_ret_mkInt ?_;rw [Nat.add_zero];exact h
 refine Calls.call_function_entry kind_len plain_len entry_len (args_len1 _) ?_;unfold Builtin.«len»;refine wB (m:=oneArg "len" _) (wP ?_);refine wB (m:=callSpecial? (.ref d) (Str.ofString "__len__")) (wpAny_callSpecial?_slot (name:=Str.ofString "__len__") hT F.slot_dict_len
  (call_meetsIn F.slot_dict_len hT F.entry_dict_len (F.args_dict_len_1 _) hl ⟨o,es,ep,ho,hc,hda,?_⟩))
 show wpAny _ _ _ _ _ {s with toks:=s.toks+1}
 refine wB (wpAny_holding (wP ?_));refine wB (wpAny_letGo ?_);show wpAny _ _ (if((es.size:Nat):Int) < 0 then _ else _) _ _ _;rw [if_neg (by omega)]
 show wpAny _ _ (if((es.size:Nat):Int)>=2 ^ 63 then _ else _) _ _ _;rw [if_neg (by omega)]
 exact wB (wpAny_mkInt (wP ⟨_,rfl,h⟩))
end
def Jk:List V->Hp->VK->Prop:=λxs H Q=>∃a kvs,xs=[.ref a]/\H a=some (.dT kvs)/\Q (.int kvs.length) H
theorem D4 {X:Cx}:fu X (.builtin "len") Jk:=by
 intro pins s σ H xs us Q I rv h;obtain⟨a,kvs,rfl,ha,q⟩:=h;obtain⟨u,rfl,ru⟩:=sX rv;cases (show u=Value.ref a from ru)
 obtain⟨z,hd,ys,rel,o,es,ep,h1,h2,h3,h4,h5,h6⟩:=(show ObjOk X.prog X.w H s.heap a (.dT kvs)from I.hok a _ ha)
 have e1:es.size=kvs.length:=by rw [size_of_entries h4];exact(Paired.length (show KT H kvs ys from rel)).symm
 refine GO hd h1 h2 h3 (by rw [e1];rw [sizeLine_eq]at z;omega) ?_
 rw [e1];exact⟨.int _,H,I.tok _,⟨_,rfl⟩,q⟩
end L2
namespace DL
open PySem L2
noncomputable def GP:PyData->Option PyData
 | .dict kvs=>(iL kvs).map λks=>.int (ks.length:Nat)
 |_=>none
section
variable {K:Fg}
noncomputable def GQ(f:aQ->Option PyData)(δ:aQ):Option PyData:=(f δ).bind GP
theorem Ir {te:TE}{f:aQ->Option PyData}(a:SE K te f):SE K (KH Jk (bG te dZ)) (GQ f):=by
 intro H0 F0 F σ H δ d Q R e h;obtain⟨x,e1,e2⟩:=bind_some e;unfold GP at e2;split at e2
 · rename_i kvs;obtain⟨ks,e3,rfl⟩:=Q0.mp e2;refine a H0 F0 F σ H δ _ _ R e1 λv H1 F1 g1 i1=>?_;obtain⟨p,m,rfl,hm,kv⟩:=GA e3 i1;refine⟨p,m,rfl,g1.s _ _ hm,?_⟩;have ml:m.length=ks.length:=(tY kv).trans (qV e3).symm;exact h _ H1 F1 g1 (by rw [ml];rfl)
 · cases e2
end
noncomputable def cB(fit:Cs)(g:List Int):Cs:=(dH g [] fit).map (·.1)
noncomputable def lQ(pw:Cs->Bool)(fit:Cs)(g:List Int):Bool:=decide (2<=(cB fit g).length)&&(cB fit g).all λk=>pw (bD fit g k)
noncomputable def dQ(cs:Cs):Nat->Cs->Bool
 |0,fit=>decide (fit.length < 2)
 |m+1,fit=>decide (fit.length < 2)||cs.any (lQ (dQ cs m) fit)
noncomputable abbrev K2:=List (List Int)×Int
def WC(cs:Cs)(pr:K2->Prop)(k:K2)(v:PyData):Prop:=∃m:Nat,k.2=(m:Int)/\m<=16/\k.1.Sublist cs/\∃b,v=.bool b/\(pr k->b=dQ cs m k.1)
theorem WC.dom {cs:Cs}{pr:K2->Prop}(k:K2)(d:PyData)(h:WC cs pr k d):k.1.Sublist cs/\∃m:Nat,k.2=(m:Int)/\m<=16:=by
 obtain⟨m,h1,h2,h3,_⟩:=h;exact⟨h3,m,h1,h2⟩
theorem WC.imp {cs:Cs}{pr pr':K2->Prop}{k:K2}{d:PyData}(h:WC cs pr k d)(i:pr' k->pr k):WC cs pr' k d:=by
 obtain⟨m,h1,h2,h3,b,h4,h5⟩:=h;exact⟨m,h1,h2,h3,b,h4,λq=>h5 (i q)⟩
theorem rH {xs:List Em}{k k':Km}{b:Addr}{v:V}(h:k'≠k):eG (j0 xs k b v) k'=eG xs k':=by
 unfold j0;split
 · unfold eG;rw [List.find?_map];have e:((λx:Em=>decide (x.1=k'))∘ λx:Em=>if x.1=k then(x.1,x.2.1,v)else x)=λx:Em=>decide (x.1=k'):=by
    funext x
    show decide ((if x.1=k then(x.1,x.2.1,v)else x).1=k')=_;split<;>rfl
   rw [e];cases hx:xs.find? λx:Em=>decide (x.1=k')with
   |none=>rfl
   |some x=>
    have:x.1=k':=of_decide_eq_true (List.find?_some (p:=λx:Em=>decide (x.1=k')) hx);show some (if x.1=k then(x.1,x.2.1,v)else x).2=some x.2;rw [if_neg (λz=>h (this.symm.trans z))]
 · unfold eG;rw [List.find?_append];have:([(k,b,v)]:List Em).find? (λx=>decide (x.1=k'))=none:=by
    rw [List.find?_eq_none];intro x hx;rw [Q9.mp hx];simpa using λz=>h z.symm
   rw [this,Option.or_none]
theorem rJ {xs:List Em}(n:(xs.map (·.1)).Nodup){x:Em}(h:x∈xs):eG xs x.1=some x.2:=by
 unfold eG
 induction xs with
 |nil=>cases h
 |cons y r ih=>
  obtain⟨n1,n2⟩:=uk.mp (show (y.1::r.map (·.1)).Nodup from n)
  rcases Q8.mp h with rfl|h
  · rw [Dy (by simp)];rfl
  · rw [Dz (by simpa using λz=>n1 (by rw [z];exact zP h))]
    exact ih n2 h
section
variable {K:Fg} {P:Program} {w:World} {cs:Cs} {n:Nat} {gm:PyData}
def Gx(m:Nat)(k:K2):Prop:=k.2<=(m:Int)
def LA(K:Fg)(P:Program)(w:World)(cs:Cs)(gm:PyData)(n:Nat):Sp:=λvs H Q _=>∃(F:Hp) (d:Addr) (xs:List Em) (gv fv:V) (fit:Cs) (m:Nat),vs=[gv,fv,.int (m:Int),.ref d]/\lH K F H/\H d=some (cr P w d xs)/\F d=none/\Mv K (WC cs (Gx m)) F xs/\Is K F gv gm/\Is K F fv (av fit)/\fit.Sublist cs/\m<=n/\
 ∀H' F' xs',Grow F (bH H d (cr P w d xs')) F' H'->Mv K (WC cs (Gx m)) F' xs'->(∀k:K2,(m:Int) < k.2->eG xs' (fC k)=eG xs (fC k))->Q (.bl (dQ cs m fit)) H'
def S9(gv fv:V)(d b:Addr)(m:Nat)(u5 u6 u7 u8:Option V):St:=[some gv,some fv,some (.int ((m+1:Nat):Int)),some (.ref d),some (.ref b),u5,u6,u7,u8]
noncomputable def D9(gm:PyData)(fit:Cs)(m:Nat)(w5 w6 w7 w8:Option Sl):aQ:=[some (.fz gm),some (.fz (av fit)),some (.fz (.int (m:Int))),none,none,w5,w6,w7,w8]
structure CJ (K:Fg) (cs fit:Cs) (m:Nat) (xs:List Em) (b:Addr) (F:Hp) (xs':List Em):Prop where
 mv:Mv K (WC cs (λk=>Gx (m+1) k/\k≠(fit,((m+1:Nat):Int)))) F xs'
 at0:∃c,eG xs' (fC (fit,((m+1:Nat):Int)))=some (c,.bl false)
 up:∀k:K2,((m+1:Nat):Int) < k.2->eG xs' (fC k)=eG xs (fC k)
 kb:KeyM F b (fC (fit,((m+1:Nat):Int)))
theorem CJ.same {fit:Cs}{m:Nat}{xs xs':List Em}{b:Addr}{F F':Hp}(J:CJ K cs fit m xs b F xs')(s:Same F F'):CJ K cs fit m xs b F' xs':=⟨J.mv.same s,J.at0,J.up,KeyM.same J.kb s⟩
theorem CJ.call {fit:Cs}{m:Nat}{xs xs1 xs2:List Em}{b:Addr}{F F':Hp}(J:CJ K cs fit m xs b F xs1)(s:Same F F')(M:Mv K (WC cs (Gx m)) F' xs2)(u:∀k:K2,(m:Int) < k.2->eG xs2 (fC k)=eG xs1 (fC k)):CJ K cs fit m xs b F' xs2 where
 mv:=⟨M.nd,λx hx=>by
  obtain⟨k,v,h1,h2,h3,h4,h5⟩:=M.all x hx
  by_cases hk:k.2<=(m:Int)
  · exact⟨k,v,h1,h2,h3,h4,h5.imp λ_=>hk⟩
  · have e1:=rJ M.nd hx;rw [h1,u k (by omega)]at e1
    obtain⟨d,hw,hi,_⟩:=(J.mv.same s).look (k:=k) (c:=x.2.1) (v:=x.2.2) e1;have hs:yo d=true:=by obtain⟨_,_,_,_,_,rfl,_⟩:=hw;rfl
    exact⟨k,d,h1,h2,hi,hs,hw⟩⟩
 at0:=by
  obtain⟨c,h⟩:=J.at0;exact⟨c,by rw [u _ (by show (m:Int) < ((m+1:Nat):Int);omega)];exact h⟩
 up:=λk hk=>by rw [u k (by omega)];exact J.up k hk
 kb:=KeyM.same J.kb s
theorem CJ.below {fit:Cs}{m:Nat}{xs xs':List Em}{b:Addr}{F:Hp}(J:CJ K cs fit m xs b F xs'):Mv K (WC cs (Gx m)) F xs':=J.mv.imp λk v h=>h.imp λq=>⟨by unfold Gx at q ⊢;omega,λz=>by unfold Gx at q;rw [z]at q;simp only at q;omega⟩
theorem D6 {fit:Cs}{g:List Int}{m:Nat}{pd:PyData}{tg tm:TE}{wd:TI}{fg fm:aQ->Option PyData}{fd:aQ->Option (List PyData)}(hd:SI K wd fd)(hg:SE K tg fg)(hm:SE K tm fm)(sub:fit.Sublist cs)(mn:m<=n)
 (ed:∀w7 w8,fd (D9 gm fit (m+1) (some (.fz (aJ g))) (some (.fz pd)) w7 w8)=some ((cB fit g).map aJ))
 (eg:∀w7 k,k∈cB fit g->fg (D9 gm fit (m+1) (some (.fz (aJ g))) (some (.fz pd)) w7 (some (.fz (aJ k))))=some (av (bD fit g k))) (em:∀w5 w6 w7 w8,fm (D9 gm fit (m+1) w5 w6 w7 w8)=some (.int (m:Int)))
 {gv fv u5 u6:V} {u8:Option V} {w8:Option Sl} {d b:Addr} {H0 F0 F1 H1:Hp} {xs xs1:List Em} {b0:Bool} {D:Ends} (n0:F0 d=none)
 (R:Rep K (bH H0 d (cr P w d xs1)) F0 F1 (S9 gv fv d b m (some u5) (some u6) (some (.bl b0)) u8) H1 (D9 gm fit (m+1) (some (.fz (aJ g))) (some (.fz pd)) (some (.fz (.bool b0))) w8)) (J:CJ K cs fit m xs b F1 xs1)
 (k : ∀ F' H' xs' u8 w8, Rep K (bH H0 d (cr P w d xs')) F0 F' (S9 gv fv d b m (some u5) (some u6) (some (.bl (b0 || (cB fit g).any λ k => !dQ cs m (bD fit g k)))) u8) H' (D9 gm fit (m + 1) (some (.fz (aJ g))) (some (.fz pd)) (some (.fz (.bool (b0 || (cB fit g).any λ k => !dQ cs m (bD fit g k))))) w8) -> CJ K cs fit m xs b F' xs' -> Same F1 F' ->
  D.nx (S9 gv fv d b m (some u5) (some u6) (some (.bl (b0||(cB fit g).any λk=> !dQ cs m (bD fit g k)))) u8) H'):
 rP wd (cE 8) (hV (HG (au 7) (B4 (oJ (LA K P w cs gm n) [] E0 (bG (au 0) (bG tg (bG tm (bG (au 3) dZ))))))) (cE 7)) D (S9 gv fv d b m (some u5) (some u6) (some (.bl b0)) u8) H1:=by
 generalize hK:cB fit g=ks at*;refine hd _ F0 F1 _ H1 _ _ _ R (ed _ _) λIt H2 F2 g2 it=>?_;have dl:(ks.map aJ).length=ks.length:=zJ _;refine⟨λj l σ H'=>l=ks.length - j/\j<=ks.length/\∃F' xs' u8 w8,σ=S9 gv fv d b m (some u5) (some u6) (some (.bl (b0||(ks.take j).any λk=> !dQ cs m (bD fit g k)))) u8/\
  Rep K (bH H0 d (cr P w d xs')) F0 F' σ H' (D9 gm fit (m+1) (some (.fz (aJ g))) (some (.fz pd)) (some (.fz (.bool (b0||(ks.take j).any λk=> !dQ cs m (bD fit g k))))) w8)/\CJ K cs fit m xs b F' xs'/\Same F2 F',⟨ks.length,by simp,zU _,F2,xs1,u8,w8,by rw [List.take_zero,List.any_nil,Bool.or_false],by rw [List.take_zero,List.any_nil,Bool.or_false];exact R.grow g2,J.same g2.f,Same.refl _⟩,?_⟩
 rintro j l σ' H' ⟨rfl,hle,F',xs',u8',w8',rfl,R',J',s'⟩
 by_cases hlt:j < ks.length
 · refine .inr ⟨it.go j F' H' (by omega) s' R'.g.s,λσ H'=>j+1<=ks.length/\∃F' xs' u8 w8,σ=S9 gv fv d b m (some u5) (some u6) (some (.bl (b0||(ks.take (j+1)).any λk=> !dQ cs m (bD fit g k)))) u8/\
    Rep K (bH H0 d (cr P w d xs')) F0 F' σ H' (D9 gm fit (m+1) (some (.fz (aJ g))) (some (.fz pd)) (some (.fz (.bool (b0||(ks.take (j+1)).any λk=> !dQ cs m (bD fit g k))))) w8)/\CJ K cs fit m xs b F' xs'/\Same F2 F',λσ2 H2 q=>⟨ks.length - (j+1),by omega,rfl,q⟩,λu H5 y'=>?_⟩
   have hdj:(ks.map aJ)[j]? =some (aJ ks[j]):=by rw [zK,iF hlt];rfl
   obtain⟨F5,g5,i5⟩:=it.yld j _ F' H' u H5 hdj s' R'.g.s y';have tk:ks.take (j+1)=ks.take j++[ks[j]]:=LU hlt;generalize hB:(b0||(ks.take j).any λk=> !dQ cs m (bD fit g k))=B at R'
   have R5:Rep K (bH H0 d (cr P w d xs')) F0 F5 (S9 gv fv d b m (some u5) (some u6) (some (.bl B)) (some u)) H5 (D9 gm fit (m+1) (some (.fz (aJ g))) (some (.fz pd)) (some (.fz (.bool B))) (some (.fz (aJ ks[j])))):=(R'.grow g5).set (i:=8) i5;have J5:=J'.same g5.f;have km:ks[j]∈ks:=C6 hlt;have nb:(b0||(ks.take (j+1)).any λk=> !dQ cs m (bD fit g k))=(B|| !dQ cs m (bD fit g ks[j])):=by
    rw [tk,List.any_append, <-hB,Bool.or_assoc]
    simp
   rw [nb];refine⟨.bl B,rfl,B,rfl,?_⟩;cases B with
   |true=>
    refine mM ?_;exact⟨hlt,F5,xs',some u,_,rfl,R5.set (i:=7) (v:=.bl true) (d:=.bool true) rfl,J5,s'.trans g5.f⟩
   |false=>
    refine mL ?_;obtain⟨v0,q0,ig⟩:=R5.fz 0 gm rfl;cases q0;refine⟨gv,rfl,hg _ F0 F5 _ H5 _ _ _ R5 (eg _ _ km) λv1 H6 F6 g6 i6=>hm _ F0 F6 _ H6 _ _ _ (R5.grow g6) (em _ _ _ _) λv2 H7 F7 g7 i7=>?_⟩;cases (show v2=V.int (m:Int)from i7)
    have R7:=(R5.grow g6).grow g7;have s57:Same F5 F7:=g6.f.trans g7.f;have J7:=J5.same s57;refine⟨.ref d,rfl,F7,d,xs',gv,v1,bD fit g ks[j],m,rfl,⟨R7.g.s,R7.tb⟩,R7.g.at_,R7.g.no_ n0,J7.below,ig.same s57,i6.same g7.f,(ol fit g ks[j]).trans sub,mn,λH8 F8 xs8 g8 M8 u8=>⟨_,rfl,?_⟩⟩;have R8:=R7.memU g8;exact⟨hlt,F8,xs8,some u,_,rfl,R8.set (i:=7) (v:=.bl (!dQ cs m (bD fit g ks[j]))) (d:=.bool (!dQ cs m (bD fit g ks[j]))) rfl,J7.call g8.f M8 u8,s'.trans (g5.f.trans (s57.trans g8.f))⟩
 · have e3:j=ks.length:=by omega
   subst e3;rw [C5]at R' ⊢;exact .inl ⟨by rw [<-dl];exact it.stop F' H' s' R'.g.s,k F' H' xs' u8' w8' R' J' (g2.f.trans s')⟩
end
section
variable {K:Fg} {P:Program} {w:World} {cs:Cs} {n:Nat} {gm:PyData}
theorem LB(pd:Cs->List Int->PyData)(hc:cs.length<=16)(hn:n+1<=16){t1 tn:TT}{te1 tk tp tb tg tm:TE}{ws wd:TI}{f1 fn:aQ->Option Bool}{g1 gk fp fb fg fm:aQ->Option PyData}{fs fd:aQ->Option (List PyData)}
 (h1:ST K t1 f1) (h2:SE K te1 g1) (h3:SE K tk gk) (hs:SI K ws fs) (hp:SE K tp fp) (hb:SE K tb fb) (hd:SI K wd fd) (hg:SE K tg fg) (hm:SE K tm fm) (hN:ST K tn fn)
 (e1:∀fit m,f1 (D9 gm fit m none none none none)=some (decide (fit.length < 2)||decide (m=0))) (e2:∀fit m,g1 (D9 gm fit m none none none none)=some (.bool (decide (fit.length < 2))))
 (e3:∀fit m,fit.length<=16->gk (D9 gm fit m none none none none)=some (.tuple [.tuple (fit.map aJ),.int (m:Int)])) (es:∀fit m,fs (D9 gm fit m none none none none)=some (cs.map aJ))
 (ep:∀fit g m w6 w7 w8,fit.Sublist cs->g∈cs->fp (D9 gm fit m (some (.fz (aJ g))) w6 w7 w8)=some (pd fit g)) (eb:∀fit g m w5 w7 w8,fit.Sublist cs->g∈cs->fb (D9 gm fit m w5 (some (.fz (pd fit g))) w7 w8)=some (.bool (decide ((cB fit g).length < 2))))
 (ed:∀fit g m w5 w7 w8,fit.Sublist cs->g∈cs->fd (D9 gm fit m w5 (some (.fz (pd fit g))) w7 w8)=some ((cB fit g).map aJ))
 (eg:∀fit g m w5 w7 k,fit.Sublist cs->g∈cs->k∈cB fit g->fg (D9 gm fit m w5 (some (.fz (pd fit g))) w7 (some (.fz (aJ k))))=some (av (bD fit g k))) (em:∀fit m w5 w6 w7 w8,fm (D9 gm fit (m+1) w5 w6 w7 w8)=some (.int (m:Int)))
 (en:∀fit m w5 w6 w8 b,fn (D9 gm fit m w5 w6 (some (.fz (.bool b))) w8)=some (!b))
 {vs:List V} {H:Hp} {Q:VK} {E':XK} {D:Ends} (hD:D.rt=Q) (h:LA K P w cs gm (n+1) vs H Q E'):
 eF (nG t1 (ju te1) ib) (eF (hV tk (cE 4)) (eF (nG (tB (xQ P w (au 4) (au 3))) (eF (CN P w (au 3) (au 4) (tC (.bl false))) (rP ws (cE 5) (eF (hV tp (cE 6)) (eF (hV tb (cE 7)) (eF
  (rP wd (cE 8) (hV (HG (au 7) (B4 (oJ (LA K P w cs gm n) [] E0 (bG (au 0) (bG tg (bG tm (bG (au 3) dZ))))))) (cE 7)))
  (nG tn (eF (CN P w (au 3) (au 4) (tC (.bl true))) EB) ib)))))) ib) (ju (rF P w (au 3) (au 4))))) D (vs.map some++[none,none,none,none,none]) H:=by
 obtain⟨F,d,xs,gv,fv,fit,m,rfl,sT,hd0,nF,M,ig,ifv,sub,mn,q⟩:=h;subst hD;have R1:Rep K (bH H d (cr P w d xs)) F F [some gv,some fv,some (.int (m:Int)),some (.ref d),none,none,none,none,none] H (D9 gm fit m none none none none):=(((Rep.zero (σ:=[some gv,some fv,some (.int (m:Int)),some (.ref d),none,none,none,none,none]) sT nF hd0).know (i:=0) rfl ig).know (i:=1) rfl ifv).know (i:=2) (d:=.int (m:Int)) rfl rfl;refine h1 _ F F _ H _ _ _ R1 (e1 fit m) λH1 F1 g1'=>?_;have R1':=R1.grow g1'
 by_cases hz:(decide (fit.length < 2)||decide (m=0))=true
 · rw [if_pos hz];refine h2 _ F F1 _ H1 _ _ _ R1' (e2 fit m) λv H2 F2 g2 i2=>?_;cases (show v=V.bl (decide (fit.length < 2))from i2)
   have:=q H2 F2 xs (R1'.grow g2).g (M.same (g1'.f.trans g2.f)) λ_ _=>rfl;have e:dQ cs m fit=decide (fit.length < 2):=by
    cases m with
    |zero=>rfl
    |succ m=>
     rw [Bool.or_eq_true,decide_eq_true_eq,decide_eq_true_eq]at hz;have:fit.length < 2:=hz.resolve_right (by omega)
     unfold dQ;rw [decide_eq_true this];rfl
   rw [e]at this;exact this
 rw [if_neg hz];cases m with
 |zero=>simp at hz
 |succ m=>
  have hl2:¬fit.length < 2:=λz=>hz (by rw [decide_eq_true z];rfl)
  have fl:fit.length<=16:=Qe sub.length_le hc;refine h3 _ F F1 _ H1 _ _ _ R1' (e3 fit (m+1) fl) λkv H3 F3 g3 i3=>?_;obtain⟨b,rfl,kb⟩:=CS (wE fit ((m+1:Nat):Int)) i3;have R3:Rep K (bH H d (cr P w d xs)) F F3 (S9 gv fv d b m none none none none) H3 (D9 gm fit (m+1) none none none none):=((R1'.grow g3).set (i:=4) i3).hide 4;have sF3:Same F F3:=g1'.f.trans g3.f;have M3:=M.same sF3;have hd3:H3 d=some (cr P w d xs):=R3.g.at_;have nF3:F3 d=none:=R3.g.no_ nF;refine⟨.ref b,rfl,.ref d,rfl,d,b,xs,fC (fit,((m+1:Nat):Int)),rfl,rfl,hd3,M3.keys R3.g.s,KeyM.same kb R3.g.s,_,rfl,?_⟩;have fin:∀(H' F':Hp) (xs':List Em) (u5 u6 u7 u8:Option V) (c:Addr),Grow F (bH H d (cr P w d xs')) F' H'->Mv K (WC cs (Gx (m+1))) F' xs'->KeyM F' b (fC (fit,((m+1:Nat):Int)))->eG xs' (fC (fit,((m+1:Nat):Int)))=some (c,.bl (dQ cs (m+1) fit))->(∀k:K2,((m+1:Nat):Int) < k.2->eG xs' (fC k)=eG xs (fC k))->
   ju (rF P w (au 3) (au 4)) D (S9 gv fv d b m u5 u6 u7 u8) H':=by
   intro H' F' xs' u5 u6 u7 u8 c g' M' kb' hg' up';exact⟨.ref d,rfl,.ref b,rfl,d,b,xs',_,c,_,rfl,rfl,g'.at_,M'.keys g'.s,KeyM.same kb' g'.s,hg',rfl,q H' F' xs' g' M' up'⟩
  cases hgm:eG xs (fC (fit,((m+1:Nat):Int)))with
  |some cv=>
   obtain⟨c,v⟩:=cv;refine mL ?_;obtain⟨dv,hw,iv,sv⟩:=M3.look hgm;obtain⟨m',z1,_,_,bb,rfl,z2⟩:=hw;have:m+1=m':=by have:=z1;simp only at this;omega
   subst this;have hb2:=z2 (Int.le_refl _);rw [hb2]at iv;cases (show v=V.bl (dQ cs (m+1) fit)from iv)
   exact fin H3 F3 xs none none none none c R3.g M3 kb hgm λ_ _=>rfl
  |none=>
   refine mM ?_;refine⟨.ref d,rfl,.ref b,rfl,d,b,xs,_,rfl,rfl,rfl,hd3,M3.keys R3.g.s,KeyM.same kb R3.g.s,Av hc M3 (λk v h=>WC.dom k v h),?_⟩;have g4:=R3.g.memT (Grow.memPut (xs':=j0 xs (fC (fit,((m+1:Nat):Int))) b (.bl false)) R3.g.s nF3 hd3);have R4:=R3.memU (Grow.memPut (xs':=j0 xs (fC (fit,((m+1:Nat):Int))) b (.bl false)) R3.g.s nF3 hd3);have J4:CJ K cs fit m xs b F3 (j0 xs (fC (fit,((m+1:Nat):Int))) b (.bl false)):=by
    refine⟨?_,tu,λk hk=>rH λz=>?_,kb⟩
    · refine(M3.imp (W':=WC cs (λk=>Gx (m+1) k/\k≠(fit,((m+1:Nat):Int)))) λk v h=>h.imp λz=>z.1).put (k:=(fit,((m+1:Nat):Int))) (d:=.bool false) kb rfl rfl ⟨m+1,rfl,by omega,sub,false,rfl,λz=>absurd rfl z.2⟩
    · have:=tf z;rw [this]at hk;simp only at hk;omega
   show rP ws (cE 5) _ _ _ _;refine hs _ F F3 _ _ _ _ _ R4 (es fit (m+1)) λIt H5 F5 g5 it=>?_;have dl:(cs.map aJ).length=cs.length:=zJ _;refine⟨λj l σ H'=>l=cs.length - j/\j<=cs.length/\∃F' xs' u5 u6 u7 u8 w5 w6 w7 w8,σ=S9 gv fv d b m u5 u6 u7 u8/\Rep K (bH H d (cr P w d xs')) F F' σ H' (D9 gm fit (m+1) w5 w6 w7 w8)/\CJ K cs fit m xs b F' xs'/\Same F5 F'/\∀g∈cs.take j,lQ (dQ cs m) fit g=false,
    ⟨cs.length,by simp,zU _,F5,_,none,none,none,none,none,none,none,none,rfl,R4.grow g5,J4.same g5.f,Same.refl _,λg hg=>by rw [List.take_zero]at hg;cases hg⟩,?_⟩
   rintro j l σ' H' ⟨rfl,hle,F',xs',u5,u6,u7,u8,w5,w6,w7,w8,rfl,R',J',s',no⟩
   by_cases hlt:j < cs.length
   · refine .inr ⟨it.go j F' H' (by omega) s' R'.g.s,λσ H'=>j+1<=cs.length/\∃F' xs' u5 u6 u7 u8 w5 w6 w7 w8,σ=S9 gv fv d b m u5 u6 u7 u8/\Rep K (bH H d (cr P w d xs')) F F' σ H' (D9 gm fit (m+1) w5 w6 w7 w8)/\CJ K cs fit m xs b F' xs'/\Same F5 F'/\∀g∈cs.take (j+1),lQ (dQ cs m) fit g=false,
      λσ2 H2 q=>⟨cs.length - (j+1),by omega,rfl,q⟩,λu H6 y'=>?_⟩
     have hdj:(cs.map aJ)[j]? =some (aJ cs[j]):=by rw [zK,iF hlt];rfl
     obtain⟨F6,g6,i6⟩:=it.yld j _ F' H' u H6 hdj s' R'.g.s y';have gin:cs[j]∈cs:=C6 hlt;generalize hgj:cs[j]=g at*;have R6:Rep K (bH H d (cr P w d xs')) F F6 (S9 gv fv d b m (some u) u6 u7 u8) H6 (D9 gm fit (m+1) (some (.fz (aJ g))) w6 w7 w8):=(R'.grow g6).set (i:=5) i6;refine hp _ F F6 _ H6 _ _ _ R6 (ep fit g (m+1) _ _ _ sub gin) λv7 H7 F7 g7 i7=>?_;have R7:Rep K (bH H d (cr P w d xs')) F F7 (S9 gv fv d b m (some u) (some v7) u7 u8) H7 (D9 gm fit (m+1) (some (.fz (aJ g))) (some (.fz (pd fit g))) w7 w8):=(R6.grow g7).set (i:=6) i7;refine hb _ F F7 _ H7 _ _ _ R7 (eb fit g (m+1) _ _ _ sub gin) λv8 H8 F8 g8 i8=>?_;cases (show v8=V.bl _ from i8)
     have R8:Rep K (bH H d (cr P w d xs')) F F8 (S9 gv fv d b m (some u) (some v7) (some (.bl (decide ((cB fit g).length < 2)))) u8) H8 (D9 gm fit (m+1) (some (.fz (aJ g))) (some (.fz (pd fit g))) (some (.fz (.bool (decide ((cB fit g).length < 2))))) w8):=(R7.grow g8).set (i:=7) i8;have s68:Same F' F8:=g6.f.trans (g7.f.trans g8.f);refine D6 (n:=n) (pd:=pd fit g) hd hg hm sub (by omega) (λw7 w8=>ed fit g (m+1) _ w7 w8 sub gin) (λw7 k hk=>eg fit g (m+1) _ w7 k sub gin hk) (λw5 w6 w7 w8=>em fit m w5 w6 w7 w8) nF R8 (J'.same s68) λF9 H9 xs9 u8' w8' R9 J9 s9=>?_
     have gB:(decide ((cB fit g).length < 2)||(cB fit g).any λk=> !dQ cs m (bD fit g k))= !lQ (dQ cs m) fit g:=by
      unfold lQ;rw [Bool.not_and,List.not_all_eq_any_not];congr 1
      by_cases z:(cB fit g).length < 2
      · rw [decide_eq_true z,decide_eq_false (by omega)];rfl
      · rw [decide_eq_false z,decide_eq_true (by omega)];rfl
     rw [gB]at R9 ⊢;refine hN _ F F9 _ H9 _ _ _ R9 (en fit (m+1) _ _ _ _) λH10 F10 g10=>?_;have R10:=R9.grow g10;have J10:=J9.same g10.f;have hd10:H10 d=some (cr P w d xs9):=R10.g.at_;have nF10:F10 d=none:=R10.g.no_ nF;rw [Bool.not_not];cases hG:lQ (dQ cs m) fit g with
     |true=>
      refine mM ?_;have kH:=KeyM.same J10.kb R10.g.s;refine⟨.ref d,rfl,.ref b,rfl,d,b,xs9,_,rfl,rfl,rfl,hd10,J10.mv.keys R10.g.s,kH,Av hc J10.mv (λk v h=>WC.dom k v h),?_⟩;have canT:dQ cs (m+1) fit=true:=by
       unfold dQ;rw [Bool.or_eq_true];exact .inr (Gs.mpr ⟨g,gin,hG⟩)
      have M11:Mv K (WC cs (Gx (m+1))) F10 (j0 xs9 (fC (fit,((m+1:Nat):Int))) b (.bl true)):=by
       refine⟨CT J10.mv.nd,λx hx=>?_⟩
       rcases tq hx with ⟨hx1,hx2⟩|⟨x1,x2,x3⟩
       · obtain⟨k,v,a1,a2,a3,a4,a5⟩:=J10.mv.all x hx1;exact⟨k,v,a1,a2,a3,a4,a5.imp λz=>⟨z,λzz=>hx2 (by rw [a1,zz])⟩⟩
       · refine⟨(fit,((m+1:Nat):Int)),.bool true,x1,?_,by rw [x2];rfl,rfl,m+1,rfl,by omega,sub,true,rfl,λ_=>canT.symm⟩
         rcases x3 with x3|⟨y,hy,y1,y2⟩
         · rw [x1,x3];exact J10.kb
         · obtain⟨_,_,_,qq,_⟩:=J10.mv.all y hy;rw [x1, <-y2, <-y1];exact qq
      obtain⟨c,hg11⟩:=tu (xs:=xs9) (k:=fC (fit,((m+1:Nat):Int))) (b:=b) (v:=.bl true);refine fin _ F10 _ _ _ _ _ c (R10.g.memT (Grow.memPut R10.g.s nF10 hd10)) M11 J10.kb (by rw [hg11,canT]) λk hk=>?_
      rw [rH (λz=>by have:=tf z;rw [this]at hk;simp only at hk;omega)]
      exact J10.up k hk
     |false=>
      refine mL ?_;rw [hG]at R10;refine⟨hlt,F10,xs9,_,_,_,_,_,_,_,_,rfl,R10,J10,s'.trans (s68.trans (s9.trans g10.f)),λg' hg'=>?_⟩;rw [LU hlt]at hg'
      rcases Du.mp hg' with hg'|hg'
      · exact no g' hg'
      · rw [Q9.mp hg',hgj];exact hG
   · have e3:j=cs.length:=by omega
     subst e3;rw [C5]at no;have canF:dQ cs (m+1) fit=false:=by
      unfold dQ;rw [decide_eq_false hl2,Bool.false_or,List.any_eq_false];intro g hg;rw [no g hg];exact Q7
     refine .inl ⟨by rw [<-dl];exact it.stop F' H' s' R'.g.s,?_⟩
     obtain⟨c,at0⟩:=J'.at0;refine fin H' F' xs' _ _ _ _ c R'.g ⟨J'.mv.nd,λx hx=>?_⟩ J'.kb (by rw [at0,canF]) J'.up
     obtain⟨k,v,a1,a2,a3,a4,a5⟩:=J'.mv.all x hx
     by_cases hk:k=(fit,((m+1:Nat):Int))
     · subst hk;have e1:=rJ J'.mv.nd hx;rw [a1,at0]at e1;injection e1 with e1
       refine⟨_,.bool false,a1,a2,by rw [<-e1];rfl,rfl,m+1,rfl,by omega,sub,false,rfl,λ_=>canF.symm⟩
     · exact⟨k,v,a1,a2,a3,a4,a5.imp λz=>⟨z,hk⟩⟩
end
section
variable {K:Fg} {P:Program} {w:World} {C:Addr} {cs:Cs} {n:Nat} {E:XK}
def Iu(P:Program)(w:World)(C:Addr):Sp:=λvs H Q _=>∃x dx l,vs=[.ref x,.ref l]/\H x=some (.ins C dx [])/\∀d,H d=none->Q .non (bH (bH (bH H x (.ins C dx [("codes",.ref l)])) d (cr P w d [])) x (.ins C dx [("codes",.ref l),("found",.ref d)]))
theorem Iv(T:PlC K C){vs:List V}{H:Hp}{Q:VK}{E':XK}{D:Ends}(hD:∀σ H,D.nx σ H=Q .non H)(h:Iu P w C vs H Q E'):eF (KG K (au 0) (au 1) "codes") (KG K (au 0) (GK P w) "found") D (vs.map some) H:=by
 obtain⟨x,dx,l,rfl,hx,q⟩:=h;refine⟨.ref l,rfl,.ref x,rfl,x,C,dx,[],rfl,hx,T.cl,T.nC,by decide,λd hd=>⟨.ref x,rfl,x,C,dx,[("codes",.ref l)],rfl,?_,T.cl,T.nF,by show 1 < 1000;decide,?_⟩⟩
 · have nx:x≠d:=λz=>by rw [<-z,aT]at hd;cases hd
   rw [aN nx];exact aT
 · rw [hD];have hd':H d=none:=by
    by_cases z:d=x
    · rw [z,aT]at hd;cases hd
    · rw [aN z]at hd;exact hd
   exact q d hd'
theorem Grow.memEnd {F H F1 H1 F' H':Hp}{d:Addr}{xs:List Em}(g1:Grow F H F1 H1)(hn:H d=none)(g2:Grow F1 (bH H1 d (cr P w d xs)) F' H'):Grow F H F' H':=
 ⟨g1.f.trans g2.f,g2.s,λb u e=>g2.ne_ (aR e hn) (g1.h b u e),λb u e t z=>g2.o b u (by rw [aN (aR e hn)];exact g1.h b u e) t (g1.o b u e t z)⟩
theorem Rep.drop {H0 F0 F H:Hp}{σ:St}{δ:aQ}(R:Rep K H0 F0 F σ H δ)(i:Nat)(v:V):Rep K H0 F0 F (σ.set i (some v)) H (δ.set i none):=by
 have old:∀{j:Nat} {s:Sl},(δ.set i none)[j]? =some (some s)->j≠i/\δ[j]? =some (some s):=λ{j s} e=>by
  rcases ae e with ⟨_,z⟩|⟨n,z⟩
  · cases z
  · exact⟨n,z⟩
 refine⟨R.g,by rw [Qc,Qc];exact R.len,λj d e=>?_,λj ds e=>?_,λj l ds es a e1 e2 e3 e4=>?_,λj ds e=>?_,λj l ds es a e1 e2 e3 e4=>?_,R.tb⟩
 · rw [aa (old e).1];exact R.fz j d (old e).2
 · rw [aa (old e).1];exact R.ow j ds (old e).2
 · rw [aa (old e1).1]at e3;rw [aa (old e2).1]at e4;exact R.ap j l ds es a (old e1).2 (old e2).2 e3 e4
 · rw [aa (old e).1];exact R.od j ds (old e).2
 · rw [aa (old e1).1]at e3;rw [aa (old e2).1]at e4;exact R.ad j l ds es a (old e1).2 (old e2).2 e3 e4
theorem Rep.toM {H0 F0 F H:Hp}{σ:St}{δ:aQ}{d:Addr}{xs:List Em}(R:Rep K H0 F0 F σ H δ)(z:gO δ=true)(n:F d=none)(hd:H d=some (cr P w d xs)):Rep K (bH H d (cr P w d xs)) F F σ H δ:=
 ⟨Grow.memU R.g.s n hd, R.len, R.fz, λ j ds e => (by
  obtain⟨_,y⟩:=cY z e;cases y),R.ap,λj ds e=>(by
  obtain⟨_,y⟩:=cY z e;cases y),R.ad,R.tb⟩
noncomputable def D5(g a f:PyData)(w4:Option Sl):aQ:=[some (.fz g),some (.fz a),some (.fz f),none,w4]
structure PlanOk (cs fit:Cs) (N:Nat):Prop where
 few:cs.length<=16
 sub:fit.Sublist cs
 ne:fit≠[]
 n16:N<=16
 yes:mD (ag cs N fit)=false
 no:∀j,j < N->mD (ag cs j fit)=true
theorem LC {F:Hp}{v:V}{d:PyData}(i:Is K F v d):decide (v=V.non)=mD d:=by
 cases d with
 |none=>rw [show v=.non from i];rfl
 |bool b=>rw [show v=.bl b from i];rfl
 |int b=>rw [show v=.int b from i];rfl
 |str b=>rw [show v=.str b from i];rfl
 |list ds=>obtain⟨a,xs,rfl,_⟩:=i;rfl
 |tuple ds=>obtain⟨a,xs,rfl,_⟩:=i;rfl
 |dict kvs=>obtain⟨a,rfl,_⟩:=i;rfl
theorem GR(T:PlC K C){t1 t2 t3:TE}{f1 f2 f3:aQ->Option PyData}(h1:SE K t1 f1)(h2:SE K t2 f2)(h3:SE K t3 f3){g a u:PyData}{fit:Cs}{N:Nat}(ok:PlanOk cs fit N)
 (e1:f1 [some (.fz g),some (.fz a),none,none,none]=some (av fit)) (e2:f2 (D5 g a (av fit) none)=some u) (e3:f3 (D5 g a (av fit) none)=some (av cs))
 {vs:List V} {F H:Hp} {Q:VK} {D:Ends} (hD:D.rt=Q) (sT:lH K F H) (ar:Are K F vs [g,a]) (q:∀v H' F',Grow F H F' H'->Is K F' v (.tuple [.int (N:Int),ag cs N fit])->Q v H'):
 eF (hV t1 (cE 2)) (eF (jJ t2) (eF (hV (JV C (Iu P w C) [] E (bG t3 dZ)) (cE 3)) (eF (hV (tC (.int 0)) (cE 4)) (eF (EF (xo (HH (λx y H Q=>y=.non/\Q (.bl (decide (x=.non))) H) (qv C "plan_within" (ux K P w C (av cs) (WPl cs) 2 (uy cs 16)) [] E (au 3) (bG (au 2) (bG (au 4) dZ))) (tC .non))) (Jy 4 (tC (.int 1)) (AE λi j=>.int (i+j))))
  (ju (HN (bG (au 4) (bG (qv C "plan_within" (ux K P w C (av cs) (WPl cs) 2 (uy cs 16)) [] E (au 3) (bG (au 2) (bG (au 4) dZ))) dZ)))))))) D (vs.map some++[none,none,none]) H:=by
 subst hD;obtain⟨x,_,rfl,ix,y,_,rfl,iy,ir⟩:=ar;cases ir;have R1:Rep K H F F [some x,some y,none,none,none] H [some (.fz g),some (.fz a),none,none,none]:=jf (N:=["","","","",""]) (vs:=[x,y]) (ds:=[g,a]) sT ⟨x,_,rfl,ix,y,_,rfl,iy,rfl⟩;refine h1 _ F F _ H _ _ _ R1 e1 λv2 H2 F2 g2 i2=>?_;have R2:Rep K H F F2 [some x,some y,some v2,none,none] H2 (D5 g a (av fit) none):=(R1.grow g2).set (i:=2) i2;refine h2 _ F F2 _ H2 _ _ _ R2 e2 λv3 H3 F3 g3 i3=>?_;have R3:=R2.grow g3;refine h3 _ F F3 _ H3 _ _ _ R3 e3 λv4 H4 F4 g4 i4=>?_;have R4:=R3.grow g4;obtain⟨l,ys,rfl,hl,al⟩:=i4;intro p dx hp hdx ndx;refine⟨p,dx,l,rfl,aT,λd hd=>⟨rfl,?_⟩⟩;have np:d≠p:=λz=>by rw [z,aT]at hd;cases hd
 rw [aN np]at hd;have nx:d≠dx:=λz=>by rw [z,aT]at hd;cases hd
 rw [aN nx]at hd;generalize hH5:bH (bH (bH (bH (bH H4 dx (.own p)) p (.ins C dx [])) p (.ins C dx [("codes",.ref l)])) d (cr P w d [])) p (.ins C dx [("codes",.ref l),("found",.ref d)])=H5;have hk:Same H4 H5:=λb o e=>by
  rw [<-hH5,aN (aR e hp),aN (aR e hd),aN (aR e hp),aN (aR e hp),aN (aR e hdx)];exact e
 have g5:Grow F4 H4 F4 H5:=⟨Same.refl _,R4.g.s.trans hk,hk,λ_ _ _ _ z=>z⟩;have hp5:H5 p=some (.ins C dx [("codes",.ref l),("found",.ref d)]):=by rw [<-hH5,aT]
 have hd5:H5 d=some (cr P w d []):=by rw [<-hH5,aN np,aT]
 have nd4:F4 d=none:=R4.g.s.free hd;have R5:Rep K H F F4 [some x,some y,some v2,some (.ref p),none] H5 (D5 g a (av fit) none):=(R4.grow g5).drop 3 (.ref p);have Hd:H d=none:=R4.g.h.free hd;have R6:Rep K H F F4 [some x,some y,some v2,some (.ref p),some (.int 0)] H5 (D5 g a (av fit) (some (.fz (.int 0)))):=R5.set (i:=4) (v:=.int 0) (d:=.int 0) rfl;have gE:=R6.g;have R7:Rep K (bH H5 d (cr P w d [])) F4 F4 [some x,some y,some v2,some (.ref p),some (.int 0)] H5 (D5 g a (av fit) (some (.fz (.int 0)))):=R6.toM rfl nd4 hd5;have S5:Self K C (av cs) F4 H5 p d:=⟨dx,l,hp5,l,ys,rfl,hl,al⟩;have sa:SA K (bG (au 2) (bG (au 4) dZ)) (aB (aF 2) (aB (aF 4) aK)):=aD (aE 2) (aD (aE 4) aL);refine⟨λk σ H'=>∃(j:Nat) (F':Hp) (xs':List Em),k=N - j/\j<=N/\σ=[some x,some y,some v2,some (.ref p),some (.int (j:Int))]/\Rep K (bH H5 d (cr P w d xs')) F4 F' σ H' (D5 g a (av fit) (some (.fz (.int (j:Int)))))/\Mv K (WPl cs) F' xs',
  ⟨N,0,F4,[],rfl,zU _,rfl,R7,Mv.nil⟩,?_⟩
 rintro k σ' H' ⟨j,F',xs',rfl,hj,rfl,R',M'⟩;refine iZ (i:=3) (ds:=[av fit,.int (j:Int)]) (r:=ag cs j fit) R' nd4 M' rfl (S5.of_rep hd5 R') (by decide) (by decide) sa rfl rfl ⟨fit,j,rfl,ok.sub,ok.ne,Qe hj ok.n16,rfl⟩ λv8 H8 F8 xs8 R8 M8 S8 s8 i8=>?_
 refine⟨rfl,_,rfl,?_⟩;rw [LC i8]
 by_cases hjN:j < N
 · rw [ok.no j hjN];refine mM ?_;refine⟨λσ H'=>∃(F':Hp) (xs':List Em),σ=[some x,some y,some v2,some (.ref p),some (.int ((j+1:Nat):Int))]/\Rep K (bH H5 d (cr P w d xs')) F4 F' σ H' (D5 g a (av fit) (some (.fz (.int ((j+1:Nat):Int)))))/\Mv K (WPl cs) F' xs',λσ2 H2 z=>?_,?_⟩
   · obtain⟨F',xs',z1,z2,z3⟩:=z;exact⟨N - (j+1),by omega,j+1,F',xs',rfl,hjN,z1,z2,z3⟩
   · refine⟨.int (j:Int),rfl,(j:Int),1,rfl,rfl,F8,xs8,?_,R8.set (i:=4) (v:=.int ((j+1:Nat):Int)) (d:=.int ((j+1:Nat):Int)) rfl,M8⟩;rfl
 · have e:j=N:=by omega
   subst e;rw [ok.yes];refine mL ?_;refine⟨.int (j:Int),rfl,?_⟩;refine iZ (i:=3) (ds:=[av fit,.int (j:Int)]) (r:=ag cs j fit) R8 nd4 M8 rfl S8 (by decide) (by decide) sa rfl rfl ⟨fit,j,rfl,ok.sub,ok.ne,ok.n16,rfl⟩ λv9 H9 F9 xs9 R9 M9 S9 s9 i9=>?_
   refine⟨by show 2<=sizeLine;decide,λt ht=>?_⟩
   have gt:=(gE.memEnd Hd R9.g).trans (Grow.new (p:=t) (o:=.tup [.int (j:Int),v9]) R9.g.s ht);exact q (.ref t) _ _ gt ⟨t,_,rfl,aT,.int (j:Int),_,rfl,rfl,v9,_,rfl,i9.same (bv (R9.g.s.free ht) _),rfl⟩
end
noncomputable def nc(fy:aQ->Option PyData)(jc i:Nat):List PyData->aQ->Cl->Option DFlow
 |[],δ,kls=>some (.nx (δ.set i (some (.od (iq kls)))))
 |d::r,δ,kls=>(fy (δ.set jc (some (.fz d)))).bind λo=>(jH o).bind λk=>if(decide (kls.length < fh)&&kls.all λp=>decide (p.2.length < fh))=true then nc fy jc i r (δ.set jc (some (.fz d))) (cF kls k d)else none
noncomputable def on(fi:aQ->Option (List PyData))(jc i:Nat)(fy:aQ->Option PyData)(δ:aQ):Option DFlow:=match δ[i]? with
 |some (some (.od []))=>if(gO (δ.set i none)&&decide (jc < δ.length))=true then(fi δ).bind λds=>nc fy jc i ds (δ.set i none) []else none
 |_=>none
section
variable {K:Fg}
theorem D7 {wi:TI}{ty:TE}{fi:aQ->Option (List PyData)}{fy:aQ->Option PyData}(jc i:Nat)(hi:SI K wi fi)(hy:SE K ty fy)(n1:jc≠i:=by decide):
 SS K (rP wi (cE jc) (jJ (EZ K "list" gr (Ao (au i) ty (oH dZ)) (bG (au jc) dZ)))) (on fi jc i fy):=by
 intro H0 F0 F σ H δ r D R e h;unfold on at e;split at e
 rotate_left
 · cases e
 rename_i q;split at e
 rotate_left
 · cases e
 rename_i z3;rw [Q5]at z3;obtain⟨z,lc⟩:=z3;have lc:=of_decide_eq_true lc;obtain⟨ds,e1,e2⟩:=bind_some e;refine hi H0 F0 F σ H δ ds _ R e1 λJ H1 F1 g1 it=>?_;have P0:PI K H0 F0 F1 σ H1 (δ.set i none) i δ.length []:=by
  obtain⟨a,o,q1,q2,q3,q4,q5⟩:=R.od i _ q;have hm:o=.dT []:=by
   rcases q5 with ⟨m,rfl,k⟩|⟨m,rfl,k⟩
   · rw [show m=[]from k]
   · exact k.elim
  subst hm;exact⟨(R.grow g1).hide i,z,Qc ..,a,[],q1,g1.h _ _ q2,g1.o _ _ q2 (λ_ y=>nomatch y) q3,q4,⟨⟩,uk.mpr ⟨(λy=>nomatch y),List.nodup_nil⟩⟩
 refine⟨λj m σ H=>m=ds.length - j/\j<=ds.length/\∃F' δ' kls,PI K H0 F0 F' σ H δ' i δ.length kls/\Same F1 F'/\nc fy jc i (ds.drop j) δ' kls=some r,⟨ds.length,by simp,zU _,F1,_,[],P0,Same.refl _,e2⟩,?_⟩
 rintro j m σ' H' ⟨rfl,hle,F',δ',kls,P,s',e'⟩
 by_cases hlt:j < ds.length
 · refine .inr ⟨it.go j F' H' hlt s' P.R.g.s,λσ H=>j+1<=ds.length/\∃F' δ' kls,PI K H0 F0 F' σ H δ' i δ.length kls/\Same F1 F'/\nc fy jc i (ds.drop (j+1)) δ' kls=some r,λσ2 H2 q=>⟨ds.length - (j+1),by omega,rfl,q⟩,λx H2 y=>?_⟩
   have hd:ds[j]? =some ds[j]:=iF hlt;obtain⟨F2,g2,is⟩:=it.yld j _ F' H' x H2 hd s' P.R.g.s y;rw [L3 hlt]at e';obtain⟨o,w1,e4⟩:=bind_some e';obtain⟨k,w2,e5⟩:=bind_some e4;clear e' e4;split at e5
   rotate_left
   · cases e5
   rename_i lims;have e':=e5;clear e5;rw [Q5]at lims;have P2:=(P.grow g2).set n1 is;obtain⟨a2,es2,h12,h22,_⟩:=P2.ex;show Ao (au i) ty (oH dZ) _ _ _;refine⟨.ref a2,h12,a2,rfl,.inr ⟨_,.inl h22⟩,hy H0 F0 F2 _ H2 _ o _ P2.R w1 λv H3 F3 g3 i3=>?_⟩;have P3:=P2.grow g3;have sF3:Same F1 F3:=s'.trans (g2.f.trans g3.f);have ix:Is K F3 x ds[j]:=is.same g3.f;have sl:σ'.length=δ.length:=P.R.len.trans P.ln;generalize hσ4:σ'.set jc (some x)=σ4 at P3 h12;have hjc:σ4[jc]? =some (some x):=by rw [<-hσ4,LW (by omega)]
   generalize hδ4:δ'.set jc (some (.fz ds[j]))=δ4 at P3 e';unfold jH at w2;split at w2
   rotate_left
   · cases w2
   rename_i dk;obtain⟨c,xs,rfl,u1,u2⟩:=i3;rw [cW w2]at u2;have u3:=Are.ints.mp u2;subst u3;have hc:H3 c=some (.tup ((k.map (Sum.inl:Int->cK)).map kV)):=by rw [ji];exact P3.R.g.s _ _ u1
   obtain⟨a,es,h1,h2,h3,h4,h5,h6⟩:=P3.ex;rw [h12]at h1;cases h1;obtain⟨h7,h8⟩:=uk.mp h6;have fin:∀(H4:Hp) (es4:Es) (kls4:Cl) (e4:List Int×Addr×List V),Rep K H0 F0 F3 σ4 H4 δ4->H4 a2=some (.dT (vy es4))->Ent K H0 F3 H4 es4 kls4->(a2::rc es4).Nodup->es4.find? (λe=>decide (e.1=k))=some e4->
    e4.2.2.length < sizeLine->cF kls4 k ds[j]=cF kls k ds[j]->NF K "list" (.ref e4.2.1) H4/\bG (au jc) dZ σ4 H4 λvs H5=>gr (.ref e4.2.1) vs H5 λ_ H6=>j+1<=ds.length/\∃F' δ' kls,PI K H0 F0 F' σ4 H6 δ' i δ.length kls/\Same F1 F'/\nc fy jc i (ds.drop (j+1)) δ' kls=some r:=by
    intro H4 es4 kls4 e4 R4 hm4 E4 nd4 hf4 hz4 hp4;obtain⟨b1,b2,b3,_⟩:=E4.at_ e4 (zR hf4);obtain⟨n41,n42⟩:=uk.mp nd4;have na:a2≠e4.2.1:=λz=>n41 (by rw [z];exact zP (zR hf4))
    obtain⟨es5,m5,a5,E5⟩:=Ent.app ix E4 n42 hf4;exact⟨.inl ⟨rfl,e4.2.2,SqL.of b1⟩,x,hjc,e4.2.1,e4.2.2,x,rfl,rfl,b1,hz4,hlt,F3,δ4,cF kls k ds[j],⟨R4.upd_ P3.z b2 b3,P3.z,P3.ln,a2,es5,h12,by rw [aN na,m5];exact hm4,h3,h4,hp4▸E5,by rw [a5];exact nd4⟩,sF3,e'⟩
   refine⟨zU _,λp hp=>?_⟩;have Fp:F3 p=none:=P3.R.g.s.free hp;have H0p:H0 p=none:=P3.R.g.h.free hp;have np:p ∉ rc es:=λhm=>by
    obtain⟨e,he,z⟩:=Qd.mp hm;have:=(h5.at_ e he).1;rw [show e.2.1=p from z,hp]at this
    cases this
   have nap:a2≠p:=aR h2 hp;have nac:c≠a2:=λz=>by rw [z,h2]at hc;cases hc
   refine⟨c,vy es,k.map Sum.inl,rfl,by rw [aN nap];exact h2,by rw [aN (aR hc hp)];exact hc,?_,?_⟩
   · unfold vy;rw [zJ,h5.len];exact nP (Dq (of_decide_eq_true lims.1))
   · rw [oj];cases hf:es.find? λe=>decide (e.1=k)with
     |some e4=>
      refine⟨λv hv=>?_,λhv=>nomatch hv⟩;cases hv;obtain⟨_,_,_,p4,hp4,ar4⟩:=h5.at_ e4 (zR hf);exact fin _ es kls e4 (P3.R.upd_ P3.z Fp H0p) (by rw [aN nap];exact h2) (h5.updH np) h6 hf (by rw [ar4.length];exact nP (Dq (of_decide_eq_true (Q6.mp lims.2 p4 hp4)))) rfl
     |none=>
      refine⟨λv hv=>(nomatch hv),λ_=>?_⟩;rw [yg hf];have adE:rc (es++[(k,p,[])])=rc es++[p]:=by simp [rc]
      refine fin _ (es++[(k,p,[])]) (kls++[(k,[])]) (k,p,[]) ((P3.R.upd_ P3.z Fp H0p).upd_ P3.z h3 h4) aT (((h5.updH np).snoc aT Fp H0p).updH ?_) ?_ ?_ (j6 (Nat.succ_pos 0) (by decide)) (qW ?_)
      · rw [adE];intro hm
        rcases Du.mp hm with hm|hm
        · exact h7 hm
        · exact nap (Q9.mp hm)
      · rw [adE];refine uk.mpr ⟨λhm=>?_,List.nodup_append.mpr ⟨h8,List.pairwise_singleton _ _,λy hy w hw z=>?_⟩⟩
        · rcases Du.mp hm with hm|hm
          · exact h7 hm
          · exact nap (Q9.mp hm)
        · rw [Q9.mp hw]at z;exact np (z▸hy)
      · rw [List.find?_append,hf]
        simp
      · have:=h5.find (k:=k);rw [hf]at this;cases hz:kls.find? λp=>decide (p.1=k)with
        |none=>rfl
        |some _=>rw [hz]at this;cases this
 · have e3:j=ds.length:=by omega
   subst e3;rw [List.drop_length]at e';cases e';obtain⟨a,es,h1,h2,h3,h4,h5,h6⟩:=P.ex;obtain⟨F3,s3,R3,k3,o3⟩:=P.R.frzE P.z h5;exact .inl ⟨it.stop F' H' s' P.R.g.s,h F3 σ' H' (R3.putD P.z h1 h2 (by rw [o3 a (uk.mp h6).1];exact h3) h4 (.inl ⟨_,rfl,k3⟩)) (g1.f.trans (s'.trans s3))⟩
end
theorem LD {n:Nat}(h:n+64 < cLine):n+3 < cLine:=Nat.lt_of_le_of_lt (Nat.add_le_add_left (by decide) n) h
noncomputable def uB(fit:Cs)(g:List Int):PyData:=.dict (iq (dH g [] fit))
theorem GT {k:List Int}{d:PyData}{p:List Int×List PyData}:∀{m:Cl},(m.map (·.1)).Nodup->p∈cF m k d->(p∈m/\p.1≠k)\/(p=(k,[d])/\k ∉ m.map (·.1))\/∃q,(k,q)∈m/\p=(k,q++[d])
 |[],_,h=>.inr (.inl ⟨Q9.mp h,λz=>nomatch z⟩)
 |q::r,nd,h=>by
  obtain⟨n1,n2⟩:=uk.mp (show (q.1::r.map (·.1)).Nodup from nd)
  unfold cF at h;split at h
  · rename_i e
    rcases Q8.mp h with h|h
    · exact .inr (.inr ⟨q.2,by rw [<-e];exact j5,by rw [h,e]⟩)
    · exact .inl ⟨j4 _ h,λz=>n1 (by rw [e, <-z];exact zP h)⟩
  · rename_i e
    rcases Q8.mp h with h|h
    · exact .inl ⟨by rw [h];exact j5,by rw [h];exact e⟩
    · rcases GT n2 h with ⟨a,b⟩|⟨a,b⟩|⟨q',a,b⟩
      · exact .inl ⟨j4 _ a,b⟩
      · refine .inr (.inl ⟨a,λz=>?_⟩)
        rcases Q8.mp (show k∈q.1::r.map (·.1)from z)with z|z
        · exact e z.symm
        · exact b z
      · exact .inr (.inr ⟨q',j4 _ a,b⟩)
theorem xU {k:List Int}{d:PyData}{j:List Int}:∀{m:Cl},j∈(cF m k d).map (·.1)↔j∈m.map (·.1)\/j=k
 |[]=>by simp [cF]
 |q::r=>by
  unfold cF;split
  · rename_i e
    constructor
    · intro h;exact .inl h
    · rintro(h|h)
      · exact h
      · rw [h, <-e];exact j5
  · show j∈q.1::(cF r k d).map (·.1)↔j∈q.1::r.map (·.1)\/j=k
    rw [Q8,Q8,xU (m:=r),or_assoc]
theorem Jl {k:List Int}{d:PyData}:∀{m:Cl},(m.map (·.1)).Nodup->((cF m k d).map (·.1)).Nodup
 |[],_=>by simp [cF]
 |q::r,nd=>by
  obtain⟨n1,n2⟩:=uk.mp (show (q.1::r.map (·.1)).Nodup from nd)
  unfold cF;split
  · exact nd
  · rename_i e;refine uk.mpr ⟨λh=>?_,Jl n2⟩
    rcases xU.mp h with h|h
    · exact n1 h
    · exact e h
theorem GU(a b:Cs)(g k:List Int):bD (a++b) g k=bD a g k++bD b g k:=List.filter_append ..
theorem GV(g:List Int):∀(cs seen:Cs) (m:Cl),(m.map (·.1)).Nodup->(∀p∈m,p.2=(bD seen g p.1).map aJ)->(∀k,k∈m.map (·.1)↔ ∃x∈seen,GC.iG x g=k)->
 ((dH g m cs).map (·.1)).Nodup/\(∀p∈dH g m cs,p.2=(bD (seen++cs) g p.1).map aJ)/\∀k,k∈(dH g m cs).map (·.1)↔ ∃x∈seen++cs,GC.iG x g=k
 |[],seen,m,nd,h1,h2=>by
  rw [Q4];exact⟨nd,h1,h2⟩
 |x::r,seen,m,nd,h1,h2=>by
  have:=GV g r (seen++[x]) (cF m (GC.iG x g) (aJ x)) (Jl nd) (λp hp=>?_) (λk=>?_)
  · rw [List.append_assoc]at this;exact this
  · rw [GU]
    rcases GT nd hp with ⟨a,b⟩|⟨a,b⟩|⟨q,a,b⟩
    · have:bD [x] g p.1=[]:=by
       unfold bD;rw [List.filter_cons_of_neg (by simpa using λz=>b z.symm),List.filter_nil]
      rw [this,Q4];exact h1 p a
    · rw [a];have e1:bD seen g (GC.iG x g)=[]:=by
       unfold bD;rw [List.filter_eq_nil_iff];intro y hy z;exact b ((h2 _).mpr ⟨y,hy,of_decide_eq_true z⟩)
      have e2:bD [x] g (GC.iG x g)=[x]:=by
       unfold bD;rw [List.filter_cons_of_pos (by simp),List.filter_nil]
      show [aJ x]=(bD seen g (GC.iG x g)++bD [x] g (GC.iG x g)).map aJ;rw [e1,e2];rfl
    · rw [b];have e2:bD [x] g (GC.iG x g)=[x]:=by
       unfold bD;rw [List.filter_cons_of_pos (by simp),List.filter_nil]
      show q++[aJ x]=(bD seen g (GC.iG x g)++bD [x] g (GC.iG x g)).map aJ;rw [e2,AD, <-h1 _ a];rfl
  · rw [xU,h2]
    constructor
    · rintro(⟨y,hy,e⟩|e)
      · exact⟨y,List.mem_append_left _ hy,e⟩
      · exact⟨x,C4 _ (Q9.mpr rfl),e.symm⟩
    · rintro⟨y,hy,e⟩
      rcases Du.mp hy with hy|hy
      · exact .inl ⟨y,hy,e⟩
      · rw [Q9.mp hy]at e;exact .inr e.symm
theorem ng(fit:Cs)(g:List Int):(cB fit g).Nodup/\(∀p∈dH g [] fit,p.2=(bD fit g p.1).map aJ)/\∀k,k∈cB fit g↔ ∃x∈fit,GC.iG x g=k:=
 GV g fit [] [] List.nodup_nil (λp hp=>nomatch hp) λk=>⟨λz=>(nomatch z),λz=>(by
  obtain⟨x,hx,_⟩:=z;cases hx)⟩
theorem jj {fit:Cs}{g k:List Int}:k∈dw fit g↔k∈cB fit g:=(List.mergeSort_perm _ Dw).mem_iff
theorem oq(fit:Cs)(g:List Int):(dw fit g).length=(cB fit g).length:=(List.mergeSort_perm _ Dw).length_eq
theorem yq {fit:Cs}{g k:List Int}(h:k∈cB fit g):bD fit g k≠[]:=by
 obtain⟨x,hx,e⟩:=((ng fit g).2.2 k).mp h;intro z;have:x∈bD fit g k:=List.mem_filter.mpr ⟨hx,decide_eq_true e⟩;rw [z]at this;cases this
theorem sL:∀(fit:Cs) (g k:List Int),k∈dw fit g->bD fit g k≠[]:=λ_ _ _ h=>yq (jj.mp h)
theorem qa(fit:Cs)(g:List Int):(cB fit g).length<=fit.length:=by
 have:=Au (L:=fit.map λx=>GC.iG x g) (ng fit g).1 λk hk=>by
  obtain⟨x,hx,e⟩:=((ng fit g).2.2 k).mp hk;exact Qd.mpr ⟨x,hx,e⟩
 rw [zJ]at this;exact this
theorem LE {cs:Cs}(hc:cs.length<=16):∀fit g,fit.Sublist cs->g∈cs->(dw fit g).length<=1000:=λfit g s _=>by
 rw [oq];have:=qa fit g;have:=s.length_le;omega
theorem jk:∀m:Cl,iL (iq m)=some (m.map (·.1))
 |[]=>rfl
 |p::m=>by
  have e:iL (iq (p::m))=(jH (aJ p.1)).bind (λk=>(iL (iq m)).map (k:: ·)):=rfl
  rw [e,jk m,show jH (aJ p.1)=some p.1 from bZ p.1]
  rfl
theorem yr:∀{m:Cl} {p:List Int×List PyData},(m.map (·.1)).Nodup->p∈m->m.find? (λq=>decide (q.1=p.1))=some p
 |q::r,p,nd,h=>by
  obtain⟨n1,n2⟩:=uk.mp (show (q.1::r.map (·.1)).Nodup from nd)
  rcases Q8.mp h with rfl|h
  · exact Dy (by simp)
  · rw [Dz (by simpa using λz=>n1 (by rw [z];exact zP h))]
    exact yr n2 h
def gf(cs:Cs):Prop:=∃n,n<=100/\∀x∈cs,x.length=n
structure CanOkF (fc:List PyData->Option PyData) (cs:Cs) (gm:PyData):Prop where
 few:cs.length<=16
 eq:gf cs
 codes:fc [gm]=some (av cs)
noncomputable def lR(c f:PyData):Option PyData:=
 @dite _ (∃z:Cs×Cs×Nat,c=av z.1/\f=av z.2.1/\PlanOk z.1 z.2.1 z.2.2/\gf z.1) (Classical.propDecidable _) (λh=>some (.tuple [.int ((Classical.choose h).2.2:Int),ag (Classical.choose h).1 (Classical.choose h).2.2 (Classical.choose h).2.1])) λ_=>none
theorem rK {c f d:PyData}(e:lR c f=some d):∃cs fit N,c=av cs/\f=av fit/\PlanOk cs fit N/\gf cs/\d=.tuple [.int (N:Int),ag cs N fit]:=by
 unfold lR at e
 by_cases h:∃z:Cs×Cs×Nat,c=av z.1/\f=av z.2.1/\PlanOk z.1 z.2.1 z.2.2/\gf z.1
 · rw [dif_pos h]at e;cases e;obtain⟨h1,h2,h3,h4⟩:=Classical.choose_spec h;exact⟨_,_,_,h1,h2,h3,h4,rfl⟩
 · rw [dif_neg h]at e;cases e
theorem ou {a b:Cs}(h:av a=av b):a=b:=by
 unfold av at h;injection h with h
 exact(List.map_inj_right λx y z=>tK z).mp h
theorem D8 {cs fit:Cs}{N:Nat}(ok:PlanOk cs fit N)(q:gf cs):lR (av cs) (av fit)=some (.tuple [.int (N:Int),ag cs N fit]):=by
 have h:∃z:Cs×Cs×Nat,av cs=av z.1/\av fit=av z.2.1/\PlanOk z.1 z.2.1 z.2.2/\gf z.1:=⟨(cs,fit,N),rfl,rfl,ok,q⟩;cases e:lR (av cs) (av fit)with
 |none=>
  unfold lR at e;rw [dif_pos h]at e;cases e
 |some d=>
  obtain⟨cs',fit',N',e1,e2,ok',_,rfl⟩:=rK e;cases ou e1;cases ou e2;have:N'=N:=by
   rcases Nat.lt_trichotomy N' N with z|z|z
   · have:=ok.no N' z;rw [ok'.yes]at this;cases this
   · exact z
   · have:=ok'.no N z;rw [ok.yes]at this;cases this
  rw [this]
noncomputable def Aw(fc:List PyData->Option PyData)(ds:List PyData):Option PyData:=
 @dite _ (∃z:Cs×Cs×Nat×PyData,ds=[z.2.2.2,av z.2.1,.int (z.2.2.1:Int)]/\CanOkF fc z.1 z.2.2.2/\z.2.1.Sublist z.1/\z.2.2.1<=16) (Classical.propDecidable _) (λh=>some (.bool (dQ (Classical.choose h).1 (Classical.choose h).2.2.1 (Classical.choose h).2.1))) λ_=>none
theorem wF {fc:List PyData->Option PyData}{ds:List PyData}{d:PyData}(e:Aw fc ds=some d):∃cs fit m gm,ds=[gm,av fit,.int ((m:Nat):Int)]/\CanOkF fc cs gm/\fit.Sublist cs/\m<=16/\d=.bool (dQ cs m fit):=by
 unfold Aw at e
 by_cases h:∃z:Cs×Cs×Nat×PyData,ds=[z.2.2.2,av z.2.1,.int (z.2.2.1:Int)]/\CanOkF fc z.1 z.2.2.2/\z.2.1.Sublist z.1/\z.2.2.1<=16
 · rw [dif_pos h]at e;cases e;obtain⟨h1,h2,h3,h4⟩:=Classical.choose_spec h;exact⟨_,_,_,_,h1,h2,h3,h4,rfl⟩
 · rw [dif_neg h]at e;cases e
theorem Iw {fc:List PyData->Option PyData}{cs fit:Cs}{m:Nat}{gm:PyData}(ok:CanOkF fc cs gm)(s:fit.Sublist cs)(hm:m<=16):Aw fc [gm,av fit,.int (m:Int)]=some (.bool (dQ cs m fit)):=by
 cases e:Aw fc [gm,av fit,.int (m:Int)]with
 |none=>
  unfold Aw at e;rw [dif_pos ⟨(cs,fit,m,gm),rfl,ok,s,hm⟩]at e;cases e
 |some d=>
  obtain⟨cs',fit',m',gm',e1,ok',_,_,rfl⟩:=wF e;injection e1 with z1 e1
  injection e1 with z2 e1
  injection e1 with z3 _
  injection z3 with z3
  cases ou z2;cases z1;have:=ok.codes;rw [ok'.codes]at this;cases ou (zV this);have:m=m':=by omega
  rw [this]
section
variable {K:Fg} {P:Program} {w:World} {C:Addr} {cs:Cs} {n:Nat} {E:XK}
theorem ox {cd:PyData}{W:List (List Int)×Int->PyData->Prop}{na:Nat}{dom:List PyData->PyData->Prop}{vs:List V}{H:Hp}{Q:VK}{E:XK}(h:ux K P w C cd W na dom vs H Q E):vs.length=na+1:=by
 obtain⟨_,_,_,_,_,_,_,rfl,hl,_⟩:=h;rw [zC,hl]
theorem qb {cd:PyData}{W:List (List Int)×Int->PyData->Prop}{na k:Nat}{dom:List PyData->PyData->Prop}{vs:List V}{H:Hp}{Q:VK}{E:XK}(N:List Str)(hN:N.length=na+1+k)(h:ux K P w C cd W na dom vs H Q E):L2.dL N vs=vs.map some++List.replicate k none:=by
 unfold L2.dL;rw [ox h,hN,Nat.add_sub_cancel_left]
theorem wG {gm:PyData}{vs:List V}{H:Hp}{Q:VK}{E:XK}(N:List Str)(hN:N.length=9)(h:LA K P w cs gm n vs H Q E):L2.dL N vs=vs.map some++[none,none,none,none,none]:=by
 obtain⟨_,_,_,_,_,_,_,rfl,_⟩:=h;unfold L2.dL;rw [hN];rfl
def MQ(K:Fg)(P:Program)(w:World)(fc:List PyData->Option PyData)(n:Nat):Sp:=λvs H Q E=>∃cs gm,CanOkF fc cs gm/\LA K P w cs gm n vs H Q E
theorem Ix {gm:PyData}{t1:TT}{te1:TE}{f1:aQ->Option Bool}{g1:aQ->Option PyData}{u:TS}(h1:ST K t1 f1)(h2:SE K te1 g1)(e1:∀fit m,f1 (D9 gm fit m none none none none)=some (decide (fit.length < 2)||decide (m=0)))(e2:∀fit m,g1 (D9 gm fit m none none none none)=some (.bool (decide (fit.length < 2))))
 {vs:List V} {H:Hp} {Q:VK} {E':XK} {D:Ends} (hD:D.rt=Q) (h:LA K P w cs gm 0 vs H Q E'):eF (nG t1 (ju te1) ib) u D (vs.map some++[none,none,none,none,none]) H:=by
 obtain⟨F,d,xs,gv,fv,fit,m,rfl,sT,hd0,nF,M,ig,ifv,sub,mn,q⟩:=h;subst hD;have m0:m=0:=by omega
 subst m0;have R1:Rep K (bH H d (cr P w d xs)) F F [some gv,some fv,some (.int ((0:Nat):Int)),some (.ref d),none,none,none,none,none] H (D9 gm fit 0 none none none none):=(((Rep.zero (σ:=[some gv,some fv,some (.int ((0:Nat):Int)),some (.ref d),none,none,none,none,none]) sT nF hd0).know (i:=0) rfl ig).know (i:=1) rfl ifv).know (i:=2) (d:=.int ((0:Nat):Int)) rfl rfl;refine h1 _ F F _ H _ _ _ R1 (e1 fit 0) λH1 F1 g1'=>?_;have R1':=R1.grow g1';rw [if_pos (by rw [Bool.or_eq_true];exact .inr rfl)]
 refine h2 _ F F1 _ H1 _ _ _ R1' (e2 fit 0) λv H2 F2 g2 i2=>?_;cases (show v=V.bl (decide (fit.length < 2))from i2)
 exact q H2 F2 xs (R1'.grow g2).g (M.same (g1'.f.trans g2.f)) λ_ _=>rfl
theorem LF {fc:List PyData->Option PyData}{ta tb tc:TE}{fa fb fd:aQ->Option PyData}(a:SE K ta fa)(b:SE K tb fb)(c:SE K tc fd):SE K (oJ (MQ K P w fc 16) [] E0 (bG ta (bG tb (bG tc (bG (GK P w) dZ))))) (aG 3 (Aw fc) (aB fa (aB fb (aB fd aK)))):=by
 intro H0 F0 F σ H δ d Q R e h;obtain⟨ds,e1,e2⟩:=bind_some e;obtain⟨d1,x1,e1⟩:=bind_some e1;obtain⟨r1,y1,e1⟩:=bind_some e1;cases e1;obtain⟨d2,x2,y1⟩:=bind_some y1;obtain⟨r2,y2,y1⟩:=bind_some y1;cases y1;obtain⟨d3,x3,y2⟩:=bind_some y2;obtain⟨r3,y3,y2⟩:=bind_some y2;cases y2;cases (show some []=some r3 from y3)
 rw [if_pos (show [d1,d2,d3].length=3 from rfl)]at e2
 obtain⟨cs,fit,m,gm,z,ok,sub,hm,rfl⟩:=wF e2;injection z with z1 z
 injection z with z2 z
 injection z with z3 _
 subst z1 z2 z3;refine a H0 F0 F σ H δ _ _ R x1 λv1 H1 F1 g1 i1=>b H0 F0 F1 σ H1 δ _ _ (R.grow g1) x2 λv2 H2 F2 g2 i2=>c H0 F0 F2 σ H2 δ _ _ ((R.grow g1).grow g2) x3 λv3 H3 F3 g3 i3 p hp=>?_;cases (show v3=V.int (m:Int)from i3)
 have g:=g1.trans (g2.trans g3);have R3:=R.grow g;have nF:F3 p=none:=g.s.free hp;refine⟨cs,d1,ok,F3,p,[],v1,v2,fit,m,rfl,⟨λb u e=>by rw [aN (aR e nF)];exact g.s b u e,R3.tb⟩,aT,nF,Mv.nil,i1.same (g2.f.trans g3.f),i2.same g3.f,sub,hm,λH' F' xs' g' M' _=>?_⟩
 exact h _ H' F' ((g.trans (Grow.fresh (p:=p) (o:=cr P w p []) g.s hp)).memEnd (g.h.free hp) g') rfl
theorem GY {Dc:Addr}{i:Nat}{tb:TS}{fb:aQ->Option DFlow}{ts:Addr->TS}{vs:List V}{ds:List PyData}{d:PyData}{F H:Hp}{Q:VK}{N:List Str}(sb:SS K tb fb)(s:lH K F H)(ar:Are K F vs ds)(e:fb (cj N.length ds)=some (.rt d))(q:∀v H' F',Grow F H F' H'->Is K F' v d->Q v H'):
 Hj K Dc i N.length (λ_=>tb) ts {nx:=λ_ H'=>Q .non H',rt:=Q} (L2.dL N vs) H:=
 sb H F F _ H (cj N.length ds) (.rt d) _ (jf s ar) e (λF2 v H2 g2 i2=>q v H2 F2 g2 i2)
theorem wH {C Dc:Addr}{i:Nat}{tb:XK->TS}{fx:aQ->Bool}{ys:List V}{bs:List Bool}{vs:List V}{ds:List PyData}{F H:Hp}{Q:VK}{N:List Str}(sx:∀E,SX K E C (tb E) fx)(hex:PySem.W.exmOne K (.ref C) (.ref Dc)=some true)(xc:ExcCls K C)
 (a:AllAns K C ys bs) (l1:bs.length<=1000) (hi:i < N.length) (s:lH K F H) (ar:Are K F vs ds) (e:fx (cj N.length ds)=true) (q:∀v H' F',Grow F H F' H'->Is K F' v (.list (bs.map PyData.bool))->Q v H'):
 Hj K Dc i N.length tb (λ_=>ju (oH (tQ K i ys))) {nx:=λ_ H'=>Q .non H',rt:=Q} (L2.dL N vs) H:=
 DV (u:=ib) sx hex xc a l1 hi s ar e q
end
theorem yt(fit:Cs):gj (.int ((fit.map aJ).length:Nat)) (.int 1)=some (.bool (decide (fit.length=1))):=by
 rw [dF,zJ];congr 2
 exact decide_eq_decide.mpr (by omega)
theorem MR:∀(fit:Cs) (m:Nat),(dB (d2 gj (cI jG (aB (aF 1) aK)) (dC (.int 1)))) (δ2 fit m)=some (decide (fit.length=1)):=λfit m=>by
 show ((gj (.int ((fit.map aJ).length:Nat)) (.int 1)).bind _)=_;rw [yt];rfl
theorem MS:∀(fit:Cs) (m:Nat),fit.length=1->(d2 cQ (aF 1) (dC (.int 0))) (δ2 fit m)=some (aJ (fit.headD [])):=λfit m h=>by
 match fit,h with
 |[x],_=>rfl
theorem MT:∀(fit:Cs) (m:Nat),(dB (d2 gj (aF 2) (dC (.int 0)))) (δ2 fit m)=some (decide (m=0)):=λfit m=>by
 show ((gj (.int (m:Int)) (.int 0)).bind _)=_;rw [dF];show some _=_;congr 1
 exact decide_eq_decide.mpr (by omega)
theorem MU:∀(fit:Cs) (m:Nat),fit.length<=16->(eh (aB (cI yL (aB (aF 1) aK)) (aB (aF 2) aK))) (δ2 fit m)=some (.tuple [.tuple (fit.map aJ),.int (m:Int)]):=λfit m h=>by
 rfl
theorem MV:∀(fit:Cs) (m:Nat) v3 v4,(d2 uv (aF 2) (dC (.int 1))) (δ5 fit (m+1) v3 v4)=some (.int (m:Int)):=λfit m v3 v4=>by
 show some (PyData.int (((m+1:Nat):Int) - 1))=_;congr 2
 omega
theorem MW:∀(fit:Cs) (m:Nat) d v4,(dB (d2 Ez (aF 3) (dC .none))) (δ5 fit m (some (.fz d)) v4)=some (!mD d):=λfit m d v4=>by
 cases d<;>rfl
theorem MX:∀(fit:Cs) (g:List Int) (m:Nat) v4 v5 v6 v7,(d2 uv (aF 3) (dC (.int 1))) (δ8 fit g (m+1) v4 v5 v6 v7)=some (.int (m:Int)):=λfit g m v4 v5 v6 v7=>by
 show some (PyData.int (((m+1:Nat):Int) - 1))=_;congr 2
 omega
theorem MY:∀(fit:Cs) (g:List Int) (m:Nat) v4 v5 v6 d,(dB (d2 K8 (aF 7) (dC .none))) (δ8 fit g m v4 v5 v6 (some (.fz d)))=some (mD d):=λfit g m v4 v5 v6 d=>by
 cases d<;>rfl
theorem MZ:∀(fit:Cs) (g:List Int) (m:Nat) v4 v5 a d,(eh (aB (aF 6) (aB (aF 7) aK))) (δ8 fit g m v4 v5 (some (.fz a)) (some (.fz d)))=some (.tuple [a,d]):=λfit g m v4 v5 a d=>rfl
theorem M0:∀(fit:Cs) (g:List Int) (m:Nat) v4 v6 v7 (rows:List PyData),rows.length<=1000->(eh (aB (aF 2) (aB (cI yL (aB (aF 5) aK)) aK))) (δ8 fit g m v4 (some (.fz (.list rows))) v6 v7)=some (.tuple [aJ g,.tuple rows]):=λfit g m v4 v6 v7 rows h=>rfl
theorem CU {cs fit:Cs}{g:List Int}(hc:cs.length<=16)(s:fit.Sublist cs):tR [uB fit g]=some (.list ((dw fit g).map aJ)):=by
 obtain⟨nd,h1,h2⟩:=ng fit g;have a1:((cB fit g).all λk=> !k.isEmpty)=true:=by
  rw [Q6];intro k hk;obtain⟨x,hx,e⟩:=(h2 k).mp hk;rw [<-e];rfl
 have a3:(cB fit g).length < 64:=by
  have:=qa fit g;have:=s.length_le;omega
 show ((iL (iq (dH g [] fit))).bind λks=>if(ks.all (λk=> !k.isEmpty)&&decide (ks.length < 64)&&decide ks.Nodup)=true then some (PyData.list ((mZ ks).map λk=>PyData.tuple (k.map PyData.int)))else none)=_;rw [jk,zD];show (if((cB fit g).all (λk=> !k.isEmpty)&&decide ((cB fit g).length < 64)&&decide (cB fit g).Nodup)=true then _ else _)=_;rw [a1,decide_eq_true a3,decide_eq_true nd];rfl
theorem Ax {fit:Cs}{g k:List Int}(h:k∈cB fit g):m8 (uB fit g) (aJ k)=some (av (bD fit g k)):=by
 obtain⟨nd,h1,h2⟩:=ng fit g;obtain⟨p,hp,rfl⟩:=Qd.mp h;have e:=h1 p hp;show ((iL (iq (dH g [] fit))).bind λ_=>(CG (iq (dH g [] fit)) (aJ p.1)).bind λr=>r)=_;rw [jk,zD];have tk:MI (iq (dH g [] fit))=true:=by cases dH g [] fit<;>rfl
 have e2:CG (iq (dH g [] fit)) (aJ p.1)=some (((iq (dH g [] fit)).find? λq=>decide (jH q.1=some p.1)).map (·.2)):=by
  show ((hZ (p.1.map PyData.int)).bind λks=>if MI (iq (dH g [] fit))=true then some (((iq (dH g [] fit)).find? λp=>decide (jH p.1=some ks)).map (·.2))else none)=_
  rw [bZ,zD,if_pos tk]
 rw [e2,zD];unfold iq;rw [List.find?_map];have f:((λq:PyData×PyData=>decide (jH q.1=some p.1))∘ λq:List Int×List PyData=>(aJ q.1,PyData.list q.2))=λq=>decide (q.1=p.1):=by
  funext q
  show decide (jH (aJ q.1)=some p.1)=_;rw [show jH (aJ q.1)=some q.1 from bZ q.1]
  exact decide_eq_decide.mpr ⟨zV,congrArg some⟩
 rw [f,yr nd hp];show some (PyData.list p.2)=_;rw [e];rfl
theorem M1 {cs:Cs}(hc:cs.length<=16)(he:gf cs):∀fit g (m:Nat) v5,fit.Sublist cs->g∈cs->(bf (cI tR (aB (aF 4) aK))) (δ8 fit g m (some (.fz (uB fit g))) v5 none none)=some ((dw fit g).map aJ):=λfit g m v5 s _=>by
 show ((tR [uB fit g]).bind kB)=_;rw [CU hc s];rfl
theorem M7 {cs:Cs}(hc:cs.length<=16)(he:gf cs):∀fit g (m:Nat) v5 v7 k,fit.Sublist cs->g∈cs->k∈dw fit g->(d2 m8 (aF 4) (aF 6)) (δ8 fit g m (some (.fz (uB fit g))) v5 (some (.fz (aJ k))) v7)=some (av (bD fit g k)):=λfit g m v5 v7 k _ _ h=>Ax (jj.mp h)
noncomputable def okP(cs:Cs)(m:Nat)(fit:Cs):Bool:= !mD (ag cs m fit)
theorem uC(pw:Cs->PyData)(fit:Cs)(g:List Int):mD (cz pw fit g)= !(dw fit g).all λk=> !mD (pw (bD fit g k)):=by
 unfold cz;split
 · rename_i h;rw [h];rfl
 · rename_i h;rw [Bool.not_eq_true]at h;rw [h];rfl
theorem uD(pw:Cs->PyData)(fit:Cs):∀gs,mD (d5 pw fit gs)= !gs.any λg=>(dw fit g).all λk=> !mD (pw (bD fit g k))
 |[]=>rfl
 |g::r=>by
  have b:=uC pw fit g;unfold d5;cases h:mD (cz pw fit g)with
  |true=>
   rw [if_pos rfl,uD pw fit r,HA];rw [h]at b;cases hh:(dw fit g).all λk=> !mD (pw (bD fit g k))with
   |true=>rw [hh]at b;cases b
   |false=>rw [Bool.false_or]
  |false=>
   rw [if_neg Q7,h,HA];rw [h]at b;cases hh:(dw fit g).all λk=> !mD (pw (bD fit g k))with
   |true=>rfl
   |false=>rw [hh]at b;cases b
theorem wI(pw:Cs->PyData)(fit:Cs):∀gs,mD (d5 pw fit gs)=false->∃g∈gs,d5 pw fit gs=cz pw fit g/\mD (cz pw fit g)=false
 |[],h=>nomatch h
 |g::r,h=>by
  unfold d5 at h ⊢;cases hg:mD (cz pw fit g)with
  |true=>
   rw [hg,if_pos rfl]at h;obtain⟨g',h1,h2,h3⟩:=wI pw fit r h;exact⟨g',j4 _ h1,by rw [if_pos rfl];exact h2,h3⟩
  |false=>exact⟨g,j5,by rw [if_neg Q7],hg⟩
theorem mF {cs fit:Cs}(h:fit.length=1)(m:Nat):okP cs m fit=true:=by
 unfold okP;rw [qZ cs h];rfl
theorem yu {cs fit:Cs}(h:fit.length≠1):okP cs 0 fit=false:=by
 unfold okP;rw [tw cs h];rfl
theorem oy {cs fit:Cs}(h:fit.length≠1)(m:Nat):okP cs (m+1) fit=(okP cs m fit||cs.any λg=>(dw fit g).all λk=>okP cs m (bD fit g k)):=by
 unfold okP;rw [iu cs h];unfold gP;cases hh:mD (ag cs m fit)with
 |true=>
  rw [if_pos rfl,uD,Bool.not_not];rfl
 |false=>
  rw [if_neg Q7,hh];rfl
theorem LG {cs fit:Cs}{m:Nat}(h:okP cs m fit=true):okP cs (m+1) fit=true:=by
 by_cases hl:fit.length=1
 · exact mF hl _
 · rw [oy hl,h];rfl
theorem LH {cs fit:Cs}{m n:Nat}(h:okP cs m fit=true)(l:m<=n):okP cs n fit=true:=by
 induction l with
 |refl=>exact h
 |step _ ih=>exact LG ih
theorem xV {cs:Cs}:∀(m:Nat) (fit:Cs),dQ cs m fit=true->dQ cs (m+1) fit=true
 |0,fit,h=>by
  have h:decide (fit.length < 2)=true:=h;unfold dQ;rw [h];rfl
 |m+1,fit,h=>by
  unfold dQ at h ⊢;rw [Bool.or_eq_true]at h ⊢
  rcases h with h|h
  · exact .inl h
  · obtain⟨g,hg,q⟩:=Gs.mp h;refine .inr (Gs.mpr ⟨g,hg,?_⟩);unfold lQ at q ⊢;rw [Q5]at q ⊢;exact⟨q.1,Q6.mpr λk hk=>xV m _ (Q6.mp q.2 k hk)⟩
theorem qc {fit:Cs}(g:List Int)(h:fit≠[]):0 < (cB fit g).length:=by
 cases fit with
 |nil=>exact absurd rfl h
 |cons x r=>exact List.length_pos_of_mem (((ng (x::r) g).2.2 (GC.iG x g)).mpr ⟨x,j5,rfl⟩)
theorem GZ {fit:Cs}{g k:List Int}(h:∀x∈fit,GC.iG x g=k):bD fit g k=fit:=List.filter_eq_self.mpr λx hx=>decide_eq_true (h x hx)
theorem uE {cs:Cs}:∀(m:Nat) (fit:Cs),fit≠[]->dQ cs m fit=okP cs m fit
 |0,fit,ne=>by
  have p:0 < fit.length:=LY.mpr ne;show decide (fit.length < 2)=okP cs 0 fit
  by_cases h:fit.length=1
  · rw [mF h,decide_eq_true (by omega)]
  · rw [yu h,decide_eq_false (by omega)]
 |m+1,fit,ne=>by
  have p:0 < fit.length:=LY.mpr ne
  by_cases h:fit.length=1
  · rw [mF h];unfold dQ;rw [decide_eq_true (by omega)]
    rfl
  · rw [oy h];have e1:dQ cs (m+1) fit=cs.any (lQ (dQ cs m) fit):=by
     show (decide (fit.length < 2)||cs.any (lQ (dQ cs m) fit))=_
     rw [decide_eq_false (by omega),Bool.false_or]
    rw [Bool.eq_iff_iff,Bool.or_eq_true]
    constructor
    · intro q;rw [e1]at q;obtain⟨g,hg,q⟩:=Gs.mp q;refine .inr (Gs.mpr ⟨g,hg,Q6.mpr λk hk=>?_⟩);unfold lQ at q;rw [Q5]at q;rw [<-uE m _ (sL fit g k hk)];exact Q6.mp q.2 k (jj.mp hk)
    · rintro(q|q)
      · rw [<-uE m fit ne]at q;exact xV m fit q
      · obtain⟨g,hg,q⟩:=Gs.mp q
        by_cases two:2<=(cB fit g).length
        · rw [e1];refine Gs.mpr ⟨g,hg,?_⟩;unfold lQ;rw [Q5];refine⟨decide_eq_true two,Q6.mpr λk hk=>?_⟩;rw [uE m _ (yq hk)];exact Q6.mp q k (jj.mpr hk)
        · have pos:=qc g ne
          match hk:cB fit g with
          |[]=>rw [hk]at pos;cases pos
          |k::k'::r=>rw [hk]at two;simp at two
          |[k]=>
           have pa:bD fit g k=fit:=GZ λx hx=>by
            have:=((ng fit g).2.2 (GC.iG x g)).mpr ⟨x,hx,rfl⟩;rw [hk]at this;exact Q9.mp this
           have:=Q6.mp q k (jj.mpr (by rw [hk];exact Q9.mpr rfl))
           rw [pa, <-uE m fit ne]at this;exact xV m fit this
noncomputable def Ay(cs:Cs):Nat->Cs->Nat
 |0,_=>0
 |m+1,fit=>if okP cs m fit=true then Ay cs m fit else m+1
theorem Az(cs:Cs):∀(m:Nat) (fit:Cs),Ay cs m fit<=m
 |0,_=>Q2 _
 |m+1,fit=>by
  unfold Ay;split
  · exact Nat.le_succ_of_le (Az cs m fit)
  · exact Q2 _
theorem G1 {cs:Cs}:∀(m:Nat) (fit:Cs),okP cs m fit=true->okP cs (Ay cs m fit) fit=true
 |0,_,h=>h
 |m+1,fit,h=>by
  unfold Ay;split
  · rename_i q;exact G1 m fit q
  · exact h
theorem CV {cs fit:Cs}(h:fit.length=1):∀m,Ay cs m fit=0
 |0=>rfl
 |m+1=>by
  unfold Ay;rw [mF h,if_pos rfl];exact CV h m
theorem Iy {cs fit:Cs}:∀{N:Nat},(∀j,j < N->okP cs j fit=false)->Ay cs N fit=N
 |0,_=>rfl
 |N+1,h=>by
  unfold Ay;rw [h N (EA _),if_neg Q7]
theorem Iz {cs fit:Cs}{g:List Int}{m:Nat}(ne:fit≠[])(hl:fit.length≠1)(no:okP cs m fit=false)(hg:g∈cs)(all:∀k∈dw fit g,okP cs m (bD fit g k)=true):∃k∈dw fit g,Ay cs m (bD fit g k)=m:=by
 cases m with
 |zero=>
  have:=qc g ne;rw [<-oq]at this;obtain⟨k,hk⟩:=List.exists_mem_of_length_pos this;exact⟨k,hk,rfl⟩
 |succ m=>
  apply Classical.byContradiction
  intro z;have each:∀k∈dw fit g,okP cs m (bD fit g k)=true:=λk hk=>by
   have l1:=Az cs (m+1) (bD fit g k);have l2:Ay cs (m+1) (bD fit g k)≠m+1:=λe=>z ⟨k,hk,e⟩;exact LH (G1 (m+1) _ (all k hk)) (by omega)
  rw [oy hl,Bool.or_eq_false_iff]at no;have:(cs.any λg=>(dw fit g).all λk=>okP cs m (bD fit g k))=true:=Gs.mpr ⟨g,hg,Q6.mpr each⟩;rw [no.2]at this;cases this
theorem CW {fit:Cs}{g x k:List Int}(hx:x∈fit)(h:GC.iG x g≠k):(bD fit g k).length < fit.length:=by
 unfold bD
 rcases Nat.lt_or_ge (fit.filter λx=>decide (GC.iG x g=k)).length fit.length with z|z
 · exact z
 · have e:=List.filter_sublist.eq_of_length_le z;have:=List.filter_eq_self.mp e x hx;exact absurd (of_decide_eq_true this) h
theorem wJ {cs:Cs}(nd:cs.Nodup)(sep:∀x∈cs,∀y∈cs,GC.iG x y=GC.iG y y->x=y):∀(n:Nat) (fit:Cs),fit.Sublist cs->fit≠[]->fit.length<=n+1->okP cs n fit=true
 |0,fit,s,ne,l=>mF (by have:=LY.mpr ne;omega) 0
 |n+1,fit,s,ne,l=>by
  by_cases h1:fit.length=1
  · exact mF h1 _
  · match fit,ne,h1 with
    |g::x::r,_,h1=>
     have nf:=uk.mp (s.nodup nd);have gin:=s.mem (j5 (a:=g) (l:=x::r));have xin:x∈cs:=s.mem (j4 _ j5);rw [oy h1,Bool.or_eq_true];refine .inr (Gs.mpr ⟨g,gin,Q6.mpr λk hk=>?_⟩);have lt:(bD (g::x::r) g k).length < (g::x::r).length:=by
      by_cases e:GC.iG g g=k
      · refine CW (x:=x) (j4 _ j5) λz=>?_;have:=sep x xin g gin (z.trans e.symm);exact nf.1 (by rw [this];exact j5)
      · exact CW (x:=g) j5 e
     exact wJ nd sep n _ ((ol _ g k).trans s) (sL _ g k hk) (by omega)
theorem G4 {p:Nat->Bool}:∀n,p n=true->∃m,m<=n/\p m=true/\∀j,j < m->p j=false
 |0,h=>⟨0,Q2 _,h,λj hj=>absurd hj (Nat.not_lt_zero _)⟩
 |n+1,h=>by
  by_cases q:∃i,i<=n/\p i=true
  · obtain⟨i,hi,q⟩:=q
    by_cases e:∃m,m<=i/\p m=true/\∀j,j < m->p j=false
    · obtain⟨m,a,b,c⟩:=e;exact⟨m,by omega,b,c⟩
    · exact absurd (least_of' i q) e
  · exact⟨n+1,Q2 _,h,λj hj=>by
     cases z:p j with
     |false=>rfl
     |true=>exact absurd ⟨j,by omega,z⟩ q⟩
where
 least_of' {p:Nat->Bool} (i:Nat) (h:p i=true):∃m,m<=i/\p m=true/\∀j,j < m->p j=false:=by
  induction i using Nat.strongRecOn with
  |ind i ih=>
   by_cases q:∃j,j < i/\p j=true
   · obtain⟨j,hj,q⟩:=q;obtain⟨m,a,b,c⟩:=ih j hj q;exact⟨m,by omega,b,c⟩
   · exact⟨i,Q2 _,h,λj hj=>by
      cases z:p j with
      |false=>rfl
      |true=>exact absurd ⟨j,hj,z⟩ q⟩
theorem JA {cs fit:Cs}(few:cs.length<=16)(nd:cs.Nodup)(sep:∀x∈cs,∀y∈cs,GC.iG x y=GC.iG y y->x=y)(s:fit.Sublist cs)(ne:fit≠[]):∃N,PlanOk cs fit N:=by
 obtain⟨N,a,b,c⟩:=G4.least_of' (p:=λn=>okP cs n fit) 16 (wJ nd sep 16 fit s ne (by have:=s.length_le;omega))
 refine⟨N,few,s,ne,a,?_,λj hj=>?_⟩
 · have b:(!mD (ag cs N fit))=true:=b;simpa using b
 · have:=c j hj;have:(!mD (ag cs j fit))=false:=this;simpa using this
theorem PlanOk.okP {cs fit:Cs}{N:Nat}(ok:PlanOk cs fit N):okP cs N fit=true/\∀j,j < N->DL.okP cs j fit=false:=by
 refine⟨?_,λj hj=>?_⟩
 · unfold DL.okP;rw [ok.yes];rfl
 · unfold DL.okP;rw [ok.no j hj];rfl
def eI(K:Fg)(x:Str)(st:Stmt):Prop:=∃(f:Addr) (p:Value) (o:Option Addr) (s:Array (Option Value)) (q r t:Value) (n:Option Addr) (u v:Value),PySem.W.nsIn K mainGlobals x=some (some (.ref f))/\K.lookup f=some ⟨p,o,.func (PySem.W.fnOf x x (iO st) (eV st) (aS st) .none q r t n u v),s⟩/\PySem.W.codeIn K u x=true/\PySem.W.keepIn K (.ref f)=true
theorem eM {K:Fg}{x:Str}{st:Stmt}{f:Addr}{p:Value}{o:Option Addr}{s:Array (Option Value)}{q r t:Value}{n:Option Addr}{u v:Value}(a:PySem.W.nsIn K mainGlobals x=some (some (.ref f)))(l:K.lookup f=some ⟨p,o,.func (PySem.W.fnOf x x (iO st) (eV st) (aS st) .none q r t n u v),s⟩)(c:PySem.W.codeIn K u x=true)(k:PySem.W.keepIn K (.ref f)=true):eI K x st:=
 ⟨f,p,o,s,q,r,t,n,u,v,a,l,c,k⟩
def G5(K:Fg)(C:Addr)(x y:Str)(st:Stmt):Prop:=∃(f:Addr) (p:Value) (o:Option Addr) (s:Array (Option Value)) (q r t:Value) (n:Option Addr) (u v:Value),PySem.W.findIn K (.ref C) x=some (some (.ref f))/\K.lookup f=some ⟨p,o,.func (PySem.W.fnOf x y (iO st) (eV st) (aS st) .none q r t n u v),s⟩/\PySem.W.codeIn K u y=true/\PySem.W.keepIn K (.ref f)=true/\PySem.W.isFn K (.ref f)=true
theorem JB {K:Fg}{C:Addr}{x y:Str}{st:Stmt}{f:Addr}{p:Value}{o:Option Addr}{s:Array (Option Value)}{q r t:Value}{n:Option Addr}{u v:Value}(a:PySem.W.findIn K (.ref C) x=some (some (.ref f)))(l:K.lookup f=some ⟨p,o,.func (PySem.W.fnOf x y (iO st) (eV st) (aS st) .none q r t n u v),s⟩)(c:PySem.W.codeIn K u y=true)(k:PySem.W.keepIn K (.ref f)=true)(i:PySem.W.isFn K (.ref f)=true):G5 K C x y st:=
 ⟨f,p,o,s,q,r,t,n,u,v,a,l,c,k,i⟩
end DL
namespace GX
open PySem L2 DL
noncomputable def lT:aQ->Option DFlow:=(am (d2 DC (d2 DC (d2 lK (aF 0) (dC (.int 48271))) (aF 1)) (aF 2)))
noncomputable def wK:aQ->Option DFlow:=lT
theorem xW:wK=lT:=rfl
noncomputable def bg:List PyData->Option PyData:=bV 3 wK
noncomputable def kK:aQ->Option DFlow:=(am (dC (.int 0)))
noncomputable def iS:aQ->Option DFlow:=aW (eR (dB (d2 sB (aF 1) (cI jG (aB (aF 0) aK)))) (am (d2 cQ (aF 0) (aF 1))) aj) kK
noncomputable def uF:aQ->Option DFlow:=iS
theorem ma:uF=iS:=rfl
noncomputable def bK:List PyData->Option PyData:=bV 2 uF
noncomputable def md:aQ->Option DFlow:=(am (d2 cQ (aF 2) (aG 3 bg (aB (aG 2 bK (aB (aF 0) (aB (aF 1) aK))) (aB (dC (.int 9973)) (aB (dC (.int 8)) aK))))))
noncomputable def j1:aQ->Option DFlow:=aW (bO 2 (bw (bd (rC [.tuple [.int 2,.int 3],.tuple [.int 3,.int 2],.tuple [.int 2,.int 4],.tuple [.int 4,.int 2],.tuple [.int 1,.int 5],.tuple [.int 2,.int 2],.tuple [.int 1,.int 3],.tuple [.int 2,.int 3]])))) md
noncomputable def rL:aQ->Option DFlow:=j1
theorem uG:rL=j1:=rfl
noncomputable def eN:List PyData->Option PyData:=bV 3 rL
noncomputable def pA:aQ->Option DFlow:=(mR 2 (am (cI yL (aB (aF 2) aK))))
noncomputable def pB:aQ->Option DFlow:=aW (fO (cX (aB (d2 cQ (aF 0) (dC (.int 0))) aK)) (gN 3) (cg 2 (aG 3 bg (aB (d2 cp (d2 cp (aF 1) (d2 lK (d2 lK (dC (.int 31)) (aF 3)) (aF 3))) (d2 lK (dC (.int 7)) (aF 3))) (aB (dC (.int 9967)) (aB (d2 cQ (aF 0) (dC (.int 1))) aK)))))) pA
noncomputable def pC:aQ->Option DFlow:=aW (hX 2 (bd aK)) pB
noncomputable def uH:aQ->Option DFlow:=(aW (hX 2 (bd aK)) (aW (fO (cX (aB (d2 cQ (aF 0) (dC (.int 0))) aK)) (gN 3) (cg 2 (aG 3 bg (aB (d2 cp (d2 cp (aF 1) (d2 lK (d2 lK (dC (.int 31)) (aF 3)) (aF 3))) (d2 lK (dC (.int 7)) (aF 3))) (aB (dC (.int 9967)) (aB (d2 cQ (aF 0) (dC (.int 1))) aK)))))) (mR 2 (am (cI yL (aB (aF 2) aK))))))
theorem uz:uH=pC:=rfl
noncomputable def d6:List PyData->Option PyData:=bV 4 uH
noncomputable def lU:aQ->Option DFlow:=(am (eh (aB (aF 2) (aB (aF 7) aK))))
noncomputable def lV:aQ->Option DFlow:=aW (mR 3 (fO (bf (aF 3)) (gN 8) (eR (dB (oS false 4 (aF 8))) (aW (eA 4 (aF 8)) (bO 7 (d2 cp (aF 7) (dC (.int 1))))) aj))) lU
noncomputable def lW:aQ->Option DFlow:=aW (bO 7 (dC (.int 0))) lV
noncomputable def lX:aQ->Option DFlow:=aW (fO (Ho (aB (aF 0) (aB (aF 1) aK))) (gT 2 (gC (gN 5) (gC (gN 6) gZ))) (eR (dB (d2 gj (aF 5) (aF 6))) (bO 2 (d2 cp (aF 2) (dC (.int 1)))) (aW (cg 3 (aF 5)) (cg 4 (aF 6))))) lW
noncomputable def lY:aQ->Option DFlow:=aW (hX 4 (bd aK)) lX
noncomputable def lZ:aQ->Option DFlow:=aW (hX 3 (bd aK)) lY
noncomputable def la:aQ->Option DFlow:=aW (bO 2 (dC (.int 0))) lZ
noncomputable def pD:aQ->Option DFlow:=(aW (bO 2 (dC (.int 0))) (aW (hX 3 (bd aK)) (aW (hX 4 (bd aK)) (aW (fO (Ho (aB (aF 0) (aB (aF 1) aK))) (gT 2 (gC (gN 5) (gC (gN 6) gZ))) (eR (dB (d2 gj (aF 5) (aF 6))) (bO 2 (d2 cp (aF 2) (dC (.int 1)))) (aW (cg 3 (aF 5)) (cg 4 (aF 6))))) (aW (bO 7 (dC (.int 0))) (aW (mR 3 (fO (bf (aF 3)) (gN 8) (eR (dB (oS false 4 (aF 8))) (aW (eA 4 (aF 8)) (bO 7 (d2 cp (aF 7) (dC (.int 1))))) aj))) (am (eh (aB (aF 2) (aB (aF 7) aK))))))))))
theorem re:pD=la:=rfl
noncomputable def bL:List PyData->Option PyData:=bV 9 pD
noncomputable def pE:aQ->Option DFlow:=(Bj 4)
noncomputable def pF:aQ->Option DFlow:=aW (fO (cX (aB (aG 3 bg (aB (aG 2 bK (aB (aF 0) (aB (d2 cp (aF 1) (dC (.int 1))) aK))) (aB (dC (.int 9949)) (aB (dC (.int 5)) aK)))) aK)) (gN 5) (aW (bO 6 (d2 cp (aG 2 bK (aB (aF 0) (aB (d2 cp (d2 cp (aF 1) (dC (.int 2))) (aF 5)) aK))) (d2 lK (d2 lK (dC (.int 13)) (aF 5)) (aF 5)))) (aW (bO 7 (aG 2 d6 (aB (aF 2) (aB (aF 6) aK)))) (aW (bO 8 (aG 2 bL (aB (aF 3) (aB (aF 7) aK)))) (aW (eR (dB (d2 gj (aG 3 bg (aB (aF 6) (aB (dC (.int 9941)) (aB (dC (.int 7)) aK)))) (dC (.int 1)))) (bO 8 (eh (aB (aG 3 bg (aB (aF 6) (aB (dC (.int 9931)) (aB (d2 cp (d2 cQ (aF 2) (dC (.int 0))) (dC (.int 1))) aK)))) (aB (aG 3 bg (aB (aF 6) (aB (dC (.int 9929)) (aB (d2 cp (d2 cQ (aF 2) (dC (.int 0))) (dC (.int 1))) aK)))) aK)))) aj) (cg 4 (eh (aB (aF 7) (aB (aF 8) aK))))))))) pE
noncomputable def pG:aQ->Option DFlow:=aW (hX 4 (bd aK)) pF
noncomputable def kL:aQ->Option DFlow:=aW (bO 3 (aG 2 d6 (aB (aF 2) (aB (aG 2 bK (aB (aF 0) (aB (aF 1) aK))) aK)))) pG
noncomputable def uI:aQ->Option DFlow:=kL
theorem vA:uI=kL:=rfl
noncomputable def fP:List PyData->Option (List PyData):=K3 9 uI
noncomputable def me:aQ->Option DFlow:=(am (aF 1))
noncomputable def mf:aQ->Option DFlow:=aW (fO (cX (aB (d2 cQ (aF 0) (dC (.int 0))) aK)) (gN 2) (aW (bO 3 (bw (bd aK))) (aW (fO (bf (aF 1)) (gN 4) (bO 3 (d2 cp (aF 3) (bw (bR 1 [("_law_code_here",4)] (cX (aB (d2 cQ (aF 0) (dC (.int 1))) aK)) (gN 0) ik (d2 cp (aF 1) (eh (aB (aF 0) aK)))))))) (bO 1 (aF 3))))) me
noncomputable def mh:aQ->Option DFlow:=aW (bO 1 (bw (bd (aB (eh aK) aK)))) mf
noncomputable def rM:aQ->Option DFlow:=(aW (bO 1 (bw (bd (aB (eh aK) aK)))) (aW (fO (cX (aB (d2 cQ (aF 0) (dC (.int 0))) aK)) (gN 2) (aW (bO 3 (bw (bd aK))) (aW (fO (bf (aF 1)) (gN 4) (bO 3 (d2 cp (aF 3) (bw (bR 1 [("_law_code_here",4)] (cX (aB (d2 cQ (aF 0) (dC (.int 1))) aK)) (gN 0) ik (d2 cp (aF 1) (eh (aB (aF 0) aK)))))))) (bO 1 (aF 3))))) (am (aF 1))))
theorem uJ:rM=mh:=rfl
noncomputable def ah:List PyData->Option PyData:=bV 5 rM
noncomputable def kM:aQ->Option DFlow:=(am (bw (bR 1 [("_law_asks_here",1)] (bf (aG 1 ah (aB (aF 0) aK))) (gN 0) (dS (fY (bw (bR 1 [("_law_code_here",0)] (bf (aF 1)) (gN 0) (dB (d2 tI (aG 2 bL (aB (aF 1) (aB (d2 cQ (aF 0) (dC (.int 0))) aK))) (d2 cQ (aF 0) (dC (.int 1))))) (aF 0))))) (aF 0))))
noncomputable def uK:aQ->Option DFlow:=kM
theorem vB:uK=kM:=rfl
noncomputable def fQ:List PyData->Option PyData:=bV 2 uK
noncomputable def pH:aQ->Option DFlow:=(am (eh (aB (aF 2) (aB (d2 uv (aF 3) (aF 2)) aK))))
noncomputable def pI:aQ->Option DFlow:=aW (fO (LZ (aB (aF 1) aK)) (gT 2 (gC (gN 5) (gC (gN 6) gZ))) (aW (eR (dB (d2 gj (d2 cQ (aF 0) (aF 5)) (aF 6))) (rW 2 rA (dC (.int 1))) aj) (eR (dB (oS false 4 (aF 6))) (aW (eA 4 (aF 6)) (rW 3 rA (dC (.int 1)))) aj))) pH
noncomputable def pJ:aQ->Option DFlow:=aW (hX 4 (wx (aB (aF 0) aK))) pI
noncomputable def pK:aQ->Option DFlow:=aW (bO 3 (dC (.int 0))) pJ
noncomputable def pL:aQ->Option DFlow:=aW (bO 2 (dC (.int 0))) pK
noncomputable def uL:aQ->Option DFlow:=(aW (bO 2 (dC (.int 0))) (aW (bO 3 (dC (.int 0))) (aW (hX 4 (wx (aB (aF 0) aK))) (aW (fO (LZ (aB (aF 1) aK)) (gT 2 (gC (gN 5) (gC (gN 6) gZ))) (aW (eR (dB (d2 gj (d2 cQ (aF 0) (aF 5)) (aF 6))) (rW 2 rA (dC (.int 1))) aj) (eR (dB (oS false 4 (aF 6))) (aW (eA 4 (aF 6)) (rW 3 rA (dC (.int 1)))) aj))) (am (eh (aB (aF 2) (aB (d2 uv (aF 3) (aF 2)) aK))))))))
theorem vC:uL=pL:=rfl
noncomputable def d7:List PyData->Option PyData:=bV 7 uL
noncomputable def iw:aQ->Option DFlow:=(mR 2 (am (aF 2)))
noncomputable def jA:aQ->Option DFlow:=aW (on (bf (aF 0)) 3 2 (aG 2 d7 (aB (aF 3) (aB (aF 1) aK)))) iw
noncomputable def jB:aQ->Option DFlow:=aW (tT 2) jA
noncomputable def jl:aQ->Option DFlow:=(aW (tT 2) (aW (on (bf (aF 0)) 3 2 (aG 2 d7 (aB (aF 3) (aB (aF 1) aK)))) (mR 2 (am (aF 2)))))
theorem mU:jl=jB:=rfl
noncomputable def cT:List PyData->Option PyData:=bV 4 jl
noncomputable def gQ:aQ->Option DFlow:=(am (aF 0))
noncomputable def eD:aQ->Option DFlow:=aW (eR (dS (fY (aF 0))) dM aj) gQ
noncomputable def kj:aQ->Option DFlow:=eD
theorem jC:kj=eD:=rfl
noncomputable def bE:List PyData->Option PyData:=bV 1 kj
noncomputable def kN:aQ->Option DFlow:=(am (jK (lL "tuple" (aF 0)) (d2 gj (cI jG (aB (aF 0) aK)) (dC (.int 2)))))
noncomputable def yw:aQ->Option DFlow:=kN
theorem rN:yw=kN:=rfl
noncomputable def fG:List PyData->Option PyData:=bV 1 yw
noncomputable def dJ:aQ->Option DFlow:=(am (jK (lL "int" (aF 0)) (jK (qy (lL "bool" (aF 0))) (wv Lw Lw (aF 1) (aF 0) (aF 2)))))
noncomputable def jO:aQ->Option DFlow:=dJ
theorem iB:jO=dJ:=rfl
noncomputable def ak:List PyData->Option PyData:=bV 3 jO
noncomputable def rf:aQ->Option DFlow:=(aW (bO 2 (dC (.int 1))) (aW (fO (cX (aB (aF 0) aK)) (gN 3) (rW 2 lK (aF 1))) (am (aF 2))))
noncomputable def cL:List PyData->Option PyData:=bV 4 rf
noncomputable def BA:aQ->Option DFlow:=(am (d2 Lw (aG 2 cL (aB (d2 cQ (aF 0) (dC (.int 0))) (aB (d2 cQ (aF 0) (dC (.int 1))) aK))) (dC (.int 300))))
noncomputable def BB:aQ->Option DFlow:=aW (eR (mQ (dS (fY (aG 3 ak (aB (d2 cQ (aF 0) (dC (.int 0))) (aB (dC (.int 1)) (aB (dC (.int 5)) aK)))))) (dS (fY (aG 3 ak (aB (d2 cQ (aF 0) (dC (.int 1))) (aB (dC (.int 1)) (aB (dC (.int 8)) aK))))))) (am (dC (.bool false))) aj) BA
noncomputable def BC:aQ->Option DFlow:=aW (eR (dS (fY (aG 1 fG (aB (aF 0) aK)))) (am (dC (.bool false))) aj) BB
noncomputable def G6:aQ->Option DFlow:=BC
noncomputable def pM:List PyData->Option PyData:=bV 1 G6
noncomputable def rg:aQ->Option DFlow:=(am (aF 0))
noncomputable def rh:aQ->Option DFlow:=aW (eR (dS (fY (aG 1 pM (aB (aF 0) aK)))) dM aj) rg
noncomputable def vD:aQ->Option DFlow:=rh
noncomputable def dI:List PyData->Option PyData:=bV 1 vD
noncomputable def uM:aQ->Option DFlow:=(am (cI DE (aB (bw (bR 1 [("game",0)] (bf (aF 1)) (gN 0) ik (aG 3 ak (aB (aF 0) (aB (dC (.int 0)) (aB (d2 uv (d2 cQ (aF 1) (dC (.int 1))) (dC (.int 1))) aK)))))) aK)))
noncomputable def nh:aQ->Option DFlow:=aW (eR (mQ (dS (fY (lL "tuple" (aF 1)))) (dB (d2 tI (cI jG (aB (aF 1) aK)) (d2 cQ (aF 0) (dC (.int 0)))))) (am (dC (.bool false))) aj) uM
noncomputable def yx:aQ->Option DFlow:=nh
theorem yy:yx=nh:=rfl
noncomputable def jm:List PyData->Option PyData:=bV 2 yx
noncomputable def kO:aQ->Option DFlow:=(am (jK (aG 1 fG (aB (aF 1) aK)) (cI DE (aB (bw (bR 1 [("game",0)] (bf (aF 1)) (gN 0) ik (aG 3 ak (aB (aF 0) (aB (dC (.int 0)) (aB (d2 cQ (aF 1) (dC (.int 0))) aK)))))) aK))))
noncomputable def uN:aQ->Option DFlow:=kO
theorem vF:uN=kO:=rfl
noncomputable def gn:List PyData->Option PyData:=bV 2 uN
noncomputable def qd:aQ->Option DFlow:=(am (jK (aG 1 fG (aB (aF 1) aK)) (jK (aG 2 jm (aB (aF 0) (aB (d2 cQ (aF 1) (dC (.int 0))) aK))) (aG 2 gn (aB (aF 0) (aB (d2 cQ (aF 1) (dC (.int 1))) aK))))))
noncomputable def CY:aQ->Option DFlow:=qd
theorem BD:CY=qd:=rfl
noncomputable def jP:List PyData->Option PyData:=bV 2 CY
noncomputable def kl:aQ->Option DFlow:=(am (aF 1))
noncomputable def kn:aQ->Option DFlow:=aW (fO (LZ (aB (aF 1) aK)) (gT 2 (gC (gN 3) (gC (gN 4) gZ))) (eR (dS (fY (xJ 2 "is_ask" 2 jP (aB (aF 0) (aB (aF 4) aK))))) dM aj)) kl
noncomputable def iI:aQ->Option DFlow:=aW (eR (mQ (dS (fY (lL "list" (aF 1)))) (dB (d2 Lx (cI jG (aB (aF 1) aK)) (dC (.int 8))))) dM aj) kn
noncomputable def mi:aQ->Option DFlow:=iI
theorem qe:mi=iI:=rfl
noncomputable def dh:List PyData->Option PyData:=bV 5 mi
noncomputable def iJ:aQ->Option DFlow:=(am (aG 3 dh (aB (aF 0) (aB (aF 1) (aB (dC (Ke "is_ask")) aK)))))
noncomputable def mj:aQ->Option DFlow:=iJ
theorem qf:mj=iJ:=rfl
noncomputable def dj:List PyData->Option PyData:=bV 2 mj
noncomputable def lf:aQ->Option DFlow:=(am (d2 gj (aG 2 d7 (aB (aF 0) (aB (d2 cQ (aF 1) (dC (.int 0))) aK))) (d2 cQ (aF 1) (dC (.int 1)))))
noncomputable def wL:aQ->Option DFlow:=lf
theorem xX:wL=lf:=rfl
noncomputable def fV:List PyData->Option PyData:=bV 2 wL
noncomputable def jQ:aQ->Option DFlow:=(am (aF 2))
noncomputable def jR:aQ->Option DFlow:=aW (fO (bf (aF 1)) (gN 3) (bO 2 (bw (bR 1 [("ask",3)] (bf (aF 2)) (gN 0) (fY (aG 2 fV (aB (aF 0) (aB (aF 1) aK)))) (aF 0))))) jQ
noncomputable def gR:aQ->Option DFlow:=aW (bO 2 (aF 0)) jR
noncomputable def ko:aQ->Option DFlow:=gR
theorem nk:ko=gR:=rfl
noncomputable def dD:List PyData->Option PyData:=bV 4 ko
noncomputable def pN:aQ->Option DFlow:=(am (aF 1))
noncomputable def pO:aQ->Option DFlow:=aW (fO (cX (aB (d2 cQ (aF 0) (dC (.int 0))) aK)) (gN 2) (aW (hX 3 (bd aK)) (aW (fO (bf (aF 1)) (gN 4) (kA 3 (bw (bR 1 [("code",4)] (cX (aB (d2 cQ (aF 0) (dC (.int 1))) aK)) (gN 0) ik (d2 cp (aF 1) (eh (aB (aF 0) aK))))))) (mR 3 (bO 1 (aF 3)))))) pN
noncomputable def pP:aQ->Option DFlow:=aW (bO 1 (bw (bd (aB (eh aK) aK)))) pO
noncomputable def kP:aQ->Option DFlow:=aW (vj (aG 1 dI (aB (aF 0) aK))) pP
noncomputable def uO:aQ->Option DFlow:=kP
theorem vG:uO=kP:=rfl
noncomputable def d8:List PyData->Option PyData:=bV 5 uO
noncomputable def pQ:aQ->Option DFlow:=(am (aG 2 dD (aB (aG 1 d8 (aB (aF 0) aK)) (aB (aF 1) aK))))
noncomputable def pR:aQ->Option DFlow:=aW (vj (aG 2 dj (aB (aF 0) (aB (aF 1) aK)))) pQ
noncomputable def kQ:aQ->Option DFlow:=aW (vj (aG 1 dI (aB (aF 0) aK))) pR
noncomputable def uP:aQ->Option DFlow:=kQ
theorem vH:uP=kQ:=rfl
noncomputable def bj:List PyData->Option PyData:=bV 2 uP
noncomputable def vI:aQ->Option DFlow:=(am (aF 0))
noncomputable def vJ:aQ->Option DFlow:=aW (eR (dB (d2 Lx (aG 2 cL (aB (d2 cQ (aF 0) (dC (.int 0))) (aB (d2 cQ (aF 0) (dC (.int 1))) aK))) (dC (.int 16)))) dM aj) vI
noncomputable def yz:aQ->Option DFlow:=vJ
noncomputable def eO:List PyData->Option PyData:=bV 1 yz
noncomputable def cJ(ds:List PyData):Option PyData:=match ds with
 |[g,a]=>((aG 1 bE (aB (aG 2 bj (aB (aF 0) (aB (aF 1) aK))) aK)) [some (.fz g),some (.fz a),none,none,none]).bind λf=>((aG 1 eO (aB (aF 0) aK)) (D5 g a f none)).bind λ_=>((aG 1 d8 (aB (aF 0) aK)) (D5 g a f none)).bind λc=>lR c f
 |_=>none
noncomputable def eP:aQ->Option DFlow:=(am (d2 cQ (aG 2 cJ (aB (aF 0) (aB (aF 1) aK))) (dC (.int 0))))
noncomputable def pS:aQ->Option DFlow:=eP
theorem iK:pS=eP:=rfl
noncomputable def cG:List PyData->Option PyData:=bV 2 pS
noncomputable def jn:aQ->Option DFlow:=(am (d2 cQ (aG 2 cJ (aB (aF 0) (aB (aF 1) aK))) (dC (.int 1))))
noncomputable def CZ:aQ->Option DFlow:=jn
theorem nl:CZ=jn:=rfl
noncomputable def gw:List PyData->Option PyData:=bV 2 CZ
noncomputable def bh:List PyData->Bool:=kx 1 (rZ (dS (fY (aF 0))) (xG (aB (dC (.str (PySem.Str.ofString "no code fits these asks"))) aK)) Ji)
noncomputable def bU:List PyData->Bool:=kx 5 (dN 1 bh (aB (aG 2 bj (aB (aF 0) (aB (aF 1) aK))) aK))
noncomputable def bT:List PyData->Bool:=kx 2 (dN 2 bU (aB (aF 0) (aB (aF 1) aK)))
noncomputable def cR:List PyData->Bool:=kx 2 (dN 2 bU (aB (aF 0) (aB (aF 1) aK)))
noncomputable def cZ:List PyData->Bool:=kx 1 (rZ (dB (d2 Lx (aG 2 cL (aB (d2 cQ (aF 0) (dC (.int 0))) (aB (d2 cQ (aF 0) (dC (.int 1))) aK))) (dC (.int 16)))) (xG (aB (dC (.str (PySem.Str.ofString "a game of more than 16 codes"))) aK)) Ji)
noncomputable def bo:List PyData->Bool:=kx 5 (rY (bO 2 (aG 1 bE (aB (aG 2 bj (aB (aF 0) (aB (aF 1) aK))) aK))) (dN 1 cZ (aB (aF 0) aK)))
noncomputable def bz:List PyData->Bool:=kx 2 (dN 2 bo (aB (aF 0) (aB (aF 1) aK)))
noncomputable def dO:List PyData->Bool:=kx 2 (dN 2 bo (aB (aF 0) (aB (aF 1) aK)))
noncomputable def bP:aQ->Bool:=(iR (rZ (dB (d2 gj (aF 0) (dC (.int 0)))) (dN 2 bT (aB (aF 1) (aB (aF 2) aK))) Ji) (rY (eR (dB (d2 gj (aF 0) (dC (.int 0)))) dM aj) (dN 2 cR (aB (aF 1) (aB (aF 2) aK)))))
noncomputable def cf:aQ->Bool:=(iR (rZ (dB (d2 gj (aF 0) (dC (.int 0)))) (dN 2 bz (aB (aF 1) (aB (aF 2) aK))) Ji) (rY (eR (dB (d2 gj (aF 0) (dC (.int 0)))) dM aj) (dN 2 dO (aB (aF 1) (aB (aF 2) aK)))))
noncomputable def bp:aQ->Option DFlow:=(aW (eR (dB (d2 gj (aF 0) (dC (.int 0)))) (am (aG 2 cG (aB (aF 1) (aB (aF 2) aK)))) aj) (am (aG 2 gw (aB (aF 1) (aB (aF 2) aK)))))
noncomputable def bM(ds:List PyData):Option PyData:=match bp (cj 4 ds)with
 |some (.rt d)=>some d
 |_=>if bP (cj 4 ds)=true then some (.list [.bool true,.bool false,.bool true])else if cf (cj 4 ds)=true then some (.list [.bool false,.bool true,.bool true])else none
noncomputable def vK:aQ->Option DFlow:=(am (jK (lL "int" (aF 0)) (qy (lL "bool" (aF 0)))))
noncomputable def zW:aQ->Option DFlow:=vK
noncomputable def iC:List PyData->Option PyData:=bV 1 zW
noncomputable def mo:aQ->Option DFlow:=(mR 2 (am (aF 2)))
noncomputable def mq:aQ->Option DFlow:=aW (tX (bf (aF 0)) 3 4 2 (aG 2 bL (aB (aF 3) (aB (aF 1) aK)))) mo
noncomputable def mr:aQ->Option DFlow:=aW (tT 2) mq
noncomputable def rO:aQ->Option DFlow:=(aW (tT 2) (aW (tX (bf (aF 0)) 3 4 2 (aG 2 bL (aB (aF 3) (aB (aF 1) aK)))) (mR 2 (am (aF 2)))))
theorem uQ:rO=mr:=rfl
noncomputable def dU:List PyData->Option PyData:=bV 5 rO
noncomputable def pT(F_law_deep:List PyData->Option PyData):aQ->Option DFlow:=(am (d2 cp (dC (.int 1)) (cI Fq (aB (aF 4) aK))))
noncomputable def pU(F_law_deep:List PyData->Option PyData):aQ->Option DFlow:=aW (eR (dB (d2 sB (cI IU (aB (aF 4) aK)) (dC (.int 0)))) (am (FD (dC (.int 1)))) aj) (pT F_law_deep)
noncomputable def pV(F_law_deep:List PyData->Option PyData):aQ->Option DFlow:=aW (bO 4 (bw (bR 1 [("_law_game",0),("_law_parts_here",3)] (bf (d2 cQ (aF 2) (dC (.int 1)))) (gN 0) ik (aG 3 F_law_deep (aB (aF 1) (aB (d2 m8 (aF 2) (d2 cQ (aF 0) (dC (.int 0)))) (aB (d2 cQ (aF 0) (dC (.int 1))) aK))))))) (pU F_law_deep)
noncomputable def pW(F_law_deep:List PyData->Option PyData):aQ->Option DFlow:=aW (eR (mQ (dS (fY (lL "tuple" (d2 cQ (aF 2) (dC (.int 1)))))) (dB (d2 tI (bw (bR 1 [] (bf (d2 cQ (aF 2) (dC (.int 1)))) (gN 0) ik (d2 cQ (aF 0) (dC (.int 0))))) (cI tR (aB (aF 3) aK))))) (am (FD (dC (.int 1)))) aj) (pV F_law_deep)
noncomputable def pX(F_law_deep:List PyData->Option PyData):aQ->Option DFlow:=aW (bO 3 (aG 2 dU (aB (aF 1) (aB (d2 cQ (aF 2) (dC (.int 0))) aK)))) (pW F_law_deep)
noncomputable def pY(F_law_deep:List PyData->Option PyData):aQ->Option DFlow:=aW (eR (mQ (dS (fY (lL "tuple" (aF 2)))) (mQ (dB (d2 tI (cI jG (aB (aF 2) aK)) (dC (.int 2)))) (dB (d2 (MB true) (d2 cQ (aF 2) (dC (.int 0))) (aG 1 ah (aB (aF 0) aK)))))) (am (FD (dC (.int 1)))) aj) (pX F_law_deep)
noncomputable def iT(F_law_deep:List PyData->Option PyData):aQ->Option DFlow:=aW (eR (Bi (dB (d2 gj (cI jG (aB (aF 1) aK)) (dC (.int 1)))) (dB (d2 gj (aF 2) (d2 cQ (aF 1) (dC (.int 0)))))) (am (dC (.int 0))) aj) (pY F_law_deep)
noncomputable def uR(F_law_deep:List PyData->Option PyData):aQ->Option DFlow:=iT F_law_deep
theorem mt(F_law_deep:List PyData->Option PyData):uR F_law_deep=iT F_law_deep:=rfl
noncomputable def jS:Nat->List PyData->Option PyData
 |0=>λ_=>none
 |n+1=>bV 5 (uR (jS n))
noncomputable def F_law_deep:List PyData->Option PyData:=jS 17
noncomputable def wM:List PyData->Option PyData:=Aw ah
noncomputable def BE:aQ->Option DFlow:=(am (Hl (d2 gj (aF 4) (dC (.int 0))) (qy (aG 3 wM (aB (aF 1) (aB (aF 3) (aB (d2 uv (aF 4) (dC (.int 1))) aK)))))))
noncomputable def BF:aQ->Option DFlow:=aW (eR (mQ (dS (fY (aG 1 iC (aB (aF 4) aK)))) (dB (d2 tI (aF 4) (aG 3 F_law_deep (aB (aF 1) (aB (aF 3) (aB (aF 5) aK))))))) (am (dC (.bool false))) aj) BE
noncomputable def BG:aQ->Option DFlow:=aW (bO 5 (aG 3 bM (aB (dC (.int 1)) (aB (aF 1) (aB (aF 2) aK))))) BF
noncomputable def BH:aQ->Option DFlow:=aW (bO 4 (aG 3 bM (aB (dC (.int 0)) (aB (aF 1) (aB (aF 2) aK))))) BG
noncomputable def xY:aQ->Option DFlow:=aW (eR (dB (d2 gj (d2 DC (aG 2 bK (aB (aF 0) (aB (dC (.int 1)) aK))) (dC (.int 5))) (dC (.int 1)))) (aW (bO 1 (d2 cQ (bw (bd (rC [.tuple [.int 3,.int 3],.tuple [.int 2,.int 5],.tuple [.int 5,.int 2],.tuple [.int 3,.int 4]]))) (d2 DC (aG 2 bK (aB (aF 0) (aB (dC (.int 2)) aK))) (dC (.int 4))))) (am (d2 gj (bw (bR 1 [("_law_game",1)] (cX (aB (dC (.int 2)) aK)) (gN 0) (dB (d2 tI (aG 3 bM (aB (aF 0) (aB (aF 1) (aB (bw (bd aK)) aK)))) (bw (bd (aB (dC (.bool false)) (aB (dC (.bool true)) (aB (dC (.bool true)) aK))))))) (aF 0))) (bw (bd aK))))) aj) BH
noncomputable def uS:aQ->Option DFlow:=aW (eR (dB (d2 gj (aF 3) (bw (bd aK)))) (am (d2 gj (bw (bR 1 [("_law_game",1),("_law_asks_here",2)] (cX (aB (dC (.int 2)) aK)) (gN 0) (dB (d2 tI (aG 3 bM (aB (aF 0) (aB (aF 1) (aB (aF 2) aK)))) (bw (bd (aB (dC (.bool true)) (aB (dC (.bool false)) (aB (dC (.bool true)) aK))))))) (aF 0))) (bw (bd aK)))) aj) xY
noncomputable def uT:aQ->Option DFlow:=aW (bO 3 (aG 2 fQ (aB (aF 1) (aB (aF 2) aK)))) uS
noncomputable def uU:aQ->Option DFlow:=aW (bO 2 (L0 (bw (iX 3 fP (aB (aF 0) (aB (dC (.int 1)) (aB (aF 1) aK))))) ly (vn (dC (.int 3))))) uT
noncomputable def qg:aQ->Option DFlow:=aW (bO 1 (aG 2 eN (aB (aF 0) (aB (dC (.int 0)) aK)))) uU
noncomputable def Ma:aQ->Option DFlow:=qg
theorem sM:Ma=qg:=rfl
noncomputable def xZ:List PyData->Option PyData:=bV 6 Ma
noncomputable def ef:List (Int×Int):=[(2,3),(3,2),(2,4),(4,2),(1,5),(2,2),(1,3),(3,3),(2,5)]
theorem zX {p c:Int}(h:(p,c)∈ef):(p=2/\c=3)\/(p=3/\c=2)\/(p=2/\c=4)\/(p=4/\c=2)\/(p=1/\c=5)\/(p=2/\c=2)\/(p=1/\c=3)\/(p=3/\c=3)\/(p=2/\c=5):=by
 simpa [ef]using h
theorem gU {p c:Int}(h:(p,c)∈ef):1<=p/\p<=4/\2<=c/\c<=5:=by
 rcases zX h with ⟨rfl,rfl⟩|⟨rfl,rfl⟩|⟨rfl,rfl⟩|⟨rfl,rfl⟩|⟨rfl,rfl⟩|⟨rfl,rfl⟩|⟨rfl,rfl⟩|⟨rfl,rfl⟩|⟨rfl,rfl⟩<;>decide
noncomputable def jI(x p m:Int):Int:=x*48271 % p % m
theorem nq(x:Int){y:Int}(h: -1000000000000<=y/\y<=1000000000000):oR x y=true:=by
 unfold oR;rw [decide_eq_true h.1,decide_eq_true h.2]
 simp
theorem qh {x:Int}(y:Int)(h: -1000000000000<=x/\x<=1000000000000):oR x y=true:=by
 unfold oR;rw [decide_eq_true h.1,decide_eq_true h.2]
 simp
theorem BI(x:Int){p m:Int}(hp:0 < p)(hm:0 < m):bg [.int x,.int p,.int m]=some (.int (jI x p m)):=by
 have c1:oR x 48271=true:=nq x (by omega)
 have c2:A8 (x*48271) p=true:=decide_eq_true hp;have c3:A8 (x*48271 % p) m=true:=decide_eq_true hm;simp only [bg,xW,lT,bV,cj,am,aF,dC,d2,cM,xE,xF,zI,zL,zC,zH,Q4,zA,zB,List.replicate,zD,zG,Nat.reduceAdd,Nat.reduceSub, ↓reduceIte,c1,c2,c3,jI]
theorem uW(x:Int){p m:Int}(hm:0 < m):0<=jI x p m/\jI x p m < m:=⟨Int.emod_nonneg _ (by omega),Int.emod_lt_of_pos _ hm⟩
noncomputable def cS(ns:List Int)(k:Nat):Int:=ns.getD k 0
theorem sN(ns:List Int)(k:Nat):bK [tD ns,.int (k:Nat)]=some (.int (cS ns k)):=by
 by_cases h:k < ns.length
 · have d:decide ((k:Int) < (ns.length:Nat))=true:=decide_eq_true (by omega)
   simp only [bK,ma,iS,kK,bV,cj,aW,eR,am,aF,dC,d2,cI,aK,aB,dB,aj,cM,jG,tL,zI,zL,zC,zH,Q4,zA,zB,List.replicate,zD,zG,Nat.reduceAdd,Nat.reduceSub, ↓reduceIte,yO,d,IE,yP h,cS];rw [qF,iF h];rfl
 · have d:decide ((k:Int) < (ns.length:Nat))=false:=decide_eq_false (by omega)
   simp only [bK,ma,iS,kK,bV,cj,aW,eR,am,aF,dC,d2,cI,aK,aB,dB,aj,cM,jG,tL,zI,zL,zC,zH,Q4,zA,zB,List.replicate,zD,zG,Nat.reduceAdd,Nat.reduceSub, ↓reduceIte,zN,yO,d,cS];rw [qF,List.getElem?_eq_none (by omega)]
   rfl
theorem nr(n:Nat)(h:n<=1000:=by decide):n<=fh:=Qe h (by decide)
structure Code (p c:Int) (a:List Int):Prop where
 len:(a.length:Int)=p
 all:∀n∈a,0<=n/\n<=c - 1
noncomputable def wN(p c x:Int):List Int:=(List.range p.toNat).map λi:Nat=>jI (x+31*(i:Int)*(i:Int)+7*(i:Int)) 9967 c
theorem uX {p c:Int}(h:(p,c)∈ef)(x:Int):Code p c (wN p c x):=by
 have b:=gU h;refine⟨by simp [wN];omega,λn hn=>?_⟩
 obtain⟨i,_,rfl⟩:=Qd.mp hn;have:=uW (x+31*(i:Int)*(i:Int)+7*(i:Int)) (p:=9967) (m:=c) (by omega)
 omega
theorem JC {p c:Int}(h:(p,c)∈ef)(x:Int):d6 [aJ [p,c],.int x]=some (aJ (wN p c x)):=by
 have b:=gU h;have m9:∀y,bg [.int y,.int 9967,.int c]=some (.int (jI y 9967 c)):=λy=>BI y (by decide) (by omega)
 have sm:nR p=true:=by
  unfold nR;rw [decide_eq_true (show -1000000000<=p by omega),decide_eq_true (show p<=1000000000 by omega)];rfl
 have len:((List.range p.toNat).map λk:Nat=>PyData.int (0+(k:Int))).length=p.toNat:=by simp
 have i0:cQ (.tuple [.int p,.int c]) (.int 0)=some (.int p):=rfl;have i1:cQ (.tuple [.int p,.int c]) (.int 1)=some (.int c):=rfl;obtain⟨δ',e1,v,e2⟩:=de (fg:=(gN 3)) (fb:=(cg 2 (aG 3 bg (aB (d2 cp (d2 cp (aF 1) (d2 lK (d2 lK (dC (.int 31)) (aF 3)) (aF 3))) (d2 lK (dC (.int 7)) (aF 3))) (aB (dC (.int 9967)) (aB (d2 cQ (aF 0) (dC (.int 1))) aK))))))
  (ds:=bQ 0 p.toNat) (δ:=[some (.fz (.tuple [.int p,.int c])),some (.fz (.int x)),some (.ow []),none])
  (λ i δ => ∃ v, δ = [some (.fz (.tuple [.int p, .int c])), some (.fz (.int x)), some (.ow (((List.range i).map λ i : Nat => jI (x + 31 * (i : Int) * (i : Int) + 7 * (i : Int)) 9967 c).map PyData.int)), v]) ⟨none, rfl⟩ (by
   rintro i hi δ ⟨v,rfl⟩;have hi':i < p.toNat:=by simpa [bQ]using hi
   have ei:(bQ 0 p.toNat)[i]=.int (i:Nat):=by simp [bQ]
   have q1:oR 31 (i:Int)=true:=qh _ (by omega)
   have q2:oR (31*(i:Int)) (i:Int)=true:=nq _ (by omega)
   have q3:oR 7 (i:Int)=true:=qh _ (by omega)
   have q4:(((List.range i).map λi:Nat=>jI (x+31*(i:Int)*(i:Int)+7*(i:Int)) 9967 c).map PyData.int).length < fh:=by
    rw [zJ,zJ,List.length_range];exact j6 (show i < 1000 by omega) (by decide)
   refine⟨_,[some (.fz (.tuple [.int p,.int c])),some (.fz (.int x)),some (.ow (((List.range (i+1)).map λi:Nat=>jI (x+31*(i:Int)*(i:Int)+7*(i:Int)) 9967 c).map PyData.int)),some (.fz (.int (i:Nat)))],rfl,?_,_,rfl⟩;rw [ei];simp only [cg,aF,dC,d2,aG,aK,aB,xE,lM,zC,zH,zA,zB,zE,zF,zD,Nat.reduceAdd, ↓reduceIte,q1,q2,q3,q4,i1,m9];rw [List.range_succ,AD,AD];rfl)
 have len2:(bQ 0 p.toNat).length=p.toNat:=by simp [bQ]
 rw [len2]at e2;subst e2;have z:(0:Nat)<=fh:=zU _;simp only [d6,uz,pC,pB,pA,aJ,bV,cj,aW,hX,am,mR,fO,aF,dC,d2,cI,aK,aB,bd,cX,DL.frz,cM,yL,zI,zL,zC,zH,Q1,Q3,zA,zB,zE,zF,List.replicate,zD,zG,Nat.reduceAdd,Nat.reduceSub, ↓reduceIte,z,i0,sm,e1];rfl
theorem LI(b:List Int){i:Nat}(h:i < b.length):(b.map PyData.int)[i]? =some (.int b[i]):=by rw [zK,iF h];rfl
theorem Ms(a:List Int){i:Nat}(h:i < a.length):cQ (.tuple (a.map PyData.int)) (.int (i:Nat))=some (.int a[i]):=by
 show uq (a.map PyData.int) (i:Int)=_;rw [Bn,yP h];rfl
theorem pZ {a b:List Int}(l:a.length=b.length)(lim:a.length<=100):d7 [aJ a,aJ b]=some (aJ (GC.iG a b)):=by
 obtain⟨δ',e1,v1,v2,e2⟩:=de (fg:=(gT 2 (gC (gN 5) (gC (gN 6) gZ)))) (fb:=(aW (eR (dB (d2 gj (d2 cQ (aF 0) (aF 5)) (aF 6))) (rW 2 rA (dC (.int 1))) aj) (eR (dB (oS false 4 (aF 6))) (aW (eA 4 (aF 6)) (rW 3 rA (dC (.int 1)))) aj))) (ds:=jL (b.map PyData.int))
  (δ:=[some (.fz (.tuple (a.map PyData.int))),some (.fz (.tuple (b.map PyData.int))),some (.fz (.int 0)),some (.fz (.int 0)),some (.ow (a.map PyData.int)),none,none])
  (λ i δ => ∃ v1 v2, δ = [some (.fz (.tuple (a.map PyData.int))), some (.fz (.tuple (b.map PyData.int))), some (.fz (.int (GC.oC (a.take i) (b.take i) : Nat))), some (.fz (.int (GC.bC a (b.take i) : Nat))), some (.ow ((GC.left a (b.take i)).map PyData.int)), v1, v2]) ⟨none, none, rfl⟩ (by
   rintro i hi δ ⟨v1,v2,rfl⟩;have hi':i < b.length:=by simpa [jL]using hi
   have hia:i < a.length:=by omega
   have ed:(jL (b.map PyData.int))[i]=.tuple [.int (i:Nat),.int b[i]]:=by
    have:=iF hi;obtain⟨e,h1,h2⟩:=qQ this;rw [LI b hi']at h1;cases h1;exact h2
   have et:(a.take i).length=(b.take i).length:=by rw [Dt,Dt];omega
   have er:GC.oC (a.take (i+1)) (b.take (i+1))=GC.oC (a.take i) (b.take i)+if a[i]=b[i]then 1 else 0:=by rw [GC.dA hia,GC.dA hi',GC.su _ _ _ _ et]
   have ei:GC.bC a (b.take (i+1))=GC.bC a (b.take i)+if b[i]∈GC.left a (b.take i)then 1 else 0:=by rw [GC.dA hi',GC.jy]
   have eL:GC.left a (b.take (i+1))=if b[i]∈GC.left a (b.take i)then(GC.left a (b.take i)).erase b[i]else GC.left a (b.take i):=by rw [GC.dA hi',GC.lu]
   rw [ed];refine⟨_,_,rfl,?_,some (.fz (.int (i:Nat))),some (.fz (.int b[i])),rfl⟩;rw [er,ei,eL]
   by_cases c1:a[i]=b[i]<;>by_cases c2:b[i]∈GC.left a (b.take i)
   · simp only [aW,eR,rW,eA,aF,dC,d2,dB,aj,oS,sD,zA,zB,zE,zF,zD,zG, ↓reduceIte,zN,Ms a hia,dF,bZ,if_pos c1,if_pos c2,decide_eq_true c1,decide_eq_true c2];rfl
   · simp only [aW,eR,rW,eA,aF,dC,d2,dB,aj,oS,sD,zA,zB,zE,zF,zD,Ds,zG, ↓reduceIte,zN,Ms a hia,dF,bZ,if_pos c1,if_neg c2,decide_eq_true c1,decide_eq_false c2];rfl
   · simp only [aW,eR,rW,eA,aF,dC,d2,dB,aj,oS,sD,zA,zB,zE,zF,zD,zG, ↓reduceIte,zN,Ms a hia,dF,bZ,if_neg c1,if_pos c2,decide_eq_false c1,decide_eq_true c2];rfl
   · simp only [aW,eR,rW,eA,aF,dC,d2,dB,aj,oS,sD,zA,zB,zE,zF,zD,Ds,zG, ↓reduceIte,zN,Ms a hia,dF,bZ,if_neg c1,if_neg c2,decide_eq_false c1,decide_eq_false c2];rfl)
 have len2:(jL (b.map PyData.int)).length=b.length:=by simp [jL]
 have e0:a.take b.length=a:=by rw [<-l,C5]
 rw [len2,C5,e0]at e2;subst e2;have z:(2:Nat)<=fh:=nr 2;simp only [d7,vC,pL,pK,pJ,pI,pH,aJ,bV,cj,aW,bO,hX,am,fO,aF,dC,d2,aK,aB,eh,kB,LZ,cM,wx,xD,zI,zL,zC,zH,Q1,Q3,zA,zB,zE,zF,List.replicate,zD,zG,Nat.reduceAdd,Nat.reduceSub, ↓reduceIte,z,e1];rfl
theorem j2 {a b:List Int}(l:a.length=b.length)(lim:a.length<=100):bL [aJ a,aJ b]=some (aJ (GC.gF a b)):=by
 obtain⟨δ1,e1,v1,v2,e2⟩:=de (fg:=(gT 2 (gC (gN 5) (gC (gN 6) gZ)))) (fb:=(eR (dB (d2 gj (aF 5) (aF 6))) (bO 2 (d2 cp (aF 2) (dC (.int 1)))) (aW (cg 3 (aF 5)) (cg 4 (aF 6))))) (ds:=tG (a.map PyData.int) (b.map PyData.int))
  (δ:=[some (.fz (.tuple (a.map PyData.int))),some (.fz (.tuple (b.map PyData.int))),some (.fz (.int 0)),some (.ow []),some (.ow []),none,none,none,none])
  (λ i δ => ∃ v1 v2, δ = [some (.fz (.tuple (a.map PyData.int))), some (.fz (.tuple (b.map PyData.int))), some (.fz (.int (GC.oC (a.take i) (b.take i) : Nat))), some (.ow ((GC.cA (a.take i) (b.take i)).map PyData.int)), some (.ow ((GC.dP (a.take i) (b.take i)).map PyData.int)), v1, v2, none, none]) ⟨none, none, rfl⟩ (by
   rintro i hi δ ⟨v1,v2,rfl⟩;have hi':i < b.length:=by simpa [tG,l]using hi
   have hia:i < a.length:=by omega
   have ed:(tG (a.map PyData.int) (b.map PyData.int))[i]=.tuple [.int a[i],.int b[i]]:=by
    have:=iF hi;obtain⟨x,y,h1,h2,h3⟩:=yF this;rw [LI a hia]at h1;rw [LI b hi']at h2;cases h1;cases h2;exact h3
   have et:(a.take i).length=(b.take i).length:=by rw [Dt,Dt];omega
   have er:GC.oC (a.take (i+1)) (b.take (i+1))=GC.oC (a.take i) (b.take i)+if a[i]=b[i]then 1 else 0:=by rw [GC.dA hia,GC.dA hi',GC.su _ _ _ _ et]
   have em:GC.cA (a.take (i+1)) (b.take (i+1))=GC.cA (a.take i) (b.take i)++if a[i]=b[i]then []else [a[i]]:=by rw [GC.dA hia,GC.dA hi',GC.vd _ _ _ _ et]
   have eT:GC.dP (a.take (i+1)) (b.take (i+1))=GC.dP (a.take i) (b.take i)++if a[i]=b[i]then []else [b[i]]:=by rw [GC.dA hia,GC.dA hi',GC.ve _ _ _ _ et]
   have ml:=GC.sw (a.take i) (b.take i) et;have tl:=GC.sy (a.take i) (b.take i) et;have al:(a.take i).length<=100:=by rw [Dt];omega
   have q1:((GC.cA (a.take i) (b.take i)).map PyData.int).length < fh:=by rw [zJ];exact j6 (show _ < 1000 by omega) (by decide)
   have q2:((GC.dP (a.take i) (b.take i)).map PyData.int).length < fh:=by rw [zJ];exact j6 (show _ < 1000 by omega) (by decide)
   rw [ed];refine⟨_,_,rfl,?_,some (.fz (.int a[i])),some (.fz (.int b[i])),rfl⟩;rw [er,em,eT]
   by_cases c1:a[i]=b[i]
   · simp only [aW,eR,bO,cg,aF,dC,d2,dB,lM,Q4,zA,zB,zE,zF,zD,zG, ↓reduceIte,dF,if_pos c1,decide_eq_true c1];rfl
   · simp only [aW,eR,bO,cg,aF,dC,d2,dB,lM,zA,zB,zE,zF,zD,zG, ↓reduceIte,zN,dF,if_neg c1,decide_eq_false c1,q1,q2];rw [AD,AD];rfl)
 have len2:(tG (a.map PyData.int) (b.map PyData.int)).length=b.length:=by simp [tG,l]
 have e0:a.take b.length=a:=by rw [<-l,C5]
 rw [len2,C5,e0]at e2;subst e2;obtain⟨δ2,f1,w1,f2⟩:=de (fg:=(gN 8)) (fb:=(eR (dB (oS false 4 (aF 8))) (aW (eA 4 (aF 8)) (bO 7 (d2 cp (aF 7) (dC (.int 1))))) aj)) (ds:=(GC.cA a b).map PyData.int)
  (δ:=[some (.fz (.tuple (a.map PyData.int))),some (.fz (.tuple (b.map PyData.int))),some (.fz (.int (GC.oC a b:Nat))),some (.fz (.list ((GC.cA a b).map PyData.int))),some (.ow ((GC.dP a b).map PyData.int)),v1,v2,some (.fz (.int 0)),none])
  (λ i δ => ∃ w1, δ = [some (.fz (.tuple (a.map PyData.int))), some (.fz (.tuple (b.map PyData.int))), some (.fz (.int (GC.oC a b : Nat))), some (.fz (.list ((GC.cA a b).map PyData.int))), some (.ow ((GC.left (GC.dP a b) ((GC.cA a b).take i)).map PyData.int)), v1, v2, some (.fz (.int (GC.bC (GC.dP a b) ((GC.cA a b).take i) : Nat))), w1]) ⟨none, rfl⟩ (by
   rintro i hi δ ⟨w1,rfl⟩;have hi':i < (GC.cA a b).length:=by simpa using hi
   have ei:GC.bC (GC.dP a b) ((GC.cA a b).take (i+1))=GC.bC (GC.dP a b) ((GC.cA a b).take i)+if(GC.cA a b)[i]∈GC.left (GC.dP a b) ((GC.cA a b).take i)then 1 else 0:=by rw [GC.dA hi',GC.jy]
   have eL:GC.left (GC.dP a b) ((GC.cA a b).take (i+1))=if(GC.cA a b)[i]∈GC.left (GC.dP a b) ((GC.cA a b).take i)then(GC.left (GC.dP a b) ((GC.cA a b).take i)).erase (GC.cA a b)[i]else GC.left (GC.dP a b) ((GC.cA a b).take i):=by rw [GC.dA hi',GC.lu]
   have ed:((GC.cA a b).map PyData.int)[i]=.int (GC.cA a b)[i]:=by simp
   rw [ed];refine⟨_,_,rfl,?_,some (.fz (.int (GC.cA a b)[i])),rfl⟩;rw [ei,eL]
   by_cases c2:(GC.cA a b)[i]∈GC.left (GC.dP a b) ((GC.cA a b).take i)
   · simp only [aW,eR,bO,eA,aF,dC,d2,dB,aj,oS,lM,zA,zB,zE,zF,zD,zG, ↓reduceIte,zN,bZ,if_pos c2,decide_eq_true c2];rfl
   · simp only [aW,eR,bO,eA,aF,dC,d2,dB,aj,oS,zA,zB,zE,zF,zD,Ds, ↓reduceIte,zN,bZ,if_neg c2,decide_eq_false c2];rfl)
 rw [zJ,C5]at f2;subst f2;have z:(2:Nat)<=fh:=nr 2;have z0:(0:Nat)<=fh:=zU _;have hl:(a.map PyData.int).length=(b.map PyData.int).length:=by simp [l]
 simp only [bL,re,la,lZ,lY,lX,lW,lV,lU,aJ,bV,cj,aW,bO,hX,am,mR,fO,aF,dC,aK,aB,eh,bd,bf,kB,Ho,DL.frz,cM,zI,zL,zC,zH,Q1,Q3,zA,zB,zE,zF,List.replicate,zD,zG,Nat.reduceAdd,Nat.reduceSub, ↓reduceIte,z,z0,hl,e1,f1];rfl
theorem wO(n lo hi:Int):ak [.int n,.int lo,.int hi]=some (.bool (decide (lo<=n)&&decide (n<=hi))):=by
 by_cases h:lo<=n
 · simp only [ak,iB,dJ,bV,cj,am,aF,dB,jK,qy,cM,lL,FL,FM,Je,wv,zI,zL,zC,zH,Q4,zA,zB,List.replicate,zD,zG,Nat.reduceAdd,Nat.reduceSub, ↓reduceIte,Gu,Bool.true_and,decide_eq_true h]
 · simp only [ak,iB,dJ,bV,cj,am,aF,dB,jK,qy,cM,lL,FL,FM,Je,wv,zI,zL,zC,zH,Q4,zA,zB,List.replicate,zD,zG,Nat.reduceAdd,Nat.reduceSub, ↓reduceIte,Gu,Bool.false_and,decide_eq_false h]
theorem kq {p c:Int}(h:(p,c)∈ef):dI [aJ [p,c]]=some (aJ [p,c]):=by
 rcases zX h with ⟨rfl,rfl⟩|⟨rfl,rfl⟩|⟨rfl,rfl⟩|⟨rfl,rfl⟩|⟨rfl,rfl⟩|⟨rfl,rfl⟩|⟨rfl,rfl⟩|⟨rfl,rfl⟩|⟨rfl,rfl⟩<;>rfl
theorem BJ {p c:Int}(h:(p,c)∈ef){a:List Int}(ca:Code p c a):jm [aJ [p,c],aJ a]=some (.bool true):=by
 have b:=gU h;have i0:cQ (.tuple [.int p,.int c]) (.int 0)=some (.int p):=rfl;have i1:cQ (.tuple [.int p,.int c]) (.int 1)=some (.int c):=rfl;have e0:decide (((a.map PyData.int).length:Int)=p)=true:=decide_eq_true (by rw [zJ];exact ca.len)
 have al:=ca.len;have l1:(a.map PyData.int).length<=fh:=by rw [zJ];exact Qe (show _<=1000 by omega) (by decide)
 have mm:(bR 1 [("game",0)] (bf (aF 1)) (gN 0) ik (aG 3 ak (aB (aF 0) (aB (dC (.int 0)) (aB (d2 uv (d2 cQ (aF 1) (dC (.int 1))) (dC (.int 1))) aK))))) [some (.fz (.tuple [.int p,.int c])),some (.fz (.tuple (a.map PyData.int)))]=some ((a.map PyData.int).map λ_=>.bool true):=by
  refine im _ rfl l1 λd hd=>?_;obtain⟨n,hn,rfl⟩:=Qd.mp hd;have q:=ca.all n hn;simp only [aF,dC,d2,aG,aK,aB,gb,ik,gN,xD,zI,zL,zC,zH,Q1,Q3,zA,zB,zE,List.replicate,zD,zG,Nat.reduceAdd, ↓reduceIte,AG,i1,wO,decide_eq_true q.1,decide_eq_true q.2]
 have bs:nV ((a.map PyData.int).map λ_=>PyData.bool true)=some ((a.map PyData.int).map λ_=>true):=by
  rw [show ((a.map PyData.int).map λ_=>PyData.bool true)=((a.map PyData.int).map λ_=>true).map PyData.bool by simp]
  exact nW _
 have al2:((a.map PyData.int).map λ_=>true).all id=true:=by simp
 simp only [jm,yy,nh,uM,aJ,bV,cj,aW,eR,am,aF,dC,d2,cI,aK,aB,bw,dB,fY,rV,dS,mQ,aj,cM,lL,xC,jG,Br,DE,zI,zL,zC,zH,Q4,zA,zB,List.replicate,zD,zG,Nat.reduceAdd,Nat.reduceSub, ↓reduceIte,qG,zN,i0,xB,e0,mm,bs,al2]
noncomputable def ext(c:Nat)(a:List Int):List (List Int):=(List.range c).map λk:Nat=>a++[(k:Int)]
noncomputable def af(c:Nat):Nat->List (List Int)
 |0=>[[]]
 |n+1=>(af c n).flatMap (ext c)
noncomputable def codes(p c:Int):List (List Int):=af c.toNat p.toNat
noncomputable def dR(cs:List (List Int)):PyData:=.list (cs.map aJ)
theorem x6(c:Nat)(a:List Int):(ext c a).length=c:=by simp [ext]
theorem pb(c:Nat):∀l:List (List Int),(l.flatMap (ext c)).length=l.length*c
 |[]=>by simp
 |a::r=>by rw [List.flatMap_cons,zQ,x6,pb c r,zC,Nat.succ_mul];omega
theorem gq(c:Nat):∀n,(af c n).length=c ^ n
 |0=>rfl
 |n+1=>by rw [af,pb,gq c n,Nat.pow_succ]
theorem qi {c n:Nat}(hc:c<=5)(hn:n<=4):c ^ n<=625:=by
 refine Qe (Nat.pow_le_pow_left hc n) (Qe (Nat.pow_le_pow_right (by decide) hn) (by decide))
theorem kR(c:Nat):∀n a,a∈af c n->a.length=n/\∀x∈a,0<=x/\x < (c:Int)
 |0,a,h=>by
  have:a=[]:=by simpa [af]using h
  subst this;exact⟨rfl,λx hx=>by cases hx⟩
 |n+1,a,h=>by
  obtain⟨b,hb,ha⟩:=List.mem_flatMap.mp h;obtain⟨k,hk,rfl⟩:=Qd.mp ha;have hk':k < c:=by simpa using hk
  obtain⟨l,q⟩:=kR c n b hb;refine⟨by simp [l],λx hx=>?_⟩
  rcases Du.mp hx with z|z
  · exact q x z
  · have:x=(k:Int):=by simpa using z
    omega
theorem nt {p c:Int}(h:(p,c)∈ef){a:List Int}(ha:a∈codes p c):Code p c a:=by
 have b:=gU h;obtain⟨l,q⟩:=kR _ _ _ ha;refine⟨by omega,λn hn=>?_⟩
 have:=q n hn;omega
theorem wQ {p c:Int}(h:(p,c)∈ef):(codes p c).length<=625:=by
 have b:=gU h;unfold codes;rw [gq];exact qi (by omega) (by omega)
theorem fR {n:Nat}(h:n<=1000):n<=fh:=Qe h (by decide)
theorem JD(a:List Int)(k:Int)(ha:a.length<=100):cp (aJ a) (.tuple [.int k])=some (aJ (a++[k])):=by
 have q:(a.map PyData.int).length+[PyData.int k].length<=fh:=by rw [zJ];exact fR (by simp;omega)
 unfold aJ;rw [AD];simp only [cp,q, ↓reduceIte];rfl
theorem wR(c:Nat):bQ 0 c=(List.range c).map λk:Nat=>PyData.int (k:Int):=by
 unfold bQ;apply List.map_congr_left
 intro k _;rw [Int.zero_add]
theorem zY {nm:Str}{k:Nat}{c:Nat}{a:List Int}{fi:aQ->Option (List PyData)}{δ:aQ}(hi:fi δ=some (bQ 0 c))(hc:c<=100)(ha:a.length<=100)(hk:δ[k]? =some (some (.fz (aJ a)))):
 bR 1 [(nm,k)] fi (gN 0) ik (d2 cp (aF 1) (eh (aB (aF 0) aK))) δ=some ((ext c a).map aJ):=by
 rw [im (λd=>match d with| .int k=>aJ (a++[k])|d=>d) hi (by simp [bQ];exact fR (by omega)) (λd hd=>?_)]
 · rw [wR,zO,ext,zO];rfl
 · rw [wR]at hd;obtain⟨m,_,rfl⟩:=Qd.mp hd;have z:(1:Nat)<=fh:=nr 1;simp only [aF,d2,aK,aB,eh,gb,ik,gN,zI,zL,zC,zH,Q1,Q3,zA,zB,zE,List.replicate,zD,zG,Nat.reduceAdd, ↓reduceIte,hk,z,JD a (m:Int) ha]
theorem uY {c:Int}(h0:0<=c)(h1:c<=1000):nR c=true:=by
 unfold nR;rw [decide_eq_true (show -1000000000<=c by omega),decide_eq_true (show c<=1000000000 by omega)];rfl
theorem wS {c:Nat}{l:List (List Int)}{j:Nat}(h:j < l.length):(l.take (j+1)).flatMap (ext c)=(l.take j).flatMap (ext c)++ext c l[j]:=by
 rw [LU h,List.flatMap_append]
 simp
theorem pc {p c:Int}(h:(p,c)∈ef):d8 [aJ [p,c]]=some (dR (codes p c)):=by
 have b:=gU h;have i0:cQ (.tuple [.int p,.int c]) (.int 0)=some (.int p):=rfl;have i1:cQ (.tuple [.int p,.int c]) (.int 1)=some (.int c):=rfl;have hg:dI [.tuple [.int p,.int c]]=some (.tuple [.int p,.int c]):=kq h;have sp:=uY (c:=p) (by omega) (by omega)
 have sc:=uY (c:=c) (by omega) (by omega)
 have z:(0:Nat)<=fh:=zU _;have z1:(1:Nat)<=fh:=nr 1;have inner:∀(i:Nat),i < p.toNat->∀v4:Option Sl,∃w4,kh ((gN 4)) ((kA 3 (bw (bR 1 [("code",4)] (cX (aB (d2 cQ (aF 0) (dC (.int 1))) aK)) (gN 0) ik (d2 cp (aF 1) (eh (aB (aF 0) aK))))))) ((af c.toNat i).map aJ) [some (.fz (.tuple [.int p,.int c])),some (.fz (dR (af c.toNat i))),some (.fz (.int (i:Nat))),some (.ow []),v4]=
  some (.nx [some (.fz (.tuple [.int p,.int c])),some (.fz (dR (af c.toNat i))),some (.fz (.int (i:Nat))),some (.ow ((af c.toNat (i+1)).map aJ)),w4]):=by
  intro i hi v4;obtain⟨δ',e1,w4,e2⟩:=de (fg:=(gN 4)) (fb:=(kA 3 (bw (bR 1 [("code",4)] (cX (aB (d2 cQ (aF 0) (dC (.int 1))) aK)) (gN 0) ik (d2 cp (aF 1) (eh (aB (aF 0) aK))))))) (ds:=(af c.toNat i).map aJ) (δ:=[some (.fz (.tuple [.int p,.int c])),some (.fz (dR (af c.toNat i))),some (.fz (.int (i:Nat))),some (.ow []),v4])
   (λ j δ => ∃ w4, δ = [some (.fz (.tuple [.int p, .int c])), some (.fz (dR (af c.toNat i))), some (.fz (.int (i : Nat))), some (.ow ((((af c.toNat i).take j).flatMap (ext c.toNat)).map aJ)), w4]) ⟨v4, rfl⟩ (by
    rintro j hj δ ⟨w4,rfl⟩;have hj':j < (af c.toNat i).length:=by simpa using hj
    have ed:((af c.toNat i).map aJ)[j]=aJ (af c.toNat i)[j]:=by simp
    have hm:(af c.toNat i)[j]∈af c.toNat i:=C6 hj';have hl:=(kR _ _ _ hm).1;have hz:((((af c.toNat i).take j).flatMap (ext c.toNat)).map aJ).length+((ext c.toNat (af c.toNat i)[j]).map aJ).length<=fh:=by
     rw [zJ,zJ,pb,x6,Dt,gq];have q1:c.toNat ^ i.succ<=625:=qi (by omega) (by omega)
     rw [gq]at hj';have q2:(j+1)*c.toNat<=c.toNat ^ i*c.toNat:=Nat.mul_le_mul_right _ hj';rw [<-Nat.pow_succ]at q2;have q3:min j (c.toNat ^ i)=j:=Nat.min_eq_left (Dq hj');rw [q3];have q4:(j+1)*c.toNat=j*c.toNat+c.toNat:=Nat.succ_mul _ _;exact fR (by omega)
    rw [ed];refine⟨_,_,rfl,?_,some (.fz (aJ (af c.toNat i)[j])),rfl⟩;have cx:=zY (nm:="code") (k:=4) (c:=c.toNat) (a:=(af c.toNat i)[j]) (fi:=cX (aB (d2 cQ (aF 0) (dC (.int 1))) aK)) (δ:=[some (.fz (.tuple [.int p,.int c])),some (.fz (dR (af c.toNat i))),some (.fz (.int (i:Nat))),some (.ow ((((af c.toNat i).take j).flatMap (ext c.toNat)).map aJ)),some (.fz (aJ (af c.toNat i)[j]))])
     (by simp only [aF,dC,d2,aK,aB,cX,zA,zD, ↓reduceIte,i1,sc]) (by omega) (by omega) rfl
    simp only [kA,bw,zA,zB,zE,zF,zD,zG, ↓reduceIte,cx,hz];rw [wS hj',AD])
  rw [zJ,C5]at e2;subst e2;exact⟨w4,e1⟩
 obtain⟨δ',e1,v2,v3,v4,e2⟩:=de (fg:=(gN 2)) (fb:=(aW (hX 3 (bd aK)) (aW (fO (bf (aF 1)) (gN 4) (kA 3 (bw (bR 1 [("code",4)] (cX (aB (d2 cQ (aF 0) (dC (.int 1))) aK)) (gN 0) ik (d2 cp (aF 1) (eh (aB (aF 0) aK))))))) (mR 3 (bO 1 (aF 3)))))) (ds:=bQ 0 p.toNat) (δ:=[some (.fz (.tuple [.int p,.int c])),some (.fz (.list [.tuple []])),none,none,none])
  (λ i δ => ∃ v2 v3 v4, δ = [some (.fz (.tuple [.int p, .int c])), some (.fz (dR (af c.toNat i))), v2, v3, v4]) ⟨none, none, none, rfl⟩ (by
   rintro i hi δ ⟨v2,v3,v4,rfl⟩;have hi':i < p.toNat:=by simpa [bQ]using hi
   have ed:(bQ 0 p.toNat)[i]=.int (i:Nat):=by simp [bQ]
   obtain⟨w4,f1⟩:=inner i hi' v4;rw [ed];refine⟨_,[some (.fz (.tuple [.int p,.int c])),some (.fz (dR (af c.toNat (i+1)))),some (.fz (.int (i:Nat))),some (.fz (dR (af c.toNat (i+1)))),w4],rfl,?_,_,_,_,rfl⟩;unfold dR at f1 ⊢;simp only [aW,bO,hX,mR,fO,aF,aK,bd,bf,kB,DL.frz,zH,zA,zB,zE,zF,zD,zG, ↓reduceIte,z,f1])
 have len2:(bQ 0 p.toNat).length=p.toNat:=by simp [bQ]
 rw [len2]at e2;subst e2;simp only [d8,vG,kP,pP,pO,pN,aJ,bV,cj,aW,bO,am,vj,fO,aF,dC,d2,aG,aK,aB,eh,bd,bw,cX,cM,zI,zL,zC,zH,Q1,Q3,zA,zB,zE,zF,List.replicate,zD,zG,Nat.reduceAdd,Nat.reduceSub, ↓reduceIte,hg,z,z1,i0,sp,e1];rfl
theorem pf {p c:Int}(h:(p,c)∈ef):ah [aJ [p,c]]=some (dR (codes p c)):=by
 have b:=gU h;have i0:cQ (.tuple [.int p,.int c]) (.int 0)=some (.int p):=rfl;have i1:cQ (.tuple [.int p,.int c]) (.int 1)=some (.int c):=rfl;have sp:=uY (c:=p) (by omega) (by omega)
 have sc:=uY (c:=c) (by omega) (by omega)
 have z:(0:Nat)<=fh:=zU _;have z1:(1:Nat)<=fh:=nr 1;have inner:∀(i:Nat),i < p.toNat->∀v4:Option Sl,∃w4,kh ((gN 4)) ((bO 3 (d2 cp (aF 3) (bw (bR 1 [("_law_code_here",4)] (cX (aB (d2 cQ (aF 0) (dC (.int 1))) aK)) (gN 0) ik (d2 cp (aF 1) (eh (aB (aF 0) aK)))))))) ((af c.toNat i).map aJ) [some (.fz (.tuple [.int p,.int c])),some (.fz (dR (af c.toNat i))),some (.fz (.int (i:Nat))),some (.fz (.list [])),v4]=
  some (.nx [some (.fz (.tuple [.int p,.int c])),some (.fz (dR (af c.toNat i))),some (.fz (.int (i:Nat))),some (.fz (dR (af c.toNat (i+1)))),w4]):=by
  intro i hi v4;obtain⟨δ',e1,w4,e2⟩:=de (fg:=(gN 4)) (fb:=(bO 3 (d2 cp (aF 3) (bw (bR 1 [("_law_code_here",4)] (cX (aB (d2 cQ (aF 0) (dC (.int 1))) aK)) (gN 0) ik (d2 cp (aF 1) (eh (aB (aF 0) aK)))))))) (ds:=(af c.toNat i).map aJ) (δ:=[some (.fz (.tuple [.int p,.int c])),some (.fz (dR (af c.toNat i))),some (.fz (.int (i:Nat))),some (.fz (.list [])),v4])
   (λ j δ => ∃ w4, δ = [some (.fz (.tuple [.int p, .int c])), some (.fz (dR (af c.toNat i))), some (.fz (.int (i : Nat))), some (.fz (.list ((((af c.toNat i).take j).flatMap (ext c.toNat)).map aJ))), w4]) ⟨v4, rfl⟩ (by
    rintro j hj δ ⟨w4,rfl⟩;have hj':j < (af c.toNat i).length:=by simpa using hj
    have ed:((af c.toNat i).map aJ)[j]=aJ (af c.toNat i)[j]:=by simp
    have hm:(af c.toNat i)[j]∈af c.toNat i:=C6 hj';have hl:=(kR _ _ _ hm).1;have hz:((((af c.toNat i).take j).flatMap (ext c.toNat)).map aJ).length+((ext c.toNat (af c.toNat i)[j]).map aJ).length<=fh:=by
     rw [zJ,zJ,pb,x6,Dt,gq];have q1:c.toNat ^ i.succ<=625:=qi (by omega) (by omega)
     rw [gq]at hj';have q2:(j+1)*c.toNat<=c.toNat ^ i*c.toNat:=Nat.mul_le_mul_right _ hj';rw [<-Nat.pow_succ]at q2;have q3:min j (c.toNat ^ i)=j:=Nat.min_eq_left (Dq hj');rw [q3];have q4:(j+1)*c.toNat=j*c.toNat+c.toNat:=Nat.succ_mul _ _;exact fR (by omega)
    have ad:cp (.list ((((af c.toNat i).take j).flatMap (ext c.toNat)).map aJ)) (.list ((ext c.toNat (af c.toNat i)[j]).map aJ))=some (.list ((((af c.toNat i).take (j+1)).flatMap (ext c.toNat)).map aJ)):=by
     rw [wS hj',AD];simp only [cp,hz, ↓reduceIte]
    rw [ed];refine⟨_,_,rfl,?_,some (.fz (aJ (af c.toNat i)[j])),rfl⟩;have cx:=zY (nm:="_law_code_here") (k:=4) (c:=c.toNat) (a:=(af c.toNat i)[j]) (fi:=cX (aB (d2 cQ (aF 0) (dC (.int 1))) aK)) (δ:=[some (.fz (.tuple [.int p,.int c])),some (.fz (dR (af c.toNat i))),some (.fz (.int (i:Nat))),some (.fz (.list ((((af c.toNat i).take j).flatMap (ext c.toNat)).map aJ))),some (.fz (aJ (af c.toNat i)[j]))])
     (by simp only [aF,dC,d2,aK,aB,cX,zA,zD, ↓reduceIte,i1,sc]) (by omega) (by omega) rfl
    simp only [bO,aF,d2,bw,zA,zB,zE,zF,zD,zG,cx,ad])
  rw [zJ,C5]at e2;subst e2;exact⟨w4,e1⟩
 obtain⟨δ',e1,v2,v3,v4,e2⟩:=de (fg:=(gN 2)) (fb:=(aW (bO 3 (bw (bd aK))) (aW (fO (bf (aF 1)) (gN 4) (bO 3 (d2 cp (aF 3) (bw (bR 1 [("_law_code_here",4)] (cX (aB (d2 cQ (aF 0) (dC (.int 1))) aK)) (gN 0) ik (d2 cp (aF 1) (eh (aB (aF 0) aK)))))))) (bO 1 (aF 3))))) (ds:=bQ 0 p.toNat) (δ:=[some (.fz (.tuple [.int p,.int c])),some (.fz (.list [.tuple []])),none,none,none])
  (λ i δ => ∃ v2 v3 v4, δ = [some (.fz (.tuple [.int p, .int c])), some (.fz (dR (af c.toNat i))), v2, v3, v4]) ⟨none, none, none, rfl⟩ (by
   rintro i hi δ ⟨v2,v3,v4,rfl⟩;have hi':i < p.toNat:=by simpa [bQ]using hi
   have ed:(bQ 0 p.toNat)[i]=.int (i:Nat):=by simp [bQ]
   obtain⟨w4,f1⟩:=inner i hi' v4;rw [ed];refine⟨_,[some (.fz (.tuple [.int p,.int c])),some (.fz (dR (af c.toNat (i+1)))),some (.fz (.int (i:Nat))),some (.fz (dR (af c.toNat (i+1)))),w4],rfl,?_,_,_,_,rfl⟩;unfold dR at f1 ⊢;simp only [aW,bO,fO,aF,aK,bd,bw,bf,kB,zH,zA,zB,zE,zF,zD,zG, ↓reduceIte,z,f1])
 have len2:(bQ 0 p.toNat).length=p.toNat:=by simp [bQ]
 rw [len2]at e2;subst e2;simp only [ah,uJ,mh,mf,me,aJ,bV,cj,aW,bO,am,fO,aF,dC,d2,aK,aB,eh,bd,bw,cX,cM,zI,zL,zC,zH,Q1,Q3,zA,zB,zE,zF,List.replicate,zD,zG,Nat.reduceAdd,Nat.reduceSub, ↓reduceIte,z,z1,i0,sp,e1];rfl
noncomputable abbrev xl:=List Int×List Int
noncomputable def cO(a:xl):PyData:=.tuple [aJ a.1,aJ a.2]
noncomputable def vL(as:List xl):PyData:=.list (as.map cO)
structure AskOk (p c:Int) (a:xl):Prop where
 code:Code p c a.1
 two:a.2.length=2
 b:∀n∈a.2,0<=n/\n<=p
theorem Db {p c:Int}{x y:List Int}(hx:Code p c x)(hy:Code p c y):(GC.gF x y).length=2/\∀n∈GC.gF x y,0<=n/\n<=p:=by
 have l1:=hx.len;have l2:=hy.len;obtain⟨e,_⟩:=GC.yD (h:=x) (g:=y) (by omega)
 refine⟨rfl,λn hn=>?_⟩;have:n=(GC.oC x y:Int)\/n=(GC.bC (GC.dP x y) (GC.cA x y):Int):=by simpa [GC.gF]using hn
 omega
theorem JE {p c:Int}(h:(p,c)∈ef)(ns:List Int)(k:Nat):∃as:List xl,fP [tD ns,.int (k:Nat),aJ [p,c]]=some (as.map cO)/\as.length<=4/\∀a∈as,AskOk p c a:=by
 have b:=gU h;have i0:cQ (.tuple [.int p,.int c]) (.int 0)=some (.int p):=rfl;have z:(0:Nat)<=fh:=zU _;have z2:(2:Nat)<=fh:=nr 2;have cell:∀j:Nat,bK [tD ns,.int (j:Nat)]=some (.int (cS ns j)):=sN ns;have c1:bK [tD ns,.int ((k:Int)+1)]=some (.int (cS ns (k+1))):=cell (k+1);have cd:∀x,d6 [.tuple [.int p,.int c],.int x]=some (.tuple ((wN p c x).map .int)):=λx=>JC h x;have mx:∀(x:Int) {q m:Int},0 < q->0 < m->bg [.int x,.int q,.int m]=some (.int (jI x q m)):=λx q m=>BI x;have m5:=uW (cS ns (k+1)) (p:=9949) (show (0:Int) < 5 by decide)
 have s5:=uY (c:=jI (cS ns (k+1)) 9949 5) (by omega) (by omega)
 generalize hN:jI (cS ns (k+1)) 9949 5=N at m5 s5;have C0:=uX h (cS ns k);generalize hx:wN p c (cS ns k)=x at C0;obtain⟨δ',e1,as,v5,v6,v7,v8,e2,al,ao⟩:=de (fg:=(gN 5)) (fb:=(aW (bO 6 (d2 cp (aG 2 bK (aB (aF 0) (aB (d2 cp (d2 cp (aF 1) (dC (.int 2))) (aF 5)) aK))) (d2 lK (d2 lK (dC (.int 13)) (aF 5)) (aF 5)))) (aW (bO 7 (aG 2 d6 (aB (aF 2) (aB (aF 6) aK)))) (aW (bO 8 (aG 2 bL (aB (aF 3) (aB (aF 7) aK)))) (aW (eR (dB (d2 gj (aG 3 bg (aB (aF 6) (aB (dC (.int 9941)) (aB (dC (.int 7)) aK)))) (dC (.int 1)))) (bO 8 (eh (aB (aG 3 bg (aB (aF 6) (aB (dC (.int 9931)) (aB (d2 cp (d2 cQ (aF 2) (dC (.int 0))) (dC (.int 1))) aK)))) (aB (aG 3 bg (aB (aF 6) (aB (dC (.int 9929)) (aB (d2 cp (d2 cQ (aF 2) (dC (.int 0))) (dC (.int 1))) aK)))) aK)))) aj) (cg 4 (eh (aB (aF 7) (aB (aF 8) aK))))))))) (ds:=bQ 0 N.toNat) (δ:=[some (.fz (tD ns)),some (.fz (.int (k:Nat))),some (.fz (.tuple [.int p,.int c])),some (.fz (.tuple (x.map .int))),some (.ow []),none,none,none,none])
  (λ i δ => ∃ (as : List xl) (v5 v6 v7 v8 : Option Sl), δ = [some (.fz (tD ns)), some (.fz (.int (k : Nat))), some (.fz (.tuple [.int p, .int c])), some (.fz (.tuple (x.map .int))), some (.ow (as.map cO)), v5, v6, v7, v8] /\ as.length = i /\ ∀ a ∈ as, AskOk p c a) ⟨[], none, none, none, none, rfl, rfl, λ a ha => by cases ha⟩ (by
   rintro i hi δ ⟨as,v5,v6,v7,v8,rfl,al,ao⟩;have hi':i < N.toNat:=by simpa [bQ]using hi
   have ed:(bQ 0 N.toNat)[i]=.int (i:Nat):=by simp [bQ]
   have ce:bK [tD ns,.int ((k:Int)+2+(i:Int))]=some (.int (cS ns (k+2+i))):=cell (k+2+i);have q1:oR 13 (i:Int)=true:=qh _ (by omega)
   have q2:oR (13*(i:Int)) (i:Int)=true:=nq _ (by omega)
   have q4:(as.map cO).length < fh:=by rw [zJ];exact j6 (show _ < 1000 by omega) (by decide)
   generalize hs:cS ns (k+2+i)+13*(i:Int)*(i:Int)=sd;have C1:=uX h sd;have cd1:=cd sd;generalize wN p c sd=y at C1 cd1;have l1:=C0.len;have l2:=C1.len;have an:bL [.tuple (x.map .int),.tuple (y.map .int)]=some (aJ (GC.gF x y)):=j2 (by omega) (by omega)
   have m1:=mx sd (show (0:Int) < 9941 by decide) (show (0:Int) < 7 by decide)
   have m2:=mx sd (show (0:Int) < 9931 by decide) (show (0:Int) < p+1 by omega)
   have m3:=mx sd (show (0:Int) < 9929 by decide) (show (0:Int) < p+1 by omega)
   have step:∀t:List Int,t.length=2->(∀n∈t,0<=n/\n<=p)->∃as':List xl,(as++[(y,t)])=as'/\as'.length=i+1/\∀a∈as',AskOk p c a:=λt t1 t2=>⟨_,rfl,by simp [al],λa ha=>by
    rcases Du.mp ha with q|q
    · exact ao a q
    · have:a=(y,t):=by simpa using q
      subst this;exact⟨C1,t1,t2⟩⟩
   rw [ed]
   by_cases hm:jI sd 9941 7=1
   · have e7:gj (.int (jI sd 9941 7)) (.int 1)=some (.bool true):=by rw [dF,decide_eq_true hm]
     have b1:=uW sd (p:=9931) (show (0:Int) < p+1 by omega)
     have b2:=uW sd (p:=9929) (show (0:Int) < p+1 by omega)
     obtain⟨as',ea,l',o'⟩:=step [jI sd 9931 (p+1),jI sd 9929 (p+1)] rfl (by
      intro n hn;have:n=jI sd 9931 (p+1)\/n=jI sd 9929 (p+1):=by simpa using hn
      omega)
     refine⟨_,_,rfl,?_,as',some (.fz (.int (i:Nat))),some (.fz (.int sd)),some (.fz (.tuple (y.map .int))),some (.fz (.tuple [.int (jI sd 9931 (p+1)),.int (jI sd 9929 (p+1))])),rfl,l',o'⟩;simp only [aW,eR,bO,cg,aF,dC,d2,aG,aK,aB,eh,dB,aj,xE,lM,zC,zH,zA,zB,zE,zF,zD,zG,Nat.reduceAdd, ↓reduceIte,q1,q2,q4,ce,hs,cd1,an,m1,m2,m3,e7,i0,z2];rw [<-ea,AD];rfl
   · have e7:gj (.int (jI sd 9941 7)) (.int 1)=some (.bool false):=by rw [dF,decide_eq_false hm]
     obtain⟨b1,b2⟩:=Db C0 C1;obtain⟨as',ea,l',o'⟩:=step (GC.gF x y) b1 b2;refine⟨_,_,rfl,?_,as',some (.fz (.int (i:Nat))),some (.fz (.int sd)),some (.fz (.tuple (y.map .int))),some (.fz (aJ (GC.gF x y))),rfl,l',o'⟩;simp only [aW,eR,bO,cg,aF,dC,d2,aG,aK,aB,eh,dB,aj,xE,lM,zC,zH,zA,zB,zE,zF,zD,zG,Nat.reduceAdd, ↓reduceIte,zN,q1,q2,q4,ce,hs,cd1,an,m1,e7,i0,z2];rw [<-ea,AD];rfl)
 have len2:(bQ 0 N.toNat).length=N.toNat:=by simp [bQ]
 rw [len2]at al;subst e2;refine⟨as,?_,by omega,ao⟩
 have cx:=cd (cS ns k);rw [hx]at cx;have c0:=cell k;have mN:=mx (cS ns (k+1)) (show (0:Int) < 9949 by decide) (show (0:Int) < 5 by decide)
 rw [hN]at mN;simp only [fP,vA,kL,pG,pF,pE,aJ,K3,cj,aW,bO,hX,Bj,fO,aF,dC,d2,aG,aK,aB,bd,cX,lM,zI,zL,zC,zH,Q1,Q3,zA,zB,zE,zF,List.replicate,zD,zG,Nat.reduceAdd,Nat.reduceSub, ↓reduceIte,c0,c1,cx,z,mN,s5,e1]
noncomputable def gW(as:List xl)(x:List Int):Bool:=as.all λa=>decide (GC.iG x a.1=a.2)
theorem NR(a:xl):cQ (cO a) (.int 0)=some (aJ a.1):=rfl
theorem NT(a:xl):cQ (cO a) (.int 1)=some (aJ a.2):=rfl
theorem zZ {p c:Int}(h:(p,c)∈ef){x:List Int}(cx:Code p c x){a:xl}(ha:AskOk p c a):fV [aJ x,cO a]=some (.bool (decide (GC.iG x a.1=a.2))):=by
 have b:=gU h;have l1:=cx.len;have l2:=ha.code.len;have q:=pZ (a:=x) (b:=a.1) (by omega) (by omega)
 simp only [fV,xX,lf,bV,cj,am,aF,dC,d2,aG,aK,aB,cM,zI,zL,zC,zH,Q4,zA,zB,List.replicate,zD,zG,Nat.reduceAdd,Nat.reduceSub, ↓reduceIte,NR,NT,q,yM]
theorem x8 {p c:Int}(h:(p,c)∈ef){t:List Int}(t2:t.length=2)(tb:∀n∈t,0<=n/\n<=p):gn [aJ [p,c],aJ t]=some (.bool true):=by
 have i0:cQ (.tuple [.int p,.int c]) (.int 0)=some (.int p):=rfl;have ip:fG [.tuple (t.map .int)]=some (.bool true):=by
  have e:gj (.int ((t.map PyData.int).length:Nat)) (.int 2)=some (.bool true):=by rw [dF,decide_eq_true];rw [zJ,t2];rfl
  simp only [fG,rN,kN,bV,cj,am,aF,dC,d2,cI,aK,aB,dB,jK,cM,lL,xC,jG,Br,zI,zL,zC,zH,Q4,zA,List.replicate,zD,zG,Nat.reduceAdd,Nat.reduceSub, ↓reduceIte,e]
 have l1:(t.map PyData.int).length<=fh:=by rw [zJ,t2];exact nr 2
 have mm:(bR 1 [("game",0)] (bf (aF 1)) (gN 0) ik (aG 3 ak (aB (aF 0) (aB (dC (.int 0)) (aB (d2 cQ (aF 1) (dC (.int 0))) aK))))) [some (.fz (.tuple [.int p,.int c])),some (.fz (.tuple (t.map PyData.int)))]=some ((t.map PyData.int).map λ_=>.bool true):=by
  refine im _ rfl l1 λd hd=>?_;obtain⟨n,hn,rfl⟩:=Qd.mp hd;have q:=tb n hn;simp only [aF,dC,d2,aG,aK,aB,gb,ik,gN,zI,zL,zC,zH,Q1,Q3,zA,zB,zE,List.replicate,zD,zG,Nat.reduceAdd, ↓reduceIte,AG,i0,wO,decide_eq_true q.1,decide_eq_true q.2]
 have bs:nV ((t.map PyData.int).map λ_=>PyData.bool true)=some ((t.map PyData.int).map λ_=>true):=by
  rw [show ((t.map PyData.int).map λ_=>PyData.bool true)=((t.map PyData.int).map λ_=>true).map PyData.bool by simp]
  exact nW _
 have al2:((t.map PyData.int).map λ_=>true).all id=true:=by simp
 simp only [gn,vF,kO,aJ,bV,cj,am,aF,cI,aG,aK,aB,bw,dB,jK,cM,DE,zI,zL,zC,zH,Q4,zA,zB,List.replicate,zD,zG,Nat.reduceAdd,Nat.reduceSub, ↓reduceIte,ip,mm,bs,al2]
theorem Dd {p c:Int}(h:(p,c)∈ef){a:xl}(ha:AskOk p c a):jP [aJ [p,c],cO a]=some (.bool true):=by
 have ip:fG [cO a]=some (.bool true):=by
  have e:gj (.int ((2:Nat):Int)) (.int 2)=some (.bool true):=by rw [dF];rfl
  simp only [fG,rN,kN,cO,bV,cj,am,aF,dC,d2,cI,aK,aB,dB,jK,cM,lL,xC,jG,Br,zI,zL,zC,zH,Q4,zA,List.replicate,zD,zG,Nat.reduceAdd,Nat.reduceSub, ↓reduceIte,e]
 have q1:=BJ h ha.code;have q2:=x8 h ha.two ha.b;simp only [jP,BD,qd,bV,cj,am,aF,dC,d2,aG,aK,aB,dB,jK,cM,zI,zL,zC,zH,Q4,zA,zB,List.replicate,zD,zG,Nat.reduceAdd,Nat.reduceSub, ↓reduceIte,ip,NR,NT,q1,q2]
theorem ri {p c:Int}(h:(p,c)∈ef){as:List xl}(ao:∀a∈as,AskOk p c a)(al:as.length<=8):dh [aJ [p,c],vL as,Ke "is_ask"]=some (vL as):=by
 obtain⟨δ',e1,v2,v3,e2⟩:=de (fg:=(gT 2 (gC (gN 3) (gC (gN 4) gZ)))) (fb:=(eR (dS (fY (xJ 2 "is_ask" 2 jP (aB (aF 0) (aB (aF 4) aK))))) dM aj)) (ds:=jL (as.map cO)) (δ:=[some (.fz (aJ [p,c])),some (.fz (.list (as.map cO))),some (.fz (Ke "is_ask")),none,none])
  (λ i δ => ∃ v2 v3, δ = [some (.fz (aJ [p, c])), some (.fz (.list (as.map cO))), some (.fz (Ke "is_ask")), v2, v3]) ⟨none, none, rfl⟩ (by
   rintro i hi δ ⟨v2,v3,rfl⟩;have hi':i < as.length:=by simpa [jL]using hi
   have ed:(jL (as.map cO))[i]=.tuple [.int (i:Nat),cO as[i]]:=by
    have:=iF hi;obtain⟨e,h1,h2⟩:=qQ this;rw [zK,iF hi']at h1;cases h1;exact h2
   have q:=Dd h (ao _ (C6 hi'));rw [ed];refine⟨_,_,rfl,?_,some (.fz (.int (i:Nat))),some (.fz (cO as[i])),rfl⟩;simp only [eR,aF,aG,aK,aB,fY,rV,dS,aj,dM,zC,zH,zA,zB,zE,zF,zD,zG,Nat.reduceAdd, ↓reduceIte,qG,zN,xJ,DI,q])
 subst e2;have d:decide ((8:Int) < ((as.map cO).length:Nat))=false:=decide_eq_false (by rw [zJ];omega)
 simp only [dh,qe,iI,kn,kl,vL,bV,cj,aW,eR,am,fO,aF,dC,d2,cI,aK,aB,dB,fY,rV,dS,mQ,kB,LZ,aj,dM,cM,lL,Kb,jG,vp,MD,zI,zL,zC,zH,Q1,Q3,zA,zB,List.replicate,zD,zG,Nat.reduceAdd,Nat.reduceSub, ↓reduceIte,qG,zN,d,e1]
theorem rj {p c:Int}(h:(p,c)∈ef){as:List xl}(ao:∀a∈as,AskOk p c a)(al:as.length<=8):dj [aJ [p,c],vL as]=some (vL as):=by
 have q:=ri h ao al;simp only [dj,qf,iJ,bV,cj,am,aF,dC,aG,aK,aB,cM,zI,zL,zC,zH,Q4,zA,zB,List.replicate,zD,zG,Nat.reduceAdd,Nat.reduceSub, ↓reduceIte,q]
theorem sO {cs:List (List Int)}{d:PyData}(h:d∈cs.map aJ):∃x∈cs,d=aJ x:=by
 obtain⟨x,hx,e⟩:=Qd.mp h;exact⟨x,hx,e.symm⟩
theorem kS {α:Type}(enc:α->PyData)(f:PyData->Bool)(q:α->Bool):∀{l:List α},(∀a∈l,f (enc a)=q a)->(l.map enc).filter f=(l.filter q).map enc
 |[],_=>rfl
 |a::r,h=>by
  have ih:=kS enc f q (l:=r) λx hx=>h x (j4 _ hx);rw [zI,List.filter_cons,List.filter_cons,h a j5,ih];cases q a<;>rfl
noncomputable def jD(d:PyData):List Int:=@dite _ (∃x,aJ x=d) (Classical.propDecidable _) (λh=>Classical.choose h) (λ_=>[])
theorem fT(x:List Int):jD (aJ x)=x:=by
 unfold jD;have h:∃y,aJ y=aJ x:=⟨x,rfl⟩;rw [dif_pos h];exact tK (Classical.choose_spec h)
theorem x9 {l:List PyData}:l.map (λd=>d)=l:=List.map_id l
theorem G7 {p c:Int}(h:(p,c)∈ef){cs:List (List Int)}(hc:∀x∈cs,Code p c x)(hl:cs.length<=1000){as:List xl}(ao:∀a∈as,AskOk p c a):
 dD [dR cs,vL as]=some (dR (cs.filter (gW as))):=by
 obtain⟨δ',e1,v3,e2⟩:=de (fg:=(gN 3)) (fb:=(bO 2 (bw (bR 1 [("ask",3)] (bf (aF 2)) (gN 0) (fY (aG 2 fV (aB (aF 0) (aB (aF 1) aK)))) (aF 0))))) (ds:=as.map cO) (δ:=[some (.fz (.list (cs.map aJ))),some (.fz (.list (as.map cO))),some (.fz (.list (cs.map aJ))),none])
  (λ i δ => ∃ v3, δ = [some (.fz (.list (cs.map aJ))), some (.fz (.list (as.map cO))), some (.fz (.list ((cs.filter (gW (as.take i))).map aJ))), v3]) ⟨none, by
   have:cs.filter (gW (as.take 0))=cs:=List.filter_eq_self.mpr λa _=>rfl;rw [this]⟩ (by
   rintro i hi δ ⟨v3,rfl⟩;have hi':i < as.length:=by simpa using hi
   have ed:(as.map cO)[i]=cO as[i]:=by simp
   have oa:=ao _ (C6 hi');rw [ed];refine⟨_,_,rfl,?_,some (.fz (cO as[i])),rfl⟩;have cx:(bR 1 [("ask",3)] (bf (aF 2)) (gN 0) (fY (aG 2 fV (aB (aF 0) (aB (aF 1) aK)))) (aF 0)) [some (.fz (.list (cs.map aJ))),some (.fz (.list (as.map cO))),some (.fz (.list ((cs.filter (gW (as.take i))).map aJ))),some (.fz (cO as[i]))]=some ((cs.filter (gW (as.take (i+1)))).map aJ):=by
    rw [fE (ds:=(cs.filter (gW (as.take i))).map aJ) (λd=>decide (GC.iG (jD d) as[i].1=as[i].2)) (λd=>d) rfl (by
     rw [zJ];exact Qe (List.length_filter_le _ _) (fR hl)) (λd hd=>?_)]
    · rw [x9,kS aJ _ (λx=>decide (GC.iG x as[i].1=as[i].2)) (λx _=>by rw [fT]),List.filter_filter]
      congr 2
      apply List.filter_congr
      intro x _;rw [LU hi'];simp only [gW,List.all_append,List.all_cons,List.all_nil,AG];rw [Bool.and_comm]
    · obtain⟨x,hx,rfl⟩:=sO hd;have q:=zZ h (hc x (List.mem_filter.mp hx).1) oa;rw [fT];cases hd':decide (GC.iG x as[i].1=as[i].2)<;>simp only [aF,aG,aK,aB,fY,rV,gb,gN,zI,zL,zC,zH,Q1,Q3,zA,zB,zE,List.replicate,zD,zG,Nat.reduceAdd, ↓reduceIte,zN,q,hd']
   simp only [bO,bw,zE,zF,zG,cx])
 rw [zJ,C5]at e2;subst e2;simp only [dD,nk,gR,jR,jQ,dR,vL,bV,cj,aW,bO,am,fO,aF,bf,kB,cM,zI,zL,zC,zH,Q1,Q3,zA,zB,zE,zF,List.replicate,zD,zG,Nat.reduceAdd,Nat.reduceSub,e1]
theorem De {p c:Int}(h:(p,c)∈ef):∀x∈codes p c,Code p c x:=λx hx=>nt h hx
theorem ph {p c:Int}(h:(p,c)∈ef){as:List xl}(ao:∀a∈as,AskOk p c a)(al:as.length<=8):bj [aJ [p,c],vL as]=some (dR ((codes p c).filter (gW as))):=by
 have q1:=kq h;have q2:=rj h ao al;have q3:=pc h;have q4:=G7 h (De h) (Qe (wQ h) (by decide)) ao
 simp only [bj,vH,kQ,pR,pQ,bV,cj,aW,am,vj,aF,aG,aK,aB,cM,zI,zL,zC,zH,Q4,zA,zB,List.replicate,zD,zG,Nat.reduceAdd,Nat.reduceSub, ↓reduceIte,q1,q2,q3,q4]
theorem JF {p c:Int}(h:(p,c)∈ef){as:List xl}(ao:∀a∈as,AskOk p c a)(al:as.length<=1000):fQ [aJ [p,c],vL as]=some (dR ((codes p c).filter (gW as))):=by
 have b:=gU h;have q0:=pf h;have inner:∀x∈codes p c,∀δ:aQ,δ[0]? =some (some (.fz (aJ x)))->δ[1]? =some (some (.fz (.list (as.map cO))))->∃es,(bR 1 [("_law_code_here",0)] (bf (aF 1)) (gN 0) (dB (d2 tI (aG 2 bL (aB (aF 1) (aB (d2 cQ (aF 0) (dC (.int 0))) aK))) (d2 cQ (aF 0) (dC (.int 1))))) (aF 0)) δ=some es/\es.isEmpty=gW as x:=by
  intro x hx δ h0 h1;have cx:=nt h hx;have f1:(bf (aF 1)) δ=some (as.map cO):=by simp only [bf,aF,h1,zD,kB]
  have hk:∀a∈as,bL [aJ x,aJ a.1]=some (aJ (GC.iG x a.1)):=λa ha=>by
   have l1:=cx.len;have l2:=(ao a ha).code.len;rw [GC.Bh (by omega)]
   exact j2 (by omega) (by omega)
  refine⟨_,fE (ds:=as.map cO) (λd=>match d with| .tuple [d1,d2]=> !PyData.eqv (aJ (GC.iG x (jD d1))) d2|_=>true) (λd=>d) f1 (by rw [zJ];exact fR al) (λd hd=>?_),?_⟩
  · obtain⟨a,ha,rfl⟩:=Qd.mp hd;have q:=hk a ha;have e:(match cO a with| .tuple [d1,d2]=> !PyData.eqv (aJ (GC.iG x (jD d1))) d2|_=>true)= !decide (GC.iG x a.1=a.2):=by
     show (!PyData.eqv (aJ (GC.iG x (jD (aJ a.1)))) (aJ a.2))=_;rw [fT,jg]
    rw [e];cases hd':decide (GC.iG x a.1=a.2)<;>simp only [aF,dC,d2,aG,aK,aB,dB,gb,gN,zI,zL,zC,zH,Q1,Q3,zA,zB,zE,List.replicate,zD,zG,Nat.reduceAdd, ↓reduceIte,qG,Gu,zN,h0,NR,NT,q,FK,hd']
  · rw [x9,kS cO _ (λa=> !decide (GC.iG x a.1=a.2)) (λa _=>by
     show (!PyData.eqv (aJ (GC.iG x (jD (aJ a.1)))) (aJ a.2))=_;rw [fT,jg])]
    rw [Bool.eq_iff_iff,List.isEmpty_iff,List.map_eq_nil_iff,List.filter_eq_nil_iff,gW,Q6]
    constructor
    · intro q a ha;have:=q a ha;simpa using this
    · intro q a ha;have:=q a ha;simpa using this
 have cx:(bR 1 [("_law_asks_here",1)] (bf (aG 1 ah (aB (aF 0) aK))) (gN 0) (dS (fY (bw (bR 1 [("_law_code_here",0)] (bf (aF 1)) (gN 0) (dB (d2 tI (aG 2 bL (aB (aF 1) (aB (d2 cQ (aF 0) (dC (.int 0))) aK))) (d2 cQ (aF 0) (dC (.int 1))))) (aF 0))))) (aF 0)) [some (.fz (.tuple [.int p,.int c])),some (.fz (.list (as.map cO)))]=some (((codes p c).filter (gW as)).map aJ):=by
  have hi:((bf (aG 1 ah (aB (aF 0) aK)))) [some (.fz (.tuple [.int p,.int c])),some (.fz (.list (as.map cO)))]=some ((codes p c).map aJ):=by
   have q0':ah [.tuple [.int p,.int c]]=some (dR (codes p c)):=q0;simp only [aF,aG,aK,aB,bf,kB,zC,zH,zA,zD,Nat.reduceAdd, ↓reduceIte,q0',dR]
  rw [fE (ds:=(codes p c).map aJ) (λd=>gW as (jD d)) (λd=>d) hi (by rw [zJ];exact fR (Qe (wQ h) (by decide))) (λd hd=>?_)]
  · rw [x9,kS aJ _ (gW as) (λx _=>by rw [fT])]
  · obtain⟨x,hx,rfl⟩:=sO hd;obtain⟨es,f1,f2⟩:=inner x hx [some (.fz (aJ x)),some (.fz (.list (as.map cO)))] rfl rfl;rw [fT, <-f2];cases hE:es.isEmpty<;>simp only [aF,bw,fY,rV,dS,gb,gN,zI,zL,Q1,Q3,zA,zB,zE,List.replicate,zD,zG, ↓reduceIte,qG,Gu,zN,f1,hE]
 simp only [fQ,vB,kM,aJ,vL,bV,cj,am,bw,cM,zI,zL,zC,zH,Q4,List.replicate,zD,zG,Nat.reduceAdd,Nat.reduceSub,cx];rfl
theorem G8 {a b:List (List Int)}(h:dR a=dR b):a=b:=by
 unfold dR at h;injection h with h
 have:a.map (λx=>jD (aJ x))=b.map (λx=>jD (aJ x)):=by
  have:=congrArg (List.map jD) h
  rwa [zO,zO]at this
 simpa [fT]using this
theorem C2(a:List (List Int)):nb (dR a)=true:=IC λd hd=>by
 obtain⟨x,_,rfl⟩:=sO hd;exact xA x
theorem xa(a:List (List Int)):okN 2 (dR a):=FJ λd hd=>by
 obtain⟨x,_,rfl⟩:=sO hd;exact io x
theorem G9(a b:List (List Int)):gj (dR a) (dR b)=some (.bool (decide (a=b))):=by
 rw [Ab (xa a).ok (xa b).ok];congr 2
 rw [Bool.eq_iff_iff,wz _ _ (C2 a) (C2 b),decide_eq_true_eq];exact⟨G8,λh=>by rw [h]⟩
theorem za(k:List Int):jH (aJ k)=some k:=bZ k
noncomputable abbrev Ga:=@DL.dH
theorem qj(k:List Int)(d:PyData):∀m:Cl,(cF m k d).length<=m.length+1
 |[]=>by simp [cF]
 |p::r=>by
  have:=qj k d r;unfold cF;split
  · simp
  · simp only [zC];omega
theorem nu {k:List Int}{d:PyData}{n:Nat}:∀{m:Cl},(∀p∈m,p.2.length<=n)->∀p∈cF m k d,p.2.length<=n+1
 |[],_,p,hp=>by
  have:p=(k,[d]):=by simpa [cF]using hp
  rw [this]
  simp
 |q::r,h,p,hp=>by
  unfold cF at hp;split at hp
  · rcases Q8.mp hp with rfl|hp
    · have:=h q j5;simp only [zQ,List.length_singleton];omega
    · have:=h p (j4 _ hp);omega
  · rcases Q8.mp hp with rfl|hp
    · have:=h p j5;omega
    · exact nu (λp hp=>h p (j4 _ hp)) p hp
theorem zb {g:List Int}{d0:PyData}(gl:g.length<=100):∀(cs:List (List Int)) (kls:Cl) (v3 v4:Option Sl) (n:Nat),(∀x∈cs,x.length=g.length)->kls.length<=n->(∀p∈kls,p.2.length<=n)->n+cs.length<=1000->
 ∃v3' v4',rD (aG 2 bL (aB (aF 3) (aB (aF 1) aK))) 3 4 2 (cs.map aJ) [some (.fz d0),some (.fz (aJ g)),none,v3,v4] kls=some (.nx [some (.fz d0),some (.fz (aJ g)),some (.od (iq (Ga g kls cs))),v3',v4'])
 |[],kls,v3,v4,n,_,_,_,_=>⟨v3,v4,rfl⟩
 |x::cs,kls,v3,v4,n,hx,h1,h2,h3=>by
  have lx:=hx x j5;have q1:=j2 (a:=x) (b:=g) lx (by rw [lx];exact gl)
  rw [<-GC.Bh lx]at q1;have hz:(decide (kls.length < fh)&&kls.all λp=>decide (p.2.length < fh))=true:=by
   rw [Q5,Q6];rw [zC]at h3;refine⟨decide_eq_true (j6 (show kls.length < 1000 by omega) (by decide)),λp hp=>?_⟩
   have:=h2 p hp;exact decide_eq_true (j6 (show p.2.length < 1000 by omega) (by decide))
  obtain⟨v3',v4',go⟩:=zb (d0:=d0) gl cs (cF kls (GC.iG x g) (aJ x)) (some (.fz (aJ x))) (some (.fz (aJ (GC.iG x g)))) (n+1) (λy hy=>hx y (j4 _ hy)) (by have:=qj (GC.iG x g) (aJ x) kls;omega) (nu h2) (by rw [zC]at h3;omega)
  refine⟨v3',v4',?_⟩;rw [zI,rD];simp only [aF,aG,aK,aB,zC,zH,zA,zB,zE,zF,zD,Nat.reduceAdd, ↓reduceIte,q1,za,hz];exact go
theorem zc {cs:List (List Int)}{g:List Int}(hx:∀x∈cs,x.length=g.length)(gl:g.length<=100)(cl:cs.length<=1000):dU [.list (cs.map aJ),aJ g]=some (.dict (iq (Ga g [] cs))):=by
 obtain⟨v3,v4,go⟩:=zb (d0:=.list (cs.map aJ)) gl cs [] none none 0 hx (Q2 _) (λp hp=>nomatch hp) (by omega)
 have z:gO [some (.fz (.list (cs.map aJ))),some (.fz (aJ g)),none,none,none]=true:=rfl;have z1:decide (3 < 5)=true:=rfl;have z2:decide (4 < 5)=true:=rfl;simp only [dU,uQ,mr,mq,mo,tX,bV,cj,aW,am,mR,aF,bf,kB,DL.frz,cM,tT,zI,zL,zC,zH,Q1,Q3,zA,zB,zE,zF,List.replicate,zD,zG,Nat.reduceAdd,Nat.reduceSub, ↓reduceIte,AG,z,z1,z2,go]
theorem wT {g:List Int}{d0:PyData}(gl:g.length<=100):∀(cs:List (List Int)) (kls:Cl) (v3:Option Sl) (n:Nat),(∀x∈cs,x.length=g.length)->kls.length<=n->(∀p∈kls,p.2.length<=n)->n+cs.length<=1000->
 ∃v3',nc (aG 2 d7 (aB (aF 3) (aB (aF 1) aK))) 3 2 (cs.map aJ) [some (.fz d0),some (.fz (aJ g)),none,v3] kls=some (.nx [some (.fz d0),some (.fz (aJ g)),some (.od (iq (dH g kls cs))),v3'])
 |[],kls,v3,n,_,_,_,_=>⟨v3,rfl⟩
 |x::cs,kls,v3,n,hx,h1,h2,h3=>by
  have lx:=hx x j5;have q1:=pZ (a:=x) (b:=g) lx (by rw [lx];exact gl)
  have hz:(decide (kls.length < fh)&&kls.all λp=>decide (p.2.length < fh))=true:=by
   rw [Q5,Q6];rw [zC]at h3;refine⟨decide_eq_true (j6 (show kls.length < 1000 by omega) (by decide)),λp hp=>?_⟩
   have:=h2 p hp;exact decide_eq_true (j6 (show p.2.length < 1000 by omega) (by decide))
  obtain⟨v3',go⟩:=wT (d0:=d0) gl cs (cF kls (GC.iG x g) (aJ x)) (some (.fz (aJ x))) (n+1) (λy hy=>hx y (j4 _ hy)) (by have:=qj (GC.iG x g) (aJ x) kls;omega) (nu h2) (by rw [zC]at h3;omega)
  refine⟨v3',?_⟩;rw [zI,nc];simp only [aF,aG,aK,aB,zC,zH,zA,zB,zE,zF,zD,Nat.reduceAdd, ↓reduceIte,q1,za,hz];exact go
theorem Df {cs:List (List Int)}{g:List Int}(hx:∀x∈cs,x.length=g.length)(gl:g.length<=100)(cl:cs.length<=1000):cT [.list (cs.map aJ),aJ g]=some (uB cs g):=by
 obtain⟨v3,go⟩:=wT (d0:=.list (cs.map aJ)) gl cs [] none 0 hx (Q2 _) (λp hp=>nomatch hp) (by omega)
 have z:gO [some (.fz (.list (cs.map aJ))),some (.fz (aJ g)),none,none]=true:=rfl;have z1:decide (3 < 4)=true:=rfl;simp only [cT,mU,jB,jA,iw,on,bV,cj,aW,am,mR,aF,bf,kB,DL.frz,cM,tT,zI,zL,zC,zH,Q1,Q3,zA,zB,zE,zF,List.replicate,zD,zG,Nat.reduceAdd,Nat.reduceSub, ↓reduceIte,AG,z,z1,go,uB]
theorem BK {cs fit:Cs}{g:List Int}(he:gf cs)(s:fit.Sublist cs)(h:g∈cs):(∀x∈fit,x.length=g.length)/\g.length<=100:=by
 obtain⟨n,hn,q⟩:=he;rw [q g h];exact⟨λx hx=>q x (s.mem hx),hn⟩
theorem Mb {cs:Cs}(hc:cs.length<=16)(he:gf cs):∀fit g (m:Nat),fit.Sublist cs->g∈cs->(aG 2 cT (aB (aF 1) (aB (aF 2) aK))) (δ8 fit g m none none none none)=some (uB fit g):=λfit g m s h=>by
 obtain⟨h1,h2⟩:=BK he s h;exact Df h1 h2 (by have:=s.length_le;omega)
theorem BL {ds:List PyData}{d:PyData}(e:cJ ds=some d):∃g a f u,ds=[g,a]/\(aG 1 bE (aB (aG 2 bj (aB (aF 0) (aB (aF 1) aK))) aK)) [some (.fz g),some (.fz a),none,none,none]=some f/\(aG 1 eO (aB (aF 0) aK)) (D5 g a f none)=some u/\∃c,(aG 1 d8 (aB (aF 0) aK)) (D5 g a f none)=some c/\lR c f=some d:=by
 unfold cJ at e;split at e
 · rename_i g a;obtain⟨f,e1,e⟩:=bind_some e;obtain⟨u,e2,e⟩:=bind_some e;obtain⟨c,e3,e⟩:=bind_some e;exact⟨g,a,f,u,rfl,e1,e2,c,e3,e⟩
 · cases e
abbrev JG(K:Fg)(P:Program)(w:World)(n:Nat):Sp:=MQ K P w ah n
theorem Gb(gm:PyData):∀(fit:Cs) (m:Nat),(mQ (dB (d2 sB (cI jG (aB (aF 1) aK)) (dC (.int 2)))) (dB (d2 gj (aF 2) (dC (.int 0))))) (D9 gm fit m none none none none)=some (decide (fit.length < 2)||decide (m=0)):=λfit m=>by
 have e0:gj (.int (m:Int)) (.int 0)=some (.bool (decide (m=0))):=by
  rw [dF];congr 2
  exact decide_eq_decide.mpr (by omega)
 have e1:decide (((fit.map aJ).length:Int) < 2)=decide (fit.length < 2):=by
  rw [zJ];exact decide_eq_decide.mpr (by omega)
 by_cases h:fit.length < 2
 · simp only [D9,av,aF,dC,d2,cI,aK,aB,dB,mQ,jG,vp,tL,zA,zB,zD,zG, ↓reduceIte,Bool.true_or,e0,e1,decide_eq_true h]
 · simp only [D9,av,aF,dC,d2,cI,aK,aB,dB,mQ,jG,vp,tL,zA,zB,zD,zG, ↓reduceIte,Bool.false_or,zN,e0,e1,decide_eq_false h]
theorem Gc(gm:PyData):∀(fit:Cs) (m:Nat),(d2 sB (cI jG (aB (aF 1) aK)) (dC (.int 2))) (D9 gm fit m none none none none)=some (.bool (decide (fit.length < 2))):=λfit m=>by
 have e1:decide (((fit.map aJ).length:Int) < 2)=decide (fit.length < 2):=by
  rw [zJ];exact decide_eq_decide.mpr (by omega)
 simp only [D9,av,aF,dC,d2,cI,aK,aB,jG,vp,tL,zA,zB,zD,zG,e1]
theorem LJ(gm:PyData):∀(fit:Cs) (m:Nat),fit.length<=16->(eh (aB (cI yL (aB (aF 1) aK)) (aB (aF 2) aK))) (D9 gm fit m none none none none)=some (.tuple [.tuple (fit.map aJ),.int (m:Int)]):=λfit m _=>rfl
theorem LK {cs:Cs}{gm:PyData}(ok:CanOkF ah cs gm):∀(fit:Cs) (m:Nat),(bf (aG 1 ah (aB (aF 0) aK))) (D9 gm fit m none none none none)=some (cs.map aJ):=λfit m=>by
 have:=ok.codes;simp only [D9,aF,aG,aK,aB,bf,kB,zC,zH,zA,zD,Nat.reduceAdd, ↓reduceIte,this,av]
theorem LL {cs:Cs}{gm:PyData}(ok:CanOkF ah cs gm):∀(fit:Cs) (g:List Int) (m:Nat) w6 w7 w8,fit.Sublist cs->g∈cs->(aG 2 dU (aB (aF 1) (aB (aF 5) aK))) (D9 gm fit m (some (.fz (aJ g))) w6 w7 w8)=some (uB fit g):=λfit g m w6 w7 w8 s h=>by
 obtain⟨h1,h2⟩:=BK ok.eq s h;exact zc h1 h2 (by have:=s.length_le;have:=ok.few;omega)
theorem LM {cs:Cs}{gm:PyData}(ok:CanOkF ah cs gm):∀(fit:Cs) (g:List Int) (m:Nat) w5 w7 w8,fit.Sublist cs->g∈cs->(d2 sB (GQ (aF 6)) (dC (.int 2))) (D9 gm fit m w5 (some (.fz (uB fit g))) w7 w8)=some (.bool (decide ((cB fit g).length < 2))):=λfit g m w5 w7 w8 s h=>by
 have e:GP (uB fit g)=some (.int ((cB fit g).length:Nat)):=by
  show (iL (iq (dH g [] fit))).map _=_;rw [jk];rfl
 have e1:decide (((cB fit g).length:Int) < 2)=decide ((cB fit g).length < 2):=decide_eq_decide.mpr (by omega)
 simp only [D9,GQ,aF,dC,d2,tL,zA,zB,zD,e,e1]
theorem LN {cs:Cs}{gm:PyData}(ok:CanOkF ah cs gm):∀(fit:Cs) (g:List Int) (m:Nat) w5 w7 w8,fit.Sublist cs->g∈cs->(GD (aF 6)) (D9 gm fit m w5 (some (.fz (uB fit g))) w7 w8)=some ((cB fit g).map aJ):=λfit g m w5 w7 w8 s h=>by
 show ((iL (iq (dH g [] fit))).map λks=>ks.map aJ)=_;rw [jk];rfl
theorem LO {cs:Cs}{gm:PyData}(ok:CanOkF ah cs gm):∀(fit:Cs) (g:List Int) (m:Nat) w5 w7 k,fit.Sublist cs->g∈cs->k∈cB fit g->(d2 m8 (aF 6) (aF 8)) (D9 gm fit m w5 (some (.fz (uB fit g))) w7 (some (.fz (aJ k))))=some (av (bD fit g k)):=λfit g m w5 w7 k _ _ h=>Ax h
theorem LP(gm:PyData):∀(fit:Cs) (m:Nat) w5 w6 w7 w8,(d2 uv (aF 2) (dC (.int 1))) (D9 gm fit (m+1) w5 w6 w7 w8)=some (.int (m:Int)):=λfit m w5 w6 w7 w8=>by
 show some (PyData.int (((m+1:Nat):Int) - 1))=_;congr 2
 omega
theorem LQ(gm:PyData):∀(fit:Cs) (m:Nat) w5 w6 w8 b,(dS (fY (aF 7))) (D9 gm fit m w5 w6 (some (.fz (.bool b))) w8)=some (!b):=λfit m w5 w6 w8 b=>rfl
theorem Gd(g:List Int)(cs:List (List Int))(neg:Bool):MB neg (aJ g) (.list (cs.map aJ))=some (.bool (if neg=true then !decide (g∈cs)else decide (g∈cs))):=by
 have o2:(ul (aJ g)&&(cs.map aJ).all ul)=true:=by
  rw [Q5,Q6];refine⟨(io _).ok,λd hd=>?_⟩;obtain⟨a,_,rfl⟩:=Qd.mp hd;exact(io _).ok
 have an:((cs.map aJ).any λe=>PyData.eqv e (aJ g))=decide (g∈cs):=by
  rw [Bool.eq_iff_iff,Gs,decide_eq_true_eq]
  constructor
  · rintro⟨d,hd,e⟩;obtain⟨a,ha,rfl⟩:=Qd.mp hd;rw [jg]at e;rw [<-of_decide_eq_true e];exact ha
  · intro h;exact⟨_,zP h,by rw [jg];exact decide_eq_true rfl⟩
 simp only [MB,kB,zD,o2,an, ↓reduceIte]
theorem JH {d:PyData}(h:ul d=true):d.canLay0=true:=by
 unfold ul at h;rw [Q5]at h;exact h.1
theorem Ge {d:PyData}(h:ul d=true):tI d d=some (.bool false):=by
 rw [Ac h h,SeqAt.eqv_refl _ (JH h)];rfl
theorem BM {ns:List Int}:∀j,j < ns.length->ns.getD (qE (λi j=>Fn ((ns.map PyData.int).getD i .none) ((ns.map PyData.int).getD j .none)) j) 0=AF ns j/\qE (λi j=>Fn ((ns.map PyData.int).getD i .none) ((ns.map PyData.int).getD j .none)) j<=j
 |0,_=>⟨rfl,Q2 _⟩
 |j+1,h=>by
  obtain⟨q1,q2⟩:=BM (ns:=ns) j (by omega)
  have gx:∀i,i < ns.length->(ns.map PyData.int).getD i .none=.int (ns.getD i 0):=λi hi=>by
   rw [qF,zK,iF hi,qF,iF hi];rfl
  have hI:qE (λi j=>Fn ((ns.map PyData.int).getD i .none) ((ns.map PyData.int).getD j .none)) (j+1)=if Fn ((ns.map PyData.int).getD (j+1) .none) ((ns.map PyData.int).getD (qE (λi j=>Fn ((ns.map PyData.int).getD i .none) ((ns.map PyData.int).getD j .none)) j) .none)=true then j+1 else qE (λi j=>Fn ((ns.map PyData.int).getD i .none) ((ns.map PyData.int).getD j .none)) j:=rfl;have hM:AF ns (j+1)=if decide (ns.getD (j+1) 0 > AF ns j)=true then ns.getD (j+1) 0 else AF ns j:=rfl;rw [hI,hM,gx (j+1) h,gx _ (by omega),q1]
  by_cases c:decide (ns.getD (j+1) 0 > AF ns j)=true
  · have c':Fn (.int (ns.getD (j+1) 0)) (.int (AF ns j))=true:=c;rw [if_pos c',if_pos c];exact⟨rfl,Q2 _⟩
  · have c':¬Fn (.int (ns.getD (j+1) 0)) (.int (AF ns j))=true:=c;rw [if_neg c',if_neg c];exact⟨q1,by omega⟩
theorem LR {ns:List Int}(h:ns≠[]):Fq [.list (ns.map PyData.int)]=some (.int (AF ns (ns.length - 1))):=by
 have pos:0 < ns.length:=LY.mpr h;obtain⟨q1,q2⟩:=BM (ns:=ns) (ns.length - 1) (by omega)
 have c:(!(ns.map PyData.int).isEmpty&&(hZ (ns.map PyData.int)).isSome)=true:=by
  rw [bZ];cases ns with
  |nil=>exact absurd rfl h
  |cons _ _=>rfl
 show (if(!(ns.map PyData.int).isEmpty&&(hZ (ns.map PyData.int)).isSome)=true then(ns.map PyData.int)[_]? else none)=_;rw [if_pos c,zJ,zK,iF (by omega)]
 rw [qF,iF (by omega)]at q1
 rw [<-q1];rfl
theorem Jm {ns:List Int}:∀t i,i<=t->ns.getD i 0<=AF ns t
 |0,i,h=>by
  have:i=0:=by omega
  subst this;exact Int.le_refl _
 |t+1,i,h=>by
  show _<=if decide (ns.getD (t+1) 0 > AF ns t)=true then ns.getD (t+1) 0 else AF ns t
  rcases Nat.lt_or_ge t i with z|z
  · have:i=t+1:=by omega
    subst this;split
    · exact Int.le_refl _
    · rename_i c;have:¬ns.getD (t+1) 0 > AF ns t:=by simpa using c
      omega
  · have:=Jm (ns:=ns) t i z;split
    · rename_i c;have:=of_decide_eq_true c;omega
    · exact this
theorem LS {ns:List Int}(h:ns≠[]){m:Int}(h1:m∈ns)(h2:∀x∈ns,x<=m):Fq [.list (ns.map PyData.int)]=some (.int m):=by
 rw [LR h];have pos:0 < ns.length:=LY.mpr h;obtain⟨q1,q2⟩:=BM (ns:=ns) (ns.length - 1) (by omega)
 have a:AF ns (ns.length - 1)<=m:=by
  rw [<-q1,qF,iF (by omega)]
  exact h2 _ (C6 _)
 obtain⟨i,hi,e⟩:=List.getElem_of_mem h1;have b:=Jm (ns:=ns) (ns.length - 1) i (by omega)
 rw [qF,iF hi]at b;have b:ns[i]<=AF ns (ns.length - 1):=b;congr 2
 omega
theorem JI {ns:List Int}(h:ns≠[]):∃v∈ns,IU [.list (ns.map PyData.int)]=some (.int v):=by
 have pos:0 < ns.length:=LY.mpr h;have c:(!(ns.map PyData.int).isEmpty&&(ns.map PyData.int).all ul&&(ns.map PyData.int).all (λa=>(ns.map PyData.int).all λb=>(L2.sB a b).isSome))=true:=by
  rw [Q5,Q5];refine⟨⟨?_,?_⟩,?_⟩
  · cases ns with
    |nil=>exact absurd rfl h
    |cons _ _=>rfl
  · rw [Q6];intro d hd;obtain⟨x,_,rfl⟩:=Qd.mp hd;exact(lz x).ok
  · rw [Q6];intro d hd;rw [Q6];intro e he;obtain⟨x,_,rfl⟩:=Qd.mp hd;obtain⟨y,_,rfl⟩:=Qd.mp he;rfl
 have ix:=Ff (λi j=>(L2.sB ((ns.map PyData.int).getD i .none) ((ns.map PyData.int).getD j .none)).getD false) ((ns.map PyData.int).length - 1);rw [zJ]at ix;refine⟨ns[qE (λi j=>(L2.sB ((ns.map PyData.int).getD i .none) ((ns.map PyData.int).getD j .none)).getD false) ((ns.map PyData.int).length - 1)]'(by rw [zJ];omega),C6 _,?_⟩
 show (if _=true then(ns.map PyData.int)[_]? else none)=_;rw [if_pos c,zK,iF (by rw [zJ];omega)]
 rfl
theorem zd {n:Nat}{gm:PyData}{x:List Int}:jS (n+1) [gm,av [x],aJ x]=some (.int 0):=by
 have e1:gj (.int ((1:Nat):Int)) (.int 1)=some (.bool true):=by rw [dF];rfl
 have e2:gj (aJ x) (aJ x)=some (.bool true):=by rw [yM,decide_eq_true rfl]
 have e3:cQ (.list [aJ x]) (.int 0)=some (aJ x):=Ba (j:=0) rfl;simp only [jS,mt,iT,av,bV,cj,aW,eR,am,aF,dC,d2,cI,aK,aB,dB,Bi,aj,cM,jG,vp,zI,zL,zC,zH,Q1,Q3,zA,zB,List.replicate,zD,zG,Nat.reduceAdd,Nat.reduceSub, ↓reduceIte,e1,e2,e3]
noncomputable def rk(pw:List Int->PyData)(k:List Int):PyData:=.tuple [aJ k,pw k]
theorem Dg {n:Nat}{gm:PyData}{cs fit:Cs}{g:List Int}{pw:List Int->PyData}{dk:List Int->Nat}{M:Nat}(ok:CanOkF ah cs gm)(sub:fit.Sublist cs)(ne:fit≠[])(h1:fit.length≠1)(hg:g∈cs)
 (hd:∀k∈dw fit g,jS n [gm,av (bD fit g k),pw k]=some (.int (dk k:Int))) (m1:∃k∈dw fit g,dk k=M) (m2:∀k∈dw fit g,dk k<=M):
 jS (n+1) [gm,av fit,.tuple [aJ g,.tuple ((dw fit g).map (rk pw))]]=some (.int ((M+1:Nat):Int)):=by
 obtain⟨q1,q2⟩:=BK ok.eq sub hg;have fl:fit.length<=16:=Qe sub.length_le ok.few;have pp:dU [.list (fit.map aJ),aJ g]=some (uB fit g):=zc q1 q2 (by omega)
 have so:tR [uB fit g]=some (.list ((dw fit g).map aJ)):=CU ok.few sub;have gp:∀k∈dw fit g,m8 (uB fit g) (aJ k)=some (av (bD fit g k)):=λk hk=>Ax (jj.mp hk);have al:(dw fit g).length<=16:=by
  rw [oq];have:=qa fit g;omega
 have pos:dw fit g≠[]:=λz=>by
  have:=qc g ne;rw [<-oq,z]at this;cases this
 have lc:ah [gm]=some (.list (cs.map aJ)):=ok.codes;have inn:MB true (aJ g) (.list (cs.map aJ))=some (.bool false):=by rw [Gd,if_pos rfl,decide_eq_true hg];rfl
 have e1:gj (.int ((fit.map aJ).length:Nat)) (.int 1)=some (.bool false):=by rw [yt,decide_eq_false h1]
 have e2:tI (.int ((2:Nat):Int)) (.int 2)=some (.bool false):=by rw [xB];rfl
 generalize hK:dw fit g=ks at*;have i0:cQ (.tuple [aJ g,.tuple (ks.map (rk pw))]) (.int 0)=some (aJ g):=rfl;have i1:cQ (.tuple [aJ g,.tuple (ks.map (rk pw))]) (.int 1)=some (.tuple (ks.map (rk pw))):=rfl;have rl:(ks.map (rk pw)).length<=fh:=by rw [zJ];exact fR (by omega)
 have ns:tI (.list (ks.map aJ)) (.list (ks.map aJ))=some (.bool false):=Ge (xa ks).ok;have c0:∀v4,(bR 1 [] (bf (d2 cQ (aF 2) (dC (.int 1)))) (gN 0) ik (d2 cQ (aF 0) (dC (.int 0)))) [some (.fz gm),some (.fz (.list (fit.map aJ))),some (.fz (.tuple [aJ g,.tuple (ks.map (rk pw))])),some (.fz (uB fit g)),v4]=some (ks.map aJ):=λv4=>by
  rw [im (ds:=ks.map (rk pw)) (λd=>(cQ d (.int 0)).getD .none) (by simp only [aF,dC,d2,bf,kB,zA,zB,zD,i1]) rl (λd hd=>?_)]
  · rw [zO];rfl
  · obtain⟨k,hk,rfl⟩:=Qd.mp hd;rfl
 have c1:∀v4,(bR 1 [("_law_game",0),("_law_parts_here",3)] (bf (d2 cQ (aF 2) (dC (.int 1)))) (gN 0) ik (aG 3 (jS n) (aB (aF 1) (aB (d2 m8 (aF 2) (d2 cQ (aF 0) (dC (.int 0)))) (aB (d2 cQ (aF 0) (dC (.int 1))) aK))))) [some (.fz gm),some (.fz (.list (fit.map aJ))),some (.fz (.tuple [aJ g,.tuple (ks.map (rk pw))])),some (.fz (uB fit g)),v4]=some ((ks.map λk=>(dk k:Int)).map PyData.int):=λv4=>by
  rw [im (ds:=ks.map (rk pw)) (λd=>(jS n [gm,(m8 (uB fit g) ((cQ d (.int 0)).getD .none)).getD .none,(cQ d (.int 1)).getD .none]).getD .none) (by simp only [aF,dC,d2,bf,kB,zA,zB,zD,i1]) rl (λd hd'=>?_)]
  · rw [zO,zO];congr 1
    apply List.map_congr_left
    intro k hk;show (jS n [gm,(m8 (uB fit g) (aJ k)).getD .none,pw k]).getD .none=_;rw [gp k hk];show (jS n [gm,av (bD fit g k),pw k]).getD .none=_;rw [hd k hk];rfl
  · obtain⟨k,hk,rfl⟩:=Qd.mp hd';have g1:=gp k hk;have g2:=hd k hk;have r0:cQ (rk pw k) (.int 0)=some (aJ k):=rfl;have r1:cQ (rk pw k) (.int 1)=some (pw k):=rfl;simp only [aF,dC,d2,aG,aK,aB,gb,ik,gN,zI,zL,zC,zH,Q1,Q3,zA,zB,zE,List.replicate,zD,zG,Nat.reduceAdd, ↓reduceIte,r0,r1,g1,g2,Option.getD_some]
 have nne:ks.map (λk=>(dk k:Int))≠[]:=λz=>pos (List.map_eq_nil_iff.mp z);obtain⟨v,hv,mn⟩:=JI nne;obtain⟨kv,_,rfl⟩:=Qd.mp hv;obtain⟨k0,hk0,d0⟩:=m1;have mx:=LS nne (m:=(M:Int)) (Qd.mpr ⟨k0,hk0,by rw [d0]⟩) λx hx=>by
  obtain⟨k,hk,rfl⟩:=Qd.mp hx;have:=m2 k hk;omega
 have lt0:decide (((dk kv:Nat):Int) < 0)=false:=decide_eq_false (by omega)
 have fin:(1:Int)+(M:Int)=((M+1:Nat):Int):=by omega
 have pw2:uB fit g=.dict (iq (dH g [] fit)):=rfl;simp only [jS,mt,iT,pY,pX,pW,pV,pU,pT,av,bV,cj,aW,eR,bO,am,aF,dC,d2,cI,aG,aK,aB,bw,dB,fY,rV,dS,Bi,mQ,aj,cM,lL,xC,jG,Br,vp,tL,lM,FD,zI,zL,zC,zH,Q1,Q3,zA,zB,zE,zF,List.replicate,zD,zG,Nat.reduceAdd,Nat.reduceSub, ↓reduceIte,qG,zN,e1,e2,inn,lc,i0,i1,pp,so,ns,c0 none,c1 none,mn,mx,lt0,fin]
theorem JJ {gm:PyData}{cs:Cs}(ok:CanOkF ah cs gm):∀(m n:Nat) (fit:Cs),m < n->fit.Sublist cs->fit≠[]->okP cs m fit=true->jS n [gm,av fit,ag cs m fit]=some (.int (Ay cs m fit:Int)):=by
 intro m
 induction m with
 |zero=>
  intro n fit hn sub ne h
  by_cases h1:fit.length=1
  · match fit,h1,n,hn with
    |[x],_,n+1,_=>exact zd
  · rw [yu h1]at h;cases h
 |succ m ih=>
  intro n fit hn sub ne h
  by_cases h1:fit.length=1
  · rw [qZ cs h1,CV h1]
    match fit,h1,n,hn with
    |[x],_,n+1,_=>exact zd
  · cases hm:okP cs m fit with
    |true=>
     have e:ag cs (m+1) fit=ag cs m fit:=by
      rw [iu cs h1];unfold gP;unfold okP at hm;rw [if_neg (by rw [Bool.not_eq_true',]at hm;rw [hm];exact Q7)]
     unfold Ay;rw [e,hm,if_pos rfl];exact ih n fit (by omega) sub ne hm
    |false=>
     have hN:mD (ag cs m fit)=true:=by
      unfold okP at hm;simpa using hm
     have e:ag cs (m+1) fit=d5 (ag cs m) fit cs:=by
      rw [iu cs h1];unfold gP;rw [hN,if_pos rfl]
     have nn:mD (d5 (ag cs m) fit cs)=false:=by
      rw [<-e];unfold okP at h;simpa using h
     obtain⟨g,hg,f1,f2⟩:=wI _ _ _ nn;have all:∀k∈dw fit g,okP cs m (bD fit g k)=true:=by
      rw [uC,Bool.not_eq_false']at f2;exact λk hk=>Q6.mp f2 k hk
     unfold Ay;rw [hm,if_neg Q7,e,f1]
     match n,hn with
     |n+1,hn=>
      have st:=Dg (n:=n) (pw:=λk=>ag cs m (bD fit g k)) (dk:=λk=>Ay cs m (bD fit g k)) (M:=m) ok sub ne h1 hg (λk hk=>ih n _ (by omega) ((ol fit g k).trans sub) (sL fit g k hk) (all k hk)) (Iz ne h1 hm hg all) (λk _=>Az cs m _)
      have e2:cz (ag cs m) fit g=.tuple [aJ g,.tuple ((dw fit g).map (rk λk=>ag cs m (bD fit g k)))]:=by
       unfold cz;rw [if_pos (show ((dw fit g).all λk=> !mD (ag cs m (bD fit g k)))=true from Q6.mpr λk hk=>all k hk)]
       rfl
      rw [e2];exact st
noncomputable def nw:List (Int×Int):=[(2,3),(3,2),(2,4),(4,2),(1,5),(2,2),(1,3)]
theorem wU {p c:Int}(h:(p,c)∈nw):(p=2/\c=3)\/(p=3/\c=2)\/(p=2/\c=4)\/(p=4/\c=2)\/(p=1/\c=5)\/(p=2/\c=2)\/(p=1/\c=3):=
 by simpa [nw]using h
theorem mG {p c:Int}(h:(p,c)∈nw):(p,c)∈ef:=by
 rcases wU h with ⟨rfl,rfl⟩|⟨rfl,rfl⟩|⟨rfl,rfl⟩|⟨rfl,rfl⟩|⟨rfl,rfl⟩|⟨rfl,rfl⟩|⟨rfl,rfl⟩<;>decide
theorem Mc {m:Int}(h:0<=m/\m < 8):m=0\/m=1\/m=2\/m=3\/m=4\/m=5\/m=6\/m=7:=by omega
theorem Gf(ns:List Int):∃p c,eN [tD ns,.int 0]=some (aJ [p,c])/\(p,c)∈nw:=by
 have k0:bK [tD ns,.int 0]=some (.int (cS ns 0)):=sN ns 0;have k3:=BI (cS ns 0) (p:=9973) (m:=8) (by decide) (by decide)
 have l8:(8:Nat)<=fh:=fR (by decide)
 have e:eN [tD ns,.int 0]=cQ (.list [.tuple [.int 2,.int 3],.tuple [.int 3,.int 2],.tuple [.int 2,.int 4],.tuple [.int 4,.int 2],.tuple [.int 1,.int 5],.tuple [.int 2,.int 2],.tuple [.int 1,.int 3],.tuple [.int 2,.int 3]]) (.int (jI (cS ns 0) 9973 8)):=by
  simp only [eN,uG,j1,md,rC,bV,cj,aW,bO,am,aF,dC,d2,aG,aK,aB,bd,bw,zI,zL,zC,zH,Q1,Q3,zA,zB,zE,zF,List.replicate,zD,zG,Nat.reduceAdd,Nat.reduceSub, ↓reduceIte,k0,k3,l8];generalize cQ _ _=z;cases z<;>rfl
 rw [e]
 rcases Mc (uW (cS ns 0) (p:=9973) (show (0:Int) < 8 by decide))with h|h|h|h|h|h|h|h<;>rw [h]
 · exact⟨2,3,rfl,by decide⟩
 · exact⟨3,2,rfl,by decide⟩
 · exact⟨2,4,rfl,by decide⟩
 · exact⟨4,2,rfl,by decide⟩
 · exact⟨1,5,rfl,by decide⟩
 · exact⟨2,2,rfl,by decide⟩
 · exact⟨1,3,rfl,by decide⟩
 · exact⟨2,3,rfl,by decide⟩
theorem Dh(cs:List (List Int))(h:cs≠[]):bE [dR cs]=some (dR cs):=by
 have e:(cs.map aJ).isEmpty=false:=by
  cases cs with
  |nil=>exact absurd rfl h
  |cons _ _=>rfl
 simp only [bE,jC,eD,gQ,bV,cj,aW,eR,am,aF,fY,rV,dS,aj,dM,cM,zI,zL,zC,zH,Q4,zA,List.replicate,zD,zG,Nat.reduceAdd,Nat.reduceSub, ↓reduceIte,qG,Gu,zN,dR,e]
theorem ze:bE [.list []]=none:=by
 have e:([]:List PyData).isEmpty=true:=rfl;simp only [bE,jC,eD,gQ,bV,cj,aW,eR,am,aF,fY,rV,dS,aj,dM,zI,zL,zC,zH,Q4,zA,List.replicate,zD,Ds,zG,Nat.reduceAdd,Nat.reduceSub, ↓reduceIte,qG,Gu,List.isEmpty_nil]
noncomputable def Jn(cs:Cs):Bool:=decide (cs.length<=16)&&decide cs.Nodup&&cs.all λx=>cs.all λy=> !decide (GC.iG x y=GC.iG y y)||decide (x=y)
theorem Md {p c:Int}(h:(p,c)∈nw):eO [aJ [p,c]]=some (aJ [p,c])/\Jn (codes p c)=true:=by
 rcases wU h with ⟨rfl,rfl⟩|⟨rfl,rfl⟩|⟨rfl,rfl⟩|⟨rfl,rfl⟩|⟨rfl,rfl⟩|⟨rfl,rfl⟩|⟨rfl,rfl⟩<;>exact⟨rfl,by decide+kernel⟩
theorem Jo {p c:Int}(h:(p,c)∈nw):(codes p c).length<=16/\(codes p c).Nodup/\(∀x∈codes p c,∀y∈codes p c,GC.iG x y=GC.iG y y->x=y)/\gf (codes p c):=by
 have k:=(Md h).2;unfold Jn at k;rw [Q5,Q5]at k;refine⟨of_decide_eq_true k.1.1,of_decide_eq_true k.1.2,λx hx y hy e=>?_,p.toNat,?_,λx hx=>?_⟩
 · have:=Q6.mp (Q6.mp k.2 x hx) y hy;rw [decide_eq_true e]at this;exact of_decide_eq_true this
 · have:=gU (mG h);omega
 · have:=(nt (mG h) hx).len;omega
theorem Gg {p c:Int}(h7:(p,c)∈nw){as:List xl}(ao:∀a∈as,AskOk p c a)(al:as.length<=8)(hne:(codes p c).filter (gW as)≠[]):∃N,PlanOk (codes p c) ((codes p c).filter (gW as)) N/\cJ [aJ [p,c],.list (as.map cO)]=some (.tuple [.int (N:Int),ag (codes p c) N ((codes p c).filter (gW as))]):=by
 have hm:=mG h7;obtain⟨g1,g2,g3,g4⟩:=Jo h7;obtain⟨N,ok⟩:=JA g1 g2 g3 (fit:=(codes p c).filter (gW as)) List.filter_sublist hne;refine⟨N,ok,?_⟩;have q1:bj [aJ [p,c],.list (as.map cO)]=some (dR ((codes p c).filter (gW as))):=ph hm ao al;have q2:=Dh _ hne;have q3:=(Md h7).1;have q4:d8 [aJ [p,c]]=some (av (codes p c)):=pc hm;have q5:=D8 ok g4;have q6:lR (av (codes p c)) (dR ((codes p c).filter (gW as)))=_:=q5;simp only [cJ,D5,aF,aG,aK,aB,zC,zH,zA,zB,zD,Nat.reduceAdd, ↓reduceIte,q1,q2,q3,q4,q6]
theorem Gh {p c:Int}{as:List xl}{N:Nat}{d:PyData}(q:cJ [aJ [p,c],.list (as.map cO)]=some (.tuple [.int (N:Int),d])):bM [.int 0,aJ [p,c],.list (as.map cO)]=some (.int (N:Int))/\bM [.int 1,aJ [p,c],.list (as.map cO)]=some d:=by
 have i0:cQ (.tuple [.int (N:Int),d]) (.int 0)=some (.int (N:Int)):=rfl;have i1:cQ (.tuple [.int (N:Int),d]) (.int 1)=some d:=rfl;have f0:cG [aJ [p,c],.list (as.map cO)]=some (.int (N:Int)):=by simp only [cG,iK,eP,bV,cj,am,aF,dC,d2,aG,aK,aB,cM,zI,zL,zC,zH,Q4,zA,zB,List.replicate,zD,zG,Nat.reduceAdd,Nat.reduceSub, ↓reduceIte,q,i0]
 have f1:gw [aJ [p,c],.list (as.map cO)]=some d:=by simp only [gw,nl,jn,bV,cj,am,aF,dC,d2,aG,aK,aB,cM,zI,zL,zC,zH,Q4,zA,zB,List.replicate,zD,zG,Nat.reduceAdd,Nat.reduceSub, ↓reduceIte,q,i1]
 have e0:gj (.int 0) (.int 0)=some (.bool true):=rfl;have e1:gj (.int 1) (.int 0)=some (.bool false):=rfl;have n0:bp (cj 4 [.int 0,aJ [p,c],.list (as.map cO)])=some (.rt (.int (N:Int))):=by simp only [bp,cj,aW,eR,am,aF,dC,d2,aG,aK,aB,dB,aj,zI,zL,zC,zH,Q1,Q3,zA,zB,List.replicate,zD,zG,Nat.reduceAdd,Nat.reduceSub, ↓reduceIte,f0,e0]
 have n1:bp (cj 4 [.int 1,aJ [p,c],.list (as.map cO)])=some (.rt d):=by simp only [bp,cj,aW,eR,am,aF,dC,d2,aG,aK,aB,dB,aj,zI,zL,zC,zH,Q1,Q3,zA,zB,List.replicate,zD,zG,Nat.reduceAdd,Nat.reduceSub, ↓reduceIte,zN,f1,e1]
 unfold bM;rw [n0,n1];exact⟨rfl,rfl⟩
theorem BN {g a:PyData}(q:bj [g,a]=some (.list [])):∀i:Int,i=0\/i=1->bM [.int i,g,a]=some (.list [.bool true,.bool false,.bool true]):=by
 have fn:=ze;have sn:cJ [g,a]=none:=by simp only [cJ,aF,aG,aK,aB,zC,zH,zA,zB,zD,Ds,Nat.reduceAdd, ↓reduceIte,q,fn]
 have fx:bh [.list []]=true:=rfl;have sx:bU [g,a]=true:=by simp only [bU,kx,dN,cj,aF,aG,aK,aB,zI,zL,zC,zH,Q1,Q3,zA,zB,List.replicate,zD,Nat.reduceAdd,Nat.reduceSub, ↓reduceIte,AG,q,fx,decide_true]
 have f0:cG [g,a]=none:=by simp only [cG,iK,eP,bV,cj,am,aF,dC,d2,aG,aK,aB,zI,zL,zC,zH,Q4,zA,zB,List.replicate,zD,Ds,JO,Nat.reduceAdd,Nat.reduceSub, ↓reduceIte,sn]
 have f1:gw [g,a]=none:=by simp only [gw,nl,jn,bV,cj,am,aF,dC,d2,aG,aK,aB,zI,zL,zC,zH,Q4,zA,zB,List.replicate,zD,Ds,JO,Nat.reduceAdd,Nat.reduceSub, ↓reduceIte,sn]
 have x0:bT [g,a]=true:=by simp only [bT,kx,dN,cj,aF,aK,aB,zI,zL,zC,zH,Q4,zA,zB,List.replicate,zD,Nat.reduceAdd,Nat.reduceSub,AG,sx,decide_true]
 have x1:cR [g,a]=true:=by simp only [cR,kx,dN,cj,aF,aK,aB,zI,zL,zC,zH,Q4,zA,zB,List.replicate,zD,Nat.reduceAdd,Nat.reduceSub,AG,sx,decide_true]
 have e0:gj (.int 0) (.int 0)=some (.bool true):=rfl;have e1:gj (.int 1) (.int 0)=some (.bool false):=rfl;rintro i (rfl|rfl)
 · have n0:bp (cj 4 [.int 0,g,a])=none:=by simp only [bp,cj,aW,eR,am,aF,dC,d2,aG,aK,aB,dB,aj,zI,zL,zC,zH,Q1,Q3,zA,zB,List.replicate,zD,Ds,JO,Nat.reduceAdd,Nat.reduceSub, ↓reduceIte,f0,e0]
   have y:bP (cj 4 [.int 0,g,a])=true:=by simp only [bP,iR,rZ,rY,dN,cj,eR,aF,dC,d2,aK,aB,dB,aj,dM,zI,zL,zC,zH,Q1,Q3,zA,zB,List.replicate,zD,Nat.reduceAdd,Nat.reduceSub, ↓reduceIte,AG,Bool.or_false,x0,e0,decide_true]
   unfold bM;rw [n0,y];rfl
 · have n0:bp (cj 4 [.int 1,g,a])=none:=by simp only [bp,cj,aW,eR,am,aF,dC,d2,aG,aK,aB,dB,aj,zI,zL,zC,zH,Q1,Q3,zA,zB,List.replicate,zD,JO,Nat.reduceAdd,Nat.reduceSub, ↓reduceIte,zN,f1,e1]
   have y:bP (cj 4 [.int 1,g,a])=true:=by simp only [bP,iR,rZ,rY,dN,Ji,cj,eR,aF,dC,d2,aK,aB,dB,aj,dM,zI,zL,zC,zH,Q1,Q3,zA,zB,List.replicate,zD,Nat.reduceAdd,Nat.reduceSub, ↓reduceIte,AG,Bool.or_true,zN,x1,e1,decide_true]
   unfold bM;rw [n0,y];rfl
theorem JK:∀g∈[aJ [3,3],aJ [2,5],aJ [5,2],aJ [3,4]],eO [g]=none/\(∃l,bj [g,.list []]=some l/\bh [l]=false/\∃u,bE [l]=some u)/\cZ [g]=true:=by
 intro g hg;simp only [Q8,List.not_mem_nil,or_false]at hg
 rcases hg with rfl|rfl|rfl|rfl
 · exact⟨rfl,⟨_,rfl,rfl,_,rfl⟩,rfl⟩
 · exact⟨rfl,⟨_,rfl,rfl,_,rfl⟩,rfl⟩
 · exact⟨rfl,⟨_,rfl,rfl,_,rfl⟩,rfl⟩
 · exact⟨rfl,⟨_,rfl,rfl,_,rfl⟩,rfl⟩
theorem Gi {g:PyData}(h:g∈[aJ [3,3],aJ [2,5],aJ [5,2],aJ [3,4]]):∀i:Int,i=0\/i=1->bM [.int i,g,.list []]=some (.list [.bool false,.bool true,.bool true]):=by
 obtain⟨s1,⟨l,s2,this,u,s3⟩,s4⟩:=JK g h;have sn:cJ [g,.list []]=none:=by simp only [cJ,D5,aF,aG,aK,aB,zC,zH,zA,zB,zD,Ds,Nat.reduceAdd, ↓reduceIte,s1,s2,s3]
 have sx:bo [g,.list []]=true:=by simp only [bo,kx,rY,dN,cj,bO,aF,aG,aK,aB,zI,zL,zC,zH,Q1,Q3,zA,zB,zE,zF,List.replicate,zD,zG,Nat.reduceAdd,Nat.reduceSub, ↓reduceIte,AG,s2,s3,s4,decide_true]
 have cx:bU [g,.list []]=false:=by
  simp only [bU,kx,dN,cj,aF,aG,aK,aB,zI,zL,zC,zH,Q1,Q3,zA,zB,List.replicate,zD,Nat.reduceAdd,Nat.reduceSub, ↓reduceIte,Gv,s2,this,Gv]
 have f0:cG [g,.list []]=none:=by simp only [cG,iK,eP,bV,cj,am,aF,dC,d2,aG,aK,aB,zI,zL,zC,zH,Q4,zA,zB,List.replicate,zD,Ds,JO,Nat.reduceAdd,Nat.reduceSub, ↓reduceIte,sn]
 have f1:gw [g,.list []]=none:=by simp only [gw,nl,jn,bV,cj,am,aF,dC,d2,aG,aK,aB,zI,zL,zC,zH,Q4,zA,zB,List.replicate,zD,Ds,JO,Nat.reduceAdd,Nat.reduceSub, ↓reduceIte,sn]
 have x0:bz [g,.list []]=true:=by simp only [bz,kx,dN,cj,aF,aK,aB,zI,zL,zC,zH,Q4,zA,zB,List.replicate,zD,Nat.reduceAdd,Nat.reduceSub,AG,sx,decide_true]
 have x1:dO [g,.list []]=true:=by simp only [dO,kx,dN,cj,aF,aK,aB,zI,zL,zC,zH,Q4,zA,zB,List.replicate,zD,Nat.reduceAdd,Nat.reduceSub,AG,sx,decide_true]
 have y0:bT [g,.list []]=false:=by simp only [bT,kx,dN,cj,aF,aK,aB,zI,zL,zC,zH,Q4,zA,zB,List.replicate,zD,Nat.reduceAdd,Nat.reduceSub,Gv,cx,Gv]
 have y1:cR [g,.list []]=false:=by simp only [cR,kx,dN,cj,aF,aK,aB,zI,zL,zC,zH,Q4,zA,zB,List.replicate,zD,Nat.reduceAdd,Nat.reduceSub,Gv,cx,Gv]
 have e0:gj (.int 0) (.int 0)=some (.bool true):=rfl;have e1:gj (.int 1) (.int 0)=some (.bool false):=rfl;rintro i (rfl|rfl)
 · have n0:bp (cj 4 [.int 0,g,.list []])=none:=by simp only [bp,cj,aW,eR,am,aF,dC,d2,aG,aK,aB,dB,aj,zI,zL,zC,zH,Q1,Q3,zA,zB,List.replicate,zD,Ds,JO,Nat.reduceAdd,Nat.reduceSub, ↓reduceIte,f0,e0]
   have y:bP (cj 4 [.int 0,g,.list []])=false:=by simp only [bP,iR,rZ,rY,dN,cj,eR,aF,dC,d2,aK,aB,dB,aj,dM,zI,zL,zC,zH,Q1,Q3,zA,zB,List.replicate,zD,Nat.reduceAdd,Nat.reduceSub, ↓reduceIte,Gv,Bool.or_false,y0,e0]
   have z:cf (cj 4 [.int 0,g,.list []])=true:=by simp only [cf,iR,rZ,rY,dN,cj,eR,aF,dC,d2,aK,aB,dB,aj,dM,zI,zL,zC,zH,Q1,Q3,zA,zB,List.replicate,zD,Nat.reduceAdd,Nat.reduceSub, ↓reduceIte,AG,Bool.or_false,x0,e0,decide_true]
   unfold bM;rw [n0,y,z];rfl
 · have n0:bp (cj 4 [.int 1,g,.list []])=none:=by simp only [bp,cj,aW,eR,am,aF,dC,d2,aG,aK,aB,dB,aj,zI,zL,zC,zH,Q1,Q3,zA,zB,List.replicate,zD,JO,Nat.reduceAdd,Nat.reduceSub, ↓reduceIte,zN,f1,e1]
   have y:bP (cj 4 [.int 1,g,.list []])=false:=by simp only [bP,iR,rZ,rY,dN,Ji,cj,eR,aF,dC,d2,aK,aB,dB,aj,dM,zI,zL,zC,zH,Q1,Q3,zA,zB,List.replicate,zD,Nat.reduceAdd,Nat.reduceSub, ↓reduceIte,Gv,Bool.or_false,zN,y1,e1,Gv]
   have z:cf (cj 4 [.int 1,g,.list []])=true:=by simp only [cf,iR,rZ,rY,dN,Ji,cj,eR,aF,dC,d2,aK,aB,dB,aj,dM,zI,zL,zC,zH,Q1,Q3,zA,zB,List.replicate,zD,Nat.reduceAdd,Nat.reduceSub, ↓reduceIte,AG,Bool.or_true,zN,x1,e1,decide_true]
   unfold bM;rw [n0,y,z];rfl
theorem NU(l:List PyData):yK l none (some 3)=l.take 3:=by
 unfold yK;show (l.drop 0).take (HT.fK l.length l.length (some 3) - 0)=_;rw [List.drop_zero,Nat.sub_zero];have:HT.fK l.length l.length (some 3)=min 3 l.length:=by
  simp [HT.fK]
 rw [this]
 rcases Nat.le_total 3 l.length with z|z
 · rw [Nat.min_eq_left z]
 · rw [Nat.min_eq_right z,C5,List.take_of_length_le z]
theorem Me:nR 2=true:=by decide
theorem law_true(ns:List Int)(hl:ns.length<=63):xZ [tD ns]=some (.bool true):=by
 obtain⟨p,c,hg,h7⟩:=Gf ns;have hm:=mG h7;obtain⟨g1,g2,g3,g4⟩:=Jo h7;obtain⟨as0,ha,al0,ao0⟩:=JE hm ns 1;have ha':fP [tD ns,.int 1,aJ [p,c]]=some (as0.map cO):=ha;have l0:(as0.map cO).length<=fh:=by rw [zJ];exact fR (by omega)
 have cu:yK (as0.map cO) none (some 3)=(as0.take 3).map cO:=by rw [NU,List.map_take]
 have ao:∀a∈as0.take 3,AskOk p c a:=λa h=>ao0 a (List.mem_of_mem_take h);have al:(as0.take 3).length<=8:=by rw [Dt];omega
 generalize as0.take 3=as at cu ao al;have q1:fQ [aJ [p,c],.list (as.map cO)]=some (.list (((codes p c).filter (gW as)).map aJ)):=JF hm ao (by omega)
 have k1:bK [tD ns,.int 1]=some (.int (cS ns 1)):=sN ns 1;have k2:bK [tD ns,.int 2]=some (.int (cS ns 2)):=sN ns 2;have z0:(0:Nat)<=fh:=zU _;have z2:(2:Nat)<=fh:=fR (by decide)
 have z3:(3:Nat)<=fh:=fR (by decide)
 have z4:(4:Nat)<=fh:=fR (by decide)
 have r2:bQ 0 (Int.toNat 2)=[.int 0,.int 1]:=rfl;have ee:gj (.list []) (.list [])=some (.bool true):=rfl
 by_cases hz:(codes p c).filter (gW as)=[]
 · rw [hz]at q1;have wf:bj [aJ [p,c],.list (as.map cO)]=some (.list []):=by
    have:=ph hm ao al;rw [hz]at this;exact this
   have tc:=BN wf;have nn:tI (.list [.bool true,.bool false,.bool true]) (.list [.bool true,.bool false,.bool true])=some (.bool false):=rfl;have c0:∀v4 v5,(bR 1 [("_law_game",1),("_law_asks_here",2)] (cX (aB (dC (.int 2)) aK)) (gN 0) (dB (d2 tI (aG 3 bM (aB (aF 0) (aB (aF 1) (aB (aF 2) aK)))) (bw (bd (aB (dC (.bool true)) (aB (dC (.bool false)) (aB (dC (.bool true)) aK))))))) (aF 0)) [some (.fz (tD ns)),some (.fz (aJ [p,c])),some (.fz (.list (as.map cO))),some (.fz (.list [])),v4,v5]=some []:=λv4 v5=>by
    rw [fE (ds:=[.int 0,.int 1]) (λ_=>false) (λd=>d) (by simp only [dC,aK,aB,cX,zD, ↓reduceIte,Me,r2]) (fR (by decide)) (λd hd=>?_)]
    · rfl
    · have:d=.int 0\/d=.int 1:=by simpa using hd
      rcases this with rfl|rfl
      · have:=tc 0 (.inl rfl);simp only [aF,dC,d2,aG,aK,aB,bd,bw,dB,gb,gN,zI,zL,zC,zH,Q1,Q3,zA,zB,zE,List.replicate,zD,zG,Nat.reduceAdd, ↓reduceIte,zN,this,nn,z3]
      · have:=tc 1 (.inr rfl);simp only [aF,dC,d2,aG,aK,aB,bd,bw,dB,gb,gN,zI,zL,zC,zH,Q1,Q3,zA,zB,zE,List.replicate,zD,zG,Nat.reduceAdd, ↓reduceIte,zN,this,nn,z3]
   simp only [xZ,sM,qg,uU,uT,uS,bV,cj,aW,eR,bO,am,aF,dC,d2,aG,iX,aK,aB,bd,bw,dB,aj,cM,L0,ly,vn,K6,zI,zL,zC,zH,Q1,Q3,zA,zB,zE,zF,List.replicate,zD,zG,Nat.reduceAdd,Nat.reduceSub, ↓reduceIte,hg,ha',cu,q1,zL,ee,c0,z0]
 · have e0:gj (.list (((codes p c).filter (gW as)).map aJ)) (.list [])=some (.bool false):=by
    have:=G9 ((codes p c).filter (gW as)) [];rw [decide_eq_false hz]at this;exact this
   have cm5:A8 (cS ns 1) 5=true:=rfl;have cm4:A8 (cS ns 2) 4=true:=rfl
   by_cases h5:cS ns 1 % 5=1
   · have e5:gj (.int (cS ns 1 % 5)) (.int 1)=some (.bool true):=by rw [dF,decide_eq_true h5]
     have nn:tI (.list [.bool false,.bool true,.bool true]) (.list [.bool false,.bool true,.bool true])=some (.bool false):=rfl;have ix:∃g,cQ (.list [.tuple [.int 3,.int 3],.tuple [.int 2,.int 5],.tuple [.int 5,.int 2],.tuple [.int 3,.int 4]]) (.int (cS ns 2 % 4))=some g/\g∈[aJ [3,3],aJ [2,5],aJ [5,2],aJ [3,4]]:=by
      have a:=Int.emod_nonneg (cS ns 2) (show (4:Int)≠0 by decide)
      have b:=Int.emod_lt_of_pos (cS ns 2) (show (0:Int) < 4 by decide)
      have:cS ns 2 % 4=0\/cS ns 2 % 4=1\/cS ns 2 % 4=2\/cS ns 2 % 4=3:=by omega
      rcases this with h|h|h|h<;>rw [h]
      · exact⟨_,rfl,by simp [aJ]⟩
      · exact⟨_,rfl,by simp [aJ]⟩
      · exact⟨_,rfl,by simp [aJ]⟩
      · exact⟨_,rfl,by simp [aJ]⟩
     obtain⟨g,ig,gin⟩:=ix;have tb:=Gi gin;have c1:∀v4 v5,(bR 1 [("_law_game",1)] (cX (aB (dC (.int 2)) aK)) (gN 0) (dB (d2 tI (aG 3 bM (aB (aF 0) (aB (aF 1) (aB (bw (bd aK)) aK)))) (bw (bd (aB (dC (.bool false)) (aB (dC (.bool true)) (aB (dC (.bool true)) aK))))))) (aF 0)) [some (.fz (tD ns)),some (.fz g),some (.fz (.list (as.map cO))),some (.fz (.list (((codes p c).filter (gW as)).map aJ))),v4,v5]=some []:=λv4 v5=>by
      rw [fE (ds:=[.int 0,.int 1]) (λ_=>false) (λd=>d) (by simp only [dC,aK,aB,cX,zD, ↓reduceIte,Me,r2]) (fR (by decide)) (λd hd=>?_)]
      · rfl
      · have:d=.int 0\/d=.int 1:=by simpa using hd
        rcases this with rfl|rfl
        · have:=tb 0 (.inl rfl);simp only [aF,dC,d2,aG,aK,aB,bd,bw,dB,gb,gN,zI,zL,zC,zH,Q1,Q3,zA,zB,zE,List.replicate,zD,zG,Nat.reduceAdd, ↓reduceIte,zN,this,nn,z3,z0]
        · have:=tb 1 (.inr rfl);simp only [aF,dC,d2,aG,aK,aB,bd,bw,dB,gb,gN,zI,zL,zC,zH,Q1,Q3,zA,zB,zE,List.replicate,zD,zG,Nat.reduceAdd, ↓reduceIte,zN,this,nn,z3,z0]
     simp only [xZ,sM,qg,uU,uT,uS,xY,rC,bV,cj,aW,eR,bO,am,aF,dC,d2,aG,iX,aK,aB,bd,bw,dB,aj,cM,xF,L0,ly,vn,K6,zI,zL,zC,zH,Q1,Q3,zA,zB,zE,zF,List.replicate,zD,zG,Nat.reduceAdd,Nat.reduceSub, ↓reduceIte,zN,hg,ha',cu,q1,e0,k1,k2,cm5,cm4,e5,ig,ee,c1,z0,z4]
   · have e5:gj (.int (cS ns 1 % 5)) (.int 1)=some (.bool false):=by rw [dF,decide_eq_false h5]
     obtain⟨N,ok,sh⟩:=Gg h7 ao al hz;obtain⟨t0,t1⟩:=Gh sh;obtain⟨y1,y2⟩:=ok.okP;have co:CanOkF ah (codes p c) (aJ [p,c]):=⟨g1,g4,pf hm⟩;have dp:F_law_deep [aJ [p,c],.list (((codes p c).filter (gW as)).map aJ),ag (codes p c) N ((codes p c).filter (gW as))]=some (.int (N:Int)):=by
      have:=JJ co N 17 _ (by have:=ok.n16;omega) ok.sub ok.ne y1
      rw [Iy y2]at this;exact this
     have wh:iC [.int (N:Int)]=some (.bool true):=rfl;have nn:tI (.int (N:Int)) (.int (N:Int))=some (.bool false):=by rw [xB,decide_eq_true rfl];rfl
     by_cases hN:N=0
     · subst hN;have en:gj (.int ((0:Nat):Int)) (.int 0)=some (.bool true):=rfl;simp only [xZ,sM,qg,uU,uT,uS,xY,BH,BG,BF,BE,rC,bV,cj,aW,eR,bO,am,aF,dC,d2,aG,iX,aK,aB,bd,bw,dB,fY,rV,dS,mQ,Hl,qy,aj,cM,xD,xF,L0,ly,vn,K6,zI,zL,zC,zH,Q1,Q3,zA,zB,zE,zF,List.replicate,zD,zG,Nat.reduceAdd,Nat.reduceSub, ↓reduceIte,qG,zN,hg,ha',cu,q1,e0,k1,cm5,e5,t0,t1,wh,dp,nn,en,z0]
     · have en:gj (.int (N:Int)) (.int 0)=some (.bool false):=by rw [dF,decide_eq_false (by omega)]
       obtain⟨M,rfl⟩:=Nat.exists_eq_succ_of_ne_zero hN;have sb:((M+1:Nat):Int) - 1=(M:Int):=by omega
       have cn:wM [aJ [p,c],.list (((codes p c).filter (gW as)).map aJ),.int (M:Int)]=some (.bool false):=by
        have:=Iw co (fit:=(codes p c).filter (gW as)) ok.sub (m:=M) (by have:=ok.n16;omega)
        rw [uE M _ hz,y2 M (EA M)]at this;exact this
       simp only [xZ,sM,qg,uU,uT,uS,xY,BH,BG,BF,BE,rC,bV,cj,aW,eR,bO,am,aF,dC,d2,aG,iX,aK,aB,bd,bw,dB,fY,rV,dS,mQ,Hl,qy,aj,cM,xD,xF,L0,ly,vn,K6,zI,zL,zC,zH,Q1,Q3,zA,zB,zE,zF,List.replicate,zD,zG,Nat.reduceAdd,Nat.reduceSub, ↓reduceIte,qG,Gu,zN,hg,ha',cu,q1,e0,k1,cm5,e5,t0,t1,wh,dp,nn,en,sb,cn,z0]
noncomputable def kz(i:Nat):Stmt:=PySem.Challenge.pw_guesscode_k11_plans.main.body.getD i (.Pass ⟨0,0,0,0⟩)
section
variable {P:Program} {w:World} {K:Fg} {mg:Str->Option Value} {base:Heap} {f:Addr} {fd:FuncData}
noncomputable abbrev mH:Stmt:=kz 38
theorem BO:FnScope ["_law_cell_here","_law_prime","_law_many"] ["_law_cell_here","_law_prime","_law_many"] (aS mH):=kI
noncomputable abbrev kT:Stmt:=kz 37
theorem zf:FnScope ["_law_script","_law_k"] ["_law_script","_law_k"] (aS kT):=kI
noncomputable abbrev jT:Stmt:=kz 40
theorem pi:FnScope ["_law_script","_law_at","_law_some"] ["_law_script","_law_at"] (aS jT):=kI
noncomputable abbrev kU:Stmt:=kz 41
theorem lg:FnScope ["_law_game","_law_cell_here","_law_found","_law_place"] ["_law_game","_law_cell_here"] (aS kU):=kI
noncomputable abbrev iU:Stmt:=kz 43
theorem br:FnScope ["_law_one","_law_other","_law_right","_law_mine","_law_theirs","_law_a","_law_b","_law_elsewhere","_law_colour"] ["_law_one","_law_other"] (aS iU):=kI
noncomputable abbrev kW:Stmt:=kz 44
theorem dW:FnScope ["_law_script","_law_at","_law_game","_law_hidden","_law_found","_law_k","_law_seed","_law_guess","_law_told_here"] ["_law_script","_law_at","_law_game"] (aS kW):=kI
noncomputable abbrev jU:Stmt:=kz 42
theorem d9:FnScope ["_law_game","_law_found","_law_place","_law_more","_law_code_here"] ["_law_game"] (aS jU):=kI
noncomputable abbrev kX:Stmt:=kz 45
theorem zg:FnScope ["_law_game","_law_asks_here"] ["_law_game","_law_asks_here"] (aS kX):=kI
noncomputable abbrev kY:Stmt:=kz 19
theorem dX:FnScope ["hidden","guess","right","shared","unmatched","place","colour"] ["hidden","guess"] (aS kY):=kI
noncomputable abbrev eX:Stmt:=kz 31
theorem gX:FnScope ["fitting","guess","parts","code"] ["fitting","guess"] (aS eX):=kI
noncomputable abbrev df:Stmt:=kz 29
theorem jp:FnScope ["found"] ["found"] (aS df):=kI
noncomputable abbrev pj:Stmt:=kz 12
theorem Di:FnScope ["thing"] ["thing"] (aS pj):=kI
noncomputable abbrev eE:Stmt:=kz 11
theorem ny:FnScope ["thing","low","high"] ["thing","low","high"] (aS eE):=kI
noncomputable abbrev fH:Stmt:=kz 13
theorem eY:FnScope ["places","colours","codes","place"] ["places","colours"] (aS fH):=kI
noncomputable abbrev pq:Stmt:=kz 14
theorem Dj:FnScope ["thing"] ["thing"] (aS pq):=kI
noncomputable abbrev gz:Stmt:=kz 15
theorem uZ:FnScope ["game"] ["game"] (aS gz):=kI
noncomputable abbrev pz:Stmt:=kz 17
theorem Dk:FnScope ["game","thing"] ["game","thing"] (aS pz):=kI
noncomputable abbrev kZ:Stmt:=kz 22
theorem zh:FnScope ["game","thing"] ["game","thing"] (aS kZ):=kI
noncomputable abbrev sP:Stmt:=kz 23
theorem Gj:FnScope ["game","thing"] ["game","thing"] (aS sP):=kI
noncomputable abbrev hJ:Stmt:=kz 24
theorem jE:FnScope ["game","things","is_one","at","thing"] ["game","things","is_one"] (aS hJ):=kI
noncomputable abbrev hU:Stmt:=kz 25
theorem ua:FnScope ["game","asks"] ["game","asks"] (aS hU):=kI
noncomputable abbrev mI:Stmt:=kz 26
theorem BP:FnScope ["code","ask"] ["code","ask"] (aS mI):=kI
noncomputable abbrev fJ:Stmt:=kz 27
theorem eZ:FnScope ["codes","asks","fitting","ask"] ["codes","asks"] (aS fJ):=kI
noncomputable abbrev ka:Stmt:=kz 18
theorem fX:FnScope ["game","codes","place","longer","code"] ["game"] (aS ka):=kI
noncomputable abbrev kc:Stmt:=kz 28
theorem zi:FnScope ["game","asks"] ["game","asks"] (aS kc):=kI
noncomputable abbrev iD:Stmt:=kz 16
theorem qA:FnScope ["game"] ["game"] (aS iD):=kI
noncomputable abbrev ia:Stmt:=kz 33
theorem dc:FnScope ["game","asks","fitting","planner","most"] ["game","asks"] (aS ia):=kI
noncomputable abbrev e6:Stmt:=kz 34
theorem j3:FnScope ["game","asks"] ["game","asks"] (aS e6):=kI
noncomputable abbrev mJ:Stmt:=kz 35
theorem uc:FnScope ["game","asks"] ["game","asks"] (aS mJ):=kI
noncomputable abbrev kd:Stmt:=kz 47
theorem jV:FnScope ["_law_way","_law_game","_law_asks_here","e"] ["_law_way","_law_game","_law_asks_here"] (aS kd):=kI
noncomputable abbrev jW:Stmt:=kz 39
theorem xf:FnScope ["_law_found"] ["_law_found"] (aS jW):=kI
noncomputable abbrev jX:Stmt:=kz 46
theorem iV:FnScope ["_law_codes_here","_law_guess","_law_found","_law_code_here","_law_one"] ["_law_codes_here","_law_guess"] (aS jX):=kI
noncomputable abbrev jF:Stmt:=kz 48
theorem li:FnScope ["_law_game","_law_codes_here","_law_plan","_law_parts_here","_law_some"] ["_law_game","_law_codes_here","_law_plan"] (aS jF):=kI
noncomputable abbrev jq:Stmt:=kz 49
theorem eQ:FnScope ["_law_game","_law_codes_here","_law_turns","_law_known","_law_key","_law_guess","_law_parts_here","_law_bad","_law_one"] ["_law_game","_law_codes_here","_law_turns","_law_known"] (aS jq):=kI
noncomputable abbrev BQ:Stmt:=kz 50
theorem ud:FnScope ["_law_script","_law_game","_law_asks_here","_law_some","_law_many","_law_plan"] ["_law_script"] (aS BQ):=kI
abbrev qk(P:Program)(w:World)(K:Fg)(mg:Str->Option Value)(base:Heap):Prop:=Own P w K mg base 1 "_law_mix" ["_law_cell_here","_law_prime","_law_many"] (cD K 3 bg)
abbrev nz(P:Program)(w:World)(K:Fg)(mg:Str->Option Value)(base:Heap):Prop:=Own P w K mg base 1 "_law_cell" ["_law_script","_law_k"] (cD K 2 bK)
abbrev zj(P:Program)(w:World)(K:Fg)(mg:Str->Option Value)(base:Heap):Prop:=Own P w K mg base 2 "_law_small" ["_law_script","_law_at"] (cD K 2 eN)
abbrev BR(P:Program)(w:World)(K:Fg)(mg:Str->Option Value)(base:Heap):Prop:=Own P w K mg base 2 "_law_code" ["_law_game","_law_cell_here"] (cD K 2 d6)
abbrev ke(P:Program)(w:World)(K:Fg)(mg:Str->Option Value)(base:Heap):Prop:=Own P w K mg base 1 "_law_answer" ["_law_one","_law_other"] (cD K 2 bL)
abbrev BS(P:Program)(w:World)(K:Fg)(mg:Str->Option Value)(base:Heap):Prop:=Own P w K mg base 3 "_law_asks" ["_law_script","_law_at","_law_game"] (Lu K 3 fP)
abbrev iE(P:Program)(w:World)(K:Fg)(mg:Str->Option Value)(base:Heap):Prop:=Own P w K mg base 1 "_law_codes" ["_law_game"] (cD K 1 ah)
abbrev BT(P:Program)(w:World)(K:Fg)(mg:Str->Option Value)(base:Heap):Prop:=Own P w K mg base 2 "_law_left" ["_law_game","_law_asks_here"] (cD K 2 fQ)
abbrev ue(P:Program)(w:World)(K:Fg)(mg:Str->Option Value)(base:Heap):Prop:=Own P w K mg base 1 "answer_of" ["hidden","guess"] (cD K 2 d7)
abbrev jr(P:Program)(w:World)(K:Fg)(mg:Str->Option Value)(base:Heap):Prop:=Own P w K mg base 2 "parts_by_answer" ["fitting","guess"] (cD K 2 cT)
abbrev rm(P:Program)(w:World)(K:Fg)(mg:Str->Option Value)(base:Heap):Prop:=Own P w K mg base 1 "found_or_clash" ["found"] (cD K 1 bE)
abbrev uf(P:Program)(w:World)(K:Fg)(mg:Str->Option Value)(base:Heap):Prop:=Own P w K mg base 1 "is_pair" ["thing"] (cD K 1 fG)
abbrev gY(P:Program)(w:World)(K:Fg)(mg:Str->Option Value)(base:Heap):Prop:=Own P w K mg base 1 "is_number_within" ["thing","low","high"] (cD K 3 ak)
abbrev kt(P:Program)(w:World)(K:Fg)(mg:Str->Option Value)(base:Heap):Prop:=Own P w K mg base 1 "how_many_codes" ["places","colours"] (cD K 2 cL)
abbrev Gk(P:Program)(w:World)(K:Fg)(mg:Str->Option Value)(base:Heap):Prop:=Own P w K mg base 2 "is_game" ["thing"] (cD K 1 pM)
abbrev mw(P:Program)(w:World)(K:Fg)(mg:Str->Option Value)(base:Heap):Prop:=Own P w K mg base 3 "checked_game" ["game"] (cD K 1 dI)
abbrev Gm(P:Program)(w:World)(K:Fg)(mg:Str->Option Value)(base:Heap):Prop:=Own P w K mg base 2 "is_code" ["game","thing"] (cD K 2 jm)
abbrev BU(P:Program)(w:World)(K:Fg)(mg:Str->Option Value)(base:Heap):Prop:=Own P w K mg base 2 "is_answer" ["game","thing"] (cD K 2 gn)
abbrev vM(P:Program)(w:World)(K:Fg)(mg:Str->Option Value)(base:Heap):Prop:=Own P w K mg base 4 "checked_list" ["game","things","is_one"] (cD K 3 dh)
abbrev vN(P:Program)(w:World)(K:Fg)(mg:Str->Option Value)(base:Heap):Prop:=Own P w K mg base 5 "checked_asks" ["game","asks"] (cD K 2 dj)
abbrev Dl(P:Program)(w:World)(K:Fg)(mg:Str->Option Value)(base:Heap):Prop:=Own P w K mg base 2 "fits_ask" ["code","ask"] (cD K 2 fV)
abbrev rn(P:Program)(w:World)(K:Fg)(mg:Str->Option Value)(base:Heap):Prop:=Own P w K mg base 3 "those_that_fit" ["codes","asks"] (cD K 2 dD)
abbrev ug(P:Program)(w:World)(K:Fg)(mg:Str->Option Value)(base:Heap):Prop:=Own P w K mg base 4 "all_codes" ["game"] (cD K 1 d8)
abbrev BV(P:Program)(w:World)(K:Fg)(mg:Str->Option Value)(base:Heap):Prop:=Own P w K mg base 6 "what_fits" ["game","asks"] (cD K 2 bj)
abbrev zk(P:Program)(w:World)(K:Fg)(mg:Str->Option Value)(base:Heap):Prop:=Own P w K mg base 2 "small_game" ["game"] (cD K 1 eO)
abbrev wV(P:Program)(w:World)(K:Fg)(mg:Str->Option Value)(base:Heap):Prop:=Own P w K mg base 53 "shortest" ["game","asks"] (cD K 2 cJ)
abbrev BW(P:Program)(w:World)(K:Fg)(mg:Str->Option Value)(base:Heap):Prop:=Own P w K mg base 55 "_law_told" ["_law_way","_law_game","_law_asks_here"] (cD K 3 bM)
abbrev zm(P:Program)(w:World)(K:Fg)(mg:Str->Option Value)(base:Heap):Prop:=Own P w K mg base 1 "_law_whole" ["_law_found"] (cD K 1 iC)
abbrev jY(P:Program)(w:World)(K:Fg)(mg:Str->Option Value)(base:Heap):Prop:=Own P w K mg base 2 "_law_parts" ["_law_codes_here","_law_guess"] (cD K 2 dU)
abbrev BX(P:Program)(w:World)(K:Fg)(mg:Str->Option Value)(base:Heap):Prop:=Own P w K mg base 20 "_law_deep" ["_law_game","_law_codes_here","_law_plan"] (cD K 3 F_law_deep)
abbrev Dm(P:Program)(w:World)(K:Fg)(mg:Str->Option Value)(base:Heap):Prop:=Own P w K mg base 20 "_law_can" ["_law_game","_law_codes_here","_law_turns","_law_known"] (JG K P w 16)
theorem BY(F:Fun K "_law_mix" "_law_mix" mH f fd)(B:Bt mg):FnOk P w K mg base fZ 1 f fd ["_law_cell_here","_law_prime","_law_many"] (cD K 3 bg):=
 bJ F BO rfl rfl λcdv A outer s H E hr=>have hu:=hr.units
  ⟨_,(aM (aZ (cq w9 (cq w9 (cq qJ (pv 0) aO) (pv 1)) (pv 2)))),(ax (aU wu (aU wu (aU nU (aE 0) aP) (aE 1)) (aE 2)))⟩
theorem zn(F:Fun K "_law_cell" "_law_cell" kT f fd)(B:Bt mg):FnOk P w K mg base fZ 1 f fd ["_law_script","_law_k"] (cD K 2 bK):=
 bJ F zf rfl rfl λcdv A outer s H E hr=>have hu:=hr.units
  ⟨_,(aI (bu (aq sU (pv 1) (ai (gM K) (by rfl) B.len PySem.boot_len (aA (pv 0) aH)) (az _)) (aM (aZ (ba (bc K) (pv 0) (pv 1) (λ_ _=>rfl)))) bA) (aM (aZ aO))),(aY (eB (aw (aU tH (aE 1) (bi il (aD (aE 0) aL)))) (ax (aU bn (aE 0) (aE 1))) bx) (ax aP))⟩
theorem xg(F:Fun K "_law_small" "_law_small" jT f fd)(B:Bt mg)(O_law_mix:qk P w K mg base)(O_law_cell:nz P w K mg base):FnOk P w K mg base fZ 2 f fd ["_law_script","_law_at"] (cD K 2 eN):=
 bJ F pi rfl rfl λcdv A outer s H E hr=>have hu:=hr.units
  ⟨_,(@tN _ _ _ _ _ (@IF _ 2 _ _ _ _ _ [.tuple [.int 2,.int 3],.tuple [.int 3,.int 2],.tuple [.int 2,.int 4],.tuple [.int 4,.int 2],.tuple [.int 1,.int 5],.tuple [.int 2,.int 2],.tuple [.int 1,.int 3],.tuple [.int 2,.int 3]] pi.nd rfl (by first|exact Or.inl rfl|exact Or.inr rfl) (by rfl) (by rfl) (Or.inl rfl)) (aM (aZ (ba (bc K) (pv 2) (aX O_law_mix hr (aA (aX O_law_cell hr (aA (pv 0) (aA (pv 1) aH))) (aA aO (aA aO aH)))) (λ_ _=>rfl))))),(aY (bq 2 (cP (dq (@Bu _ [.tuple [.int 2,.int 3],.tuple [.int 3,.int 2],.tuple [.int 2,.int 4],.tuple [.int 4,.int 2],.tuple [.int 1,.int 5],.tuple [.int 2,.int 2],.tuple [.int 1,.int 3],.tuple [.int 2,.int 3]] (by rfl))))) (ax (aU bn (aE 2) (aV (aD (aV (aD (aE 0) (aD (aE 1) aL))) (aD aP (aD aP aL)))))))⟩
theorem zo(F:Fun K "_law_code" "_law_code" kU f fd)(B:Bt mg)(O_law_mix:qk P w K mg base):FnOk P w K mg base fZ 2 f fd ["_law_game","_law_cell_here"] (cD K 2 d6):=
 bJ F lg rfl rfl λcdv A outer s H E hr=>have hu:=hr.units
  ⟨_,(aI (ac (i:=2) lg.nd (cw aH)) (aI (dm PassesOwn.never rfl (eU rfl B.range (aA (ba (bc K) (pv 0) aO (λ_ _=>rfl)) aH)) (bF (i:=3) lg.nd rfl (by first|exact Or.inl rfl|exact Or.inr rfl)) (aM (dY (mX PySem.F.plainAttrs_list PySem.F.slot_list_append PySem.F.type_list_append fU (pv 2) (aA (aX O_law_mix hr (aA (cq (gK K) (cq (gK K) (pv 1) (cq qJ (cq qJ aO (pv 3)) (pv 3))) (cq qJ aO (pv 3))) (aA aO (aA (ba (bc K) (pv 0) aO (λ_ _=>rfl)) aH)))) aH))))) (aM (aZ (j9 (oP K) (by rfl) B.tuple PyProof.Rows.boot_tuple (aA (pv 2) aH)))))),(aY (lv 2 (dq aL)) (aY (iH (iP (aD (aU bn (aE 0) aP) aL)) (be 3) (lw 2 (aV (aD (aU gL (aU gL (aE 1) (aU nU (aU nU aP (aE 3)) (aE 3))) (aU nU aP (aE 3))) (aD aP (aD (aU bn (aE 0) aP) aL)))))) (tF 2 (ax (bi ww (aD (aE 2) aL))))))⟩
theorem vO(F:Fun K "_law_answer" "_law_answer" iU f fd)(B:Bt mg):FnOk P w K mg base fZ 1 f fd ["_law_one","_law_other"] (cD K 2 bL):=
 bJ F br rfl rfl λcdv A outer s H E hr=>have hu:=hr.units
  ⟨_,(aI (ac (i:=2) br.nd aO) (aI (ac (i:=3) br.nd (cw aH)) (aI (ac (i:=4) br.nd (cw aH)) (aI (dm PassesOwn.never rfl (KY K B.zip (aA (pv 0) (aA (pv 1) aH))) (wk K (j8 (bF (i:=5) br.nd rfl (by first|exact Or.inl rfl|exact Or.inr rfl)) (j8 (bF (i:=6) br.nd rfl (by first|exact Or.inl rfl|exact Or.inr rfl)) wY))) (aM (bu (aq (dG K hu) (pv 5) (pv 6) (az _)) (aM (ac (i:=2) br.nd (cq (gK K) (pv 2) aO))) (aI (dY (mX PySem.F.plainAttrs_list PySem.F.slot_list_append PySem.F.type_list_append fU (pv 3) (aA (pv 5) aH))) (aM (dY (mX PySem.F.plainAttrs_list PySem.F.slot_list_append PySem.F.type_list_append fU (pv 4) (aA (pv 6) aH)))))))) (aI (ac (i:=7) br.nd aO) (aI (dm PassesOwn.never rfl (fA K (pv 3)) (bF (i:=8) br.nd rfl (by first|exact Or.inl rfl|exact Or.inr rfl)) (aM (bu (aq (JY K) (pv 8) (pv 4) (by rfl)) (aI (dY (mX PySem.F.plainAttrs_list PySem.F.slot_list_remove PySem.F.type_list_remove vY (pv 4) (aA (pv 8) aH))) (aM (ac (i:=7) br.nd (cq (gK K) (pv 7) aO)))) bA))) (aM (aZ (gA (aA (pv 2) (aA (pv 7) aH))))))))))),(aY (bq 2 aP) (aY (lv 3 (dq aL)) (aY (lv 4 (dq aL)) (aY (iH (K1 (aD (aE 0) (aD (aE 1) aL))) (A7 (je (be 5) (je (be 6) wt))) (eB (aw (aU fD (aE 5) (aE 6))) (bq 2 (aU gL (aE 2) aP)) (aY (lw 3 (aE 5)) (lw 4 (aE 6))))) (aY (bq 7 aP) (aY (tF 3 (iH (fN (aE 3)) (be 8) (eB (aw (FG false 4 (aE 8))) (aY (vk 4 (aE 8)) (bq 7 (aU gL (aE 7) aP))) bx))) (ax (gi (aD (aE 2) (aD (aE 7) aL))))))))))⟩
theorem zp(F:Fun K "_law_asks" "_law_asks" kW f fd)(B:Bt mg)(O_law_code:BR P w K mg base)(O_law_cell:nz P w K mg base)(O_law_mix:qk P w K mg base)(O_law_answer:ke P w K mg base):FnOk P w K mg base fZ 3 f fd ["_law_script","_law_at","_law_game"] (Lu K 3 fP):=
 Hq F dW rfl rfl λcdv A outer s H E hr=>have hu:=hr.units
  ⟨_,(aI (ac (i:=3) dW.nd (aX O_law_code hr (aA (pv 2) (aA (aX O_law_cell hr (aA (pv 0) (aA (pv 1) aH))) aH)))) (aI (ac (i:=4) dW.nd (cw aH)) (aI (dm PassesOwn.never rfl (eU rfl B.range (aA (aX O_law_mix hr (aA (aX O_law_cell hr (aA (pv 0) (aA (cq (gK K) (pv 1) aO) aH))) (aA aO (aA aO aH)))) aH)) (bF (i:=5) dW.nd rfl (by first|exact Or.inl rfl|exact Or.inr rfl)) (aI (ac (i:=6) dW.nd (cq (gK K) (aX O_law_cell hr (aA (pv 0) (aA (cq (gK K) (cq (gK K) (pv 1) aO) (pv 5)) aH))) (cq qJ (cq qJ aO (pv 5)) (pv 5)))) (aI (ac (i:=7) dW.nd (aX O_law_code hr (aA (pv 2) (aA (pv 6) aH)))) (aI (ac (i:=8) dW.nd (aX O_law_answer hr (aA (pv 3) (aA (pv 7) aH)))) (aI (bu (aq (dG K hu) (aX O_law_mix hr (aA (pv 6) (aA aO (aA aO aH)))) aO (az _)) (aM (ac (i:=8) dW.nd (gA (aA (aX O_law_mix hr (aA (pv 6) (aA aO (aA (cq (gK K) (ba (bc K) (pv 2) aO (λ_ _=>rfl)) aO) aH)))) (aA (aX O_law_mix hr (aA (pv 6) (aA aO (aA (cq (gK K) (ba (bc K) (pv 2) aO (λ_ _=>rfl)) aO) aH)))) aH))))) bA) (aM (dY (mX PySem.F.plainAttrs_list PySem.F.slot_list_append PySem.F.type_list_append fU (pv 4) (aA (gA (aA (pv 7) (aA (pv 8) aH))) aH))))))))) (aM (aZ (pv 4)))))),(aY (bq 3 (aV (aD (aE 2) (aD (aV (aD (aE 0) (aD (aE 1) aL))) aL)))) (aY (lv 4 (dq aL)) (aY (iH (iP (aD (aV (aD (aV (aD (aE 0) (aD (aU gL (aE 1) aP) aL))) (aD aP (aD aP aL)))) aL)) (be 5) (aY (bq 6 (aU gL (aV (aD (aE 0) (aD (aU gL (aU gL (aE 1) aP) (aE 5)) aL))) (aU nU (aU nU aP (aE 5)) (aE 5)))) (aY (bq 7 (aV (aD (aE 2) (aD (aE 6) aL)))) (aY (bq 8 (aV (aD (aE 3) (aD (aE 7) aL)))) (aY (eB (aw (aU fD (aV (aD (aE 6) (aD aP (aD aP aL)))) aP)) (bq 8 (gi (aD (aV (aD (aE 6) (aD aP (aD (aU gL (aU bn (aE 2) aP) aP) aL)))) (aD (aV (aD (aE 6) (aD aP (aD (aU gL (aU bn (aE 2) aP) aP) aL)))) aL)))) bx) (lw 4 (gi (aD (aE 7) (aD (aE 8) aL))))))))) (Hn 4))))⟩
theorem xh(F:Fun K "_law_codes" "_law_codes" jU f fd)(B:Bt mg):FnOk P w K mg base fZ 1 f fd ["_law_game"] (cD K 1 ah):=
 bJ F d9 rfl rfl λcdv A outer s H E hr=>have hu:=hr.units
  ⟨_,(aI (ac (i:=1) d9.nd (cw (aA (gA aH) aH))) (aI (dm PassesOwn.never rfl (eU rfl B.range (aA (ba (bc K) (pv 0) aO (λ_ _=>rfl)) aH)) (bF (i:=2) d9.nd rfl (by first|exact Or.inl rfl|exact Or.inr rfl)) (aI (ac (i:=3) d9.nd (cw aH)) (aI (dm PassesOwn.never rfl (fA K (pv 1)) (bF (i:=4) d9.nd rfl (by first|exact Or.inl rfl|exact Or.inr rfl)) (aM (ac (i:=3) d9.nd (cq (gK K) (pv 3) (gD ["_law_colour"] [("_law_code_here",4)] (eU rfl B.range (aA (ba (bc K) (pv 0) aO (λ_ _=>rfl)) aH)) (λ_ _ _ _=>(bF (i:=0) (show List.Nodup (["_law_colour","_law_code_here"]:List Str)by decide+kernel) rfl (by first|exact Or.inl rfl|exact Or.inr rfl))) (λ_ _ _ _=>lr) (λ_ _ _ _=>(cq (gK K) (pv 1) (gA (aA (pv 0) aH))))))))) (aM (ac (i:=1) d9.nd (pv 3)))))) (aM (aZ (pv 1))))),(aY (bq 1 (cP (dq (aD (gi aL) aL)))) (aY (iH (iP (aD (aU bn (aE 0) aP) aL)) (be 2) (aY (bq 3 (cP (dq aL))) (aY (iH (fN (aE 1)) (be 4) (bq 3 (aU gL (aE 3) (cP (gJ (iP (aD (aU bn (aE 0) aP) aL)) (be 0) eJ qR (aU gL (aE 1) (gi (aD (aE 0) aL)))))))) (bq 1 (aE 3))))) (ax (aE 1))))⟩
theorem zq(F:Fun K "_law_left" "_law_left" kX f fd)(B:Bt mg)(O_law_codes:iE P w K mg base)(O_law_answer:ke P w K mg base):FnOk P w K mg base fZ 2 f fd ["_law_game","_law_asks_here"] (cD K 2 fQ):=
 bJ F zg rfl rfl λcdv A outer s H E hr=>have hu:=hr.units
  ⟨_,(aM (aZ (gD ["_law_code_here"] [("_law_asks_here",1)] (fA K (aX O_law_codes hr (aA (pv 0) aH))) (λ_ _ _ _=>(bF (i:=0) (show List.Nodup (["_law_code_here","_law_asks_here"]:List Str)by decide+kernel) rfl (by first|exact Or.inl rfl|exact Or.inr rfl))) (λ_ _ _ _=>(oO (ft (fL K (gD ["_law_ask"] [("_law_code_here",0)] (fA K (pv 1)) (λ_ _ _ _=>(bF (i:=0) (show List.Nodup (["_law_ask","_law_code_here"]:List Str)by decide+kernel) rfl (by first|exact Or.inl rfl|exact Or.inr rfl))) (λ_ _ _ _=>(oO (aq (nL K hu) (aX O_law_answer hr (aA (pv 1) (aA (ba (bc K) (pv 0) aO (λ_ _=>rfl)) aH))) (ba (bc K) (pv 0) aO (λ_ _=>rfl)) (az _)))) (λ_ _ _ _=>(pv 0))))))) (λ_ _ _ _=>(pv 0))))),(ax (cP (gJ (fN (aV (aD (aE 0) aL))) (be 0) eJ (gH (fM (cP (gJ (fN (aE 1)) (be 0) eJ (aw (aU tJ (aV (aD (aE 1) (aD (aU bn (aE 0) aP) aL))) (aU bn (aE 0) aP))) (aE 0))))) (aE 0))))⟩
theorem zr(F:Fun K "answer_of" "answer_of" kY f fd)(B:Bt mg):FnOk P w K mg base fZ 1 f fd ["hidden","guess"] (cD K 2 d7):=
 bJ F dX rfl rfl λcdv A outer s H E hr=>have hu:=hr.units
  ⟨_,(aI (ac (i:=2) dX.nd aO) (aI (ac (i:=3) dX.nd aO) (aI (ac (i:=4) dX.nd (j9 (Hi K) (by rfl) B.list PyProof.Rows.boot_list (aA (pv 0) aH))) (aI (dm PassesOwn.never rfl (J8 K B.enumerate (aA (pv 1) aH)) (wk K (j8 (bF (i:=5) dX.nd rfl (by first|exact Or.inl rfl|exact Or.inr rfl)) (j8 (bF (i:=6) dX.nd rfl (by first|exact Or.inl rfl|exact Or.inr rfl)) wY))) (aI (bu (aq (dG K hu) (ba (bc K) (pv 0) (pv 5) (λ_ _=>rfl)) (pv 6) (az _)) (aM (wZ (i:=2) dX.nd rfl (by first|exact Or.inl rfl|exact Or.inr rfl) aO wa)) bA) (aM (bu (aq (JY K) (pv 6) (pv 4) (by rfl)) (aI (dY (mX PySem.F.plainAttrs_list PySem.F.slot_list_remove PySem.F.type_list_remove vY (pv 4) (aA (pv 6) aH))) (aM (wZ (i:=3) dX.nd rfl (by first|exact Or.inl rfl|exact Or.inr rfl) aO wa))) bA)))) (aM (aZ (gA (aA (pv 2) (aA (cq qI (pv 3) (pv 2)) aH))))))))),(aY (bq 2 aP) (aY (bq 3 aP) (aY (lv 4 (DF (aD (aE 0) aL))) (aY (iH (Ja (aD (aE 1) aL)) (A7 (je (be 5) (je (be 6) wt))) (aY (eB (aw (aU fD (aU bn (aE 0) (aE 5)) (aE 6))) (A6 2 Bl aP) bx) (eB (aw (FG false 4 (aE 6))) (aY (vk 4 (aE 6)) (A6 3 Bl aP)) bx))) (ax (gi (aD (aE 2) (aD (aU qS (aE 3) (aE 2)) aL))))))))⟩
theorem qB(F:Fun K "parts_by_answer" "parts_by_answer" eX f fd)(B:Bt mg)(Oanswer_of:ue P w K mg base):FnOk P w K mg base fZ 2 f fd ["fitting","guess"] (cD K 2 cT):=
 bJ F gX rfl rfl λcdv A outer s H E hr=>have hu:=hr.units
  ⟨_,(aI (ac (i:=2) gX.nd yb) (aI (dm PassesOwn.never rfl (fA K (pv 0)) (bF (i:=3) gX.nd rfl (by first|exact Or.inl rfl|exact Or.inr rfl)) (aM (dY (mX PySem.F.plainAttrs_list PySem.F.slot_list_append PySem.F.type_list_append fU (GH (sg hr) (pv 2) (aX Oanswer_of hr (aA (pv 3) (aA (pv 1) aH))) (cw aH) ⟨by rfl,by rfl,by rfl,by rfl⟩) (aA (pv 3) aH))))) (aM (aZ (pv 2))))),(aY (CC 2) (aY (D7 3 2 (fN (aE 0)) (aV (aD (aE 3) (aD (aE 1) aL)))) (tF 2 (ax (aE 2)))))⟩
theorem qm(F:Fun K "found_or_clash" "found_or_clash" df f fd)(B:Bt mg):FnOk P w K mg base fZ 1 f fd ["found"] (cD K 1 bE):=
 bJ F jp rfl rfl λcdv A outer s H E hr=>have hu:=hr.units
  ⟨_,(aI (bu (ft (fL K (pv 0))) (aM lD) bA) (aM (aZ (pv 0)))),(aY (eB (gH (fM (aE 0))) lJ bx) (ax (aE 0)))⟩
theorem Dn(F:Fun K "is_pair" "is_pair" pj f fd)(B:Bt mg):FnOk P w K mg base fZ 1 f fd ["thing"] (cD K 1 fG):=
 bJ F Di rfl rfl λcdv A outer s H E hr=>have hu:=hr.units
  ⟨_,(aM (aZ (nE (ai (iQ K) (by rfl) B.isinstance cV (aA (pv 0) (aA (fq (v:=.ty "tuple") rfl B.tuple PyProof.Rows.boot_tuple rfl) aH))) (nB (iN (dG K hu) (ai (gM K) (by rfl) B.len PySem.boot_len (aA (pv 0) aH)) aO (az _)))))),(ax (nQ (kC (aE 0)) (aU fD (bi il (aD (aE 0) aL)) aP)))⟩
theorem oA(F:Fun K "is_number_within" "is_number_within" eE f fd)(B:Bt mg):FnOk P w K mg base fZ 1 f fd ["thing","low","high"] (cD K 3 ak):=
 bJ F ny rfl rfl λcdv A outer s H E hr=>have hu:=hr.units
  ⟨_,(aM (aZ (nE (ai (iQ K) (by rfl) B.isinstance cV (aA (pv 0) (aA (fq (v:=.ty "int") rfl B.int PyProof.Rows.boot_int rfl) aH))) (nE (wX (ai (iQ K) (by rfl) B.isinstance cV (aA (pv 0) (aA (fq (v:=.ty "bool") rfl B.bool PyProof.Rows.boot_bool rfl) aH)))) (nB (EO EK EK (pv 1) (pv 0) (pv 2))))))),(ax (nQ (kC (aE 0)) (nQ (A5 (kC (aE 0))) (FC Ev Ev (aE 1) (aE 0) (aE 2)))))⟩
theorem qo(F:Fun K "how_many_codes" "how_many_codes" fH f fd)(B:Bt mg):FnOk P w K mg base fZ 1 f fd ["places","colours"] (cD K 2 cL):=
 bJ F eY rfl rfl λcdv A outer s H E hr=>have hu:=hr.units
  ⟨_,(aI (ac (i:=2) eY.nd aO) (aI (dm PassesOwn.never rfl (eU rfl B.range (aA (pv 0) aH)) (bF (i:=3) eY.nd rfl (by first|exact Or.inl rfl|exact Or.inr rfl)) (aM (wZ (i:=2) eY.nd rfl (by first|exact Or.inl rfl|exact Or.inr rfl) (pv 1) HI))) (aM (aZ (pv 2))))),(aY (bq 2 aP) (aY (iH (iP (aD (aE 0) aL)) (be 3) (A6 2 nU (aE 1))) (ax (aE 2))))⟩
theorem Do(F:Fun K "is_game" "is_game" pq f fd)(B:Bt mg)(Ois_pair:uf P w K mg base)(Ohow_many_codes:kt P w K mg base)(Ois_number_within:gY P w K mg base){tMOST_PLACES:Tok}(g_MOST_PLACES:mg "MOST_PLACES"=some (.int 5 tMOST_PLACES)){tMOST_COLOURS:Tok}(g_MOST_COLOURS:mg "MOST_COLOURS"=some (.int 8 tMOST_COLOURS)){tMOST_CODES:Tok}(g_MOST_CODES:mg "MOST_CODES"=some (.int 300 tMOST_CODES)):FnOk P w K mg base fZ 2 f fd ["thing"] (cD K 1 pM):=
 bJ F Dj rfl rfl λcdv A outer s H E hr=>have hu:=hr.units
  ⟨_,(aI (bu (ft (fL K (aX Ois_pair hr (aA (pv 0) aH)))) (aM (aZ j7)) bA) (aI (bu (PW.pt (oG (ft (fL K (aX Ois_number_within hr (aA (ba (bc K) (pv 0) aO (λ_ _=>rfl)) (aA aO (aA (fj (v:=.int 5) rfl g_MOST_PLACES ⟨_,rfl⟩) aH)))))) (lB (ft (fL K (aX Ois_number_within hr (aA (ba (bc K) (pv 0) aO (λ_ _=>rfl)) (aA aO (aA (fj (v:=.int 8) rfl g_MOST_COLOURS ⟨_,rfl⟩) aH))))))))) (aM (aZ j7)) bA) (aM (aZ (iN EK (aX Ohow_many_codes hr (aA (ba (bc K) (pv 0) aO (λ_ _=>rfl)) (aA (ba (bc K) (pv 0) aO (λ_ _=>rfl)) aH))) (fj (v:=.int 300) rfl g_MOST_CODES ⟨_,rfl⟩) (az _)))))),(aY (eB (gH (fM (aV (aD (aE 0) aL)))) (ax lI) bx) (aY (eB (oQ (gH (fM (aV (aD (aU bn (aE 0) aP) (aD aP (aD aP aL)))))) (gH (fM (aV (aD (aU bn (aE 0) aP) (aD aP (aD aP aL))))))) (ax lI) bx) (ax (aU Ev (aV (aD (aU bn (aE 0) aP) (aD (aU bn (aE 0) aP) aL))) aP))))⟩
theorem uh(F:Fun K "checked_game" "checked_game" gz f fd)(B:Bt mg)(Ois_game:Gk P w K mg base):FnOk P w K mg base fZ 3 f fd ["game"] (cD K 1 dI):=
 bJ F uZ rfl rfl λcdv A outer s H E hr=>have hu:=hr.units
  ⟨_,(aI (bu (ft (fL K (aX Ois_game hr (aA (pv 0) aH)))) (aM lD) bA) (aM (aZ (pv 0)))),(aY (eB (gH (fM (aV (aD (aE 0) aL)))) lJ bx) (ax (aE 0)))⟩
theorem Dp(F:Fun K "is_code" "is_code" pz f fd)(B:Bt mg)(Ois_number_within:gY P w K mg base):FnOk P w K mg base fZ 2 f fd ["game","thing"] (cD K 2 jm):=
 bJ F Dk rfl rfl λcdv A outer s H E hr=>have hu:=hr.units
  ⟨_,(aI (bu (PW.pt (oG (ft (fL K (ai (iQ K) (by rfl) B.isinstance cV (aA (pv 1) (aA (fq (v:=.ty "tuple") rfl B.tuple PyProof.Rows.boot_tuple rfl) aH))))) (lB (aq (nL K hu) (ai (gM K) (by rfl) B.len PySem.boot_len (aA (pv 1) aH)) (ba (bc K) (pv 0) aO (λ_ _=>rfl)) (az _))))) (aM (aZ j7)) bA) (aM (aZ (ai (Ef K) (by rfl) B.all PyProof.Rows.boot_all (aA (gD ["colour"] [("game",0)] (fA K (pv 1)) (λ_ _ _ _=>(bF (i:=0) (show List.Nodup (["colour","game"]:List Str)by decide+kernel) rfl (by first|exact Or.inl rfl|exact Or.inr rfl))) (λ_ _ _ _=>lr) (λ_ _ _ _=>(aX Ois_number_within hr (aA (pv 0) (aA aO (aA (cq qI (ba (bc K) (pv 1) aO (λ_ _=>rfl)) aO) aH)))))) aH))))),(aY (eB (oQ (gH (fM (kC (aE 1)))) (aw (aU tJ (bi il (aD (aE 1) aL)) (aU bn (aE 0) aP)))) (ax lI) bx) (ax (bi FF (aD (cP (gJ (fN (aE 1)) (be 0) eJ qR (aV (aD (aE 0) (aD aP (aD (aU qS (aU bn (aE 1) aP) aP) aL)))))) aL))))⟩
theorem zt(F:Fun K "is_answer" "is_answer" kZ f fd)(B:Bt mg)(Ois_pair:uf P w K mg base)(Ois_number_within:gY P w K mg base):FnOk P w K mg base fZ 2 f fd ["game","thing"] (cD K 2 gn):=
 bJ F zh rfl rfl λcdv A outer s H E hr=>have hu:=hr.units
  ⟨_,(aM (aZ (nE (aX Ois_pair hr (aA (pv 1) aH)) (nB (ai (Ef K) (by rfl) B.all PyProof.Rows.boot_all (aA (gD ["number"] [("game",0)] (fA K (pv 1)) (λ_ _ _ _=>(bF (i:=0) (show List.Nodup (["number","game"]:List Str)by decide+kernel) rfl (by first|exact Or.inl rfl|exact Or.inr rfl))) (λ_ _ _ _=>lr) (λ_ _ _ _=>(aX Ois_number_within hr (aA (pv 0) (aA aO (aA (ba (bc K) (pv 1) aO (λ_ _=>rfl)) aH)))))) aH)))))),(ax (nQ (aV (aD (aE 1) aL)) (bi FF (aD (cP (gJ (fN (aE 1)) (be 0) eJ qR (aV (aD (aE 0) (aD aP (aD (aU bn (aE 1) aP) aL)))))) aL))))⟩
theorem zu(F:Fun K "is_ask" "is_ask" sP f fd)(B:Bt mg)(Ois_pair:uf P w K mg base)(Ois_code:Gm P w K mg base)(Ois_answer:BU P w K mg base):FnOk P w K mg base fZ 3 f fd ["game","thing"] (cD K 2 jP):=
 bJ F Gj rfl rfl λcdv A outer s H E hr=>have hu:=hr.units
  ⟨_,(aM (aZ (nE (aX Ois_pair hr (aA (pv 1) aH)) (nE (aX Ois_code hr (aA (pv 0) (aA (ba (bc K) (pv 1) aO (λ_ _=>rfl)) aH))) (nB (aX Ois_answer hr (aA (pv 0) (aA (ba (bc K) (pv 1) aO (λ_ _=>rfl)) aH)))))))),(ax (nQ (aV (aD (aE 1) aL)) (nQ (aV (aD (aE 0) (aD (aU bn (aE 1) aP) aL))) (aV (aD (aE 0) (aD (aU bn (aE 1) aP) aL))))))⟩
theorem ui(F:Fun K "checked_list" "checked_list" hJ f fd)(B:Bt mg)(Nis_ask:OwnN P w K mg base 3 "is_ask" ["game","thing"] (cD K 2 jP)){tMOST_ASKS:Tok}(g_MOST_ASKS:mg "MOST_ASKS"=some (.int 8 tMOST_ASKS)):FnOk P w K mg base fZ 4 f fd ["game","things","is_one"] (cD K 3 dh):=
 bJ F jE rfl rfl λcdv A outer s H E hr=>have hu:=hr.units
  ⟨_,(aI (bu (PW.pt (oG (ft (fL K (ai (iQ K) (by rfl) B.isinstance cV (aA (pv 1) (aA (fq (v:=.ty "list") rfl B.list PyProof.Rows.boot_list rfl) aH))))) (lB (aq EL (ai (gM K) (by rfl) B.len PySem.boot_len (aA (pv 1) aH)) (fj (v:=.int 8) rfl g_MOST_ASKS ⟨_,rfl⟩) (az _))))) (aM lD) bA) (aI (dm PassesOwn.never rfl (J8 K B.enumerate (aA (pv 1) aH)) (wk K (j8 (bF (i:=3) jE.nd rfl (by first|exact Or.inl rfl|exact Or.inr rfl)) (j8 (bF (i:=4) jE.nd rfl (by first|exact Or.inl rfl|exact Or.inr rfl)) wY))) (aM (bu (ft (fL K (IH Nis_ask hr (pv 2) (aA (pv 0) (aA (pv 4) aH))))) (aM lD) bA))) (aM (aZ (pv 1))))),(aY (eB (oQ (gH (fM (kC (aE 1)))) (aw (aU Ew (bi il (aD (aE 1) aL)) aP))) lJ bx) (aY (iH (Ja (aD (aE 1) aL)) (A7 (je (be 3) (je (be 4) wt))) (eB (gH (fM (FO (aD (aE 0) (aD (aE 4) aL))))) lJ bx)) (ax (aE 1))))⟩
theorem uj(F:Fun K "checked_asks" "checked_asks" hU f fd)(B:Bt mg)(Ochecked_list:vM P w K mg base){Ais_ask:Addr}(mis_ask:mg "is_ask"=some (.ref Ais_ask))(nis_ask:PySem.W.nsIn K mainGlobals "is_ask"=some (some (.ref Ais_ask))):FnOk P w K mg base fZ 5 f fd ["game","asks"] (cD K 2 dj):=
 bJ F ua rfl rfl λcdv A outer s H E hr=>have hu:=hr.units
  ⟨_,(aM (aZ (aX Ochecked_list hr (aA (pv 0) (aA (pv 1) (aA (fj (v:=.ref Ais_ask) rfl mis_ask rfl) aH)))))),(ax (aV (aD (aE 0) (aD (aE 1) (aD (ME nis_ask) aL)))))⟩
theorem BZ(F:Fun K "fits_ask" "fits_ask" mI f fd)(B:Bt mg)(Oanswer_of:ue P w K mg base):FnOk P w K mg base fZ 2 f fd ["code","ask"] (cD K 2 fV):=
 bJ F BP rfl rfl λcdv A outer s H E hr=>have hu:=hr.units
  ⟨_,(aM (aZ (iN (dG K hu) (aX Oanswer_of hr (aA (pv 0) (aA (ba (bc K) (pv 1) aO (λ_ _=>rfl)) aH))) (ba (bc K) (pv 1) aO (λ_ _=>rfl)) (az _)))),(ax (aU fD (aV (aD (aE 0) (aD (aU bn (aE 1) aP) aL))) (aU bn (aE 1) aP)))⟩
theorem qp(F:Fun K "those_that_fit" "those_that_fit" fJ f fd)(B:Bt mg)(Ofits_ask:Dl P w K mg base):FnOk P w K mg base fZ 3 f fd ["codes","asks"] (cD K 2 dD):=
 bJ F eZ rfl rfl λcdv A outer s H E hr=>have hu:=hr.units
  ⟨_,(aI (ac (i:=2) eZ.nd (pv 0)) (aI (dm PassesOwn.never rfl (fA K (pv 1)) (bF (i:=3) eZ.nd rfl (by first|exact Or.inl rfl|exact Or.inr rfl)) (aM (Bg (i:=2) ["code"] [("ask",3)] eZ.nd rfl (by first|exact Or.inl rfl|exact Or.inr rfl) (fA K (pv 2)) (λ_ _ _ _=>(bF (i:=0) (show List.Nodup (["code","ask"]:List Str)by decide+kernel) rfl (by first|exact Or.inl rfl|exact Or.inr rfl))) (λ_ _ _ _=>(oO (fL K (aX Ofits_ask hr (aA (pv 0) (aA (pv 1) aH)))))) (λ_ _ _ _=>(pv 0))))) (aM (aZ (pv 2))))),(aY (bq 2 (aE 0)) (aY (iH (fN (aE 1)) (be 3) (bq 2 (cP (gJ (fN (aE 2)) (be 0) eJ (fM (aV (aD (aE 0) (aD (aE 1) aL)))) (aE 0))))) (ax (aE 2))))⟩
theorem zw(F:Fun K "all_codes" "all_codes" ka f fd)(B:Bt mg)(Ochecked_game:mw P w K mg base):FnOk P w K mg base fZ 4 f fd ["game"] (cD K 1 d8):=
 bJ F fX rfl rfl λcdv A outer s H E hr=>have hu:=hr.units
  ⟨_,(aI (dY (aX Ochecked_game hr (aA (pv 0) aH))) (aI (ac (i:=1) fX.nd (cw (aA (gA aH) aH))) (aI (dm PassesOwn.never rfl (eU rfl B.range (aA (ba (bc K) (pv 0) aO (λ_ _=>rfl)) aH)) (bF (i:=2) fX.nd rfl (by first|exact Or.inl rfl|exact Or.inr rfl)) (aI (ac (i:=3) fX.nd (cw aH)) (aI (dm PassesOwn.never rfl (fA K (pv 1)) (bF (i:=4) fX.nd rfl (by first|exact Or.inl rfl|exact Or.inr rfl)) (aM (dY (mX PySem.F.plainAttrs_list PySem.F.slot_list_extend PySem.F.type_list_extend Ci (pv 3) (aA (gD ["colour"] [("code",4)] (eU rfl B.range (aA (ba (bc K) (pv 0) aO (λ_ _=>rfl)) aH)) (λ_ _ _ _=>(bF (i:=0) (show List.Nodup (["colour","code"]:List Str)by decide+kernel) rfl (by first|exact Or.inl rfl|exact Or.inr rfl))) (λ_ _ _ _=>lr) (λ_ _ _ _=>(cq (gK K) (pv 1) (gA (aA (pv 0) aH))))) aH))))) (aM (ac (i:=1) fX.nd (pv 3)))))) (aM (aZ (pv 1)))))),(aY (wr (aV (aD (aE 0) aL))) (aY (bq 1 (cP (dq (aD (gi aL) aL)))) (aY (iH (iP (aD (aU bn (aE 0) aP) aL)) (be 2) (aY (lv 3 (dq aL)) (aY (iH (fN (aE 1)) (be 4) (DA 3 (cP (gJ (iP (aD (aU bn (aE 0) aP) aL)) (be 0) eJ qR (aU gL (aE 1) (gi (aD (aE 0) aL))))))) (tF 3 (bq 1 (aE 3)))))) (ax (aE 1)))))⟩
theorem zx(F:Fun K "what_fits" "what_fits" kc f fd)(B:Bt mg)(Ochecked_game:mw P w K mg base)(Ochecked_asks:vN P w K mg base)(Othose_that_fit:rn P w K mg base)(Oall_codes:ug P w K mg base):FnOk P w K mg base fZ 6 f fd ["game","asks"] (cD K 2 bj):=
 bJ F zi rfl rfl λcdv A outer s H E hr=>have hu:=hr.units
  ⟨_,(aI (dY (aX Ochecked_game hr (aA (pv 0) aH))) (aI (dY (aX Ochecked_asks hr (aA (pv 0) (aA (pv 1) aH)))) (aM (aZ (aX Othose_that_fit hr (aA (aX Oall_codes hr (aA (pv 0) aH)) (aA (pv 1) aH))))))),(aY (wr (aV (aD (aE 0) aL))) (aY (wr (aV (aD (aE 0) (aD (aE 1) aL)))) (ax (aV (aD (aV (aD (aE 0) aL)) (aD (aE 1) aL))))))⟩
theorem xi(F:Fun K "small_game" "small_game" iD f fd)(B:Bt mg)(Ohow_many_codes:kt P w K mg base){tMOST_CODES_SEARCHED:Tok}(g_MOST_CODES_SEARCHED:mg "MOST_CODES_SEARCHED"=some (.int 16 tMOST_CODES_SEARCHED)):FnOk P w K mg base fZ 2 f fd ["game"] (cD K 1 eO):=
 bJ F qA rfl rfl λcdv A outer s H E hr=>have hu:=hr.units
  ⟨_,(aI (bu (aq EL (aX Ohow_many_codes hr (aA (ba (bc K) (pv 0) aO (λ_ _=>rfl)) (aA (ba (bc K) (pv 0) aO (λ_ _=>rfl)) aH))) (fj (v:=.int 16) rfl g_MOST_CODES_SEARCHED ⟨_,rfl⟩) (az _)) (aM lD) bA) (aM (aZ (pv 0)))),(aY (eB (aw (aU Ew (aV (aD (aU bn (aE 0) aP) (aD (aU bn (aE 0) aP) aL))) aP)) lJ bx) (ax (aE 0)))⟩
noncomputable def Mt(i:Nat):Stmt:=match kz 32 with| .ClassDef _ _ _ body _ _ _ _ _ _ _=>body.getD i (.Pass ⟨0,0,0,0⟩)|s=>s
noncomputable abbrev JL:Stmt:=Mt 0
theorem Mf:FnScope ["self","codes"] ["self","codes"] (aS JL):=kI
noncomputable abbrev Gn:Stmt:=Mt 1
theorem Jp:FnScope ["self","fitting","most","key"] ["self","fitting","most"] (aS Gn):=kI
noncomputable abbrev Go:Stmt:=Mt 2
theorem C3:FnScope ["self","fitting","most","plan","guess"] ["self","fitting","most"] (aS Go):=kI
noncomputable abbrev Gp:Stmt:=Mt 3
theorem zy:FnScope ["self","fitting","guess","most","parts","rows","given","plan"] ["self","fitting","guess","most"] (aS Gp):=kI
theorem NV {C:Addr}(F:Fun K "__init__" "Planner.__init__" JL f fd)(T:PlC K C):FnOk P w K mg base fZ 1 f fd ["self","codes"] (Iu P w C):=by
 refine F.ok Mf (λvs H Q E h=>?_) (λcdv A outer s H vs Q E hr h=>?_)
 · obtain⟨_,_,_,rfl,_⟩:=h;rfl
 · have e5:L2.dL ["self","codes"] vs=vs.map some:=by
    obtain⟨_,_,_,rfl,_⟩:=h;rfl
   rw [e5];exact⟨_,aI (EU (pv 0) (pv 1) rfl) (aM (EU (pv 0) CO rfl)),Iv T (λ_ _=>rfl) h⟩
theorem Mg {C:Addr}{cs:Cs}(T:PlC K C)(hc:cs.length<=16)(he:gf cs)(F:Fun K "plan_within" "Planner.plan_within" Gn f fd)(B:Bt mg){n k:Nat}{fS:Addr}{fdS:FuncData}(hn:n<=16)(GS:FnOk P w K mg base fZ k fS fdS ["self","fitting","most"] (ux K P w C (av cs) (WPl cs) 2 (Ip cs n)))(mS:Meth K C "search" fS)(bS:Binds K fdS ["self","fitting","most"] []):FnOk P w K mg base fZ (k+1) f fd ["self","fitting","most"] (ux K P w C (av cs) (WPl cs) 2 (uy cs n)):=by
 refine F.ok Jp (λvs H Q E h=>ox h) (λcdv A outer s H vs Q E hr h=>?_)
 · have hu:=hr.units;have e5:L2.dL ["self","fitting","most","key"] vs=vs.map some++[none]:=qb (na:=2) (k:=1) ["self","fitting","most","key"] rfl h;rw [e5];exact⟨_,aI (bu (aq (dG K hu) (ai (gM K) (by rfl) B.len PySem.boot_len (aA (pv 1) aH)) aO (az _)) (aM (aZ (ba (bc K) (pv 1) aO (λ_ _=>rfl)))) bA) (aI (bu (aq (dG K hu) (pv 2) aO (az _)) (aM (aZ lA)) bA) (aI (ac (i:=3) Jp.nd (gA (aA (j9 (oP K) (by rfl) B.tuple PyProof.Rows.boot_tuple (aA (pv 1) aH)) (aA (pv 2) aH)))) (aI (bu (AI (wC (LD hu) (pv 3) (wb (pv 0) rfl))) (aM (xR (LD hu) (wb (pv 0) rfl) (pv 3) (lq (pv 0) T.cl mS GS hr bS .nil oM (aA (pv 1) (aA (pv 2) aH))))) bA) (aM (aZ (CQ (LD hu) (wb (pv 0) rfl) (pv 3) (λ_ _=>rfl))))))),
    MO T hc hn (aw (aU fD (bi il (aD (aE 1) aL)) aP)) (aU bn (aE 1) aP) (aw (aU fD (aE 2) aP)) (gi (aD (bi ww (aD (aE 1) aL)) (aD (aE 2) aL))) MR MS MT MU rfl h⟩
theorem NW {C:Addr}{cs:Cs}(T:PlC K C)(hc:cs.length<=16)(he:gf cs)(F:Fun K "search" "Planner.search" Go f fd)(B:Bt mg){n k:Nat}{fW fB:Addr}{fdW fdB:FuncData}(GW:FnOk P w K mg base fZ k fW fdW ["self","fitting","most"] (ux K P w C (av cs) (WPl cs) 2 (uy cs n)))(mW:Meth K C "plan_within" fW)(bW:Binds K fdW ["self","fitting","most"] [])(GB:FnOk P w K mg base fZ (k+1) fB fdB ["self","fitting","guess","most"] (ux K P w C (av cs) (WPl cs) 3 (Iq cs (n+1))))(mB:Meth K C "plan_by" fB)(bB:Binds K fdB ["self","fitting","guess","most"] []):FnOk P w K mg base fZ (k+2) f fd ["self","fitting","most"] (ux K P w C (av cs) (WPl cs) 2 (Ip cs (n+1))):=by
 refine F.ok C3 (λvs H Q E h=>ox h) (λcdv A outer s H vs Q E hr h=>?_)
 · have hu:=hr.units;have e5:L2.dL ["self","fitting","most","plan","guess"] vs=vs.map some++[none,none]:=qb (na:=2) (k:=2) ["self","fitting","most","plan","guess"] rfl h;rw [e5];exact⟨_,aI (ac (i:=3) C3.nd (lq (pv 0) T.cl mW GW (hr.mono (by omega)) bW .nil oM (aA (pv 1) (aA (cq qI (pv 2) aO) aH)))) (aI (bu (aq B6 (pv 3) lA (az _)) (aM (aZ (pv 3))) bA) (aI (dm PassesOwn.never rfl (fA K (wb (pv 0) rfl)) (bF (i:=4) C3.nd rfl (by first|exact Or.inl rfl|exact Or.inr rfl)) (aI (ac (i:=3) C3.nd (lq (pv 0) T.cl mB GB hr bB .nil oM (aA (pv 1) (aA (pv 4) (aA (pv 2) aH))))) (aM (bu (aq B6 (pv 3) lA (az _)) (aM (aZ (pv 3))) bA)))) (aM (aZ lA)))),
    D0 T hc (aU qS (aE 2) aP) (aw (aU Hz (aE 3) A3)) MV MW rfl h⟩
theorem NX {C:Addr}{cs:Cs}(T:PlC K C)(hc:cs.length<=16)(he:gf cs)(F:Fun K "plan_by" "Planner.plan_by" Gp f fd)(B:Bt mg){n k:Nat}{fW:Addr}{fdW:FuncData}(Oparts_by_answer:jr P w K mg base)(GW:FnOk P w K mg base fZ k fW fdW ["self","fitting","most"] (ux K P w C (av cs) (WPl cs) 2 (uy cs n)))(hk:2<=k)(mW:Meth K C "plan_within" fW)(bW:Binds K fdW ["self","fitting","most"] []):FnOk P w K mg base fZ (k+1) f fd ["self","fitting","guess","most"] (ux K P w C (av cs) (WPl cs) 3 (Iq cs (n+1))):=by
 refine F.ok zy (λvs H Q E h=>ox h) (λcdv A outer s H vs Q E hr h=>?_)
 · have hu:=hr.units;have e5:L2.dL ["self","fitting","guess","most","parts","rows","given","plan"] vs=vs.map some++[none,none,none,none]:=qb (na:=3) (k:=4) ["self","fitting","guess","most","parts","rows","given","plan"] rfl h;rw [e5];exact⟨_,aI (ac (i:=4) zy.nd (aX (hkn:=hk) Oparts_by_answer hr (aA (pv 1) (aA (pv 2) aH)))) (aI (ac (i:=5) zy.nd (cw aH)) (aI (dm PassesOwn.never rfl (fA K (ai (tP rfl) (by rfl) B.sorted PyProof.Rows.boot_sorted (aA (pv 4) aH))) (bF (i:=6) zy.nd rfl (by first|exact Or.inl rfl|exact Or.inr rfl)) (aI (ac (i:=7) zy.nd (lq (pv 0) T.cl mW GW hr bW .nil oM (aA (sH (sg hr) (pv 4) (pv 6) (λ_ _=>rfl)) (aA (cq qI (pv 3) aO) aH)))) (aI (bu (aq EM (pv 7) lA (az _)) (aM (aZ lA)) bA) (aM (dY (mX PySem.F.plainAttrs_list PySem.F.slot_list_append PySem.F.type_list_append fU (pv 5) (aA (gA (aA (pv 6) (aA (pv 7) aH))) aH))))))) (aM (aZ (gA (aA (pv 2) (aA (j9 (oP K) (by rfl) B.tuple PyProof.Rows.boot_tuple (aA (pv 5) aH)) aH))))))),
    MP uB (aV (aD (aE 1) (aD (aE 2) aL))) (fN (bi Bz (aD (aE 4) aL))) (tZ (aE 4) (aE 6)) (aU qS (aE 3) aP) (aw (aU K9 (aE 7) A3)) (gi (aD (aE 6) (aD (aE 7) aL))) (gi (aD (aE 2) (aD (bi ww (aD (aE 5) aL)) aL)))
     sL (LE hc) (Mb hc he) (M1 hc he) (M7 hc he) MX MY MZ M0 rfl h⟩
theorem Mh {C f1 f2 f3:Addr}{fd1 fd2 fd3:FuncData}{cs:Cs}(T:PlC K C)(hc:cs.length<=16)(he:gf cs)(B:Bt mg)(Oparts_by_answer:jr P w K mg base)(F1:Fun K "plan_within" "Planner.plan_within" Gn f1 fd1)(F2:Fun K "search" "Planner.search" Go f2 fd2)(F3:Fun K "plan_by" "Planner.plan_by" Gp f3 fd3)
 (m1:Meth K C "plan_within" f1) (m2:Meth K C "search" f2) (m3:Meth K C "plan_by" f3) (b1:Binds K fd1 ["self","fitting","most"] []) (b2:Binds K fd2 ["self","fitting","most"] []) (b3:Binds K fd3 ["self","fitting","guess","most"] []):∀n:Nat,n<=16->FnOk P w K mg base fZ (3*n+4) f1 fd1 ["self","fitting","most"] (ux K P w C (av cs) (WPl cs) 2 (uy cs n))
 |0,_=>Mg T hc he F1 B (n:=0) (k:=3) (by decide) ⟨λvs H Q E h=>ox h,λA outer s H args us vs Q E hr he hb hv h=>by
  obtain⟨_,_,_,_,_,_,_,_,_,_,_,_,_,_,_,⟨_,_,_,_,_,z,_⟩,_⟩:=h;omega⟩ m2 b2
 |n+1,hn=>
  have ih:=Mh T hc he B Oparts_by_answer F1 F2 F3 m1 m2 m3 b1 b2 b3 n (by omega)
  have G3:=NX T hc he F3 B Oparts_by_answer ih (by omega) m1 b1
  have G2:=NW T hc he F2 B ih m1 b1 G3 m3 b3
  Mg T hc he F1 B (n:=n+1) hn G2 m2 b2
theorem B0 {CP fI fW:Addr}{fdI fdW:FuncData}(F:Fun K "shortest" "shortest" ia f fd)(B:Bt mg)(Ofound_or_clash:rm P w K mg base)(Osmall_game:zk P w K mg base)(Owhat_fits:BV P w K mg base)(Oall_codes:ug P w K mg base)(T_:PlC K CP)(M_:Mk K CP fI)(mP_:mg "Planner"=some (.ref CP))(GI_:FnOk P w K mg base fZ 1 fI fdI ["self","codes"] (Iu P w CP))(bI_:Binds K fdI ["self","codes"] [])(mW_:Meth K CP "plan_within" fW)(bW_:Binds K fdW ["self","fitting","most"] [])
 (GW_:∀cs,cs.length<=16->gf cs->FnOk P w K mg base fZ 52 fW fdW ["self","fitting","most"] (ux K P w CP (av cs) (WPl cs) 2 (uy cs 16))):FnOk P w K mg base fZ 53 f fd ["game","asks"] (cD K 2 cJ):=by
 refine F.ok dc (λvs H Q E h=>?_) (λcdv A outer s H vs Q E hr h=>?_)
 · obtain⟨_,ds,d,_,hl,_⟩:=h;exact hl
 · obtain⟨F2,ds,d,sF,hl,ar,e,q⟩:=h;obtain⟨g,a,f,u,rfl,e1,e2,c,e3,e4⟩:=BL e;obtain⟨cs,fit,N,rfl,rfl,ok,k_,rfl⟩:=rK e4;have k_:cs.length<=16/\gf cs:=⟨ok.few,k_⟩;have e5:L2.dL ["game","asks","fitting","planner","most"] vs=vs.map some++[none,none,none]:=by
    unfold L2.dL;rw [hl];rfl
   rw [e5];exact⟨_,(aI (ac (i:=2) dc.nd (aX Ofound_or_clash hr (aA (aX Owhat_fits hr (aA (pv 0) (aA (pv 1) aH))) aH))) (aI (dY (aX Osmall_game hr (aA (pv 0) aH))) (aI (ac (i:=3) dc.nd (HP M_ GI_ (hr.mono (by decide)) rfl mP_ bI_ .nil oM (aA (aX Oall_codes hr (aA (pv 0) aH)) aH))) (aI (ac (i:=4) dc.nd aO) (aI (EG PassesOwn.never (aq EM (lq (pv 3) T_.cl mW_ (GW_ cs k_.1 k_.2) (hr.mono (by decide)) bW_ .nil oM (aA (pv 2) (aA (pv 4) aH))) lA (az _)) (aM (wZ (i:=4) dc.nd rfl (by first|exact Or.inl rfl|exact Or.inr rfl) aO wa))) (aM (aZ (gA (aA (pv 4) (aA (lq (pv 3) T_.cl mW_ (GW_ cs k_.1 k_.2) (hr.mono (by decide)) bW_ .nil oM (aA (pv 2) (aA (pv 4) aH))) aH)))))))))),GR T_ (aV (aD (aV (aD (aE 0) (aD (aE 1) aL))) aL)) (aV (aD (aE 0) aL)) (aV (aD (aE 0) aL)) ok e1 e2 e3 rfl sF ar q⟩
theorem vP(F:Fun K "fewest_asks" "fewest_asks" e6 f fd)(B:Bt mg)(Oshortest:wV P w K mg base):FnOk P w K mg base fZ 54 f fd ["game","asks"] (cD K 2 cG):=
 bJ F j3 rfl rfl λcdv A outer s H E hr=>have hu:=hr.units
  ⟨_,(aM (aZ (ba (bc K) (aX Oshortest hr (aA (pv 0) (aA (pv 1) aH))) aO (λ_ _=>rfl)))),(ax (aU bn (aV (aD (aE 0) (aD (aE 1) aL))) aP))⟩
theorem Gq(F:Fun K "a_plan" "a_plan" mJ f fd)(B:Bt mg)(Oshortest:wV P w K mg base):FnOk P w K mg base fZ 54 f fd ["game","asks"] (cD K 2 gw):=
 bJ F uc rfl rfl λcdv A outer s H E hr=>have hu:=hr.units
  ⟨_,(aM (aZ (ba (bc K) (aX Oshortest hr (aA (pv 0) (aA (pv 1) aH))) aO (λ_ _=>rfl)))),(ax (aU bn (aV (aD (aE 0) (aD (aE 1) aL))) aP))⟩
theorem jt {C:Addr}(F:Fun K "found_or_clash" "found_or_clash" df f fd)(B:Bt mg)(gC_Clash:mg "Clash"=some (.ref C))(xC_Clash:PySem.W.excIn K C [.type "ValueError",.type "Exception",.type "BaseException",.type "object"] "ValueError.__new__"=true):FnOk P w K mg base (sq P w) 1 f fd ["found"] (oW K 1 C bh):=
 jM F jp rfl rfl λcdv A outer s H E hr=>have hu:=hr.units
  ⟨_,(aI (bu (ft (fL K (pv 0))) (aM (yB gC_Clash xC_Clash PySem.F.excBase_ValueError (aA AH aH))) eC) eC),(mC (CI (gH (fM (aE 0))) (yR (aD A4 aL)) CH))⟩
theorem qC {C:Addr}(F:Fun K "shortest" "shortest" ia f fd)(B:Bt mg)(Owhat_fits:Own P w K mg base 6 "what_fits" ["game","asks"] (cD K 2 bj))(OXfound_or_clash_Clash:OwnX P w K mg base 1 "found_or_clash" ["found"] (oW K 1 C bh)):FnOk P w K mg base (sq P w) 53 f fd ["game","asks"] (oW K 2 C bU):=
 jM F dc rfl rfl λcdv A outer s H E hr=>have hu:=hr.units
  ⟨_,(aI (ac (i:=2) dc.nd (gu OXfound_or_clash_Clash hr gh (aA (aX Owhat_fits hr (aA (pv 0) (aA (pv 1) aH))) aH))) eC),(mC (Kd (fF (aD (aV (aD (aE 0) (aD (aE 1) aL))) aL))))⟩
theorem lj {C:Addr}(F:Fun K "fewest_asks" "fewest_asks" e6 f fd)(B:Bt mg)(OXshortest_Clash:OwnX P w K mg base 53 "shortest" ["game","asks"] (oW K 2 C bU)):FnOk P w K mg base (sq P w) 54 f fd ["game","asks"] (oW K 2 C bT):=
 jM F j3 rfl rfl λcdv A outer s H E hr=>have hu:=hr.units
  ⟨_,(aM (aZ (ba (bc K) (gu OXshortest_Clash hr gh (aA (pv 0) (aA (pv 1) aH))) aO (λ_ _=>rfl)))),(lN (sI (fF (aD (aE 0) (aD (aE 1) aL)))))⟩
theorem rp {C:Addr}(F:Fun K "a_plan" "a_plan" mJ f fd)(B:Bt mg)(OXshortest_Clash:OwnX P w K mg base 53 "shortest" ["game","asks"] (oW K 2 C bU)):FnOk P w K mg base (sq P w) 54 f fd ["game","asks"] (oW K 2 C cR):=
 jM F uc rfl rfl λcdv A outer s H E hr=>have hu:=hr.units
  ⟨_,(aM (aZ (ba (bc K) (gu OXshortest_Clash hr gh (aA (pv 0) (aA (pv 1) aH))) aO (λ_ _=>rfl)))),(lN (sI (fF (aD (aE 0) (aD (aE 1) aL)))))⟩
theorem lm {C:Addr}(F:Fun K "small_game" "small_game" iD f fd)(B:Bt mg)(Ohow_many_codes:Own P w K mg base 1 "how_many_codes" ["places","colours"] (cD K 2 cL))(gC_TooBig:mg "TooBig"=some (.ref C))(xC_TooBig:PySem.W.excIn K C [.type "ValueError",.type "Exception",.type "BaseException",.type "object"] "ValueError.__new__"=true){tMOST_CODES_SEARCHED:Tok}(g_MOST_CODES_SEARCHED:mg "MOST_CODES_SEARCHED"=some (.int 16 tMOST_CODES_SEARCHED)):FnOk P w K mg base (sq P w) 2 f fd ["game"] (oW K 1 C cZ):=
 jM F qA rfl rfl λcdv A outer s H E hr=>have hu:=hr.units
  ⟨_,(aI (bu (aq EL (aX Ohow_many_codes hr (aA (ba (bc K) (pv 0) aO (λ_ _=>rfl)) (aA (ba (bc K) (pv 0) aO (λ_ _=>rfl)) aH))) (fj (v:=.int 16) rfl g_MOST_CODES_SEARCHED ⟨_,rfl⟩) (az _)) (aM (yB gC_TooBig xC_TooBig PySem.F.excBase_ValueError (aA AH aH))) eC) eC),(mC (CI (aw (aU Ew (aV (aD (aU bn (aE 0) aP) (aD (aU bn (aE 0) aP) aL))) aP)) (yR (aD A4 aL)) CH))⟩
theorem oB {C:Addr}(F:Fun K "shortest" "shortest" ia f fd)(B:Bt mg)(Ofound_or_clash:Own P w K mg base 1 "found_or_clash" ["found"] (cD K 1 bE))(Owhat_fits:Own P w K mg base 6 "what_fits" ["game","asks"] (cD K 2 bj))(OXsmall_game_TooBig:OwnX P w K mg base 2 "small_game" ["game"] (oW K 1 C cZ)):FnOk P w K mg base (sq P w) 53 f fd ["game","asks"] (oW K 2 C bo):=
 jM F dc rfl rfl λcdv A outer s H E hr=>have hu:=hr.units
  ⟨_,(aI (ac (i:=2) dc.nd (aX Ofound_or_clash hr (aA (aX Owhat_fits hr (aA (pv 0) (aA (pv 1) aH))) aH))) (aI (dY (gu OXsmall_game_TooBig hr gh (aA (pv 0) aH))) eC)),(xI (bq 2 (aV (aD (aV (aD (aE 0) (aD (aE 1) aL))) aL))) (mC (IG (fF (aD (aE 0) aL)))))⟩
theorem ky {C:Addr}(F:Fun K "fewest_asks" "fewest_asks" e6 f fd)(B:Bt mg)(OXshortest_TooBig:OwnX P w K mg base 53 "shortest" ["game","asks"] (oW K 2 C bo)):FnOk P w K mg base (sq P w) 54 f fd ["game","asks"] (oW K 2 C bz):=
 jM F j3 rfl rfl λcdv A outer s H E hr=>have hu:=hr.units
  ⟨_,(aM (aZ (ba (bc K) (gu OXshortest_TooBig hr gh (aA (pv 0) (aA (pv 1) aH))) aO (λ_ _=>rfl)))),(lN (sI (fF (aD (aE 0) (aD (aE 1) aL)))))⟩
theorem qr {C:Addr}(F:Fun K "a_plan" "a_plan" mJ f fd)(B:Bt mg)(OXshortest_TooBig:OwnX P w K mg base 53 "shortest" ["game","asks"] (oW K 2 C bo)):FnOk P w K mg base (sq P w) 54 f fd ["game","asks"] (oW K 2 C dO):=
 jM F uc rfl rfl λcdv A outer s H E hr=>have hu:=hr.units
  ⟨_,(aM (aZ (ba (bc K) (gu OXshortest_TooBig hr gh (aA (pv 0) (aA (pv 1) aH))) aO (λ_ _=>rfl)))),(lN (sI (fF (aD (aE 0) (aD (aE 1) aL)))))⟩
end
section
variable {P:Program} {w:World} {K:Fg} {mg:Str->Option Value} {base:Heap} {f:Addr} {fd:FuncData}
theorem AA {D AClash ATooBig:Addr}(F:Fun K "_law_told" "_law_told" kd f fd)(B:Bt mg)(Ofewest_asks:Own P w K mg base 54 "fewest_asks" ["game","asks"] (cD K 2 cG))(Oa_plan:Own P w K mg base 54 "a_plan" ["game","asks"] (cD K 2 gw))(OXfewest_asks_Clash:OwnX P w K mg base 54 "fewest_asks" ["game","asks"] (oW K 2 AClash bT))(OXa_plan_Clash:OwnX P w K mg base 54 "a_plan" ["game","asks"] (oW K 2 AClash cR))(OXfewest_asks_TooBig:OwnX P w K mg base 54 "fewest_asks" ["game","asks"] (oW K 2 ATooBig bz))(OXa_plan_TooBig:OwnX P w K mg base 54 "a_plan" ["game","asks"] (oW K 2 ATooBig dO))(gD_:mg "GuessError"=some (.ref D))(zV_:mg "ValueError"=none)(gy_Clash:mg "Clash"=some (.ref AClash))(gy_TooBig:mg "TooBig"=some (.ref ATooBig))(hex_Clash:PySem.W.exmOne K (.ref AClash) (.ref D)=some true)(xc_Clash:ExcCls K AClash)(k_Clash_Clash:PySem.W.kitOne K (.ref AClash) (.ref AClash)=some true)(k_Clash_TooBig:PySem.W.kitOne K (.ref AClash) (.ref ATooBig)=some false)(k_Clash_ValueError:PySem.W.kitOne K (.ref AClash) (.type "ValueError")=some true)(hex_TooBig:PySem.W.exmOne K (.ref ATooBig) (.ref D)=some true)(xc_TooBig:ExcCls K ATooBig)(k_TooBig_Clash:PySem.W.kitOne K (.ref ATooBig) (.ref AClash)=some false)(k_TooBig_TooBig:PySem.W.kitOne K (.ref ATooBig) (.ref ATooBig)=some true)(k_TooBig_ValueError:PySem.W.kitOne K (.ref ATooBig) (.type "ValueError")=some true):FnOk P w K mg base fZ 55 f fd ["_law_way","_law_game","_law_asks_here"] (cD K 3 bM):=by
 refine F.ok jV (λvs H Q E h=>?_) (λcdv A outer s H vs Q E hr h=>?_)
 · obtain⟨_,ds,d,_,hl,_⟩:=h;exact hl
 · obtain⟨F2,ds,d,sF,hl,ar,e,q⟩:=h;have hu:=hr.units;unfold bM at e;split at e
   · rename_i d2 c;cases e;exact⟨_,aM (A0 (i:=3) rfl rfl rfl jV.nd rfl rfl gD_ rfl (λpn E2 E hp=>(aI (bu (aq (dG K hu) (pv 0) aO (az _)) (aM (aZ (aX Ofewest_asks hr (aA (pv 1) (aA (pv 2) aH))))) bA) (aM (aZ (aX Oa_plan hr (aA (pv 1) (aA (pv 2) aH))))))) (λea pn=>eC)),GY (N:=["_law_way","_law_game","_law_asks_here","e"]) (i:=3) (aY (eB (aw (aU fD (aE 0) aP)) (ax (aV (aD (aE 1) (aD (aE 2) aL)))) bx) (ax (aV (aD (aE 1) (aD (aE 2) aL))))) sF ar c q⟩
   · rename_i nn;split at e
     · rename_i c;cases e;exact⟨_,aM (A0 (i:=3) rfl rfl rfl jV.nd rfl rfl gD_ rfl (λpn E2 E hp=>(tV (aI (bu (aq (dG K hu) (pv 0) aO (az _)) (aM (aZ (gu OXfewest_asks_Clash hr hp (aA (pv 1) (aA (pv 2) aH))))) eC) eC) (aI (bu (aq (dG K hu) (pv 0) aO (az _)) eC bA) (aM (aZ (gu OXa_plan_Clash hr hp (aA (pv 1) (aA (pv 2) aH)))))))) (λea pn=>aM (aZ (cw (aA (ai iY (by rfl) B.isinstance cV (aA (pv 3) (aA (fj (v:=.ref AClash) rfl gy_Clash rfl) aH))) (aA (ai iY (by rfl) B.isinstance cV (aA (pv 3) (aA (fj (v:=.ref ATooBig) rfl gy_TooBig rfl) aH))) (aA (ai iY (by rfl) B.isinstance cV (aA (pv 3) (aA (fq (v:=.ty "ValueError") rfl zV_ (by decide+kernel) rfl) aH))) aH))))))),wH (N:=["_law_way","_law_game","_law_asks_here","e"]) (i:=3) (ys:=[.ref AClash,.ref ATooBig,.ty "ValueError"]) (λE=>(vx (mC (CI (aw (aU fD (aE 0) aP)) (lN (fF (aD (aE 1) (aD (aE 2) aL)))) CH)) (xI (eB (aw (aU fD (aE 0) aP)) Fm bx) (lN (fF (aD (aE 1) (aD (aE 2) aL))))))) hex_Clash xc_Clash (.cons (Ans.cls k_Clash_Clash) (.cons (Ans.cls k_Clash_TooBig) (.cons (Ans.ty k_Clash_ValueError) .nil))) (by decide) (by decide) sF ar c q⟩
     split at e
     · rename_i c;cases e;exact⟨_,aM (A0 (i:=3) rfl rfl rfl jV.nd rfl rfl gD_ rfl (λpn E2 E hp=>(tV (aI (bu (aq (dG K hu) (pv 0) aO (az _)) (aM (aZ (gu OXfewest_asks_TooBig hr hp (aA (pv 1) (aA (pv 2) aH))))) eC) eC) (aI (bu (aq (dG K hu) (pv 0) aO (az _)) eC bA) (aM (aZ (gu OXa_plan_TooBig hr hp (aA (pv 1) (aA (pv 2) aH)))))))) (λea pn=>aM (aZ (cw (aA (ai iY (by rfl) B.isinstance cV (aA (pv 3) (aA (fj (v:=.ref AClash) rfl gy_Clash rfl) aH))) (aA (ai iY (by rfl) B.isinstance cV (aA (pv 3) (aA (fj (v:=.ref ATooBig) rfl gy_TooBig rfl) aH))) (aA (ai iY (by rfl) B.isinstance cV (aA (pv 3) (aA (fq (v:=.ty "ValueError") rfl zV_ (by decide+kernel) rfl) aH))) aH))))))),wH (N:=["_law_way","_law_game","_law_asks_here","e"]) (i:=3) (ys:=[.ref AClash,.ref ATooBig,.ty "ValueError"]) (λE=>(vx (mC (CI (aw (aU fD (aE 0) aP)) (lN (fF (aD (aE 1) (aD (aE 2) aL)))) CH)) (xI (eB (aw (aU fD (aE 0) aP)) Fm bx) (lN (fF (aD (aE 1) (aD (aE 2) aL))))))) hex_TooBig xc_TooBig (.cons (Ans.cls k_TooBig_Clash) (.cons (Ans.cls k_TooBig_TooBig) (.cons (Ans.ty k_TooBig_ValueError) .nil))) (by decide) (by decide) sF ar c q⟩
     · cases e
theorem xj(F:Fun K "_law_whole" "_law_whole" jW f fd)(B:Bt mg):FnOk P w K mg base fZ 1 f fd ["_law_found"] (cD K 1 iC):=
 bJ F xf rfl rfl λcdv A outer s H E hr=>have hu:=hr.units
  ⟨_,(aM (aZ (nE (ai (iQ K) (by rfl) B.isinstance cV (aA (pv 0) (aA (fq (v:=.ty "int") rfl B.int PyProof.Rows.boot_int rfl) aH))) (nB (wX (ai (iQ K) (by rfl) B.isinstance cV (aA (pv 0) (aA (fq (v:=.ty "bool") rfl B.bool PyProof.Rows.boot_bool rfl) aH)))))))),(ax (nQ (kC (aE 0)) (A5 (kC (aE 0)))))⟩
theorem xk(F:Fun K "_law_parts" "_law_parts" jX f fd)(B:Bt mg)(O_law_answer:ke P w K mg base):FnOk P w K mg base fZ 2 f fd ["_law_codes_here","_law_guess"] (cD K 2 dU):=
 bJ F iV rfl rfl λcdv A outer s H E hr=>have hu:=hr.units
  ⟨_,(aI (ac (i:=2) iV.nd yb) (aI (dm PassesOwn.never rfl (fA K (pv 0)) (bF (i:=3) iV.nd rfl (by first|exact Or.inl rfl|exact Or.inr rfl)) (aI (ac (i:=4) iV.nd (aX O_law_answer hr (aA (pv 3) (aA (pv 1) aH)))) (aI (bu (AI (DQ (sg hr) (pv 4) (pv 2))) (aM (IP (sg hr) (pv 2) (pv 4) (cw aH) (by rfl))) bA) (aM (dY (mX PySem.F.plainAttrs_list PySem.F.slot_list_append PySem.F.type_list_append fU (sH (sg hr) (pv 2) (pv 4) (λ_ _=>rfl)) (aA (pv 3) aH))))))) (aM (aZ (pv 2))))),(aY (CC 2) (aY (Fz 3 4 2 (fN (aE 0)) (aV (aD (aE 3) (aD (aE 1) aL)))) (tF 2 (ax (aE 2)))))⟩
theorem mz(F:Fun K "_law_deep" "_law_deep" jF f fd)(B:Bt mg)(O_law_parts:jY P w K mg base)(O_law_codes:iE P w K mg base)(m_:mg "_law_deep"=some (.ref f))(k_:PySem.W.keepIn K (.ref f)=true)(b_:Binds K fd ["_law_game","_law_codes_here","_law_plan"] []):∀n:Nat,FnOk P w K mg base fZ (n+3) f fd ["_law_game","_law_codes_here","_law_plan"] (cD K 3 (jS n))
 |0=>⟨λvs H Q E h=>by
  obtain⟨_,_,_,_,hl,_⟩:=h;exact hl,λA outer s H args us vs Q E hr he hb hv h=>by
  obtain⟨_,_,_,_,_,_,e,_⟩:=h;cases e⟩
 |n+1=>
  have O_law_deep:Own P w K mg base (n+3) "_law_deep" ["_law_game","_law_codes_here","_law_plan"] (cD K 3 (jS n)):=⟨⟨f,fd,mz F B O_law_parts O_law_codes m_ k_ b_ n,m_,k_,b_⟩⟩
  bJ F li rfl rfl λcdv A outer s H E hr=>have hu:=hr.units
   ⟨_,(aI (bu (PW.pt (Jv (aq (dG K hu) (ai (gM K) (by rfl) B.len PySem.boot_len (aA (pv 1) aH)) aO (az _)) (HF (aq (dG K hu) (pv 2) (ba (bc K) (pv 1) aO (λ_ _=>rfl)) (az _))))) (aM (aZ aO)) bA) (aI (bu (PW.pt (oG (ft (fL K (ai (iQ K) (by rfl) B.isinstance cV (aA (pv 2) (aA (fq (v:=.ty "tuple") rfl B.tuple PyProof.Rows.boot_tuple rfl) aH))))) (oG (aq (nL K hu) (ai (gM K) (by rfl) B.len PySem.boot_len (aA (pv 2) aH)) aO (az _)) (lB (aq (DH K hu) (ba (bc K) (pv 2) aO (λ_ _=>rfl)) (aX (hkn:=by omega) O_law_codes hr (aA (pv 0) aH)) (by rfl)))))) (aM (aZ (EI AM aO))) bA) (aI (ac (i:=3) li.nd (aX (hkn:=by omega) O_law_parts hr (aA (pv 1) (aA (ba (bc K) (pv 2) aO (λ_ _=>rfl)) aH)))) (aI (bu (PW.pt (oG (ft (fL K (ai (iQ K) (by rfl) B.isinstance cV (aA (ba (bc K) (pv 2) aO (λ_ _=>rfl)) (aA (fq (v:=.ty "tuple") rfl B.tuple PyProof.Rows.boot_tuple rfl) aH))))) (lB (aq (nL K hu) (gD ["_law_row"] [] (fA K (ba (bc K) (pv 2) aO (λ_ _=>rfl))) (λ_ _ _ _=>(bF (i:=0) (show List.Nodup (["_law_row"]:List Str)by decide+kernel) rfl (by first|exact Or.inl rfl|exact Or.inr rfl))) (λ_ _ _ _=>lr) (λ_ _ _ _=>(ba (bc K) (pv 0) aO (λ_ _=>rfl)))) (ai (tP rfl) (by rfl) B.sorted PyProof.Rows.boot_sorted (aA (pv 3) aH)) (az _))))) (aM (aZ (EI AM aO))) bA) (aI (Bg (i:=4) ["_law_row"] [("_law_game",0),("_law_parts_here",3)] li.nd rfl (by first|exact Or.inl rfl|exact Or.inr rfl) (fA K (ba (bc K) (pv 2) aO (λ_ _=>rfl))) (λ_ _ _ _=>(bF (i:=0) (show List.Nodup (["_law_row","_law_game","_law_parts_here"]:List Str)by decide+kernel) rfl (by first|exact Or.inl rfl|exact Or.inr rfl))) (λ_ _ _ _=>lr) (λ_ _ _ _=>(aX (hkn:=by omega) O_law_deep hr (aA (pv 1) (aA (sH (sg hr) (pv 2) (ba (bc K) (pv 0) aO (λ_ _=>rfl)) (λ_ _=>rfl)) (aA (ba (bc K) (pv 0) aO (λ_ _=>rfl)) aH)))))) (aI (bu (aq sU (ai (Kp K rfl hu) (by rfl) B.min PyProof.Rows.boot_min (aA (pv 4) aH)) aO (az _)) (aM (aZ (EI AM aO))) bA) (aM (aZ (cq (gK K) aO (ai (Kt K rfl hu) (by rfl) B.max PyProof.Rows.boot_max (aA (pv 4) aH))))))))))),(aY (eB (KZ (aw (aU fD (bi il (aD (aE 1) aL)) aP)) (aw (aU fD (aE 2) (aU bn (aE 1) aP)))) (ax aP) bx) (aY (eB (oQ (gH (fM (kC (aE 2)))) (oQ (aw (aU tJ (bi il (aD (aE 2) aL)) aP)) (aw (aU (MC true) (aU bn (aE 2) aP) (aV (aD (aE 0) aL)))))) (ax (Aa aP)) bx) (aY (bq 3 (aV (aD (aE 1) (aD (aU bn (aE 2) aP) aL)))) (aY (eB (oQ (gH (fM (kC (aU bn (aE 2) aP)))) (aw (aU tJ (cP (gJ (fN (aU bn (aE 2) aP)) (be 0) eJ qR (aU bn (aE 0) aP))) (bi Bz (aD (aE 3) aL))))) (ax (Aa aP)) bx) (aY (bq 4 (cP (gJ (fN (aU bn (aE 2) aP)) (be 0) eJ qR (aV (aD (aE 1) (aD (tZ (aE 2) (aU bn (aE 0) aP)) (aD (aU bn (aE 0) aP) aL))))))) (aY (eB (aw (aU tH (bi Ko (aD (aE 4) aL)) aP)) (ax (Aa aP)) bx) (ax (aU gL aP (bi Ks (aD (aE 4) aL))))))))))⟩
theorem AB(F:Fun K "_law_deep" "_law_deep" jF f fd)(B:Bt mg)(O_law_parts:jY P w K mg base)(O_law_codes:iE P w K mg base)(m_:mg "_law_deep"=some (.ref f))(k_:PySem.W.keepIn K (.ref f)=true)(b_:Binds K fd ["_law_game","_law_codes_here","_law_plan"] []):FnOk P w K mg base fZ 20 f fd ["_law_game","_law_codes_here","_law_plan"] (cD K 3 F_law_deep):=mz F B O_law_parts O_law_codes m_ k_ b_ 17
theorem qD(F:Fun K "_law_can" "_law_can" jq f fd)(B:Bt mg)(O_law_codes:iE P w K mg base)(O_law_parts:jY P w K mg base)(m_:mg "_law_can"=some (.ref f))(k_:PySem.W.keepIn K (.ref f)=true)(b_:Binds K fd ["_law_game","_law_codes_here","_law_turns","_law_known"] []):∀n:Nat,n<=16->FnOk P w K mg base fZ (n+4) f fd ["_law_game","_law_codes_here","_law_turns","_law_known"] (JG K P w n)
 |0,_=>by
  refine F.ok eQ (λvs H Q E h=>?_) (λcdv A outer s H vs Q E hr h=>?_)
  · obtain⟨_,_,_,_,_,_,_,_,_,_,rfl,_⟩:=h;rfl
  · have hu:=hr.units;obtain⟨cs,gm,ok,h⟩:=h;have e5:=wG ["_law_game","_law_codes_here","_law_turns","_law_known","_law_key","_law_guess","_law_parts_here","_law_bad","_law_one"] rfl h;rw [e5];exact⟨_,aI (bu (PW.pt (oG (aq sU (ai (gM K) (by rfl) B.len PySem.boot_len (aA (pv 1) aH)) aO (az _)) (lB (aq (dG K hu) (pv 2) aO (az _))))) (aM (aZ (iN sU (ai (gM K) (by rfl) B.len PySem.boot_len (aA (pv 1) aH)) aO (az _)))) bA) eC,Ix (oQ (aw (aU tH (bi il (aD (aE 1) aL)) aP)) (aw (aU fD (aE 2) aP))) (aU tH (bi il (aD (aE 1) aL)) aP) (Gb gm) (Gc gm) rfl h⟩
 |n+1,hn=>by
  have ih:=qD F B O_law_codes O_law_parts m_ k_ b_ n (by omega)
  refine F.ok eQ (λvs H Q E h=>?_) (λcdv A outer s H vs Q E hr h=>?_)
  · obtain⟨_,_,_,_,_,_,_,_,_,_,rfl,_⟩:=h;rfl
  · have hu:=hr.units;obtain⟨cs,gm,ok,h⟩:=h;have e5:=wG ["_law_game","_law_codes_here","_law_turns","_law_known","_law_key","_law_guess","_law_parts_here","_law_bad","_law_one"] rfl h;rw [e5];have Oc_:Own P w K mg base (n+4) "_law_can" ["_law_game","_law_codes_here","_law_turns","_law_known"] (LA K P w cs gm n):=⟨⟨f,fd,ih.imp λ_ _ _ _ z=>⟨cs,gm,ok,z⟩,m_,k_,b_⟩⟩;exact⟨_,(aI (bu (PW.pt (oG (aq sU (ai (gM K) (by rfl) B.len PySem.boot_len (aA (pv 1) aH)) aO (az _)) (lB (aq (dG K hu) (pv 2) aO (az _))))) (aM (aZ (iN sU (ai (gM K) (by rfl) B.len PySem.boot_len (aA (pv 1) aH)) aO (az _)))) bA) (aI (ac (i:=4) eQ.nd (gA (aA (j9 (oP K) (by rfl) B.tuple PyProof.Rows.boot_tuple (aA (pv 1) aH)) (aA (pv 2) aH)))) (aI (bu (AI (wC (LD hu) (pv 4) (pv 3))) (aI (xR (LD hu) (pv 3) (pv 4) j7) (aM (dm PassesOwn.never rfl (fA K (aX (hkn:=by omega) O_law_codes hr (aA (pv 0) aH))) (bF (i:=5) eQ.nd rfl (by first|exact Or.inl rfl|exact Or.inr rfl)) (aI (ac (i:=6) eQ.nd (aX (hkn:=by omega) O_law_parts hr (aA (pv 1) (aA (pv 5) aH)))) (aI (ac (i:=7) eQ.nd (iN sU (ai D4 (by rfl) B.len PySem.boot_len (aA (pv 6) aH)) aO (az _))) (aI (dm PassesOwn.never rfl (Ia (pv 6)) (bF (i:=8) eQ.nd rfl (by first|exact Or.inl rfl|exact Or.inr rfl)) (aM (ac (i:=7) eQ.nd (JR (pv 7) (nB (wX (aX (hkn:=by omega) Oc_ hr (aA (pv 0) (aA (sH (sg hr) (pv 6) (pv 8) (λ_ _=>rfl)) (aA (cq qI (pv 2) aO) (aA (pv 3) aH))))))))))) (aM (bu (ft (fL K (pv 7))) (aI (xR (LD hu) (pv 3) (pv 4) j7) (aM EC)) bA)))))))) bA) (aM (aZ (CQ (LD hu) (pv 3) (pv 4) (λ_ _=>rfl))))))),LB uB ok.few hn (oQ (aw (aU tH (bi il (aD (aE 1) aL)) aP)) (aw (aU fD (aE 2) aP))) (aU tH (bi il (aD (aE 1) aL)) aP) (gi (aD (bi ww (aD (aE 1) aL)) (aD (aE 2) aL))) (fN (aV (aD (aE 0) aL))) (aV (aD (aE 1) (aD (aE 5) aL))) (aU tH (Ir (aE 6)) aP) (Ib (aE 6)) (tZ (aE 6) (aE 8)) (aU qS (aE 2) aP) (gH (fM (aE 7))) (Gb gm) (Gc gm) (LJ gm) (LK ok) (LL ok) (LM ok) (LN ok) (LO ok) (LP gm) (LQ gm) rfl h⟩
theorem B1(F:Fun K "_law_can" "_law_can" jq f fd)(B:Bt mg)(O_law_codes:iE P w K mg base)(O_law_parts:jY P w K mg base)(m_:mg "_law_can"=some (.ref f))(k_:PySem.W.keepIn K (.ref f)=true)(b_:Binds K fd ["_law_game","_law_codes_here","_law_turns","_law_known"] []):FnOk P w K mg base fZ 20 f fd ["_law_game","_law_codes_here","_law_turns","_law_known"] (JG K P w 16):=qD F B O_law_codes O_law_parts m_ k_ b_ 16 (Q2 _)
theorem Mi(F:Fun K "law" "law" BQ f fd)(B:Bt mg)(O_law_small:zj P w K mg base)(O_law_left:BT P w K mg base)(O_law_told:BW P w K mg base)(O_law_asks:BS P w K mg base)(O_law_cell:nz P w K mg base)(O_law_whole:zm P w K mg base)(O_law_deep:BX P w K mg base)(O_law_can:Dm P w K mg base):FnOk P w K mg base fZ 56 f fd ["_law_script"] (cD K 1 xZ):=
 bJ F ud rfl rfl λcdv A outer s H E hr=>have hu:=hr.units
  ⟨_,(aI (ac (i:=1) ud.nd (aX O_law_small hr (aA (pv 0) (aA aO aH)))) (aI (ac (i:=2) ud.nd (EX (K5 K) (aX O_law_asks hr (aA (pv 0) (aA aO (aA (pv 1) aH)))) HR (HS aO))) (aI (ac (i:=3) ud.nd (aX O_law_left hr (aA (pv 1) (aA (pv 2) aH)))) (aI (bu (aq (dG K hu) (pv 3) (cw aH) (az _)) (aM (aZ (iN (dG K hu) (gD ["_law_way"] [("_law_game",1),("_law_asks_here",2)] (eU rfl B.range (aA aO aH)) (λ_ _ _ _=>(bF (i:=0) (show List.Nodup (["_law_way","_law_game","_law_asks_here"]:List Str)by decide+kernel) rfl (by first|exact Or.inl rfl|exact Or.inr rfl))) (λ_ _ _ _=>(oO (aq (nL K hu) (aX O_law_told hr (aA (pv 0) (aA (pv 1) (aA (pv 2) aH)))) (cw (aA j7 (aA j7 (aA j7 aH)))) (az _)))) (λ_ _ _ _=>(pv 0))) (cw aH) (az _)))) bA) (@tN _ _ _ _ _ (bu (aq (dG K hu) (cq w9 (aX O_law_cell hr (aA (pv 0) (aA aO aH))) aO) aO (az _)) (@tN _ _ _ _ _ (@DR _ K 1 _ _ _ _ _ _ _ _ [.tuple [.int 3,.int 3],.tuple [.int 2,.int 5],.tuple [.int 5,.int 2],.tuple [.int 3,.int 4]] (cq w9 (aX O_law_cell hr (aA (pv 0) (aA aO aH))) aO) ud.nd rfl (by first|exact Or.inl rfl|exact Or.inr rfl) (by rfl) (λ_ _=>rfl) (Or.inl rfl) rfl) (aM (aZ (iN (dG K hu) (gD ["_law_way"] [("_law_game",1)] (eU rfl B.range (aA aO aH)) (λ_ _ _ _=>(bF (i:=0) (show List.Nodup (["_law_way","_law_game"]:List Str)by decide+kernel) rfl (by first|exact Or.inl rfl|exact Or.inr rfl))) (λ_ _ _ _=>(oO (aq (nL K hu) (aX O_law_told hr (aA (pv 0) (aA (pv 1) (aA (cw aH) aH)))) (cw (aA j7 (aA j7 (aA j7 aH)))) (az _)))) (λ_ _ _ _=>(pv 0))) (cw aH) (az _))))) bA) (aI (ac (i:=4) ud.nd (aX O_law_told hr (aA aO (aA (pv 1) (aA (pv 2) aH))))) (aI (ac (i:=5) ud.nd (aX O_law_told hr (aA aO (aA (pv 1) (aA (pv 2) aH))))) (aI (bu (PW.pt (oG (ft (fL K (aX O_law_whole hr (aA (pv 4) aH)))) (lB (aq (nL K hu) (pv 4) (aX O_law_deep hr (aA (pv 1) (aA (pv 3) (aA (pv 5) aH)))) (az _))))) (aM (aZ j7)) bA) (aM (aZ (JR (iN (dG K hu) (pv 4) aO (az _)) (nB (wX (aX O_law_can hr (aA (pv 1) (aA (pv 3) (aA (cq qI (pv 4) aO) (aA CO aH)))))))))))))))))),(aY (bq 1 (aV (aD (aE 0) (aD aP aL)))) (aY (bq 2 (MA (cP (Hr (aD (aE 0) (aD aP (aD (aE 1) aL))))) Hv (Hw aP))) (aY (bq 3 (aV (aD (aE 1) (aD (aE 2) aL)))) (aY (eB (aw (aU fD (aE 3) (cP (dq aL)))) (ax (aU fD (cP (gJ (iP (aD aP aL)) (be 0) eJ (aw (aU tJ (aV (aD (aE 0) (aD (aE 1) (aD (aE 2) aL)))) (cP (dq (aD lI (aD lI (aD lI aL))))))) (aE 0))) (cP (dq aL)))) bx) (aY (eB (aw (aU fD (aU wu (aV (aD (aE 0) (aD aP aL))) aP) aP)) (aY (bq 1 (aU bn (cP (dq (@Bu _ [.tuple [.int 3,.int 3],.tuple [.int 2,.int 5],.tuple [.int 5,.int 2],.tuple [.int 3,.int 4]] (by rfl)))) (aU wu (aV (aD (aE 0) (aD aP aL))) aP))) (ax (aU fD (cP (gJ (iP (aD aP aL)) (be 0) eJ (aw (aU tJ (aV (aD (aE 0) (aD (aE 1) (aD (cP (dq aL)) aL)))) (cP (dq (aD lI (aD lI (aD lI aL))))))) (aE 0))) (cP (dq aL))))) bx) (aY (bq 4 (aV (aD aP (aD (aE 1) (aD (aE 2) aL))))) (aY (bq 5 (aV (aD aP (aD (aE 1) (aD (aE 2) aL))))) (aY (eB (oQ (gH (fM (aV (aD (aE 4) aL)))) (aw (aU tJ (aE 4) (aV (aD (aE 1) (aD (aE 3) (aD (aE 5) aL))))))) (ax lI) bx) (ax (Lr (aU fD (aE 4) aP) (A5 (LF (aE 1) (aE 3) (aU qS (aE 4) aP)))))))))))))⟩
end
theorem all_mk {l:PySem.W.OpenLaw}{w:World}{K:Fg}{h:Heap}{mg:Str->Option Value}{fa:Addr}(X:K.In h)(G:h.Ns mainGlobals mg)(hfa:mg "law"=some (.ref fa))
     {CP:Addr} {CClash:Addr} {CTooBig:Addr} {CGuessError:Addr}
 (z0:eI K "_law_mix" mH)
 (z1:eI K "_law_cell" kT)
 (z2:eI K "_law_small" jT)
 (z3:eI K "_law_code" kU)
 (z4:eI K "_law_answer" iU)
 (z5:eI K "_law_asks" kW)
 (z6:eI K "_law_codes" jU)
 (z7:eI K "_law_left" kX)
 (z8:eI K "answer_of" kY)
 (z9:eI K "parts_by_answer" eX)
 (z10:eI K "found_or_clash" df)
 (z11:eI K "is_pair" pj)
 (z12:eI K "is_number_within" eE)
 (z13:eI K "how_many_codes" fH)
 (z14:eI K "is_game" pq)
 (z15:eI K "checked_game" gz)
 (z16:eI K "is_code" pz)
 (z17:eI K "is_answer" kZ)
 (z18:eI K "is_ask" sP)
 (z19:eI K "checked_list" hJ)
 (z20:eI K "checked_asks" hU)
 (z21:eI K "fits_ask" mI)
 (z22:eI K "those_that_fit" fJ)
 (z23:eI K "all_codes" ka)
 (z24:eI K "what_fits" kc)
 (z25:eI K "small_game" iD)
 (z26:eI K "shortest" ia)
 (z27:eI K "fewest_asks" e6)
 (z28:eI K "a_plan" mJ)
 (z29:eI K "_law_told" kd)
 (z30:eI K "_law_whole" jW)
 (z31:eI K "_law_parts" jX)
 (z32:eI K "_law_deep" jF)
 (z33:eI K "_law_can" jq)
 (z34:eI K "law" BQ)
 {tMOST_PLACES:Tok} (gMOST_PLACES:PySem.W.nsIn K mainGlobals "MOST_PLACES"=some (some (.int 5 tMOST_PLACES)))
 {tMOST_COLOURS:Tok} (gMOST_COLOURS:PySem.W.nsIn K mainGlobals "MOST_COLOURS"=some (some (.int 8 tMOST_COLOURS)))
 {tMOST_CODES:Tok} (gMOST_CODES:PySem.W.nsIn K mainGlobals "MOST_CODES"=some (some (.int 300 tMOST_CODES)))
 {tMOST_ASKS:Tok} (gMOST_ASKS:PySem.W.nsIn K mainGlobals "MOST_ASKS"=some (some (.int 8 tMOST_ASKS)))
 {tMOST_CODES_SEARCHED:Tok} (gMOST_CODES_SEARCHED:PySem.W.nsIn K mainGlobals "MOST_CODES_SEARCHED"=some (some (.int 16 tMOST_CODES_SEARCHED)))
 (yPlanner:PySem.W.nsIn K mainGlobals "Planner"=some (some (.ref CP)))
 (y0:G5 K CP "__init__" "Planner.__init__" JL)
 (y1:G5 K CP "plan_within" "Planner.plan_within" Gn)
 (y2:G5 K CP "search" "Planner.search" Go)
 (y3:G5 K CP "plan_by" "Planner.plan_by" Gp)
 (pg:PySem.W.plainGet K CP Str.empty=true)
 (hdP:PySem.W.hasDictIn K CP=true)
 (po:PySem.W.plainOver K CP=true)
 (sa:PySem.W.findIn K (.ref CP) "__setattr__"=some (some (.builtin "object.__setattr__")))
 (mkP:PySem.W.makesIn K CP=true)
 (kcP:PySem.W.keepIn K (.ref CP)=true)
 (nCP:PySem.W.findIn K (.ref CP) "codes"=some none)
 (nFP:PySem.W.findIn K (.ref CP) "found"=some none)
 (yClash:PySem.W.nsIn K mainGlobals "Clash"=some (some (.ref CClash)))
 (yTooBig:PySem.W.nsIn K mainGlobals "TooBig"=some (some (.ref CTooBig)))
 (yGuessError:PySem.W.nsIn K mainGlobals "GuessError"=some (some (.ref CGuessError)))
 (xClash:PySem.W.excIn K CClash [.type "ValueError",.type "Exception",.type "BaseException",.type "object"] "ValueError.__new__"=true)
 (eClashGuessError:PySem.W.exmOne K (.ref CClash) (.ref CGuessError)=some true)
 (vClashClash:PySem.W.kitOne K (.ref CClash) (.ref CClash)=some true)
 (vClashTooBig:PySem.W.kitOne K (.ref CClash) (.ref CTooBig)=some false)
 (uClash:PySem.W.kitOne K (.ref CClash) (.type "ValueError")=some true)
 (q0Clash:PySem.W.findIn K (.ref CClash) "__getattribute__"=some (some (.builtin "BaseException.__getattribute__")))
 (q1Clash:PySem.W.findIn K (.ref CClash) "__getattr__"=some none)
 (q4Clash:PySem.W.mroIn K CClash (.type "BaseException")=some true)
 (q2Clash:PySem.W.findIn K (.ref CClash) "__class__"=some (some (.builtin "object.__class__")))
 (q3Clash:PySem.W.mroIn K CClash (.type "object")=some true)
 (xTooBig:PySem.W.excIn K CTooBig [.type "ValueError",.type "Exception",.type "BaseException",.type "object"] "ValueError.__new__"=true)
 (eTooBigGuessError:PySem.W.exmOne K (.ref CTooBig) (.ref CGuessError)=some true)
 (vTooBigClash:PySem.W.kitOne K (.ref CTooBig) (.ref CClash)=some false)
 (vTooBigTooBig:PySem.W.kitOne K (.ref CTooBig) (.ref CTooBig)=some true)
 (uTooBig:PySem.W.kitOne K (.ref CTooBig) (.type "ValueError")=some true)
 (q0TooBig:PySem.W.findIn K (.ref CTooBig) "__getattribute__"=some (some (.builtin "BaseException.__getattribute__")))
 (q1TooBig:PySem.W.findIn K (.ref CTooBig) "__getattr__"=some none)
 (q4TooBig:PySem.W.mroIn K CTooBig (.type "BaseException")=some true)
 (q2TooBig:PySem.W.findIn K (.ref CTooBig) "__class__"=some (some (.builtin "object.__class__")))
 (q3TooBig:PySem.W.mroIn K CTooBig (.type "object")=some true)
 (rc1:PySem.W.specialIn K (.builtin "object.__class__") "__get__"=some (some (.builtin "getset_descriptor.__get__")))
 (rc2:PySem.W.takesIn K (.builtin "object.__class__")=some true)
 (zValueError:PySem.W.nsIn K mainGlobals "ValueError"=some none)
 (zlen:PySem.W.nsIn K mainGlobals "len"=some none)
 (zisinstance:PySem.W.nsIn K mainGlobals "isinstance"=some none)
 (zrange:PySem.W.nsIn K mainGlobals "range"=some none)
 (zint:PySem.W.nsIn K mainGlobals "int"=some none)
 (zbool:PySem.W.nsIn K mainGlobals "bool"=some none)
 (ztuple:PySem.W.nsIn K mainGlobals "tuple"=some none)
 (zlist:PySem.W.nsIn K mainGlobals "list"=some none)
 (zall:PySem.W.nsIn K mainGlobals "all"=some none)
 (zenumerate:PySem.W.nsIn K mainGlobals "enumerate"=some none)
 (zzip:PySem.W.nsIn K mainGlobals "zip"=some none)
 (zsum:PySem.W.nsIn K mainGlobals "sum"=some none)
 (zsorted:PySem.W.nsIn K mainGlobals "sorted"=some none)
 (zmax:PySem.W.nsIn K mainGlobals "max"=some none)
 (zmin:PySem.W.nsIn K mainGlobals "min"=some none)
 (zset:PySem.W.nsIn K mainGlobals "set"=some none)
 (zstr:PySem.W.nsIn K mainGlobals "str"=some none)
:
 ∃fd:FuncData,(∀(s:Shared) (v:Value),BindsTo s fd ⟨[v],[]⟩ [("_law_script",v)])/\∀base:Heap,K.In base->base.Ns mainGlobals mg->BMdB base mg->FnOk l.prog w K mg base fZ 56 fa fd ["_law_script"] (cD K 1 xZ):=by
 obtain⟨f0,p0,o0,s0,q0,r0,t0,n0,u0,v0,a0,l0,c0,k0⟩:=z0;obtain⟨f1,p1,o1,s1,q1,r1,t1,n1,u1,v1,a1,l1,c1,k1⟩:=z1;obtain⟨f2,p2,o2,s2,q2,r2,t2,n2,u2,v2,a2,l2,c2,k2⟩:=z2;obtain⟨f3,p3,o3,s3,q3,r3,t3,n3,u3,v3,a3,l3,c3,k3⟩:=z3;obtain⟨f4,p4,o4,s4,q4,r4,t4,n4,u4,v4,a4,l4,c4,k4⟩:=z4;obtain⟨f5,p5,o5,s5,q5,r5,t5,n5,u5,v5,a5,l5,c5,k5⟩:=z5;obtain⟨f6,p6,o6,s6,q6,r6,t6,n6,u6,v6,a6,l6,c6,k6⟩:=z6;obtain⟨f7,p7,o7,s7,q7,r7,t7,n7,u7,v7,a7,l7,c7,k7⟩:=z7;obtain⟨f8,p8,o8,s8,q8,r8,t8,n8,u8,v8,a8,l8,c8,k8⟩:=z8;obtain⟨f9,p9,o9,s9,q9,r9,t9,n9,u9,v9,a9,l9,c9,k9⟩:=z9;obtain⟨f10,p10,o10,s10,q10,r10,t10,n10,u10,v10,a10,l10,c10,k10⟩:=z10;obtain⟨f11,p11,o11,s11,q11,r11,t11,n11,u11,v11,a11,l11,c11,k11⟩:=z11;obtain⟨f12,p12,o12,s12,q12,r12,t12,n12,u12,v12,a12,l12,c12,k12⟩:=z12;obtain⟨f13,p13,o13,s13,q13,r13,t13,n13,u13,v13,a13,l13,c13,k13⟩:=z13;obtain⟨f14,p14,o14,s14,q14,r14,t14,n14,u14,v14,a14,l14,c14,k14⟩:=z14;obtain⟨f15,p15,o15,s15,q15,r15,t15,n15,u15,v15,a15,l15,c15,k15⟩:=z15;obtain⟨f16,p16,o16,s16,q16,r16,t16,n16,u16,v16,a16,l16,c16,k16⟩:=z16;obtain⟨f17,p17,o17,s17,q17,r17,t17,n17,u17,v17,a17,l17,c17,k17⟩:=z17;obtain⟨f18,p18,o18,s18,q18,r18,t18,n18,u18,v18,a18,l18,c18,k18⟩:=z18;obtain⟨f19,p19,o19,s19,q19,r19,t19,n19,u19,v19,a19,l19,c19,k19⟩:=z19;obtain⟨f20,p20,o20,s20,q20,r20,t20,n20,u20,v20,a20,l20,c20,k20⟩:=z20;obtain⟨f21,p21,o21,s21,q21,r21,t21,n21,u21,v21,a21,l21,c21,k21⟩:=z21;obtain⟨f22,p22,o22,s22,q22,r22,t22,n22,u22,v22,a22,l22,c22,k22⟩:=z22;obtain⟨f23,p23,o23,s23,q23,r23,t23,n23,u23,v23,a23,l23,c23,k23⟩:=z23;obtain⟨f24,p24,o24,s24,q24,r24,t24,n24,u24,v24,a24,l24,c24,k24⟩:=z24;obtain⟨f25,p25,o25,s25,q25,r25,t25,n25,u25,v25,a25,l25,c25,k25⟩:=z25;obtain⟨f26,p26,o26,s26,q26,r26,t26,n26,u26,v26,a26,l26,c26,k26⟩:=z26;obtain⟨f27,p27,o27,s27,q27,r27,t27,n27,u27,v27,a27,l27,c27,k27⟩:=z27;obtain⟨f28,p28,o28,s28,q28,r28,t28,n28,u28,v28,a28,l28,c28,k28⟩:=z28;obtain⟨f29,p29,o29,s29,q29,r29,t29,n29,u29,v29,a29,l29,c29,k29⟩:=z29;obtain⟨f30,p30,o30,s30,q30,r30,t30,n30,u30,v30,a30,l30,c30,k30⟩:=z30;obtain⟨f31,p31,o31,s31,q31,r31,t31,n31,u31,v31,a31,l31,c31,k31⟩:=z31;obtain⟨f32,p32,o32,s32,q32,r32,t32,n32,u32,v32,a32,l32,c32,k32⟩:=z32;obtain⟨f33,p33,o33,s33,q33,r33,t33,n33,u33,v33,a33,l33,c33,k33⟩:=z33;obtain⟨f34,p34,o34,s34,q34,r34,t34,n34,u34,v34,a34,l34,c34,k34⟩:=z34;obtain⟨fM0,pM0,oM0,sM0,qM0,rM0,tM0,nM0,uM0,vM0,aM0,lM0,cM0,kM0,iM0⟩:=y0;obtain⟨fM1,pM1,oM1,sM1,qM1,rM1,tM1,nM1,uM1,vM1,aM1,lM1,cM1,kM1,iM1⟩:=y1;obtain⟨fM2,pM2,oM2,sM2,qM2,rM2,tM2,nM2,uM2,vM2,aM2,lM2,cM2,kM2,iM2⟩:=y2;obtain⟨fM3,pM3,oM3,sM3,qM3,rM3,tM3,nM3,uM3,vM3,aM3,lM3,cM3,kM3,iM3⟩:=y3;have e:=hfa.symm.trans (PySem.W.mg_of X G a34);cases e;have B:Bt mg:=⟨PySem.W.mg_none_of X G zlen,PySem.W.mg_none_of X G zisinstance,PySem.W.mg_none_of X G zrange,PySem.W.mg_none_of X G zint,PySem.W.mg_none_of X G zbool,PySem.W.mg_none_of X G ztuple,PySem.W.mg_none_of X G zlist,PySem.W.mg_none_of X G zall,PySem.W.mg_none_of X G zenumerate,PySem.W.mg_none_of X G zzip,PySem.W.mg_none_of X G zsum,PySem.W.mg_none_of X G zsorted,PySem.W.mg_none_of X G zmax,PySem.W.mg_none_of X G zmin,PySem.W.mg_none_of X G zset,PySem.W.mg_none_of X G zstr⟩;have F0_:=bI (st:=mH) l0 c0 k0;have F1_:=bI (st:=kT) l1 c1 k1;have F2_:=bI (st:=jT) l2 c2 k2;have F3_:=bI (st:=kU) l3 c3 k3;have F4_:=bI (st:=iU) l4 c4 k4;have F5_:=bI (st:=kW) l5 c5 k5;have F6_:=bI (st:=jU) l6 c6 k6;have F7_:=bI (st:=kX) l7 c7 k7;have F8_:=bI (st:=kY) l8 c8 k8;have F9_:=bI (st:=eX) l9 c9 k9;have F10_:=bI (st:=df) l10 c10 k10;have F11_:=bI (st:=pj) l11 c11 k11;have F12_:=bI (st:=eE) l12 c12 k12;have F13_:=bI (st:=fH) l13 c13 k13;have F14_:=bI (st:=pq) l14 c14 k14;have F15_:=bI (st:=gz) l15 c15 k15;have F16_:=bI (st:=pz) l16 c16 k16;have F17_:=bI (st:=kZ) l17 c17 k17;have F18_:=bI (st:=sP) l18 c18 k18;have F19_:=bI (st:=hJ) l19 c19 k19;have F20_:=bI (st:=hU) l20 c20 k20;have F21_:=bI (st:=mI) l21 c21 k21;have F22_:=bI (st:=fJ) l22 c22 k22;have F23_:=bI (st:=ka) l23 c23 k23;have F24_:=bI (st:=kc) l24 c24 k24;have F25_:=bI (st:=iD) l25 c25 k25;have F26_:=bI (st:=ia) l26 c26 k26;have F27_:=bI (st:=e6) l27 c27 k27;have F28_:=bI (st:=mJ) l28 c28 k28;have F29_:=bI (st:=kd) l29 c29 k29;have F30_:=bI (st:=jW) l30 c30 k30;have F31_:=bI (st:=jX) l31 c31 k31;have F32_:=bI (st:=jF) l32 c32 k32;have F33_:=bI (st:=jq) l33 c33 k33;have F34_:=bI (st:=BQ) l34 c34 k34;have FM0_:=bI (st:=JL) lM0 cM0 kM0;have bM0_:=FM0_.binds (ps:=["self","codes"]) λ_ _ _ _ _ _=>uw λ_ _=>rfl;have FM1_:=bI (st:=Gn) lM1 cM1 kM1;have bM1_:=FM1_.binds (ps:=["self","fitting","most"]) λ_ _ _ _ _ _=>Ie λ_ _ _=>rfl;have FM2_:=bI (st:=Go) lM2 cM2 kM2;have bM2_:=FM2_.binds (ps:=["self","fitting","most"]) λ_ _ _ _ _ _=>Ie λ_ _ _=>rfl;have FM3_:=bI (st:=Gp) lM3 cM3 kM3;have bM3_:=FM3_.binds (ps:=["self","fitting","guess","most"]) λ_ _ _ _ _ _=>N3 λ_ _ _ _=>rfl;have T_:PlC K CP:=⟨⟨pg,hdP,po,sa⟩,nCP,nFP⟩;have b0:=F0_.binds (ps:=["_law_cell_here","_law_prime","_law_many"]) λ_ _ _ _ _ _=>Ie λ_ _ _=>rfl;have b1:=F1_.binds (ps:=["_law_script","_law_k"]) λ_ _ _ _ _ _=>uw λ_ _=>rfl;have b2:=F2_.binds (ps:=["_law_script","_law_at"]) λ_ _ _ _ _ _=>uw λ_ _=>rfl;have b3:=F3_.binds (ps:=["_law_game","_law_cell_here"]) λ_ _ _ _ _ _=>uw λ_ _=>rfl;have b4:=F4_.binds (ps:=["_law_one","_law_other"]) λ_ _ _ _ _ _=>uw λ_ _=>rfl;have b5:=F5_.binds (ps:=["_law_script","_law_at","_law_game"]) λ_ _ _ _ _ _=>Ie λ_ _ _=>rfl;have b6:=F6_.binds (ps:=["_law_game"]) λ_ _ _ _ _ _=>Gw λ_=>rfl;have b7:=F7_.binds (ps:=["_law_game","_law_asks_here"]) λ_ _ _ _ _ _=>uw λ_ _=>rfl;have b8:=F8_.binds (ps:=["hidden","guess"]) λ_ _ _ _ _ _=>uw λ_ _=>rfl;have b9:=F9_.binds (ps:=["fitting","guess"]) λ_ _ _ _ _ _=>uw λ_ _=>rfl;have b10:=F10_.binds (ps:=["found"]) λ_ _ _ _ _ _=>Gw λ_=>rfl;have b11:=F11_.binds (ps:=["thing"]) λ_ _ _ _ _ _=>Gw λ_=>rfl;have b12:=F12_.binds (ps:=["thing","low","high"]) λ_ _ _ _ _ _=>Ie λ_ _ _=>rfl;have b13:=F13_.binds (ps:=["places","colours"]) λ_ _ _ _ _ _=>uw λ_ _=>rfl;have b14:=F14_.binds (ps:=["thing"]) λ_ _ _ _ _ _=>Gw λ_=>rfl;have b15:=F15_.binds (ps:=["game"]) λ_ _ _ _ _ _=>Gw λ_=>rfl;have b16:=F16_.binds (ps:=["game","thing"]) λ_ _ _ _ _ _=>uw λ_ _=>rfl;have b17:=F17_.binds (ps:=["game","thing"]) λ_ _ _ _ _ _=>uw λ_ _=>rfl;have b18:=F18_.binds (ps:=["game","thing"]) λ_ _ _ _ _ _=>uw λ_ _=>rfl;have b19:=F19_.binds (ps:=["game","things","is_one"]) λ_ _ _ _ _ _=>Ie λ_ _ _=>rfl;have b20:=F20_.binds (ps:=["game","asks"]) λ_ _ _ _ _ _=>uw λ_ _=>rfl;have b21:=F21_.binds (ps:=["code","ask"]) λ_ _ _ _ _ _=>uw λ_ _=>rfl;have b22:=F22_.binds (ps:=["codes","asks"]) λ_ _ _ _ _ _=>uw λ_ _=>rfl;have b23:=F23_.binds (ps:=["game"]) λ_ _ _ _ _ _=>Gw λ_=>rfl;have b24:=F24_.binds (ps:=["game","asks"]) λ_ _ _ _ _ _=>uw λ_ _=>rfl;have b25:=F25_.binds (ps:=["game"]) λ_ _ _ _ _ _=>Gw λ_=>rfl;have b26:=F26_.binds (ps:=["game","asks"]) λ_ _ _ _ _ _=>uw λ_ _=>rfl;have b27:=F27_.binds (ps:=["game","asks"]) λ_ _ _ _ _ _=>uw λ_ _=>rfl;have b28:=F28_.binds (ps:=["game","asks"]) λ_ _ _ _ _ _=>uw λ_ _=>rfl;have b29:=F29_.binds (ps:=["_law_way","_law_game","_law_asks_here"]) λ_ _ _ _ _ _=>Ie λ_ _ _=>rfl;have b30:=F30_.binds (ps:=["_law_found"]) λ_ _ _ _ _ _=>Gw λ_=>rfl;have b31:=F31_.binds (ps:=["_law_codes_here","_law_guess"]) λ_ _ _ _ _ _=>uw λ_ _=>rfl;have b32:=F32_.binds (ps:=["_law_game","_law_codes_here","_law_plan"]) λ_ _ _ _ _ _=>Ie λ_ _ _=>rfl;have b33:=F33_.binds (ps:=["_law_game","_law_codes_here","_law_turns","_law_known"]) λ_ _ _ _ _ _=>N3 λ_ _ _ _=>rfl;have b34:=F34_.binds (ps:=["_law_script"]) λ_ _ _ _ _ _=>Gw λ_=>rfl;refine⟨PySem.W.fnOf "law" "law" (iO BQ) (eV BQ) (aS BQ) .none q34 r34 t34 n34 u34 v34,λs v=>.of_eq rfl,λbase _ _ BM_=>?_⟩;have O0_:Own l.prog w K mg base 1 "_law_mix" ["_law_cell_here","_law_prime","_law_many"] (cD K 3 bg):=⟨⟨_,_,BY F0_ B,PySem.W.mg_of X G a0,k0,b0⟩⟩;have O1_:Own l.prog w K mg base 1 "_law_cell" ["_law_script","_law_k"] (cD K 2 bK):=⟨⟨_,_,zn F1_ B,PySem.W.mg_of X G a1,k1,b1⟩⟩;have O2_:Own l.prog w K mg base 2 "_law_small" ["_law_script","_law_at"] (cD K 2 eN):=⟨⟨_,_,xg F2_ B O0_ O1_,PySem.W.mg_of X G a2,k2,b2⟩⟩;have O3_:Own l.prog w K mg base 2 "_law_code" ["_law_game","_law_cell_here"] (cD K 2 d6):=⟨⟨_,_,zo F3_ B O0_,PySem.W.mg_of X G a3,k3,b3⟩⟩;have O4_:Own l.prog w K mg base 1 "_law_answer" ["_law_one","_law_other"] (cD K 2 bL):=⟨⟨_,_,vO F4_ B,PySem.W.mg_of X G a4,k4,b4⟩⟩;have O5_:Own l.prog w K mg base 3 "_law_asks" ["_law_script","_law_at","_law_game"] (Lu K 3 fP):=⟨⟨_,_,zp F5_ B O3_ O1_ O0_ O4_,PySem.W.mg_of X G a5,k5,b5⟩⟩;have O6_:Own l.prog w K mg base 1 "_law_codes" ["_law_game"] (cD K 1 ah):=⟨⟨_,_,xh F6_ B,PySem.W.mg_of X G a6,k6,b6⟩⟩;have O7_:Own l.prog w K mg base 2 "_law_left" ["_law_game","_law_asks_here"] (cD K 2 fQ):=⟨⟨_,_,zq F7_ B O6_ O4_,PySem.W.mg_of X G a7,k7,b7⟩⟩;have O8_:Own l.prog w K mg base 1 "answer_of" ["hidden","guess"] (cD K 2 d7):=⟨⟨_,_,zr F8_ B,PySem.W.mg_of X G a8,k8,b8⟩⟩;have O9_:Own l.prog w K mg base 2 "parts_by_answer" ["fitting","guess"] (cD K 2 cT):=⟨⟨_,_,qB F9_ B O8_,PySem.W.mg_of X G a9,k9,b9⟩⟩;have O10_:Own l.prog w K mg base 1 "found_or_clash" ["found"] (cD K 1 bE):=⟨⟨_,_,qm F10_ B,PySem.W.mg_of X G a10,k10,b10⟩⟩;have O11_:Own l.prog w K mg base 1 "is_pair" ["thing"] (cD K 1 fG):=⟨⟨_,_,Dn F11_ B,PySem.W.mg_of X G a11,k11,b11⟩⟩;have O12_:Own l.prog w K mg base 1 "is_number_within" ["thing","low","high"] (cD K 3 ak):=⟨⟨_,_,oA F12_ B,PySem.W.mg_of X G a12,k12,b12⟩⟩;have O13_:Own l.prog w K mg base 1 "how_many_codes" ["places","colours"] (cD K 2 cL):=⟨⟨_,_,qo F13_ B,PySem.W.mg_of X G a13,k13,b13⟩⟩;have O14_:Own l.prog w K mg base 2 "is_game" ["thing"] (cD K 1 pM):=⟨⟨_,_,Do F14_ B O11_ O13_ O12_ (PySem.W.mg_of X G gMOST_PLACES) (PySem.W.mg_of X G gMOST_COLOURS) (PySem.W.mg_of X G gMOST_CODES),PySem.W.mg_of X G a14,k14,b14⟩⟩;have O15_:Own l.prog w K mg base 3 "checked_game" ["game"] (cD K 1 dI):=⟨⟨_,_,uh F15_ B O14_,PySem.W.mg_of X G a15,k15,b15⟩⟩;have O16_:Own l.prog w K mg base 2 "is_code" ["game","thing"] (cD K 2 jm):=⟨⟨_,_,Dp F16_ B O12_,PySem.W.mg_of X G a16,k16,b16⟩⟩;have O17_:Own l.prog w K mg base 2 "is_answer" ["game","thing"] (cD K 2 gn):=⟨⟨_,_,zt F17_ B O11_ O12_,PySem.W.mg_of X G a17,k17,b17⟩⟩;have O18_:Own l.prog w K mg base 3 "is_ask" ["game","thing"] (cD K 2 jP):=⟨⟨_,_,zu F18_ B O11_ O16_ O17_,PySem.W.mg_of X G a18,k18,b18⟩⟩;have N18_:OwnN l.prog w K mg base 3 "is_ask" ["game","thing"] (cD K 2 jP):=⟨⟨_,_,zu F18_ B O11_ O16_ O17_,a18,k18,b18⟩⟩;have O19_:Own l.prog w K mg base 4 "checked_list" ["game","things","is_one"] (cD K 3 dh):=⟨⟨_,_,ui F19_ B N18_ (PySem.W.mg_of X G gMOST_ASKS),PySem.W.mg_of X G a19,k19,b19⟩⟩;have O20_:Own l.prog w K mg base 5 "checked_asks" ["game","asks"] (cD K 2 dj):=⟨⟨_,_,uj F20_ B O19_ (PySem.W.mg_of X G a18) a18,PySem.W.mg_of X G a20,k20,b20⟩⟩;have O21_:Own l.prog w K mg base 2 "fits_ask" ["code","ask"] (cD K 2 fV):=⟨⟨_,_,BZ F21_ B O8_,PySem.W.mg_of X G a21,k21,b21⟩⟩;have O22_:Own l.prog w K mg base 3 "those_that_fit" ["codes","asks"] (cD K 2 dD):=⟨⟨_,_,qp F22_ B O21_,PySem.W.mg_of X G a22,k22,b22⟩⟩;have O23_:Own l.prog w K mg base 4 "all_codes" ["game"] (cD K 1 d8):=⟨⟨_,_,zw F23_ B O15_,PySem.W.mg_of X G a23,k23,b23⟩⟩;have O24_:Own l.prog w K mg base 6 "what_fits" ["game","asks"] (cD K 2 bj):=⟨⟨_,_,zx F24_ B O15_ O20_ O22_ O23_,PySem.W.mg_of X G a24,k24,b24⟩⟩;have O25_:Own l.prog w K mg base 2 "small_game" ["game"] (cD K 1 eO):=⟨⟨_,_,xi F25_ B O13_ (PySem.W.mg_of X G gMOST_CODES_SEARCHED),PySem.W.mg_of X G a25,k25,b25⟩⟩;have M_:Mk K CP fM0:=⟨mkP,aM0,iM0,kcP⟩;have GI_:=NV (P:=l.prog) (w:=w) (mg:=mg) (base:=base) FM0_ T_;have bI_:=bM0_;have mW_:Meth K CP "plan_within" fM1:=⟨aM1,iM1,kM1⟩;have bW_:=bM1_;have GW_:=λ(cs:Cs) (z1:cs.length<=16) (z2:gf cs)=>Mh (P:=l.prog) (w:=w) (mg:=mg) (base:=base) T_ z1 z2 B O9_ FM1_ FM2_ FM3_ mW_ ⟨aM2,iM2,kM2⟩ ⟨aM3,iM3,kM3⟩ bM1_ bM2_ bM3_ 16 (Q2 _);have O26_:Own l.prog w K mg base 53 "shortest" ["game","asks"] (cD K 2 cJ):=⟨⟨_,_,B0 F26_ B O10_ O25_ O24_ O23_ T_ M_ (PySem.W.mg_of X G yPlanner) GI_ bI_ mW_ bW_ GW_,PySem.W.mg_of X G a26,k26,b26⟩⟩;have O27_:Own l.prog w K mg base 54 "fewest_asks" ["game","asks"] (cD K 2 cG):=⟨⟨_,_,vP F27_ B O26_,PySem.W.mg_of X G a27,k27,b27⟩⟩;have O28_:Own l.prog w K mg base 54 "a_plan" ["game","asks"] (cD K 2 gw):=⟨⟨_,_,Gq F28_ B O26_,PySem.W.mg_of X G a28,k28,b28⟩⟩;have OX10_Clash_:OwnX l.prog w K mg base 1 "found_or_clash" ["found"] (oW K 1 CClash bh):=⟨⟨_,_,jt F10_ B (PySem.W.mg_of X G yClash) xClash,PySem.W.mg_of X G a10,k10,b10⟩⟩;have OX26_Clash_:OwnX l.prog w K mg base 53 "shortest" ["game","asks"] (oW K 2 CClash bU):=⟨⟨_,_,qC F26_ B O24_ OX10_Clash_,PySem.W.mg_of X G a26,k26,b26⟩⟩;have OX27_Clash_:OwnX l.prog w K mg base 54 "fewest_asks" ["game","asks"] (oW K 2 CClash bT):=⟨⟨_,_,lj F27_ B OX26_Clash_,PySem.W.mg_of X G a27,k27,b27⟩⟩;have OX28_Clash_:OwnX l.prog w K mg base 54 "a_plan" ["game","asks"] (oW K 2 CClash cR):=⟨⟨_,_,rp F28_ B OX26_Clash_,PySem.W.mg_of X G a28,k28,b28⟩⟩;have OX25_TooBig_:OwnX l.prog w K mg base 2 "small_game" ["game"] (oW K 1 CTooBig cZ):=⟨⟨_,_,lm F25_ B O13_ (PySem.W.mg_of X G yTooBig) xTooBig (PySem.W.mg_of X G gMOST_CODES_SEARCHED),PySem.W.mg_of X G a25,k25,b25⟩⟩;have OX26_TooBig_:OwnX l.prog w K mg base 53 "shortest" ["game","asks"] (oW K 2 CTooBig bo):=⟨⟨_,_,oB F26_ B O10_ O24_ OX25_TooBig_,PySem.W.mg_of X G a26,k26,b26⟩⟩;have OX27_TooBig_:OwnX l.prog w K mg base 54 "fewest_asks" ["game","asks"] (oW K 2 CTooBig bz):=⟨⟨_,_,ky F27_ B OX26_TooBig_,PySem.W.mg_of X G a27,k27,b27⟩⟩;have OX28_TooBig_:OwnX l.prog w K mg base 54 "a_plan" ["game","asks"] (oW K 2 CTooBig dO):=⟨⟨_,_,qr F28_ B OX26_TooBig_,PySem.W.mg_of X G a28,k28,b28⟩⟩;have O29_:Own l.prog w K mg base 55 "_law_told" ["_law_way","_law_game","_law_asks_here"] (cD K 3 bM):=⟨⟨_,_,AA F29_ B O27_ O28_ OX27_Clash_ OX28_Clash_ OX27_TooBig_ OX28_TooBig_ (PySem.W.mg_of X G yGuessError) (PySem.W.mg_none_of X G zValueError) (PySem.W.mg_of X G yClash) (PySem.W.mg_of X G yTooBig) eClashGuessError ⟨q0Clash,q1Clash,q2Clash,rc1,rc2,q3Clash,q4Clash⟩ vClashClash vClashTooBig uClash eTooBigGuessError ⟨q0TooBig,q1TooBig,q2TooBig,rc1,rc2,q3TooBig,q4TooBig⟩ vTooBigClash vTooBigTooBig uTooBig,PySem.W.mg_of X G a29,k29,b29⟩⟩;have O30_:Own l.prog w K mg base 1 "_law_whole" ["_law_found"] (cD K 1 iC):=⟨⟨_,_,xj F30_ B,PySem.W.mg_of X G a30,k30,b30⟩⟩;have O31_:Own l.prog w K mg base 2 "_law_parts" ["_law_codes_here","_law_guess"] (cD K 2 dU):=⟨⟨_,_,xk F31_ B O4_,PySem.W.mg_of X G a31,k31,b31⟩⟩;have O32_:Own l.prog w K mg base 20 "_law_deep" ["_law_game","_law_codes_here","_law_plan"] (cD K 3 F_law_deep):=⟨⟨_,_,AB F32_ B O31_ O6_ (PySem.W.mg_of X G a32) k32 b32,PySem.W.mg_of X G a32,k32,b32⟩⟩;have O33_:Own l.prog w K mg base 20 "_law_can" ["_law_game","_law_codes_here","_law_turns","_law_known"] (JG K l.prog w 16):=⟨⟨_,_,B1 F33_ B O6_ O31_ (PySem.W.mg_of X G a33) k33 b33,PySem.W.mg_of X G a33,k33,b33⟩⟩;exact Mi F34_ B O2_ O7_ O29_ O5_ O1_ O30_ O32_ O33_
theorem walk {l:PySem.W.OpenLaw}{q:Program}{loose:List Str}{XP:(Str->Option Value)->Heap->Prop}{YP:World->Heap->Prop}{d:DefRec}{K:Params->Fg}(hn:l.most=some 63)(hdf:d.params.defaults=[])
 (hY:∀(w:World) (h:Heap),YP w h->(K w.params).In h/\Tabs (K w.params) h)
 (F : ∀ (w : World) (mg : Str -> Option Value) (fa : Addr) (h : Heap), (K w.params).In h -> h.Ns mainGlobals mg -> mg d.name = some (.ref fa) ->
  ∃fd:FuncData,(∀(s:Shared) (u:Value),BindsTo s fd ⟨[u],[]⟩ [("_law_script",u)])/\∀base:Heap,(K w.params).In base->base.Ns mainGlobals mg->BMdB base mg->FnOk l.prog w (K w.params) mg base fZ 56 fa fd ["_law_script"] (cD (K w.params) 1 xZ)):
 PySem.W.WalkO q loose XP YP l.row.toRowW d [] (λf vs=>PySem.call f vs):=
 DL.Fy (n:=63) (k:=56) (x:="_law_script") (CX:=λ_=>fZ) (sp:=λw=>cD (K w.params) 1 xZ) hn (by decide) hdf ⟨rfl,by decide,by decide⟩ hY F (λ_ _ a ns hl tb hS=>FH (law_true ns hl) hS tb) λ_ _ _ _ _ z=>z
end GX
open PySem PySem.W PyProof.Rows
noncomputable def PySem.W.Fast.tw7707641031845181833:Nat:=0
noncomputable def PySem.W.Fast.tw11813529436762556882:Nat:=0
noncomputable def PySem.W.Fast.tw15586424603646251400:Nat:=0
noncomputable def PySem.W.Fast.tw11320638975800922189:Nat:=0
noncomputable def PySem.W.Fast.tw14868016381968655317:Nat:=0
noncomputable def PySem.W.Fast.tw16266414516534142222:Nat:=0
noncomputable def PySem.W.Fast.tw4107179332911619539:Nat:=0
noncomputable def PySem.W.Fast.tw6908053742880853635:Nat:=0
noncomputable def PySem.W.Fast.tw10862014418235687465:Nat:=0
noncomputable def PySem.W.Fast.tw17537168507492177548:Nat:=0
noncomputable def PySem.W.Fast.tw4919378826167497044:Nat:=0
noncomputable def PySem.W.Fast.tw6403832683394893939:Nat:=0
noncomputable def PySem.W.Fast.tw10259456454498001630:Nat:=0
set_option maxRecDepth 100000 in
set_option maxHeartbeats 0 in
theorem PySem.Challenge.cw_guesscode_k11_plans_holds : PySem.Challenge.rw_guesscode_k11_plans.Holds := by
 w_on;o_law;k_head;(case hw=>w_witness2)
 k_fill
 refine GX.walk (l:=PySem.Challenge.rw_guesscode_k11_plans) rfl rfl (λw h Y=>by first|exact⟨PySem.W.km_in_of Y,DL.CK (PySem.W.km_tabs_of Y) (by kernel_rfl) (by decide) (by kernel_rfl)⟩|exact⟨PySem.W.kIn_of Y,DL.CK (ts:=[]) (λ_ h=>nomatch h) (by kernel_rfl) (by decide) (by kernel_rfl)⟩) ?F
 case F=>
  intro w mg fa h KX G hmg
  refine' GX.all_mk KX G hmg ?z0 ?z1 ?z2 ?z3 ?z4 ?z5 ?z6 ?z7 ?z8 ?z9 ?z10 ?z11 ?z12 ?z13 ?z14 ?z15 ?z16 ?z17 ?z18 ?z19 ?z20 ?z21 ?z22 ?z23 ?z24 ?z25 ?z26 ?z27 ?z28 ?z29 ?z30 ?z31 ?z32 ?z33 ?z34 ?gMOST_PLACES ?gMOST_COLOURS ?gMOST_CODES ?gMOST_ASKS ?gMOST_CODES_SEARCHED ?yPlanner ?y0 ?y1 ?y2 ?y3 ?pg ?hdP ?po ?sa ?mkP ?kcP ?nCP ?nFP ?yClash ?yTooBig ?yGuessError ?xClash ?eClashGuessError ?vClashClash ?vClashTooBig ?uClash ?q0Clash ?q1Clash ?q4Clash ?q2Clash ?q3Clash ?xTooBig ?eTooBigGuessError ?vTooBigClash ?vTooBigTooBig ?uTooBig ?q0TooBig ?q1TooBig ?q4TooBig ?q2TooBig ?q3TooBig ?rc1 ?rc2 ?zValueError ?zlen ?zisinstance ?zrange ?zint ?zbool ?ztuple ?zlist ?zall ?zenumerate ?zzip ?zsum ?zsorted ?zmax ?zmin ?zset ?zstr
  (case z0=>refine' DL.eM ?a ?l ?c ?k;(case a=>k_is);(case l=>k_is);(case c=>k_is);(case k=>k_is))
  (case z1=>refine' DL.eM ?a ?l ?c ?k;(case a=>k_is);(case l=>k_is);(case c=>k_is);(case k=>k_is))
  (case z2=>refine' DL.eM ?a ?l ?c ?k;(case a=>k_is);(case l=>k_is);(case c=>k_is);(case k=>k_is))
  (case z3=>refine' DL.eM ?a ?l ?c ?k;(case a=>k_is);(case l=>k_is);(case c=>k_is);(case k=>k_is))
  (case z4=>refine' DL.eM ?a ?l ?c ?k;(case a=>k_is);(case l=>k_is);(case c=>k_is);(case k=>k_is))
  (case z5=>refine' DL.eM ?a ?l ?c ?k;(case a=>k_is);(case l=>k_is);(case c=>k_is);(case k=>k_is))
  (case z6=>refine' DL.eM ?a ?l ?c ?k;(case a=>k_is);(case l=>k_is);(case c=>k_is);(case k=>k_is))
  (case z7=>refine' DL.eM ?a ?l ?c ?k;(case a=>k_is);(case l=>k_is);(case c=>k_is);(case k=>k_is))
  (case z8=>refine' DL.eM ?a ?l ?c ?k;(case a=>k_is);(case l=>k_is);(case c=>k_is);(case k=>k_is))
  (case z9=>refine' DL.eM ?a ?l ?c ?k;(case a=>k_is);(case l=>k_is);(case c=>k_is);(case k=>k_is))
  (case z10=>refine' DL.eM ?a ?l ?c ?k;(case a=>k_is);(case l=>k_is);(case c=>k_is);(case k=>k_is))
  (case z11=>refine' DL.eM ?a ?l ?c ?k;(case a=>k_is);(case l=>k_is);(case c=>k_is);(case k=>k_is))
  (case z12=>refine' DL.eM ?a ?l ?c ?k;(case a=>k_is);(case l=>k_is);(case c=>k_is);(case k=>k_is))
  (case z13=>refine' DL.eM ?a ?l ?c ?k;(case a=>k_is);(case l=>k_is);(case c=>k_is);(case k=>k_is))
  (case z14=>refine' DL.eM ?a ?l ?c ?k;(case a=>k_is);(case l=>k_is);(case c=>k_is);(case k=>k_is))
  (case z15=>refine' DL.eM ?a ?l ?c ?k;(case a=>k_is);(case l=>k_is);(case c=>k_is);(case k=>k_is))
  (case z16=>refine' DL.eM ?a ?l ?c ?k;(case a=>k_is);(case l=>k_is);(case c=>k_is);(case k=>k_is))
  (case z17=>refine' DL.eM ?a ?l ?c ?k;(case a=>k_is);(case l=>k_is);(case c=>k_is);(case k=>k_is))
  (case z18=>refine' DL.eM ?a ?l ?c ?k;(case a=>k_is);(case l=>k_is);(case c=>k_is);(case k=>k_is))
  (case z19=>refine' DL.eM ?a ?l ?c ?k;(case a=>k_is);(case l=>k_is);(case c=>k_is);(case k=>k_is))
  (case z20=>refine' DL.eM ?a ?l ?c ?k;(case a=>k_is);(case l=>k_is);(case c=>k_is);(case k=>k_is))
  (case z21=>refine' DL.eM ?a ?l ?c ?k;(case a=>k_is);(case l=>k_is);(case c=>k_is);(case k=>k_is))
  (case z22=>refine' DL.eM ?a ?l ?c ?k;(case a=>k_is);(case l=>k_is);(case c=>k_is);(case k=>k_is))
  (case z23=>refine' DL.eM ?a ?l ?c ?k;(case a=>k_is);(case l=>k_is);(case c=>k_is);(case k=>k_is))
  (case z24=>refine' DL.eM ?a ?l ?c ?k;(case a=>k_is);(case l=>k_is);(case c=>k_is);(case k=>k_is))
  (case z25=>refine' DL.eM ?a ?l ?c ?k;(case a=>k_is);(case l=>k_is);(case c=>k_is);(case k=>k_is))
  (case z26=>refine' DL.eM ?a ?l ?c ?k;(case a=>k_is);(case l=>k_is);(case c=>k_is);(case k=>k_is))
  (case z27=>refine' DL.eM ?a ?l ?c ?k;(case a=>k_is);(case l=>k_is);(case c=>k_is);(case k=>k_is))
  (case z28=>refine' DL.eM ?a ?l ?c ?k;(case a=>k_is);(case l=>k_is);(case c=>k_is);(case k=>k_is))
  (case z29=>refine' DL.eM ?a ?l ?c ?k;(case a=>k_is);(case l=>k_is);(case c=>k_is);(case k=>k_is))
  (case z30=>refine' DL.eM ?a ?l ?c ?k;(case a=>k_is);(case l=>k_is);(case c=>k_is);(case k=>k_is))
  (case z31=>refine' DL.eM ?a ?l ?c ?k;(case a=>k_is);(case l=>k_is);(case c=>k_is);(case k=>k_is))
  (case z32=>refine' DL.eM ?a ?l ?c ?k;(case a=>k_is);(case l=>k_is);(case c=>k_is);(case k=>k_is))
  (case z33=>refine' DL.eM ?a ?l ?c ?k;(case a=>k_is);(case l=>k_is);(case c=>k_is);(case k=>k_is))
  (case z34=>refine' DL.eM ?a ?l ?c ?k;(case a=>k_is);(case l=>k_is);(case c=>k_is);(case k=>k_is))
  (case gMOST_PLACES=>k_is)
  (case gMOST_COLOURS=>k_is)
  (case gMOST_CODES=>k_is)
  (case gMOST_ASKS=>k_is)
  (case gMOST_CODES_SEARCHED=>k_is)
  (case yPlanner=>k_is)
  (case y0=>refine' DL.JB ?a ?l ?c ?k ?i;(case a=>k_is);(case l=>k_is);(case c=>k_is);(case k=>k_is);(case i=>k_is))
  (case y1=>refine' DL.JB ?a ?l ?c ?k ?i;(case a=>k_is);(case l=>k_is);(case c=>k_is);(case k=>k_is);(case i=>k_is))
  (case y2=>refine' DL.JB ?a ?l ?c ?k ?i;(case a=>k_is);(case l=>k_is);(case c=>k_is);(case k=>k_is);(case i=>k_is))
  (case y3=>refine' DL.JB ?a ?l ?c ?k ?i;(case a=>k_is);(case l=>k_is);(case c=>k_is);(case k=>k_is);(case i=>k_is))
  (case pg=>k_is)
  (case hdP=>k_is)
  (case po=>k_is)
  (case sa=>k_is)
  (case mkP=>k_is)
  (case kcP=>k_is)
  (case nCP=>k_is)
  (case nFP=>k_is)
  (case yClash=>k_is)
  (case yTooBig=>k_is)
  (case yGuessError=>k_is)
  (case xClash=>k_exc)
  (case eClashGuessError=>kts_exm)
  (case vClashClash=>kit_is)
  (case vClashTooBig=>kit_is)
  (case uClash=>kit_is)
  (case q0Clash=>k_is)
  (case q1Clash=>k_is)
  (case q4Clash=>k_is)
  (case q2Clash=>k_is)
  (case q3Clash=>k_is)
  (case xTooBig=>k_exc)
  (case eTooBigGuessError=>kts_exm)
  (case vTooBigClash=>kit_is)
  (case vTooBigTooBig=>kit_is)
  (case uTooBig=>kit_is)
  (case q0TooBig=>k_is)
  (case q1TooBig=>k_is)
  (case q4TooBig=>k_is)
  (case q2TooBig=>k_is)
  (case q3TooBig=>k_is)
  (case rc1=>k_is)
  (case rc2=>k_is)
  (case zValueError=>k_is)
  (case zlen=>k_is)
  (case zisinstance=>k_is)
  (case zrange=>k_is)
  (case zint=>k_is)
  (case zbool=>k_is)
  (case ztuple=>k_is)
  (case zlist=>k_is)
  (case zall=>k_is)
  (case zenumerate=>k_is)
  (case zzip=>k_is)
  (case zsum=>k_is)
  (case zsorted=>k_is)
  (case zmax=>k_is)
  (case zmin=>k_is)
  (case zset=>k_is)
  (case zstr=>k_is)
