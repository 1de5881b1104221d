import PyProof.Rows.All
import Wide.All
import OpenK.AllK
import Wide.FinOn
import Lean
import PyProof.EqAt
import PyProof.EqKinds
import PyProof.TupleCall
import PySem.Challenge.RW_lightshares_k18_wheels_refused
set_option Elab.async false
set_option linter.all false
set_option maxRecDepth 100000
noncomputable section
def wAq:=@PySem.wpAny_bind
def wBq:=@PySem.wpAny_pure
def wCq:=@List.mem_cons_of_mem
def wDq:=@List.mem_cons_self
def wEq:=@PySem.Heap.get?_push_of_some
def wFq:=@Nat.lt_of_lt_of_le
def wGq:=@PySem.Heap.get?_push_size
def wHq:=@List.getElem?_eq_getElem
def wIq:=@List.size_toArray
namespace L2
open PySem PySem.Spec PyProof.Rows
noncomputable abbrev Key:=Sum Int Str
noncomputable def uU:Key→Value→Bool
 | .inl k,v=>Value.isInt k v
 | .inr x,v=>Value.isStrOf x v
noncomputable def aMB (w:World):Key→Int
 | .inl k=>hashInt k
 | .inr x=>hashStr w x
theorem bN:∀ {k:Key} {v:Value},uU k v=true→(∃ i t,k=Sum.inl i∧v=Value.int i t)∨(∃ x t,k=Sum.inr x∧v=Value.str x t)
 | .inl i,v,h=>by
   obtain ⟨t,e⟩:=Value.isInt_shape (k:=i) (v:=v) h;exact .inl ⟨i,t,rfl,e⟩
 | .inr x,v,h=>by
   obtain ⟨t,e⟩:=Value.isStrOf_shape (x:=x) (v:=v) h;exact .inr ⟨x,t,rfl,e⟩
theorem RC (i:Int) (t:Tok):uU (.inl i) (.int i t)=true:=by simp [uU,Value.isInt]
theorem RA (x:Str) (t:Tok):uU (.inr x) (.str x t)=true:=by simp [uU,Value.isStrOf]
theorem aHs (a b:Int):decide ((Sum.inl a:Key)=Sum.inl b)=(a == b):=by
 by_cases e:a=b
 · subst e; simp
 · have h:¬(Sum.inl a:Key)=Sum.inl b:=fun q=>e (Sum.inl.inj q);rw [decide_eq_false h];exact (beq_eq_false_iff_ne.mpr e).symm
theorem aFO (a b:Str):decide ((Sum.inr a:Key)=Sum.inr b)=decide (a=b):=by
 by_cases e:a=b
 · subst e; simp
 · have h:¬(Sum.inr a:Key)=Sum.inr b:=fun q=>e (Sum.inr.inj q);rw [decide_eq_false h,decide_eq_false e]
theorem aFT (a:Int) (b:Str):decide ((Sum.inl a:Key)=Sum.inr b)=false:=decide_eq_false (fun q=>nomatch q)
theorem aGl (a:Str) (b:Int):decide ((Sum.inr a:Key)=Sum.inl b)=false:=decide_eq_false (fun q=>nomatch q)
noncomputable def bR (prog:Program) (w:World):PySem.KeyKind prog w Key where
 is:=uU
 hash:=aMB w
 inj :=fun v a b ha hb=>by
   rcases bN ha with ⟨i,t,rfl,rfl⟩ | ⟨x,t,rfl,rfl⟩
   · rcases bN hb with ⟨j,u,rfl,e⟩ | ⟨y,u,rfl,e⟩
     · injection e with e1 _; rw [e1]
     · exact nomatch e
   · rcases bN hb with ⟨j,u,rfl,e⟩ | ⟨y,u,rfl,e⟩
     · exact nomatch e
     · injection e with e1 _; rw [e1]
 byValue:=fun k v h=>by
   rcases bN h with ⟨i,t,rfl,rfl⟩ | ⟨x,t,rfl,rfl⟩ <;> rfl
 pyHash:=fun hv h=>by
   rcases bN hv with ⟨i,t,rfl,rfl⟩ | ⟨x,t,rfl,rfl⟩
   · exact wpAny_pyHash_int h
   · exact wpAny_pyHash_str h
 eqBool:=fun hu hv h=>by
   rcases bN hu with ⟨i,t,rfl,rfl⟩ | ⟨x,t,rfl,rfl⟩
   · rcases bN hv with ⟨j,u,rfl,rfl⟩ | ⟨y,u,rfl,rfl⟩
     · rw [aHs] at h; exact wpAny_eqBool_int h
     · rw [aFT] at h; exact SeqAt.EqAt.int_str i t y u _ _ _ _ h
   · rcases bN hv with ⟨j,u,rfl,rfl⟩ | ⟨y,u,rfl,rfl⟩
     · rw [aGl] at h; exact SeqAt.EqAt.str_int x t j u _ _ _ _ h
     · rw [aFO] at h; exact wpAny_eqBool_str h
 «strs» :=fun k x t v h=>by
   rcases bN h with ⟨i,u,rfl,e⟩ | ⟨y,u,rfl,e⟩
   · exact nomatch e
   · injection e with e1 _;subst e1;cases v <;> rfl
theorem aHL (prog:Program) (w:World) (k:Key) (v:Value):(bR prog w).is k v=uU k v:=rfl
theorem FW (prog:Program) (w:World) (i:Int) (t:Tok):(bR prog w).is (.inl i) (.int i t)=true:=RC i t
theorem GY (prog:Program) (w:World) (x:Str) (t:Tok):(bR prog w).is (.inr x) (.str x t)=true:=RA x t
inductive V where
 | non | bl (b:Bool) | int (i:Int) | str (x:Str) | byt (b:Array UInt8) | flt (b:UInt64) | ref (a:Addr) | ty (n:String)
 deriving DecidableEq
noncomputable def aO:V→Value→Prop
 | .non,u=>u=Value.none
 | .bl b,u=>u=Value.bool b
 | .int i,u=>∃ t,u=Value.int i t
 | .str x,u=>∃ t,u=Value.str x t
 | .byt b,u=>∃ t,u=Value.bytes b t
 | .flt b,u=>∃ t,u=Value.float b t
 | .ref a,u=>u=Value.ref a
 | .ty n,u=>u=Value.type n
noncomputable abbrev aM:List V→List Value→Prop:=Paired aO
theorem aM.length {xs:List V} {us:List Value} (r:aM xs us):xs.length=us.length:=Paired.length r
theorem aM.get:∀ {xs:List V} {us:List Value} {i:Nat} {x:V},aM xs us→xs[i]? =some x→∃ u,us[i]? =some u∧aO x u
 | _,_,_,_,.nil,e=>by simp at e
 | _,_,0,_,.cons r _,e=>by simp at e; subst e; exact ⟨_,rfl,r⟩
 | _,_,i + 1,x,.cons _ t,e=>by
   obtain ⟨u,h1,h2⟩:=aM.get (i:=i) (x:=x) t (by simpa using e);exact ⟨u,by simpa using h1,h2⟩
theorem aM.set {x:V} {u:Value} (r:aO x u):∀ {xs:List V} {us:List Value} (i:Nat),aM xs us→aM (xs.set i x) (us.set i u)
 | _,_,_,.nil=>.nil
 | _,_,0,.cons _ t=>.cons r t
 | _,_,i + 1,.cons q t=>.cons q (aM.set r i t)
theorem aM.append:∀ {xs ys:List V} {us ws:List Value},aM xs us→aM ys ws→aM (xs ++ ys) (us ++ ws)
 | _,_,_,_,.nil,s=>s
 | _,_,_,_,.cons r t,s=>.cons r (aM.append t s)
theorem aM.take:∀ {xs:List V} {us:List Value} (n:Nat),aM xs us→aM (xs.take n) (us.take n)
 | _,_,0,_=>.nil
 | _,_,_ + 1,.nil=>.nil
 | _,_,n + 1,.cons r t=>.cons r (aM.take n t)
theorem aM.drop:∀ {xs:List V} {us:List Value} (n:Nat),aM xs us→aM (xs.drop n) (us.drop n)
 | _,_,0,r=>r
 | _,_,_ + 1,.nil=>.nil
 | _,_,n + 1,.cons _ t=>aM.drop n t
noncomputable def pB:Option V→Option Value→Prop
 | some v,some u=>aO v u
 | none,none=>True
 | _,_=>False
noncomputable def KV {κ:Type}:List (κ×V)→List (κ×Value)→Prop:=Paired fun (p:κ×V) (q:κ×Value)=>p.1=q.1∧aO p.2 q.2
noncomputable def kV:Key→V
 | .inl i=>.int i
 | .inr x=>.str x
inductive HO where
 | lst (xs:List V)
 | tup (xs:List V)
 | dK (kvs:List (Key×V)) | dT (kvs:List (List Key×V))
 | set (S:Int→Bool) (n:Nat)
 | ins (C dx:Addr) (fs:List (Str×V))
 | own (x:Addr)
 | xd (fs:List (Str×V))
 | met (f x:Addr)
 | rng (lo hi:Int)
 | frz (o:Obj) (u:HO)
 | tbl (ps:Array Value)
 | ext (φ:Heap→Prop)
noncomputable abbrev Hp:=Addr→Option HO
noncomputable def upd (H:Hp) (a:Addr) (o:HO):Hp:=fun b=>if b=a then some o else H b
theorem aI {H:Hp} {a:Addr} {o:HO}:upd H a o a=some o:=by unfold upd; rw [if_pos rfl]
theorem aD {H:Hp} {a b:Addr} {o:HO} (h:b≠a):upd H a o b=H b:=by unfold upd; rw [if_neg h]
theorem WF {H:Hp} {a b:Addr} {o u:HO} (h:H a=some o) (h':H b=some u) (d:o≠u):a≠b:=by
 intro e; subst e; rw [h] at h'; exact d (Option.some.inj h')
theorem aH {H:Hp} {a b:Addr} {o:HO} (h:H a=some o) (h':H b=none):a≠b:=by
 intro e; subst e; rw [h] at h'; cases h'
def gF (h:Heap) (a:Addr) (items:Array Value):Prop:=IsTup h a items∧∀ o,h.get? a=some o→o.dict=none
theorem gF.new (h:Heap) (items:Array Value):gF (h.push { cls:=.type "tuple",data:=.seq items }) h.objs.size items:=⟨IsTup.new h items,fun o e=>by rw [wGq _ rfl] at e; cases e; rfl⟩
section
variable (P:Program) (w:World)
noncomputable def bE (H:Hp) (h:Heap) (a:Addr):HO→Prop
 | .lst xs=>xs.length≤sizeLine∧∃ (its:List Value) (n:Nat),aM xs its∧h.get? a=some { cls:=.type "list",data:=.seq its.toArray n }
 | .tup xs=>xs.length≤sizeLine∧∃ its:List Value,aM xs its∧gF h a its.toArray
 | .dK kvs=>kvs.length≤sizeLine∧(a == sysModules)=false∧∃ vs,KV kvs vs∧h.DictOf (bR P w) a vs
 | .dT kvs=>kvs.length≤sizeLine∧(a == sysModules)=false∧∃ xs:List (List Key×Addr×Value),
     Paired (fun (p:List Key×V) (q:List Key×Addr×Value)=>p.1=q.1∧H q.2.1=some (.tup (p.1.map kV))∧aO p.2 q.2.2) kvs xs∧
     ∃ o es ep,h.get? a=some o∧o.ExactDict∧o.data= .dict es ep∧es.toList=xs.map (entryOfKey (tupleKind (bR P w)))∧(xs.map (·.1)).Nodup
 | .set S n=>h.SetOf (intKind P w) a S n
 | .ins C dx fs=>H dx=some (.own a)∧fs.length≤1000∧dx≠a∧h.get? a=some (W.instObj C dx)∧
     ∃ mA,h.Ns1 dx mA∧(∀ f,pB (fs.lookup f) (mA f))∧PySem.Within mA (fs.map (·.1))
 | .own _=>∃ o,h.get? a=some o
 | .xd fs=>∃ mA,h.Ns1 a mA∧∀ f,pB (fs.lookup f) (mA f)
 | .rng lo hi=>∃ t u v,h.get? a=some { cls:=.type "range",data:=.fields #[.int lo t,.int hi u,.int 1 v] }
 | .frz o u=>h.get? a=some o∧bE H h a u
 | .tbl ps=>h.get? a=some { cls:=.none,data:=.fields ps }
 | .met f x=>h.get? a=some (W.methodObj (.ref f) (.ref x))
 | .ext φ=>φ h∧(∃ o,h.get? a=some o)∧∀ h1 h2:Heap,φ h1→(∀ o,h1.get? a=some o→h2.get? a=some o)→φ h2
def HOk (H:Hp) (h:Heap):Prop:= ∀ a o,H a=some o→bE P w H h a o
end
section
variable {P:Program} {w:World} {H H':Hp} {h h':Heap} {a:Addr} {o:HO}
theorem bE.lt (x:bE P w H h a o):a < h.objs.size:=by
 cases o with
 | lst xs=>obtain ⟨_,_,_,_,e⟩:=x; exact Heap.lt_size e
 | tup xs=>obtain ⟨_,_,_,p⟩:=x; exact p.1.lt
 | dK kvs=>obtain ⟨_,_,_,_,o,_,_,e,_⟩:=x; exact Heap.lt_size e
 | dT kvs=>obtain ⟨_,_,_,_,o,_,_,e,_⟩:=x; exact Heap.lt_size e
 | set S n=>obtain ⟨o,_,_,_,e,_⟩:=x; exact Heap.lt_size e
 | ins C dx fs=>obtain ⟨_,_,_,e,_⟩:=x; exact Heap.lt_size e
 | own y=>obtain ⟨_,e⟩:=x; exact Heap.lt_size e
 | xd fs=>obtain ⟨_,⟨_,_,_,e,_⟩,_⟩:=x; exact Heap.lt_size e
 | rng lo hi=>obtain ⟨_,_,_,e⟩:=x; exact Heap.lt_size e
 | frz ob u=>obtain ⟨e,_⟩:=x; exact Heap.lt_size e
 | tbl ps=>exact Heap.lt_size (show h.get? a=some _ from x)
 | met f y=>exact Heap.lt_size (show h.get? a=some _ from x)
 | ext φ=>obtain ⟨_,⟨_,e⟩,_⟩:=x; exact Heap.lt_size e
theorem Paired.mapP {α β:Type} {F G:α→β→Prop}:∀ {l₁:List α} {l₂:List β},Paired F l₁ l₂→(∀ a b,F a b→G a b)→Paired G l₁ l₂
 | _,_,.nil,_=>.nil
 | _,_,.cons r t,f=>.cons (f _ _ r) (Paired.mapP t f)
theorem bE.stay (x:bE P w H h a o) (k:∀ b u,(b=a∨H b=some (.own a))→h.get? b=some u→h'.get? b=some u)
   (ho:∀ b,H b=some (.own a)→H' b=some (.own a)) (ht:∀ b xs,H b=some (.tup xs)→H' b=some (.tup xs)):bE P w H' h' a o:=by
 induction o with
 | lst xs=>obtain ⟨z,its,n,r,e⟩:=x; exact ⟨z,its,n,r,k _ _ (.inl rfl) e⟩
 | tup xs=>obtain ⟨z,its,r,⟨ob,e,c⟩,dn⟩:=x; exact ⟨z,its,r,⟨ob,k _ _ (.inl rfl) e,c⟩,fun o q=>by rw [k _ _ (.inl rfl) e] at q; cases q; exact dn _ e⟩
 | dK kvs=>obtain ⟨z,y,vs,r,ob,es,ep,e,c⟩:=x; exact ⟨z,y,vs,r,ob,es,ep,k _ _ (.inl rfl) e,c⟩
 | dT kvs =>
   obtain ⟨z,y,xs,r,ob,es,ep,e,c⟩:=x;exact ⟨z,y,xs,Paired.mapP r fun p q z=>⟨z.1,ht _ _ z.2.1,z.2.2⟩,ob,es,ep,k _ _ (.inl rfl) e,c⟩
 | set S n=>obtain ⟨ob,es,ep,t,e,c⟩:=x; exact ⟨ob,es,ep,t,k _ _ (.inl rfl) e,c⟩
 | ins C dx fs =>
   obtain ⟨d,z,ne,e,mA,⟨od,es,ep,e2,c⟩,r⟩:=x;exact ⟨ho _ d,z,ne,k _ _ (.inl rfl) e,mA,⟨od,es,ep,k _ _ (.inr d) e2,c⟩,r⟩
 | own y=>obtain ⟨ob,e⟩:=x; exact ⟨ob,k _ _ (.inl rfl) e⟩
 | xd fs=>obtain ⟨mA,⟨od,es,ep,e,c⟩,r⟩:=x; exact ⟨mA,⟨od,es,ep,k _ _ (.inl rfl) e,c⟩,r⟩
 | rng lo hi=>obtain ⟨t,u,v,e⟩:=x; exact ⟨t,u,v,k _ _ (.inl rfl) e⟩
 | frz ob u ih=>obtain ⟨e,q⟩:=x; exact ⟨k _ _ (.inl rfl) e,ih q⟩
 | tbl ps =>
   have e:h.get? a=some { cls:=.none,data:=.fields ps }:=x;show h'.get? a=some { cls:=.none,data:=.fields ps };exact k a _ (.inl rfl) e
 | met f y =>
   have e:h.get? a=some (W.methodObj (.ref f) (.ref y)):=x;show h'.get? a=some (W.methodObj (.ref f) (.ref y));exact k a _ (.inl rfl) e
 | ext φ=>obtain ⟨p,⟨o,e⟩,st⟩:=x; exact ⟨st _ _ p fun o q=>k _ _ (.inl rfl) q,⟨o,k _ _ (.inl rfl) e⟩,st⟩
theorem HOk.lt (x:HOk P w H h) (e:H a=some o):a < h.objs.size:=(x a o e).lt
theorem HOk.fresh (x:HOk P w H h) (e:h.objs.size≤a):H a=none:=by
 cases q:H a with
 | none=>rfl
 | some u=>exact absurd (wFq (x.lt q) e) (Nat.lt_irrefl _)
theorem HOk.kept (x:HOk P w H h) (k:∀ b u,h.get? b=some u→h'.get? b=some u):HOk P w H h':=fun a o e =>
 (x a o e).stay (fun b u _ q=>k b u q) (fun _ q=>q) fun _ _ q=>q
theorem HOk.laid (x:HOk P w H h) (k:∀ b u,h.get? b=some u→h'.get? b=some u) (hp:h.objs.size≤a) (new:bE P w (upd H a o) h' a o):HOk P w (upd H a o) h':=fun b u e=>by
 have hn:=x.fresh hp;by_cases hb:b=a
 · subst hb; rw [aI] at e; cases e; exact new
 · rw [aD hb] at e;exact (x b u e).stay (fun c v _ q=>k c v q) (fun c q=>by rw [aD (aH q hn)]; exact q) fun c xs q=>by rw [aD (aH q hn)]; exact q
end
def Rd (H:Hp) (a:Addr) (u:HO):Prop:=H a=some u∨∃ o,H a=some (.frz o u)
theorem Rd.ok {P:Program} {w:World} {H:Hp} {h:Heap} {a:Addr} {u:HO} (r:Rd H a u) (x:HOk P w H h):bE P w H h a u:=by
 rcases r with r | ⟨o,r⟩
 · exact x a u r
 · obtain ⟨_,q⟩:=x a _ r;exact q
noncomputable def Mut:Option HO→Prop
 | some (.lst _)=>True
 | some (.dK _)=>True
 | some (.dT _)=>True
 | some (.set _ _)=>True
 | some (.ins _ _ _)=>True
 | some (.ext _)=>True
 | _=>False
section
variable {P:Program} {w:World} {H:Hp} {h h':Heap} {x e:Addr} {o':HO}
theorem HOk.write (ok:HOk P w H h) (mu:Mut (H x)) (he:e=x∨H e=some (.own x)) (k:∀ b u,b≠e→h.get? b=some u→h'.get? b=some u) (heo:∃ u,h'.get? e=some u)
   (new:bE P w (upd H x o') h' x o'):HOk P w (upd H x o') h':=fun b u q=>by
 have nown:∀ c y,H c=some (.own y)→c≠x:=fun c y r z=>by subst z; rw [r] at mu; exact mu
 have ntup:∀ c xs,H c=some (.tup xs)→c≠x:=fun c xs r z=>by subst z; rw [r] at mu; exact mu
 by_cases hb:b=x
 · subst hb; rw [aI] at q; cases q; exact new
 · rw [aD hb] at q;by_cases hbe:b=e
   · have q':H b=some (.own x):=by
       rcases he with z | z
       · exact absurd (hbe.trans z) hb
       · rw [hbe]; exact z
     rw [q] at q'; cases q';obtain ⟨v,hv⟩:=heo;exact ⟨v,by rw [hbe]; exact hv⟩
   · refine (ok b u q).stay (fun c v hc r=>k c v ?_ r) (fun c r=>by rw [aD (nown c b r)]; exact r) fun c xs r=>by rw [aD (ntup c xs r)]; exact r
     rcases hc with rfl | hc
     · exact hbe
     · rintro rfl;rcases he with z | z
       · exact nown c b hc z
       · rw [hc] at z; cases z; exact hb rfl
end
structure Un (fs ex:List Addr) (H H':Hp) (h h':Heap):Prop where
 keep:∀ b o,h.get? b=some o→H b=none→b∉ fs→b∉ ex→h'.get? b=some o
 slot:∀ b o,h.get? b=some o→H b=none→b∈fs→b∉ ex→∃ sl,h'.get? b=some { o with slots:=sl }
 free:∀ b o,h.get? b=some o→H b=none→b∉ ex→H' b=none
 there:∀ b o,h.get? b=some o→b∉ ex→∃ o',h'.get? b=some o'
 tups:∀ b xs,H b=some (.tup xs)→H' b=some (.tup xs)
 frzs:∀ b o u,H b=some (.frz o u)→H' b=some (.frz o u)
 tbls:∀ b ps,H b=some (.tbl ps)→∃ more,H' b=some (.tbl (ps ++ more))
section
variable {fs fs' ex ex':List Addr} {H H1 H2:Hp} {h h1 h2 h':Heap} {a x e:Addr} {o:HO}
theorem Un.any (u:Un fs ex H H1 h h1) {b:Addr} {ob:Obj} (q:h.get? b=some ob) (n:H b=none) (hx:b∉ ex):∃ sl,h1.get? b=some { ob with slots:=sl }:=by
 by_cases hb:b∈fs
 · exact u.slot b ob q n hb hx
 · exact ⟨ob.slots,u.keep b ob q n hb hx⟩
theorem Un.kept (k:∀ b u,h.get? b=some u→h'.get? b=some u):Un fs ex H H h h' :=
 ⟨fun b ob q _ _ _=>k b ob q,fun b ob q _ _ _=>⟨ob.slots,k b ob q⟩,fun _ _ _ n _=>n,fun b ob q _=>⟨ob,k b ob q⟩,fun _ _ q=>q,fun _ _ _ q=>q,fun _ ps q=>⟨#[],by rw [q]; simp⟩⟩
theorem Un.refl:Un fs ex H H h h:=Un.kept fun _ _ q=>q
theorem Un.laid (k:∀ b u,h.get? b=some u→h'.get? b=some u) (hp:h.objs.size≤a) (hn:H a=none):Un fs ex H (upd H a o) h h' where
 keep:=fun b u q _ _ _=>k b u q
 slot:=fun b u q _ _ _=>⟨u.slots,k b u q⟩
 free:=fun b u q n _=>by rw [aD (Nat.ne_of_lt (wFq (Heap.lt_size q) hp))]; exact n
 there:=fun b u q _=>⟨u,k b u q⟩
 tups:=fun b xs q=>by rw [aD (aH q hn)]; exact q
 frzs:=fun b u xs q=>by rw [aD (aH q hn)]; exact q
 tbls:=fun b ps q=>⟨#[],by rw [aD (aH q hn),q]; simp⟩
theorem Un.write (mu:Mut (H x)) (he:e=x∨H e=some (.own x)) (k:∀ b u,b≠e→h.get? b=some u→h'.get? b=some u) (heo:∃ u,h'.get? e=some u):Un fs ex H (upd H x o) h h':=by
 have hx:∀ b,H b=none→b≠x:=fun b n z=>by subst z; rw [n] at mu; exact mu
 have hb:∀ b,H b=none→b≠e:=fun b n z=>by
   subst z;rcases he with r | r
   · exact hx b n r
   · rw [n] at r; cases r
 have hm:∀ b u,H b=some u→¬Mut (some u)→b≠x:=fun b u q nm z=>by subst z; rw [q] at mu; exact nm mu
 refine ⟨fun b u q n _ _=>k b u (hb b n) q,fun b u q n _ _=>⟨u.slots,k b u (hb b n) q⟩,fun b u q n _=>by rw [aD (hx b n)]; exact n,fun b u q _=>?_,
   fun b xs q=>by rw [aD (hm b _ q fun z=>z)]; exact q,fun b u xs q=>by rw [aD (hm b _ q fun z=>z)]; exact q,fun b ps q=>⟨#[],by rw [aD (hm b _ q fun z=>z),q]; simp⟩⟩
 by_cases hbe:b=e
 · subst hbe; exact heo
 · exact ⟨u,k b u hbe q⟩
end
noncomputable def trk (h:Heap) (H:Hp):List Addr:=(List.range h.objs.size).filter fun a=>(H a).isSome
noncomputable def BI (h:Heap) (H:Hp):Heap:=W.hideAll h (trk h H)
theorem ST (h:Heap) (H:Hp):(BI h H).objs.size=h.objs.size:=W.hideAll_size _ _
theorem WE {h:Heap} {H:Hp} {b:Addr} {o:Obj} (e:h.get? b=some o) (n:H b=none):(BI h H).get? b=some o :=
 W.hideAll_get _ e fun hm=>by
   have q:(H b).isSome=true:=(List.mem_filter.mp hm).2;rw [n] at q; simp at q
theorem aBC {h:Heap} {H:Hp} {b:Addr} {o:Obj} (e:(BI h H).get? b=some o):h.get? b=some o∧H b=none:=by
 have e':h.get? b=some o:=W.of_hideAll (trk h H) e;refine ⟨e', ?_⟩;cases q:H b with
 | none=>rfl
 | some x =>
   have hm:b∈trk h H:=List.mem_filter.mpr ⟨List.mem_range.mpr (Heap.lt_size e'),by simp [q]⟩;have z:(BI h H).get? b=none:=W.hideAll_none (trk h H) hm;rw [z] at e; cases e
noncomputable def aBF (g h:Heap) (L:Addr):List (Addr×Obj):=(List.range h.objs.size).filterMap fun a=>if a=L∨(g.get? a).isSome=true then none else (h.get? a).map fun o=>(a,o)
noncomputable def aV (g h:Heap) (L d:Addr):List (Addr×Obj):=(aBF g h L).filter fun p=>decide (p.1≠d)
structure Mod (K:W.Frag) (mg:Str→Option Value) (base:Heap):Prop where
 kin:K.In base
 glob:base.Ns mainGlobals mg
 blt:∃ mb,base.Ns builtinsNs mb∧∀ x:Str,x≠"__name__"→mb x=bootBuiltins x
 nolimit:base.NoLimit
structure Cx where
 prog:Program
 w:World
 K:W.Frag
 mg:Str→Option Value
 base:Heap
 A:Around
 N:List Str
 s₀:Shared
 H₀:Hp
 env:Env
 outer:List Env
 stack:List Env
 ex:List Addr
 fn:Str→Bool
 calm:Bool
 pn:List (Addr×Obj)
 xe:Value→Shared→Prop
noncomputable def frs (l:List Env):List Addr:=l.filterMap (·.frame)
noncomputable abbrev Cx.fs (X:Cx):List Addr:=frs X.outer
def Vis (sc:Scope) (x:Str):Prop:=sc.names.lookup x=some .local∨sc.names.lookup x=some .cell∨sc.names.lookup x=some .free
def Loc (sc:Scope) (x:Str):Prop:=sc.names.lookup x=some .local∨sc.names.lookup x=some .cell
noncomputable def aOx (env:Env) (h:Heap) (m:Str→Option Value) (x:Str) (u:Value):Prop :=
 (env.kindOf x=some .local∧m x=some u)∨((env.kindOf x=some .cell∨env.kindOf x=some .free)∧∃ c,env.cells.lookup x=some c∧h.IsCell c (some u))
structure Cx.Ok (X:Cx):Prop where
 mod:Mod X.K X.mg X.base
 kind:X.env.scope.kind= .function
 glob:X.env.globals=mainGlobals
 blt:X.env.builtins=builtinsNs
 above:X.s₀.heap.objs.size≤X.env.locals
 inj:∀ x y c,X.env.cells.lookup x=some c→X.env.cells.lookup y=some c→x=y
 has:∀ x,(X.env.kindOf x=some .cell∨X.env.kindOf x=some .free)→∃ c,X.env.cells.lookup x=some c
 cab:∀ x c,X.fn x=true→X.env.cells.lookup x=some c→X.s₀.heap.objs.size≤c
 hd:X.calm=true→X.A.handled=none
 frames:X.A.frames=some X.stack
 stk:X.stack=X.outer∨(X.stack=X.env :: X.outer∧X.env.frame=some X.env.locals)
 exf:∀ b∈X.ex,b≠X.env.locals∧∀ x c,X.env.cells.lookup x=some c→c≠b
 bs:∀ b o,X.base.get? b=some o→X.s₀.heap.get? b=some o∧X.H₀ b=none
 bsz:X.base.objs.size≤X.s₀.heap.objs.size
 noex:∀ b o,X.base.get? b=some o→b∉ X.ex
 exfs:∀ b∈X.ex,b∉ X.fs
 funs:X.s₀.heap.FunFrames X.base X.outer
 frf:∀ b∈X.fs,X.H₀ b=none
structure Inv (X:Cx) (pins:List (Addr×Obj)) (σ:List (Option V)) (H:Hp) (s:Shared):Prop where
 ok:X.Ok
 os:s.os=X.s₀.os
 bare:AllBare s.gens
 base:Un X.fs X.ex X.H₀ H X.s₀.heap s.heap
 loc:∃ m,s.heap.Ns X.env.locals m∧∀ (i:Nat) (x:Str) (v:V),X.N[i]? =some x→σ[i]? =some (some v)→Vis X.env.scope x→∃ u,aO v u∧aOx X.env s.heap m x u
 cell:∀ x c,X.env.cells.lookup x=some c→∃ v,s.heap.IsCell c v
 free:H X.env.locals=none
 freeC:∀ x c,X.env.cells.lookup x=some c→H c=none
 pin:∀ p∈X.pn ++ pins,s.heap.get? p.1=some p.2∧H p.1=none∧p.1≠X.env.locals∧p.1∉ X.fs∧∀ v,p.2.data≠.cell v
 hok:HOk X.prog X.w H s.heap
 len:σ.length=X.N.length
section
variable {X:Cx} {pins:List (Addr×Obj)} {σ:List (Option V)} {H H':Hp} {s:Shared} {h':Heap}
theorem Cx.Ok.nofr (ok:X.Ok) {b:Addr} {o:Obj} (e:X.base.get? b=some o):b∉ X.fs:=fun hb=>by
 have:=(ok.funs.mem hb).1;rw [e] at this; cases this
theorem Inv.bs (I:Inv X pins σ H s):∀ b o,X.base.get? b=some o→s.heap.get? b=some o∧H b=none:=fun b o e =>
 ⟨I.base.keep b o (I.ok.bs b o e).1 (I.ok.bs b o e).2 (I.ok.nofr e) (I.ok.noex b o e),I.base.free b o (I.ok.bs b o e).1 (I.ok.bs b o e).2 (I.ok.noex b o e)⟩
theorem Inv.bk (I:Inv X pins σ H s):∀ b o,X.base.get? b=some o→s.heap.get? b=some o:=fun b o e=>(I.bs b o e).1
theorem Inv.mod (I:Inv X pins σ H s):Mod X.K X.mg X.base:=I.ok.mod
theorem Inv.kIn (I:Inv X pins σ H s):X.K.In s.heap:=I.ok.mod.kin.keeps I.bk
theorem Inv.lt (I:Inv X pins σ H s):X.env.locals < s.heap.objs.size:=let ⟨_,hn,_⟩:=I.loc; hn.lt
theorem Inv.sz (I:Inv X pins σ H s):X.s₀.heap.objs.size≤s.heap.objs.size:=Nat.le_trans I.ok.above (Nat.le_of_lt I.lt)
theorem Inv.nofs (I:Inv X pins σ H s) {a:Addr} (h:s.heap.objs.size≤a):a∉ X.fs:=fun hb=>by
 obtain ⟨_,o,ho,_⟩:=I.ok.funs.mem hb;exact absurd (wFq (Heap.lt_size ho) (Nat.le_trans I.sz h)) (Nat.lt_irrefl _)
theorem Inv.cne (I:Inv X pins σ H s):∀ x c,X.env.cells.lookup x=some c→c≠X.env.locals:=fun x c e z=>by
 obtain ⟨v,o,ho,hd⟩:=I.cell x c e;obtain ⟨m,⟨o',es,ep,ho',hd',_⟩,_⟩:=I.loc;rw [z,ho'] at ho; cases ho; rw [hd'] at hd; cases hd
theorem Inv.funs (I:Inv X pins σ H s):s.heap.FunFrames X.base X.outer:=by
 have all:∀ (l:List Env),(∀ b∈frs l,b∈X.fs)→X.s₀.heap.FunFrames X.base l→s.heap.FunFrames X.base l:=by
   intro l;induction l with
   | nil=>intro _ _; trivial
   | cons env r ih =>
     intro hs hl;obtain ⟨hk,⟨L,o,hf,hn,ho,hd⟩,hr⟩:=hl;have hL:L∈X.fs:=hs L (by unfold frs; rw [List.filterMap_cons,hf]; exact wDq);obtain ⟨sl,e⟩:=I.base.slot L o ho (I.ok.frf L hL) hL fun z=>I.ok.exfs L z hL;exact ⟨hk,⟨L,_,hf,hn,e,hd⟩,ih (fun b hb=>hs b (by unfold frs; rw [List.filterMap_cons,hf]; exact wCq _ hb)) hr⟩
 exact all X.outer (fun _ hb=>hb) I.ok.funs
theorem Inv.stack (I:Inv X pins σ H s):s.heap.FunFrames X.base X.stack:=by
 rcases I.ok.stk with e | ⟨e,hf⟩
 · rw [e]; exact I.funs
 · rw [e];obtain ⟨m,hn,_⟩:=I.loc;refine .cons (by rw [I.ok.kind]; decide) hf hn ?_ I.funs;exact Heap.get?_none_of_le (Nat.le_trans I.ok.bsz I.ok.above)
theorem Inv.stkSub (I:Inv X pins σ H s):∀ b∈frs X.stack,b∈X.env.locals :: X.fs:=fun b hb=>by
 rcases I.ok.stk with e | ⟨e,hf⟩
 · rw [e] at hb; exact wCq _ hb
 · rw [e] at hb;unfold frs at hb;rw [List.filterMap_cons,hf] at hb;exact hb
theorem Inv.stkFree (I:Inv X pins σ H s):∀ b∈frs X.stack,H b=none:=fun b hb=>by
 rcases List.mem_cons.mp (I.stkSub b hb) with e | hb
 · rw [e]; exact I.free
 · obtain ⟨_,o,ho,_⟩:=I.ok.funs.mem hb;exact I.base.free b o ho (I.ok.frf b hb) fun z=>I.ok.exfs b z hb
theorem Inv.step {g':Array GenState} {t':Nat} {d':Drawn} {ch:List Addr} (I:Inv X pins σ H s)
   (hch:∀ b∈ch,(b∈X.ex∨X.s₀.heap.objs.size≤b)∧b≠X.env.locals∧(∀ x c,X.env.cells.lookup x=some c→c≠b)∧∀ p∈X.pn ++ pins,p.1≠b)
   (keep:∀ b o,b≠X.env.locals→b∉ X.fs→b∉ ch→s.heap.get? b=some o→H b=none→h'.get? b=some o)
   (slot:∀ b o,b≠X.env.locals→b∈X.fs→b∉ ch→s.heap.get? b=some o→H b=none→∃ sl,h'.get? b=some { o with slots:=sl }) (free:∀ b o,b∉ ch→s.heap.get? b=some o→H b=none→H' b=none)
   (there:∀ b o,b∉ ch→s.heap.get? b=some o→∃ o',h'.get? b=some o')
   (tups:∀ b xs,H b=some (.tup xs)→H' b=some (.tup xs)) (frzs:∀ b o u,H b=some (.frz o u)→H' b=some (.frz o u)) (tbls:∀ b ps,H b=some (.tbl ps)→∃ more,H' b=some (.tbl (ps ++ more)))
   (ns:∀ m,s.heap.Ns X.env.locals m→h'.Ns X.env.locals m) (hok:HOk X.prog X.w H' h') (hg:AllBare g') :
   Inv X pins σ H' { s with heap:=h',gens:=g',drawn:=d',toks:=t' }:=by
 have neL:∀ b o,X.s₀.heap.get? b=some o→b≠X.env.locals:=fun b o e=>Nat.ne_of_lt (wFq (Heap.lt_size e) I.ok.above);have neC:∀ b o,X.s₀.heap.get? b=some o→b∉ X.ex→b∉ ch:=fun b o e hx hb=>by
   rcases (hch b hb).1 with z | z
   · exact hx z
   · exact absurd (wFq (Heap.lt_size e) z) (Nat.lt_irrefl _)
 have cellK:∀ x c,X.env.cells.lookup x=some c→∀ v,s.heap.IsCell c v→h'.IsCell c v:=by
   rintro x c e v ⟨o,ho,hd⟩;have nch:c∉ ch:=fun z=>(hch c z).2.2.1 x c e rfl;by_cases hc:c∈X.fs
   · obtain ⟨sl,q⟩:=slot c o (I.cne x c e) hc nch ho (I.freeC x c e);exact ⟨_,q,hd⟩
   · exact ⟨o,keep c o (I.cne x c e) hc nch ho (I.freeC x c e),hd⟩
 refine ⟨I.ok,I.os,hg,⟨fun b o e n hb hx=>?_,fun b o e n hb hx=>?_,fun b o e n hx=>?_,fun b o e hx=>?_,fun b xs e=>tups b xs (I.base.tups b xs e),fun b o xs e=>frzs b o xs (I.base.frzs b o xs e),fun b ps e=>?_⟩, ?_,fun x c e=>?_, ?_,fun x c e=>?_,fun p hp=>?_,hok,I.len⟩
 · exact keep b o (neL b o e) hb (neC b o e hx) (I.base.keep b o e n hb hx) (I.base.free b o e n hx)
 · obtain ⟨sl,e1⟩:=I.base.slot b o e n hb hx;obtain ⟨sl',e2⟩:=slot b _ (neL b o e) hb (neC b o e hx) e1 (I.base.free b o e n hx);exact ⟨sl',e2⟩
 · obtain ⟨o',e1⟩:=I.base.there b o e hx;exact free b o' (neC b o e hx) e1 (I.base.free b o e n hx)
 · obtain ⟨o',e1⟩:=I.base.there b o e hx;exact there b o' (neC b o e hx) e1
 · obtain ⟨m1,e1⟩:=I.base.tbls b ps e;obtain ⟨m2,e2⟩:=tbls b _ e1;exact ⟨m1 ++ m2,by rw [e2,Array.append_assoc]⟩
 · obtain ⟨m,hn,hl⟩:=I.loc;refine ⟨m,ns m hn,fun i x v e1 e2 e3=>?_⟩;obtain ⟨u,r,l⟩:=hl i x v e1 e2 e3;refine ⟨u,r, ?_⟩;rcases l with l | ⟨k,c,e,z⟩
   · exact .inl l
   · exact .inr ⟨k,c,e,cellK x c e _ z⟩
 · obtain ⟨v,z⟩:=I.cell x c e;exact ⟨v,cellK x c e v z⟩
 · obtain ⟨m,⟨o,_,_,ho,_⟩,_⟩:=I.loc;exact free _ o (fun z=>(hch _ z).2.1 rfl) ho I.free
 · obtain ⟨v,o,ho,hd⟩:=I.cell x c e;exact free c o (fun z=>(hch c z).2.2.1 x c e rfl) ho (I.freeC x c e)
 · obtain ⟨e,n,ne,nf,d⟩:=I.pin p hp;have nch:p.1∉ ch:=fun z=>(hch p.1 z).2.2.2 p hp rfl;exact ⟨keep p.1 p.2 ne nf nch e n,free p.1 p.2 nch e n,ne,nf,d⟩
theorem Inv.un {t':Nat} (I:Inv X pins σ H s) (u:Un X.fs [] H H' s.heap h') (hok:HOk X.prog X.w H' h'):Inv X pins σ H' { s with heap:=h',toks:=t' }:=by
 obtain ⟨m,⟨o,es,ep,ho,r⟩,_⟩:=id I.loc;obtain ⟨sl,hL⟩:=u.any ho I.free (by simp);exact I.step (g':=s.gens) (d':=s.drawn) (ch:=[]) (fun _ z=>nomatch z) (fun b o _ hb _ e n=>u.keep b o e n hb (by simp)) (fun b o _ hb _ e n=>u.slot b o e n hb (by simp)) (fun b o _ e n=>u.free b o e n (by simp)) (fun b o _ e=>u.there b o e (by simp)) u.tups u.frzs u.tbls (fun m' hm=>by
   obtain ⟨o',es',ep',ho',r'⟩:=hm;rw [ho] at ho'; cases ho';exact ⟨_,es',ep',hL,r'⟩) hok I.bare
theorem Inv.call {g':Array GenState} {t':Nat} {d':Drawn} {ch:List Addr} (I:Inv X pins σ H s) (u:Un (frs X.stack) ch H H' s.heap h') (hok:HOk X.prog X.w H' h') (hg:AllBare g')
   (hch:∀ b∈ch,(b∈X.ex∨X.s₀.heap.objs.size≤b)∧b≠X.env.locals∧(∀ x c,X.env.cells.lookup x=some c→c≠b)∧∀ p∈X.pn ++ pins,p.1≠b) :
   Inv X pins σ H' { s with heap:=h',gens:=g',drawn:=d',toks:=t' }:=by
 obtain ⟨m,⟨o,es,ep,ho,r⟩,_⟩:=id I.loc;obtain ⟨sl,hL⟩:=u.any ho I.free fun z=>(hch _ z).2.1 rfl;exact I.step (ch:=ch) hch (fun b o hL hb hc e n=>u.keep b o e n (fun z=>(List.mem_cons.mp (I.stkSub b z)).elim hL hb) hc) (fun b o _ _ hc e n=>u.any e n hc) (fun b o hc e n=>u.free b o e n hc) (fun b o hc e=>u.there b o e hc) u.tups u.frzs u.tbls (fun m' hm=>by
   obtain ⟨o',es',ep',ho',r'⟩:=hm;rw [ho] at ho'; cases ho';exact ⟨_,es',ep',hL,r'⟩) hok hg
theorem Inv.turned {t':Nat} {it:Addr} (I:Inv X pins σ H s) (k:∀ b o,b≠it→s.heap.get? b=some o→h'.get? b=some o) (hn:H it=none) (hL:it≠X.env.locals)
   (h1:it∈X.ex∨X.s₀.heap.objs.size≤it) (h2:∀ x c,X.env.cells.lookup x=some c→c≠it) (h3:∀ p∈X.pn ++ pins,p.1≠it):Inv X pins σ H { s with heap:=h',toks:=t' }:=by
 have nit:∀ b u,H b=some u→b≠it:=fun b u e z=>by rw [z,hn] at e; cases e
 refine I.step (g':=s.gens) (d':=s.drawn) (ch:=[it]) (fun b hb=>?_) (fun b o _ _ hc e _=>k b o (fun z=>hc (by simp [z])) e) (fun b o _ _ hc e _=>⟨o.slots,k b o (fun z=>hc (by simp [z])) e⟩) (fun _ _ _ _ n=>n)
   (fun b o hc e=>⟨o,k b o (fun z=>hc (by simp [z])) e⟩) (fun _ _ e=>e) (fun _ _ _ e=>e) (fun b ps e=>⟨#[],by rw [e]; simp⟩) (fun m hm=>?_) (fun b u e=>?_) I.bare
 · have e:b=it:=by simpa using hb
   subst e;exact ⟨h1,hL,h2,h3⟩
 · obtain ⟨o,es,ep,ho,r⟩:=hm;exact ⟨o,es,ep,k _ o (Ne.symm hL) ho,r⟩
 · refine (I.hok b u e).stay (fun c v hc q=>k c v ?_ q) (fun _ q=>q) fun _ _ q=>q;rcases hc with z | z
   · rw [z]; exact nit b u e
   · exact nit c _ z
theorem Inv.tok (I:Inv X pins σ H s) (t:Nat):Inv X pins σ H { s with toks:=t }:=I.un (h':=s.heap) (t':=t) Un.refl I.hok
theorem Inv.kept {t':Nat} (I:Inv X pins σ H s) (k:∀ b u,s.heap.get? b=some u→h'.get? b=some u):Inv X pins σ H { s with heap:=h',toks:=t' }:=I.un (Un.kept k) (I.hok.kept k)
theorem Inv.laid {a:Addr} {o:HO} {t':Nat} (I:Inv X pins σ H s) (k:∀ b u,s.heap.get? b=some u→h'.get? b=some u) (hp:s.heap.objs.size≤a) (new:bE X.prog X.w (upd H a o) h' a o) :
   Inv X pins σ (upd H a o) { s with heap:=h',toks:=t' }:=I.un (Un.laid k hp (I.hok.fresh hp)) (I.hok.laid k hp new)
theorem Inv.write {x e:Addr} {o:HO} {t':Nat} (I:Inv X pins σ H s) (mu:Mut (H x)) (he:e=x∨H e=some (.own x)) (k:∀ b u,b≠e→s.heap.get? b=some u→h'.get? b=some u) (heo:∃ u,h'.get? e=some u)
   (new:bE X.prog X.w (upd H x o) h' x o):Inv X pins σ (upd H x o) { s with heap:=h',toks:=t' }:=I.un (Un.write mu he k heo) (I.hok.write mu he k heo new)
theorem Inv.weak {σ':List (Option V)} (I:Inv X pins σ H s) (hl:σ'.length=σ.length) (w:∀ (i:Nat) v,σ'[i]? =some (some v)→σ[i]? =some (some v)):Inv X pins σ' H s :=
 ⟨I.ok,I.os,I.bare,I.base,let ⟨m,hn,hl'⟩:=I.loc; ⟨m,hn,fun i x v e1 e2 e3=>hl' i x v e1 (w i v e2) e3⟩,I.cell,I.free,I.freeC,I.pin,I.hok,hl.trans I.len⟩
theorem Inv.pins_of {pins':List (Addr×Obj)} (I:Inv X pins σ H s) (h:∀ p∈pins',s.heap.get? p.1=some p.2∧H p.1=none∧p.1≠X.env.locals∧p.1∉ X.fs∧∀ v,p.2.data≠.cell v):Inv X pins' σ H s :=
 ⟨I.ok,I.os,I.bare,I.base,I.loc,I.cell,I.free,I.freeC,fun p hp=>(List.mem_append.mp hp).elim (fun z=>I.pin p (List.mem_append_left _ z)) (h p),I.hok,I.len⟩
theorem vL {N:List Str} (hN:N.Nodup) {i j:Nat} {x:Str} (a:N[i]? =some x) (b:N[j]? =some x):i=j:=by
 obtain ⟨h1,e1⟩:=List.getElem?_eq_some_iff.mp a;obtain ⟨h2,e2⟩:=List.getElem?_eq_some_iff.mp b;exact (List.getElem_inj hN).mp (e1.trans e2.symm)
theorem RJ {M:Model} {A:Around} {E:Value→Shared→Prop} {i:Nat} {x:Str} {v:V} {u:Value} {Q:Unit→Shared→Prop} (I:Inv X pins σ H s) (hN:X.N.Nodup) (hi:X.N[i]? =some x) (hx:Loc X.env.scope x) (r:aO v u)
   (h:∀ s',Inv X pins (σ.set i (some v)) H s'→(∃ a,Heap.SameBut a s.heap s'.heap∧(a=X.env.locals∨X.env.cells.lookup x=some a))→Q () s') (hf:X.fn x=true∨X.env.scope.names.lookup x=some .local:=by first | exact .inl rfl | exact .inr rfl | assumption):wpAny M A (storeName X.env x u) Q E s:=by
 obtain ⟨m,hn,hl⟩:=id I.loc;have hcls:(X.env.scope.kind == .class || (X.env.scope.kind == .module && X.env.locals != X.env.globals))=false:=by rw [I.ok.kind]; rfl
 have hiσ:i < σ.length:=by rw [I.len]; exact (List.getElem?_eq_some_iff.mp hi).1
 have cne:=I.cne;have tracked:∀ {a:Addr} {h':Heap},(∃ o,s.heap.get? a=some o∧H a=none)→Heap.SameBut a s.heap h'→HOk X.prog X.w H h':=fun {a h'} ha hs b ob e=>by
   obtain ⟨_,_,hfree⟩:=ha;refine (I.hok b ob e).stay (fun c w' hc q=>(hs.2 c ?_).trans q) (fun _ q=>q) fun _ _ q=>q;rintro rfl;rcases hc with rfl | hc
   · rw [hfree] at e; cases e
   · rw [hfree] at hc; cases hc
 rcases hx with hk | hk
 · refine wpAny_storeName_local hk hn (fun h' hn' hs=>?_) hcls;obtain ⟨oL,_,_,hoL,_⟩:=id hn;refine h _ ⟨I.ok,I.os,I.bare,⟨fun b o e n hb hx=>?_,fun b o e n hb hx=>?_,I.base.free,fun b o e hx=>?_,I.base.tups,I.base.frzs,I.base.tbls⟩,⟨_,hn',fun j y v' e1 e2 e3=>?_⟩,fun y c e=>?_,I.free,I.freeC,fun p hp=>?_,tracked ⟨oL,hoL,I.free⟩ hs,by simpa using I.len⟩ ⟨_,hs,.inl rfl⟩
   · exact (hs.2 b (Nat.ne_of_lt (wFq (Heap.lt_size e) I.ok.above))).trans (I.base.keep b o e n hb hx)
   · obtain ⟨sl,e1⟩:=I.base.slot b o e n hb hx;exact ⟨sl,(hs.2 b (Nat.ne_of_lt (wFq (Heap.lt_size e) I.ok.above))).trans e1⟩
   · obtain ⟨o',e1⟩:=I.base.there b o e hx;exact ⟨o',(hs.2 b (Nat.ne_of_lt (wFq (Heap.lt_size e) I.ok.above))).trans e1⟩
   · by_cases hj:j=i
     · subst hj;rw [hi] at e1; cases e1;rw [List.getElem?_set_self hiσ] at e2;cases e2;exact ⟨u,r,.inl ⟨hk,by simp⟩⟩
     · rw [List.getElem?_set_ne (Ne.symm hj)] at e2;obtain ⟨u',r',q⟩:=hl j y v' e1 e2 e3;refine ⟨u',r', ?_⟩;rcases q with ⟨k,e⟩ | ⟨k,c,e,z⟩
       · refine .inl ⟨k, ?_⟩;have:y≠x:=fun e=>hj (vL hN e1 (e▸hi));simp [this,e]
       · exact .inr ⟨k,c,e,z.sameBut hs (cne y c e)⟩
   · obtain ⟨w',z⟩:=I.cell y c e;exact ⟨w',z.sameBut hs (cne y c e)⟩
   · obtain ⟨e,n,ne,nf,d⟩:=I.pin p hp;exact ⟨(hs.2 p.1 ne).trans e,n,ne,nf,d⟩
 · have hfn:X.fn x=true:=by
     rcases hf with z | z
     · exact z
     · rw [z] at hk; cases hk
   obtain ⟨c,hc⟩:=I.ok.has x (.inl hk);obtain ⟨w',z⟩:=I.cell x c hc;refine wpAny_storeName_cell I.ok.kind hk hc z (fun h' hc' hs=>?_);obtain ⟨oc,hoc,hocd⟩:=id z;refine h { s with heap:=h' } ⟨I.ok,I.os,I.bare,⟨fun b o e n hb hx=>?_,fun b o e n hb hx=>?_,I.base.free,fun b o e hx=>?_,I.base.tups,I.base.frzs,I.base.tbls⟩,⟨m,hn.sameBut hs (Ne.symm (cne x c hc)),fun j y v' e1 e2 e3=>?_⟩,fun y c' e=>?_,I.free,I.freeC,fun p hp=>?_,tracked ⟨oc,hoc,I.freeC x c hc⟩ hs,by simpa using I.len⟩ ⟨c,hs,.inr hc⟩
   · exact (hs.2 b (Nat.ne_of_lt (wFq (Heap.lt_size e) (I.ok.cab x c hfn hc)))).trans (I.base.keep b o e n hb hx)
   · obtain ⟨sl,e1⟩:=I.base.slot b o e n hb hx;exact ⟨sl,(hs.2 b (Nat.ne_of_lt (wFq (Heap.lt_size e) (I.ok.cab x c hfn hc)))).trans e1⟩
   · obtain ⟨o',e1⟩:=I.base.there b o e hx;exact ⟨o',(hs.2 b (Nat.ne_of_lt (wFq (Heap.lt_size e) (I.ok.cab x c hfn hc)))).trans e1⟩
   · by_cases hj:j=i
     · subst hj;rw [hi] at e1; cases e1;rw [List.getElem?_set_self hiσ] at e2;cases e2;exact ⟨u,r,.inr ⟨.inl hk,c,hc,hc'⟩⟩
     · rw [List.getElem?_set_ne (Ne.symm hj)] at e2;obtain ⟨u',r',q⟩:=hl j y v' e1 e2 e3;refine ⟨u',r', ?_⟩;rcases q with q | ⟨k,c',e,z'⟩
       · exact .inl q
       · refine .inr ⟨k,c',e,z'.sameBut hs ?_⟩;rintro rfl;exact hj (vL hN e1 (I.ok.inj _ _ _ e hc▸hi))
   · by_cases hcc:c'=c
     · subst hcc; exact ⟨_,hc'⟩
     · obtain ⟨w2,z2⟩:=I.cell y c' e;exact ⟨w2,z2.sameBut hs hcc⟩
   · obtain ⟨e,n,ne,nf,d⟩:=I.pin p hp;refine ⟨(hs.2 p.1 ?_).trans e,n,ne,nf,d⟩;intro q;rw [q,hoc] at e;have q':oc=p.2:=Option.some.inj e;exact d w' (by rw [←q']; exact hocd)
theorem lD {M:Model} {A:Around} {E:Value→Shared→Prop} {i:Nat} {x:Str} {v:V} {u:Value} {Q:Unit→Shared→Prop} (I:Inv X pins σ H s) (hN:X.N.Nodup) (hi:X.N[i]? =some x) (hx:Loc X.env.scope x) (r:aO v u)
   (h:∀ s',Inv X pins (σ.set i (some v)) H s'→Q () s') (hf:X.fn x=true∨X.env.scope.names.lookup x=some .local:=by first | exact .inl rfl | exact .inr rfl | assumption):wpAny M A (storeName X.env x u) Q E s :=
 RJ I hN hi hx r (fun s' I' _=>h s' I') hf
theorem Inv.call' {s':Shared} {ch:List Addr} (I:Inv X pins σ H s) (ho:s'.os=s.os) (u:Un (frs X.stack) ch H H' s.heap s'.heap) (hok:HOk X.prog X.w H' s'.heap) (hg:AllBare s'.gens)
   (hch:∀ b∈ch,(b∈X.ex∨X.s₀.heap.objs.size≤b)∧b≠X.env.locals∧(∀ x c,X.env.cells.lookup x=some c→c≠b)∧∀ p∈X.pn ++ pins,p.1≠b):Inv X pins σ H' s':=by
 obtain ⟨h',g',d',t',o'⟩:=s';have e:o'=s.os:=ho;subst e;exact I.call (g':=g') (t':=t') (d':=d') u hok hg hch
end
noncomputable abbrev XK:=Value→Option Addr→Hp→Prop
noncomputable abbrev St:=List (Option V)
noncomputable abbrev VK:=V→Hp→Prop
noncomputable abbrev TE:=St→Hp→VK→Prop
noncomputable abbrev TT:=St→Hp→(Bool→Hp→Prop)→Prop
noncomputable abbrev TA:=St→Hp→(List V→Hp→Prop)→Prop
structure uW where
 nx:St→Hp→Prop
 rt:VK
 bk:St→Hp→Prop:=fun _ _=>False
 ct:St→Hp→Prop:=fun _ _=>False
noncomputable abbrev TS:=uW→St→Hp→Prop
def EP (X:Cx) (pins:List (Addr×Obj)) (σ:St) (Q:VK) (u:Value) (s':Shared):Prop:= ∃ v H',Inv X pins σ H' s'∧aO v u∧Q v H'
def TP (X:Cx) (pins:List (Addr×Obj)) (σ:St) (Q:Bool→Hp→Prop) (b:Bool) (s':Shared):Prop:= ∃ H',Inv X pins σ H' s'∧Q b H'
def AP (X:Cx) (pins:List (Addr×Obj)) (σ:St) (Q:List V→Hp→Prop) (us:List Value) (s':Shared):Prop:= ∃ vs H',Inv X pins σ H' s'∧aM vs us∧Q vs H'
noncomputable def SP (X:Cx) (pins:List (Addr×Obj)) (D:uW) (f:Flow) (s':Shared):Prop :=
 match f with
 | .next=>∃ σ' H',Inv X pins σ' H' s'∧D.nx σ' H'
 | .brk=>∃ σ' H',Inv X pins σ' H' s'∧D.bk σ' H'
 | .cont=>∃ σ' H',Inv X pins σ' H' s'∧D.ct σ' H'
 | .ret u=>∃ v σ' H',Inv X pins σ' H' s'∧aO v u∧D.rt v H'
noncomputable def PE (X:Cx) (e:Expr) (t:TE):Prop :=
 ∀ (pins:List (Addr×Obj)) (s:Shared) (σ:St) (H:Hp) (Q:VK),Inv X pins σ H s→t σ H Q→wpAny (model X.prog X.w) X.A (eval e X.env) (EP X pins σ Q) X.xe s
noncomputable def PT (X:Cx) (e:Expr) (t:TT):Prop :=
 ∀ (pins:List (Addr×Obj)) (s:Shared) (σ:St) (H:Hp) (Q:Bool→Hp→Prop),Inv X pins σ H s→t σ H Q→wpAny (model X.prog X.w) X.A (isTrue e X.env (eval e X.env)) (TP X pins σ Q) X.xe s
noncomputable def PW (X:Cx) (e:Expr) (t:TT):Prop :=
 ∀ (whole:Sem Value) (pins:List (Addr×Obj)) (s:Shared) (σ:St) (H:Hp) (Q:Bool→Hp→Prop),Inv X pins σ H s→t σ H Q→wpAny (model X.prog X.w) X.A (isTrue e X.env whole) (TP X pins σ Q) X.xe s
theorem PW.pt {X:Cx} {e:Expr} {t:TT} (h:PW X e t):PT X e t:=h _
noncomputable def PA (X:Cx) (es:List Expr) (t:TA):Prop :=
 ∀ (pos:Pos) (pins:List (Addr×Obj)) (s:Shared) (σ:St) (H:Hp) (Q:List V→Hp→Prop),Inv X pins σ H s→t σ H Q→wpAny (model X.prog X.w) X.A (spliced (backTo pos (starEach es X.env))) (AP X pins σ Q) X.xe s
noncomputable def PS (X:Cx) (st:Stmt) (t:TS):Prop :=
 ∀ (pins:List (Addr×Obj)) (s:Shared) (σ:St) (H:Hp) (D:uW),Inv X pins σ H s→t D σ H→wpAny (model X.prog X.w) X.A (exec st X.env) (SP X pins D) X.xe s
noncomputable def PSs (X:Cx) (st:List Stmt) (t:TS):Prop :=
 ∀ (pins:List (Addr×Obj)) (s:Shared) (σ:St) (H:Hp) (D:uW),Inv X pins σ H s→t D σ H→wpAny (model X.prog X.w) X.A (execs st X.env) (SP X pins D) X.xe s
theorem thn {α:Type} {t:Sem α} {Q Q':α→Shared→Prop} {M:Model} {A:Around} {E:Value→Shared→Prop} {s:Shared} (h:wpAny M A t Q E s) (hQ:∀ a s,Q a s→Q' a s):wpAny M A t Q' E s:=wpAny_mono h hQ fun _ _ x=>x
section
variable {X:Cx}
theorem bin {a b:Expr} {ta tb:TE} (ha:PE X a ta) (hb:PE X b tb) {pins:List (Addr×Obj)} {s:Shared} {σ:St} {H:Hp} {R:V→V→Hp→Prop} (I:Inv X pins σ H s) (h:ta σ H fun x H1=>tb σ H1 fun y H2=>R x y H2)
   {α:Type} {Q:α→Shared→Prop} {f:Value→Value→Sem α}
   (hf:∀ v u s2 x y H2,Inv X pins σ H2 s2→aO x v→aO y u→R x y H2→wpAny (model X.prog X.w) X.A (f v u) Q X.xe s2) :
   wpAny (model X.prog X.w) X.A (eval a X.env) (fun v s₁=>wpAny (model X.prog X.w) X.A (eval b X.env) (fun u s₂=>wpAny (model X.prog X.w) X.A (f v u) Q X.xe s₂) X.xe s₁) X.xe s:=by
 refine thn (ha pins s σ H _ I h) fun v s1 zz=>?_;obtain ⟨x,H1,I1,r1,q1⟩:=zz;refine thn (hb pins s1 σ H1 _ I1 q1) fun u s2 zz=>?_;obtain ⟨y,H2,I2,r2,q2⟩:=zz;exact hf v u s2 x y H2 I2 r1 r2 q2
def aI5 (i:Nat):TE:=fun σ H Q=>∃ v,σ[i]? =some (some v)∧Q v H
def tC (v:V):TE:=fun _ H Q=>Q v H
theorem rH {i:Nat} {x:Str} {pos:Pos} (hN:X.N[i]? =some x) (hv:Vis X.env.scope x) (hd:(x == ("__debug__":Str))=false:=by decide) (hcd:(x == ("__classdict__":Str))=false:=by decide):PE X (.Name x pos) (aI5 i):=by
 intro pins s σ H Q I h;obtain ⟨v,e,h⟩:=h;obtain ⟨m,hn,hl⟩:=I.loc;obtain ⟨u,r,l⟩:=hl i x v hN e hv;have fin:EP X pins σ Q u s:=⟨v,H,I,r,h⟩;rcases l with ⟨hk,hm⟩ | ⟨hk,c,hc,hcell⟩
 · exact wpAny_Name (wpAny_loadName_local I.ok.kind hk hn hm fin) hd
 · rcases hk with hk | hk
   · exact wpAny_Name (wpAny_loadName_cell I.ok.kind hk hc hcell fin) hd
   · exact wpAny_Name (wpAny_loadName_free I.ok.kind hk hc hcell fin hcd) hd
theorem aHE {i j pos}:PE X (.Constant (.int i) j pos) (tC (.int i)):=fun _ _ _ H _ I h=>wpAny_Constant_int ⟨.int i,H,I.tok _,⟨_,rfl⟩,h⟩
theorem aKB {b j pos}:PE X (.Constant (.bool b) j pos) (tC (.bl b)):=fun _ _ _ H _ I h=>Constant_bool ⟨.bl b,H,I,rfl,h⟩
theorem aHZ {j pos}:PE X (.Constant .none j pos) (tC .non):=fun _ _ _ H _ I h=>Constant_none ⟨.non,H,I,rfl,h⟩
theorem YF {x j pos}:PE X (.Constant (.str x) j pos) (tC (.str x)):=fun _ _ _ H _ I h=>Calls.Constant_str ⟨.str x,H,I.tok _,⟨_,rfl⟩,h⟩
def Gl (X:Cx) (x:Str):Prop:=X.env.kindOf x=some .globalImplicit
theorem eE {E:Value→Shared→Prop} {pins:List (Addr×Obj)} {s:Shared} {σ:St} {H:Hp} {x:Str} {u:Value} {pos:Pos} {Q:Value→Shared→Prop} (I:Inv X pins σ H s) (hg:Gl X x) (hm:X.mg x=some u) (h:Q u s)
   (hd:(x == ("__debug__":Str))=false:=by decide):wpAny (model X.prog X.w) X.A (eval (.Name x pos) X.env) Q E s :=
 Calls.Name_function_global I.ok.kind hg (Calls.loadGlobal_global (by rw [I.ok.glob]; exact I.mod.glob.keeps I.bk) hm h) hd
theorem lJ {E:Value→Shared→Prop} {pins:List (Addr×Obj)} {s:Shared} {σ:St} {H:Hp} {x:Str} {u:Value} {pos:Pos} {Q:Value→Shared→Prop} (I:Inv X pins σ H s) (hg:Gl X x) (hm:X.mg x=none) (hv:bootBuiltins x=some u) (h:Q u s)
   (hn:x≠"__name__":=by decide) (hd:(x == ("__debug__":Str))=false:=by decide):wpAny (model X.prog X.w) X.A (eval (.Name x pos) X.env) Q E s:=by
 obtain ⟨mb,h1,h2⟩:=I.mod.blt;exact Calls.Name_function_global I.ok.kind hg (Calls.loadGlobal_builtin (by rw [I.ok.glob]; exact I.mod.glob.keeps I.bk) hm (by rw [I.ok.blt]; exact h1.keeps I.bk) ((h2 x hn).trans hv) h) hd
theorem aBR {x:Str} {v:V} {u:Value} {pos:Pos} (hg:Gl X x) (hm:X.mg x=some u) (r:aO v u) (hd:(x == ("__debug__":Str))=false:=by decide):PE X (.Name x pos) (tC v) :=
 fun _ _ _ H _ I h=>eE I hg hm ⟨v,H,I,r,h⟩ hd
theorem aBM {x:Str} {v:V} {u:Value} {pos:Pos} (hg:Gl X x) (hm:X.mg x=none) (hv:bootBuiltins x=some u) (r:aO v u) (hn:x≠"__name__":=by decide) (hd:(x == ("__debug__":Str))=false:=by decide):PE X (.Name x pos) (tC v) :=
 fun _ _ _ H _ I h=>lJ I hg hm hv ⟨v,H,I,r,h⟩ hn hd
variable {a b:Expr} {ta tb:TE} {pos:Pos}
variable {tA tB':TT} {aV:List Expr}
def aLJ (t u:TT):TT:=fun σ H Q=>t σ H fun c H1=>if c=true then u σ H1 Q else Q false H1
def tOr (t u:TT):TT:=fun σ H Q=>t σ H fun c H1=>if c=true then Q true H1 else u σ H1 Q
def aM6 (t:TT):TT:=fun σ H Q=>t σ H fun c H1=>Q (!c) H1
theorem aDP (ha:PT X a tA):PW X (.BoolOp .And [a] pos) tA:=by
 intro wh pins s σ H Q I h;refine isTrue_and (thn (ha pins s σ H Q I h) fun c s1 e=>?_);cases c with
 | true=>exact isTrue_and_nil e
 | false=>exact e
theorem aI1 (ha:PT X a tA):PW X (.BoolOp .Or [a] pos) tA:=by
 intro wh pins s σ H Q I h;refine isTrue_or (thn (ha pins s σ H Q I h) fun c s1 e=>?_);cases c with
 | false=>exact isTrue_or_nil e
 | true=>exact e
theorem aF9 (ha:PT X a tA) (hb:PW X (.BoolOp .And (b :: aV) pos) tB'):PW X (.BoolOp .And (a :: b :: aV) pos) (aLJ tA tB'):=by
 intro wh pins s σ H Q I h;refine isTrue_and (thn (ha pins s σ H _ I h) fun c s1 zz=>?_);obtain ⟨H1,I1,q1⟩:=zz;cases c with
 | true=>exact hb wh pins s1 σ H1 Q I1 q1
 | false=>exact ⟨H1,I1,q1⟩
theorem aJ3 (ha:PT X a tA) (hb:PW X (.BoolOp .Or (b :: aV) pos) tB'):PW X (.BoolOp .Or (a :: b :: aV) pos) (tOr tA tB'):=by
 intro wh pins s σ H Q I h;refine isTrue_or (thn (ha pins s σ H _ I h) fun c s1 zz=>?_);obtain ⟨H1,I1,q1⟩:=zz;cases c with
 | true=>exact ⟨H1,I1,q1⟩
 | false=>exact hb wh pins s1 σ H1 Q I1 q1
theorem aJb (ha:PT X a tA):PT X (.UnaryOp .Not a pos) (aM6 tA):=by
 intro pins s σ H Q I h;exact isTrue_not (ha pins s σ H (fun c H1=>Q (!c) H1) I h)
theorem aIj {op} {t:TE} (h:PE X a t):PE X (.BoolOp op [a] pos) t:=fun pins s σ H Q I hw=>BoolOp_one (h pins s σ H Q I hw)
end
noncomputable def SqL (K:W.Frag) (H:Hp) (a:Addr) (xs:List V):Prop :=
 Rd H a (.lst xs)∨
   ∃ (o:Obj) (its:Array Value) (n:Nat),K.lookup a=some o∧o.cls= .type "list"∧o.dict=none∧o.data= .seq its n∧its.size≤sizeLine∧aM xs its.toList
noncomputable def SqT (K:W.Frag) (H:Hp) (a:Addr) (xs:List V):Prop :=
 Rd H a (.tup xs)∨
   ∃ (o:Obj) (its:Array Value) (n:Nat),K.lookup a=some o∧o.cls= .type "tuple"∧o.data= .seq its n∧its.size≤sizeLine∧aM xs its.toList∧o.dict=none
noncomputable def aMV:Value→Option V
 | .none=>some .non
 | .bool b=>some (.bl b)
 | .int i _=>some (.int i)
 | .str x _=>some (.str x)
 | .bytes b _=>some (.byt b)
 | .float b _=>some (.flt b)
 | .ref a=>some (.ref a)
 | .type n=>some (.ty n)
 | _=>none
theorem aO.abs {x:V} {u:Value} (r:aO x u):aMV u=some x:=by
 cases x with
 | non=>cases r; rfl
 | bl _=>cases r; rfl
 | int _=>obtain ⟨t,rfl⟩:=r; rfl
 | str _=>obtain ⟨t,rfl⟩:=r; rfl
 | byt _=>obtain ⟨t,rfl⟩:=r; rfl
 | flt _=>obtain ⟨t,rfl⟩:=r; rfl
 | ref _=>cases r; rfl
 | ty _=>cases r; rfl
theorem aO.inj {x y:V} {u:Value} (r:aO x u) (q:aO y u):x=y:=Option.some.inj (r.abs.symm.trans q.abs)
theorem aM.inj:∀ {xs ys:List V} {us:List Value},aM xs us→aM ys us→xs=ys
 | _,_,_,.nil,.nil=>rfl
 | _,_,_,.cons r t,.cons r' t'=>by rw [r.inj r',aM.inj t t']
section
variable {X:Cx} {pins:List (Addr×Obj)} {σ:St} {H:Hp} {s:Shared} {a:Addr} {xs ys:List V}
theorem SqL.of {K:W.Frag} (h:H a=some (.lst xs)):SqL K H a xs:=.inl (.inl h)
theorem SqT.of {K:W.Frag} (h:H a=some (.tup xs)):SqT K H a xs:=.inl (.inl h)
theorem Inv.list (I:Inv X pins σ H s) (h:SqL X.K H a xs):∃ its:List Value,aM xs its∧PlainL s.heap a its.toArray∧xs.length≤sizeLine:=by
 rcases h with h | ⟨o,its,n,hk,hc,hd,hs,hz,r⟩
 · obtain ⟨z,its,n,r,e⟩:=h.ok I.hok;exact ⟨its,r,⟨_,n,e,rfl,rfl,rfl⟩,z⟩
 · refine ⟨its.toList,r,⟨o,n,I.kIn a o hk,hc,hd,by simpa using hs⟩, ?_⟩;have e:=r.length;simp only [Array.length_toList] at e;omega
theorem Inv.tuple (I:Inv X pins σ H s) (h:SqT X.K H a xs):∃ its:List Value,aM xs its∧IsTup s.heap a its.toArray∧xs.length≤sizeLine:=by
 rcases h with h | ⟨o,its,n,hk,hc,hs,hz,r,_⟩
 · obtain ⟨z,its,r,p⟩:=h.ok I.hok;exact ⟨its,r,p.1,z⟩
 · refine ⟨its.toList,r,⟨o,I.kIn a o hk,hc,n,by simpa using hs⟩, ?_⟩;have e:=r.length;simp only [Array.length_toList] at e;omega
theorem Inv.list_inj (I:Inv X pins σ H s) (h:SqL X.K H a xs) (h':SqL X.K H a ys):xs=ys:=by
 obtain ⟨its,r,⟨o,n,e,_,_,d⟩,_⟩:=I.list h;obtain ⟨its',r',⟨o',n',e',_,_,d'⟩,_⟩:=I.list h';rw [e] at e'; cases e';rw [d] at d';injection d' with d1 _;have:its=its':=by simpa using congrArg Array.toList d1
 subst this;exact r.inj r'
theorem Inv.tuple_inj (I:Inv X pins σ H s) (h:SqT X.K H a xs) (h':SqT X.K H a ys):xs=ys:=by
 obtain ⟨its,r,⟨o,e,_,n,d⟩,_⟩:=I.tuple h;obtain ⟨its',r',⟨o',e',_,n',d'⟩,_⟩:=I.tuple h';rw [e] at e'; cases e';rw [d] at d';injection d' with d1 _;have:its=its':=by simpa using congrArg Array.toList d1
 subst this;exact r.inj r'
end
noncomputable abbrev Cx.wish (X:Cx) (E:Value→Shared→Prop):Cx:={ X with xe:=E }
noncomputable abbrev Cx.nox (X:Cx):Cx:=X.wish fun _ _=>False
theorem Cx.Ok.wish {X:Cx} (ok:X.Ok) (E:Value→Shared→Prop):(X.wish E).Ok :=
 ⟨ok.mod,ok.kind,ok.glob,ok.blt,ok.above,ok.inj,ok.has,ok.cab,ok.hd,ok.frames,ok.stk,ok.exf,ok.bs,ok.bsz,ok.noex,ok.exfs,ok.funs,ok.frf⟩
theorem Cx.Ok.unwish {X:Cx} {E:Value→Shared→Prop} (ok:(X.wish E).Ok):X.Ok :=
 ⟨ok.mod,ok.kind,ok.glob,ok.blt,ok.above,ok.inj,ok.has,ok.cab,ok.hd,ok.frames,ok.stk,ok.exf,ok.bs,ok.bsz,ok.noex,ok.exfs,ok.funs,ok.frf⟩
section
variable {X:Cx} {pins:List (Addr×Obj)} {σ:St} {H:Hp} {s:Shared} {E:Value→Shared→Prop}
theorem Inv.wish (I:Inv X pins σ H s) (E:Value→Shared→Prop):Inv (X.wish E) pins σ H s:=⟨I.ok.wish E,I.os,I.bare,I.base,I.loc,I.cell,I.free,I.freeC,I.pin,I.hok,I.len⟩
theorem Inv.unwish (I:Inv (X.wish E) pins σ H s):Inv X pins σ H s:=⟨I.ok.unwish,I.os,I.bare,I.base,I.loc,I.cell,I.free,I.freeC,I.pin,I.hok,I.len⟩
theorem SP.unwish {D:uW} {f:Flow} {s':Shared} (h:SP (X.wish E) pins D f s'):SP X pins D f s':=by
 cases f with
 | next=>obtain ⟨σ',H',I,q⟩:=h; exact ⟨σ',H',I.unwish,q⟩
 | brk=>obtain ⟨σ',H',I,q⟩:=h; exact ⟨σ',H',I.unwish,q⟩
 | cont=>obtain ⟨σ',H',I,q⟩:=h; exact ⟨σ',H',I.unwish,q⟩
 | ret u=>obtain ⟨v,σ',H',I,r,q⟩:=h; exact ⟨v,σ',H',I.unwish,r,q⟩
theorem PSs.nox {st:List Stmt} {t:TS} (h:PSs X.nox st t):PSs X st t:=fun pins s σ H D I hw =>
 wpAny_mono (h pins s σ H D (I.wish _) hw) (fun _ _ q=>q.unwish) fun _ _ z=>False.elim z
end
section
variable {X:Cx} {st:Stmt} {aV:List Stmt} {t u:TS} {e:Expr} {te:TE} {pos:Pos}
def TN:TS:=fun D σ H=>D.nx σ H
def aNb (t u:TS):TS:=fun D σ H=>t { D with nx:=u D } σ H
theorem aC0:PSs X [] TN:=fun _ _ σ H _ I h=>wpAny_execs_nil ⟨σ,H,I,h⟩
theorem EZ (h1:PS X st t) (h2:PSs X aV u):PSs X (st :: aV) (aNb t u):=by
 intro pins s σ H D I h;refine wpAny_execs_cons (thn (h1 pins s σ H { D with nx:=u D } I h) fun f s1 q=>?_);cases f with
 | next =>
   obtain ⟨σ',H',I',q⟩:=q;exact h2 pins s1 σ' H' D I' q
 | ret v=>exact q
 | brk=>exact q
 | cont=>exact q
theorem MS (h1:PS X st t):PSs X [st] t:=by
 intro pins s σ H D I h;refine wpAny_execs_cons (thn (h1 pins s σ H D I h) fun f s1 q=>?_);cases f with
 | next=>exact wpAny_execs_nil q
 | ret v=>exact q
 | brk=>exact q
 | cont=>exact q
theorem aCQ:PS X (.Pass pos) TN:=fun _ _ σ H _ I h=>wpAny_Pass ⟨σ,H,I,h⟩
theorem Inv.quiet {pins:List (Addr×Obj)} {σ:St} {H:Hp} {s:Shared} (I:Inv X pins σ H s):interactive X.env=false:=by simp [interactive,I.ok.kind]
theorem aG0 {x j pos pos'}:PS X (.Expr (.Constant (.str x) j pos) pos') TN:=fun _ s σ H _ I h=>wpAny_Expr (Calls.Constant_str (show SP X _ _ .next { s with toks:=s.toks + 1 } from ⟨σ,H,I.tok _,h⟩)) I.quiet
def aLL (te:TE):TS:=fun D σ H=>te σ H fun _ H1=>D.nx σ H1
theorem ME (he:PE X e te) (hs:swapsWith e none pos.line X.env=pure false:=by rfl):PS X (.Expr e pos) (aLL te):=by
 intro pins s σ H D I h;exact wpAny_Expr_any (thn (he pins s σ H _ I h) <|by rintro v s1 ⟨x,H1,I1,r1,q1⟩;exact ⟨σ,H1,I1,q1⟩) I.quiet hs
def aMM (te:TE):TS:=fun D σ H=>te σ H D.rt
theorem aIX (he:PE X e te):PS X (.Return (some e) pos) (aMM te):=by
 intro pins s σ H D I h;exact wpAny_Return_some (thn (he pins s σ H _ I h) <|by rintro v s1 ⟨x,H1,I1,r1,q1⟩;exact ⟨x,σ,H1,I1,r1,q1⟩)
def aJU:TS:=fun D _ H=>D.rt .non H
theorem aB7:PS X (.Return none pos) aJU:=fun _ _ σ H _ I h=>wpAny_Return_none ⟨.non,σ,H,I,rfl,h⟩
def aN7 (c:TT) (t u:TS):TS:=fun D σ H=>c σ H fun b H1=>if b=true then t D σ H1 else u D σ H1
theorem aJr {c:Expr} {a b:List Stmt} {tc:TT} (hc:PT X c tc) (ha:PSs X a t) (hb:PSs X b u):PS X (.If c a b pos) (aN7 tc t u):=by
 intro pins s σ H D I h;refine wpAny_If (thn (hc pins s σ H _ I h) fun d s1 zz=>?_);obtain ⟨H1,I1,q1⟩:=zz;cases d with
 | true=>exact ha pins s1 σ H1 D I1 q1
 | false=>exact hb pins s1 σ H1 D I1 q1
def XW:TS:=fun _ _ _=>False
theorem UU:PS X st XW:=fun _ _ _ _ _ _ h=>h.elim
theorem QD {sts:List Stmt}:PSs X sts XW:=fun _ _ _ _ _ _ h=>h.elim
end
noncomputable abbrev TG:=V→St→Hp→(St→Hp→Prop)→Prop
noncomputable abbrev TGs:=List V→St→Hp→(St→Hp→Prop)→Prop
noncomputable def PG (X:Cx) (target:Expr) (t:TG):Prop :=
 ∀ (pins:List (Addr×Obj)) (s:Shared) (σ:St) (H:Hp) (v:V) (u:Value) (Q:St→Hp→Prop),Inv X pins σ H s→aO v u→t v σ H Q→
   wpAny (model X.prog X.w) X.A (assign target X.env u) (fun _ s'=>∃ σ' H',Inv X pins σ' H' s'∧Q σ' H') X.xe s
noncomputable def PGs (X:Cx) (ts:List Expr) (t:TGs):Prop :=
 ∀ (pins:List (Addr×Obj)) (s:Shared) (σ:St) (H:Hp) (vs:List V) (us:List Value) (Q:St→Hp→Prop),Inv X pins σ H s→aM vs us→t vs σ H Q→
   wpAny (model X.prog X.w) X.A (assignInOrder ((assignEach ts X.env).map (·.2)) us) (fun _ s'=>∃ σ' H',Inv X pins σ' H' s'∧Q σ' H') X.xe s
noncomputable abbrev aBv:=V→V→V→Hp→(Hp→Prop)→Prop
noncomputable def aIt (X:Cx) (t:aBv):Prop :=
 ∀ (pins:List (Addr×Obj)) (s:Shared) (σ:St) (H:Hp) (o i v:V) (ov iv u:Value) (Q:Hp→Prop),Inv X pins σ H s→aO o ov→aO i iv→aO v u→t o i v H Q→
   wpAny (model X.prog X.w) X.A (setItem ov iv u) (fun _ s'=>∃ H',Inv X pins σ H' s'∧Q H') X.xe s
section
variable {X:Cx} {pos:Pos}
def UO (i:Nat):TG:=fun v σ H Q=>Q (σ.set i (some v)) H
theorem MW {i:Nat} {x:Str} (hN:X.N.Nodup) (hi:X.N[i]? =some x) (hx:Loc X.env.scope x) (hf:X.fn x=true∨X.env.scope.names.lookup x=some .local:=by first | exact .inl rfl | exact .inr rfl | assumption):PG X (.Name x pos) (UO i):=by
 intro pins s σ H v u Q I r h;exact wpAny_assign_Name (lD I hN hi hx r (fun s' I'=>⟨_,H,I',h⟩) hf)
noncomputable def aMv:TGs:=fun vs σ H Q=>vs=[]∧Q σ H
noncomputable def aLg (t:TG) (u:TGs):TGs:=fun vs σ H Q=>∃ v r,vs=v :: r∧t v σ H fun σ' H'=>u r σ' H' Q
theorem aDt:PGs X [] aMv:=by
 intro pins s σ H vs us Q I r h;obtain ⟨e,h⟩:=h;subst e;cases r;exact assignInOrder_nil ⟨σ,H,I,h⟩
theorem WR {e:Expr} {es:List Expr} {t:TG} {u:TGs} (h1:PG X e t) (h2:PGs X es u)
   (hs:(assignEach (e :: es) X.env).map (·.2)=assign e X.env :: (assignEach es X.env).map (·.2):=by rfl):PGs X (e :: es) (aLg t u):=by
 intro pins s σ H vs us Q I r h;obtain ⟨v,vr,e1,h⟩:=h;subst e1;cases r with
 | cons r rr =>
   rw [hs];refine assignInOrder_cons (thn (h1 pins s σ H _ _ _ I r h) fun _ s1 zz=>?_);obtain ⟨σ1,H1,I1,q1⟩:=zz;exact h2 pins s1 σ1 H1 _ _ Q I1 rr q1
def aMC (K:W.Frag) (n:Nat) (t:TGs):TG:=fun v σ H Q=>∃ a xs,v= .ref a∧SqT K H a xs∧xs.length=n∧t xs σ H Q
theorem aGI {es:List Expr} {k:Nat} {t:TGs} {n:Nat} (hc:X.calm=true) (h:PGs X es t)
   (hn:(assignEach es X.env).length=n:=by rfl) (hst:(assignEach es X.env).findIdx? (·.1)=none:=by rfl):PG X (.Tuple es k pos) (aMC X.K n t):=by
 intro pins s σ H v u Q I r hw;obtain ⟨a,xs,e1,hq,hl,hw⟩:=hw;subst e1;cases r;obtain ⟨its,rv,ht,hz⟩:=I.tuple hq;refine assign_Tuple_tuple (I.ok.hd hc) ht (by simp [hn,←hl,rv.length]) hst fun h' hx=>?_;have I1:Inv X pins σ H { s with heap:=h' }:=I.kept (t':=s.toks) fun b o e=>hx b o (Nat.ne_of_lt (Heap.lt_size e)) e;exact h pins _ σ H xs _ Q I1 (by simpa using rv) hw
def aM4 (to ti:TE) (t:aBv):TG:=fun v σ H Q=>to σ H fun o H1=>ti σ H1 fun i H2=>t o i v H2 fun H3=>Q σ H3
theorem aH6 {o i:Expr} {to ti:TE} {t:aBv} (ho:PE X o to) (hi:PE X i ti) (hs:aIt X t)
   (ha:∀ v,assign (.Subscript o i pos) X.env v=(do
     let ov ←holding [v] (eval o X.env)
     let iv ←holding [v,ov] (eval i X.env)
     standAt pos
     holding [v,ov,iv] (setItem ov iv v)
     release [v,ov,iv] []):=by intro _; rfl):PG X (.Subscript o i pos) (aM4 to ti t):=by
 intro pins s σ H v u Q I r h;rw [ha];refine wAq (wpAny_holding (thn (ho pins s σ H _ I h) fun ov s1 zz=>?_));obtain ⟨x,H1,I1,r1,q1⟩:=zz;refine wAq (wpAny_holding (thn (hi pins s1 σ H1 _ I1 q1) fun iv s2 zz=>?_));obtain ⟨y,H2,I2,r2,q2⟩:=zz;refine wAq (wpAny_standAt (wAq (wpAny_holding (thn (hs pins s2 σ H2 x y v ov iv u _ I2 r1 r2 r q2) fun _ s3 zz=>?_))));obtain ⟨H3,I3,q3⟩:=zz;exact wpAny_release ⟨σ,H3,I3,q3⟩
def aIL (te:TE) (g:TG):TS:=fun D σ H=>te σ H fun x H1=>g x σ H1 D.nx
theorem aAD {tg e:Expr} {te:TE} {g:TG} (he:PE X e te) (hg:PG X tg g) (hs:swapsWithSole [tg] e pos.line X.env=pure false:=by rfl) (hw:swappedStores [tg] e X.env=pure none:=by rfl)
   (h1:(assignEach [tg] X.env).map (·.2)=[assign tg X.env]:=by rfl):PS X (.Assign [tg] e pos) (aIL te g):=by
 intro pins s σ H D I h;refine wpAny_Assign_stores (thn (he pins s σ H _ I h) fun v s1 zz=>?_) hs hw;obtain ⟨x,H1,I1,r1,q1⟩:=zz;rw [h1];exact thn (hg pins s1 σ H1 x v _ I1 r1 q1) fun _ s2 q=>q
def aOk (i j:Nat) (ta:TA):TS:=fun D σ H=>ta σ H fun vs H1=>∃ v w,vs=[v,w]∧D.nx ((σ.set i (some v)).set j (some w)) H1
theorem aIg {i j:Nat} {x y:Str} {a b:Expr} {ta:TA} {px py pt:Pos} {kt k2 pt2} (hc:X.calm=true) (hN:X.N.Nodup) (hi:X.N[i]? =some x) (hj:X.N[j]? =some y) (hij:i≠j)
   (hx:X.env.scope.names.lookup x=some .local) (hy:X.env.scope.names.lookup y=some .local) (ha:PA X [a,b] ta)
   (hw:swappedStores [.Tuple [.Name x px,.Name y py] kt pt] (.Tuple [a,b] k2 pt2) X.env=pure (some [x,y]))
   (hs:swapsWithSole [.Tuple [.Name x px,.Name y py] kt pt] (.Tuple [a,b] k2 pt2) pos.line X.env=pure false:=by rfl) :
   PS X (.Assign [.Tuple [.Name x px,.Name y py] kt pt] (.Tuple [a,b] k2 pt2) pos) (aOk i j ta):=by
 intro pins s σ H D I h;rw [exec_Assign_arm];refine wAq (wpAny_standAt ?_);rw [hs];refine wAq (wBq ?_);rw [if_neg (by decide)];refine wAq (Tuple_ (thn (ha _ pins s σ H _ I h) fun us s1 zz=>?_));obtain ⟨vs,H1,I1,r1,q1⟩:=zz;obtain ⟨v,w,e1,q1⟩:=q1;subst e1;obtain ⟨u1,u2,rfl,rv,rw'⟩:∃ u1 u2,us=[u1,u2]∧aO v u1∧aO w u2:=by
   cases r1 with
   | cons p q =>
     cases q with
     | cons p' q' =>
       cases q';exact ⟨_,_,rfl,p,p'⟩
 refine wpAny_newObj_type ?_ (by show 2≤sizeLine; decide);have I2:Inv X pins σ H1 { s1 with heap:=s1.heap.push { cls:=.type "tuple",data:=.seq [u1,u2].toArray } }:=I1.kept (t':=s1.toks) fun b o e=>wEq _ e;rw [hw];refine wAq (wBq ?_);show wpAny (model X.prog X.w) X.A (do rule "assign.swapped-stores"; let items ←unpackItems (.ref s1.heap.objs.size) 2 none; assignInOrder [fun v=>bindName X.env y v,fun v=>bindName X.env x v] items.reverse; pure Flow.next) _ _ _;refine wAq (wpAny_rule (wAq (unpackItems_tuple (items:= #[u1,u2]) (I.ok.hd hc) (IsTup.new s1.heap _) fun h' hx'=>?_)));have I3:=I2.kept (h':=h') (t':=s1.toks) fun b o e=>hx' b o (Nat.ne_of_lt (Heap.lt_size e)) e;show wpAny _ _ (assignInOrder [fun v=>bindName X.env y v,fun v=>bindName X.env x v] [u2,u1] >>= fun _=>pure Flow.next) _ _ _;refine wAq (assignInOrder_cons (wpAny_bindName (lD I3 hN hj (.inl hy) rw' (fun s2 I4=>?_) (.inr hy))));refine assignInOrder_cons (wpAny_bindName (lD I4 hN hi (.inl hx) rv (fun s3 I5=>assignInOrder_nil (wBq ?_)) (.inr hx)));rw [List.set_comm _ _ (Ne.symm hij)] at I5;exact ⟨_,H1,I5,q1⟩
end
section
variable {X:Cx} {pos:Pos}
def aH9 (c:TT) (tb:TS):TS:=fun D σ H=>∃ W:Nat→St→Hp→Prop,(∃ m,W m σ H)∧∀ m σ H,W m σ H→
 c σ H fun b H1=>if b=true then ∃ N:St→Hp→Prop,(∀ σ' H',N σ' H'→∃ m',m' < m∧W m' σ' H')∧tb { D with nx:=N,ct:=N,bk:=D.nx } σ H1 else D.nx σ H1
theorem aAo {c:Expr} {body:List Stmt} {tc:TT} {tb:TS} (hp:PassesOwn (model X.prog X.w) X.A X.env X.xe) (hc:PT X c tc) (hb:PSs X body tb):PS X (.While c body [] pos) (aH9 tc tb):=by
 intro pins s σ H D I h;obtain ⟨W,⟨m0,w0⟩,turn⟩:=h;refine wpAny_While (codeAny_whileLoop (fun n s'=>∃ σ' H',Inv X pins σ' H' s'∧W n σ' H') ?_ m0 ⟨σ,H,I,w0⟩);rintro n s1 ⟨σ1,H1,I1,w1⟩;refine wpAny_passesOwn hp (thn (hc pins s1 σ1 H1 _ I1 (turn n σ1 H1 w1)) fun b s2 zz=>?_);obtain ⟨H2,I2,q2⟩:=zz;cases b with
 | true =>
   obtain ⟨N,hN,q2⟩:=q2;rw [if_pos rfl];refine wpAny_passesOwn hp (thn (hb pins s2 σ1 H2 _ I2 q2) fun f s3 q3=>?_);cases f with
   | next =>
     obtain ⟨σ3,H3,I3,n3⟩:=q3;obtain ⟨m',hm,w3⟩:=hN σ3 H3 n3;exact ⟨m',hm,σ3,H3,I3,w3⟩
   | cont =>
     obtain ⟨σ3,H3,I3,n3⟩:=q3;obtain ⟨m',hm,w3⟩:=hN σ3 H3 n3;exact ⟨m',hm,σ3,H3,I3,w3⟩
   | brk=>exact q3
   | ret v=>exact q3
 | false =>
   rw [if_neg Bool.false_ne_true];exact wpAny_execs_nil ⟨σ1,H2,I2,q2⟩
end
structure It where
 go:Nat→Hp→Prop
 yld:Nat→Hp→V→Hp→Prop
 stop:Nat→Hp→Prop
noncomputable def xK (X:Cx) (pins:List (Addr×Obj)) (H:Hp) (b:Addr):Prop :=
 H b=none∧b≠X.env.locals∧b∉ X.fs∧(b∈X.ex∨X.s₀.heap.objs.size≤b)∧(∀ x c,X.env.cells.lookup x=some c→c≠b)∧∀ p∈X.pn ++ pins,p.1≠b
theorem Inv.fpOk {X:Cx} {pins:List (Addr×Obj)} {σ:St} {H H':Hp} {s:Shared} {b:Addr} (I:Inv X pins σ H s) (hb:s.heap.objs.size≤b) (hn:H' b=none):xK X pins H' b:=by
 refine ⟨hn,Nat.ne_of_gt (wFq I.lt hb),I.nofs hb,.inr (Nat.le_trans I.sz hb),fun x c e z=>?_,fun p hp z=>?_⟩
 · obtain ⟨v,q⟩:=I.cell x c e;exact absurd (wFq q.lt (by rw [z]; exact hb)) (Nat.lt_irrefl _)
 · exact absurd (wFq (Heap.lt_size (I.pin p hp).1) (by rw [z]; exact hb)) (Nat.lt_irrefl _)
structure SB (P:Program) (w:World) (K:W.Frag) (tg:Expr) (J:It) (fp:List Addr) (it:Addr) (tn:Nat→Heap→Prop):Prop where
 mem:it∈fp
 obj:∀ i h,tn i h→∀ b∈fp,∃ o,h.get? b=some o∧∀ v,o.data≠.cell v
 keep:∀ i h h',tn i h→(∀ b∈fp,∀ o,h.get? b=some o→h'.get? b=some o)→tn i h'
 item :∀ (X:Cx),X.prog=P→X.w=w→X.K=K→X.calm=true→∀ (i:Nat) (pins:List (Addr×Obj)) (s:Shared) (σ:St) (H:Hp) (E:Value→Shared→Prop),Inv X pins σ H s→(∀ b∈fp,xK X pins H b)→tn i s.heap→J.go i H→
   wpAny (model P w) X.A (pyNext (.ref it)) (fun r s1=>∃ u,r=some u∧
     wpAny (model P w) X.A (letOwnedTupleGo tg (.ref it) u) (fun _ s2=>∃ x H',Inv X pins σ H' s2∧aO x u∧J.yld i H x H'∧tn (i + 1) s2.heap∧∀ b∈fp,H' b=none) E s1) E s
 done:∀ (X:Cx),X.prog=P→X.w=w→X.K=K→X.calm=true→∀ (i:Nat) (pins:List (Addr×Obj)) (s:Shared) (σ:St) (H:Hp) (E:Value→Shared→Prop),Inv X pins σ H s→(∀ b∈fp,xK X pins H b)→tn i s.heap→J.stop i H→
   wpAny (model P w) X.A (pyNext (.ref it)) (fun r s1=>r=none∧Inv X pins σ H s1) E s
 self:∀ (A:Around) (i:Nat) (s:Shared) (Q:Value→Shared→Prop) (E:Value→Shared→Prop),tn i s.heap→Q (.ref it) s→wpAny (model P w) A (pyIter (.ref it)) Q E s
noncomputable abbrev TI:=St→Hp→(It→Hp→Prop)→Prop
noncomputable def PIE (X:Cx) (pins:List (Addr×Obj)) (σ:St) (tg:Expr) (R:It→Hp→Prop) (itv:Value) (s2:Shared):Prop :=
 ∃ (it:Addr) (fp:List Addr) (tn:Nat→Heap→Prop) (J:It) (H':Hp),itv= .ref it∧Inv X pins σ H' s2∧SB X.prog X.w X.K tg J fp it tn∧tn 0 s2.heap∧(∀ b∈fp,xK X pins H' b)∧R J H'
noncomputable def PI (X:Cx) (tg iter:Expr) (wi:TI):Prop :=
 ∀ (pins:List (Addr×Obj)) (s:Shared) (σ:St) (H:Hp) (R:It→Hp→Prop),Inv X pins σ H s→wi σ H R→
   wpAny (model X.prog X.w) X.A (eval iter X.env) (fun v s1=>wpAny (model X.prog X.w) X.A (pyIter v) (PIE X pins σ tg R) X.xe s1) X.xe s
theorem ZD {M:Model} {A:Around} {E:Value→Shared→Prop} {s:Shared} {tg:Expr} {it:Addr} {u:Value} {o:Obj} {n:String} {vs:Array Value} {Q:Unit→Shared→Prop} (ho:s.heap.get? it=some o) (hc:o.cls= .type n) (hd:o.data= .fields vs)
   (hn: ["enumerate","zip","dict_itemiterator","dict_reverseitemiterator","odict_iterator","itertools.zip_longest","itertools.pairwise"].contains n=false) (hQ:Q () s):wpAny M A (letOwnedTupleGo tg (.ref it) u) Q E s:=by
 unfold letOwnedTupleGo;cases tg <;> first
   | exact wBq hQ
   | (cases u <;> first
       | exact wBq hQ
       | (refine wAq (wpAny_load ho ?_)
          rw [hc,hd];show wpAny M A (if (["enumerate","zip","dict_itemiterator","dict_reverseitemiterator","odict_iterator","itertools.zip_longest","itertools.pairwise"].contains n && vs[0]? == some (rawInt _))=true then _ else _) Q E s;rw [if_neg (by intro h; rw [hn,Bool.false_and] at h; cases h)];exact wBq hQ))
noncomputable def Itl (K:W.Frag) (a:Addr):It :=
 ⟨fun i H=>∃ xs x,SqL K H a xs∧xs[i]? =some x,fun i H x H'=>H'=H∧∀ xs,SqL K H a xs→xs[i]? =some x,fun i H=>∃ xs,SqL K H a xs∧xs.length≤i⟩
noncomputable def Itt (K:W.Frag) (a:Addr):It :=
 ⟨fun i H=>∃ xs x,SqT K H a xs∧xs[i]? =some x,fun i H x H'=>H'=H∧∀ xs,SqT K H a xs→xs[i]? =some x,fun i H=>∃ xs,SqT K H a xs∧xs.length≤i⟩
noncomputable def Itr (lo:Int) (n:Nat):It:=⟨fun i _=>i < n,fun i H x H'=>H'=H∧x= .int (lo + i),fun i _=>n≤i⟩
theorem QG {P:Program} {w:World} {K:W.Frag} {tg:Expr} (a it:Addr):SB P w K tg (Itl K a) [it] it (fun i h=>h.IsListIter it a i) where
 mem:=by simp
 obj:=fun i h st b hb=>by
   have e:b=it:=by simpa using hb
   subst e;obtain ⟨o,e,c,d⟩:=st;exact ⟨o,e,fun v z=>by rw [d] at z; cases z⟩
 keep:=fun i h h' st k=>st.at fun o e=>k it (by simp) o e
 item:=by
   intro X hP hw hK hc i pins s σ H E I hf st hg;subst hP hw hK;obtain ⟨xs,x,hq,hx⟩:=hg;obtain ⟨its,rv,p,hz⟩:=I.list hq;obtain ⟨u,hu,ru⟩:=rv.get hx;obtain ⟨f0,f1,f2,f3,f4,f5⟩:=hf it (by simp);refine wpAny_pyNext_list_item st p.isList (x:=u) (by simpa using hu) fun h' st' sb=>?_;have I1:Inv X pins σ H { s with heap:=h' }:=I.turned (t':=s.toks) (fun b o hb e=>(sb.2 b hb).trans e) f0 f1 f3 f4 f5;obtain ⟨o,e,c,d⟩:=id st';exact ⟨u,rfl,ZD (s:={ s with heap:=h' }) e c d (by decide) ⟨x,H,I1,ru,⟨rfl,fun ys hy=>by rw [I.list_inj hy hq]; exact hx⟩,st',fun b hb=>(hf b hb).1⟩⟩
 done:=by
   intro X hP hw hK hc i pins s σ H E I hf st hg;subst hP hw hK;obtain ⟨xs,hq,hx⟩:=hg;obtain ⟨its,rv,p,hz⟩:=I.list hq;obtain ⟨f0,f1,f2,f3,f4,f5⟩:=hf it (by simp);have hl:=rv.length;exact wpAny_pyNext_list_end (I.ok.hd hc) st p.isList (by simp; omega) fun h' eb=>⟨rfl,I.turned (t':=s.toks) (fun b o hb e=>eb b o hb e) f0 f1 f3 f4 f5⟩
 self:=fun _ _ _ _ _ st h=>wpAny_pyIter_listiter st h
theorem KU {P:Program} {w:World} {K:W.Frag} {tg:Expr} (a it:Addr):SB P w K tg (Itt K a) [it] it (fun i h=>h.IsTupleIter it a i) where
 mem:=by simp
 obj:=fun i h st b hb=>by
   have e:b=it:=by simpa using hb
   subst e;obtain ⟨o,e,c,d⟩:=st;exact ⟨o,e,fun v z=>by rw [d] at z; cases z⟩
 keep:=fun i h h' st k=>st.at fun o e=>k it (by simp) o e
 item:=by
   intro X hP hw hK hc i pins s σ H E I hf st hg;subst hP hw hK;obtain ⟨xs,x,hq,hx⟩:=hg;obtain ⟨its,rv,p,hz⟩:=I.tuple hq;obtain ⟨u,hu,ru⟩:=rv.get hx;obtain ⟨f0,f1,f2,f3,f4,f5⟩:=hf it (by simp);refine wpAny_pyNext_tuple_item st (show s.heap.IsTuple a its.toArray from p) (x:=u) (by simpa using hu) fun h' st' sb=>?_;have I1:Inv X pins σ H { s with heap:=h' }:=I.turned (t':=s.toks) (fun b o hb e=>(sb.2 b hb).trans e) f0 f1 f3 f4 f5;obtain ⟨o,e,c,d⟩:=id st';exact ⟨u,rfl,ZD (s:={ s with heap:=h' }) e c d (by decide) ⟨x,H,I1,ru,⟨rfl,fun ys hy=>by rw [I.tuple_inj hy hq]; exact hx⟩,st',fun b hb=>(hf b hb).1⟩⟩
 done:=by
   intro X hP hw hK hc i pins s σ H E I hf st hg;subst hP hw hK;obtain ⟨xs,hq,hx⟩:=hg;obtain ⟨its,rv,p,hz⟩:=I.tuple hq;obtain ⟨f0,f1,f2,f3,f4,f5⟩:=hf it (by simp);have hl:=rv.length;exact wpAny_pyNext_tuple_end (I.ok.hd hc) st (show s.heap.IsTuple a its.toArray from p) (by simp; omega) fun h' eb=>⟨rfl,I.turned (t':=s.toks) (fun b o hb e=>eb b o hb e) f0 f1 f3 f4 f5⟩
 self:=fun _ _ _ _ _ st h=>wpAny_pyIter_tupleiter st h
theorem IA {P:Program} {w:World} {K:W.Frag} {tg:Expr} (it:Addr) (lo:Int) (n:Nat):SB P w K tg (Itr lo n) [it] it (fun i h=>IsRangeIter h it (lo + (i:Nat) * 1) ((n:Int) - (i:Nat)) 1) where
 mem:=by simp
 obj :=fun i h st b hb=>by
   have e:b=it:=by simpa using hb
   subst e;exact ⟨_,st,fun v z=>by
     have z':Data.fields _=Data.cell v:=z;cases z'⟩
 keep:=fun i h h' st k=>k it (by simp) _ st
 item:=by
   intro X hP hw hK hc i pins s σ H E I hf st hg;subst hP hw hK;obtain ⟨f0,f1,f2,f3,f4,f5⟩:=hf it (by simp);have W:=Walks.range (prog:=X.prog) (w:=X.w) (I.ok.hd hc) it lo 1 n;refine W.item i s _ _ hg st fun v h' tk hv st' kk=>?_;obtain ⟨t,rfl⟩:=hv;have I1:Inv X pins σ H { s with heap:=h',toks:=tk }:=I.turned (fun b o hb e=>kk b o (by simpa using hb) e) f0 f1 f3 f4 f5;refine ⟨_,rfl,ZD (s:={ s with heap:=h',toks:=tk }) (n:="range_iterator") st' rfl rfl (by decide) ⟨.int (lo + i),H,I1,⟨t, ?_⟩,⟨rfl,rfl⟩,st',fun b hb=>(hf b hb).1⟩⟩;rw [Int.mul_one]
 done:=by
   intro X hP hw hK hc i pins s σ H E I hf st hg;subst hP hw hK;obtain ⟨f0,f1,f2,f3,f4,f5⟩:=hf it (by simp);exact wpAny_pyNext_range_end (I.ok.hd hc) st (by have:n≤i:=hg; omega) fun h' eb=>⟨rfl,I.turned (t':=s.toks) (fun b o hb e=>eb b o hb e) f0 f1 f3 f4 f5⟩
 self:=fun _ _ _ _ _ st h=>wpAny_pyIter_rangeiter st h
section
variable {X:Cx} {tg:Expr}
theorem GC {pins:List (Addr×Obj)} {σ:St} {H:Hp} {s:Shared} {R:It→Hp→Prop} {E:Value→Shared→Prop} {lo hi:Int} {t u v:Tok} {tk:Nat} (I:Inv X pins σ H s) (h1: -(2 ^ 62)≤lo) (h2:lo < 2 ^ 62) (h3: -(2 ^ 62)≤hi) (h4:hi < 2 ^ 62)
   (q:R (Itr lo (hi - lo).toNat) H):wpAny (model X.prog X.w) X.A (pyIter (.ref s.heap.objs.size)) (PIE X pins σ tg R) E { s with heap:=s.heap.push { cls:=.type "range",data:=.fields #[.int lo t,.int hi u,.int 1 v] },toks:=tk }:=by
 refine wpAny_pyIter_range (IsRange.new ..) (small_one h1 h2 h3 h4) ?_;have I1:Inv X pins σ H { s with heap:=s.heap.push { cls:=.type "range",data:=.fields #[.int lo t,.int hi u,.int 1 v] },toks:=tk }:=I.kept fun b o e=>wEq _ e;refine ⟨(s.heap.push { cls:=.type "range",data:=.fields #[.int lo t,.int hi u,.int 1 v] }).objs.size,[(s.heap.push { cls:=.type "range",data:=.fields #[.int lo t,.int hi u,.int 1 v] }).objs.size],_,_,H,rfl,
   I1.kept (t':=tk) fun b o e=>wEq _ e,IA _ lo (hi - lo).toNat, ?_,fun b hb=>?_,q⟩
 · have e1:lo + ((0:Nat):Int) * 1=lo:=by simp
   have e2:(((hi - lo).toNat:Nat):Int) - ((0:Nat):Int)=Builtin.Range.rangeSize lo hi 1:=by rw [rangeSize_one]; split <;> omega
   show IsRangeIter _ _ (lo + ((0:Nat):Int) * 1) ((((hi - lo).toNat:Nat):Int) - ((0:Nat):Int)) 1;rw [e1,e2];exact wGq _ rfl
 · have e:b=(s.heap.push { cls:=.type "range",data:=.fields #[.int lo t,.int hi u,.int 1 v] }).objs.size:=by simpa using hb
   subst e;exact I1.fpOk (Nat.le_refl _) (I1.hok.fresh (Nat.le_refl _))
def aMc (ta:TA):TI:=fun σ H R=>ta σ H fun vs H1=>∃ j:Int,vs=[.int j]∧ -(2 ^ 62)≤j∧j < 2 ^ 62∧R (Itr 0 j.toNat) H1
def aLP (ta:TA):TI:=fun σ H R=>ta σ H fun vs H1=>∃ i j:Int,vs=[.int i,.int j]∧(-(2 ^ 62)≤i∧i < 2 ^ 62∧ -(2 ^ 62)≤j∧j < 2 ^ 62)∧R (Itr i (j - i).toNat) H1
theorem PP {a:Expr} {ta:TA} {p pos:Pos} (hg:Gl X "range") (hm:X.mg "range"=none) (ha:PA X [a] ta) (hs:starEach [a] X.env=[(false,eval a X.env)]:=by rfl):PI X tg (.Call (.Name "range" p) [a] [] pos) (aMc ta):=by
 intro pins s σ H R I h;refine Call_ (lJ I hg hm boot_range (PyProof.Rows.callWith_type1 (thn (ha pos pins s σ H _ I h) fun us s1 zz=>?_) hs rfl));obtain ⟨vs,H1,I1,r1,q1⟩:=zz;obtain ⟨j,e,q1,q2,q⟩:=q1;subst e;cases r1 with
 | cons r rr =>
   cases rr;obtain ⟨t,rfl⟩:=r;exact call_range_1 (GC I1 (by omega) (by omega) q1 q2 (by simpa using q))
theorem PM {a b:Expr} {ta:TA} {p pos:Pos} (hg:Gl X "range") (hm:X.mg "range"=none) (ha:PA X [a,b] ta) (hs:starEach [a,b] X.env=[(false,eval a X.env),(false,eval b X.env)]:=by rfl) (hs2:starEach [b] X.env=[(false,eval b X.env)]:=by rfl) :
   PI X tg (.Call (.Name "range" p) [a,b] [] pos) (aLP ta):=by
 intro pins s σ H R I h;refine Call_ (lJ I hg hm boot_range (PyProof.Rows.callWith_type1 (thn (ha pos pins s σ H _ I h) fun us s1 ⟨vs,H1,I1,r1,q1⟩=>?_) (by rw [hs,hs2]) (by rw [hs2]; rfl)));obtain ⟨i,j,e,⟨q1,q2,q3,q4⟩,q⟩:=q1;subst e;cases r1 with
 | cons r rr =>
   cases rr with
   | cons r' rr =>
     cases rr;obtain ⟨t,rfl⟩:=r;obtain ⟨t',rfl⟩:=r';exact call_range_2 (GC I1 q1 q2 q3 q4 q)
def aNC (wi:TI) (g:TG) (tb:TS):TS:=fun D σ H=>wi σ H fun J H1=>∃ W:Nat→Nat→St→Hp→Prop,(∃ m,W 0 m σ H1)∧∀ i m σ H,W i m σ H→
 (J.stop i H∧D.nx σ H)∨(J.go i H∧∃ N:St→Hp→Prop,(∀ σ' H',N σ' H'→∃ m',m' < m∧W (i + 1) m' σ' H')∧∀ x H',J.yld i H x H'→g x σ H' fun σ2 H2=>tb { D with nx:=N,ct:=N,bk:=D.nx } σ2 H2)
noncomputable def vC (fp:List Addr) (h:Heap):List (Addr×Obj):=fp.filterMap fun b=>(h.get? b).map fun o=>(b,o)
theorem iX {fp:List Addr} {h:Heap} {b:Addr} {o:Obj} (hb:b∈fp) (e:h.get? b=some o):(b,o)∈vC fp h:=List.mem_filterMap.mpr ⟨b,hb,by rw [e]; rfl⟩
theorem OQ {fp:List Addr} {h:Heap} {p:Addr×Obj} (hp:p∈vC fp h):p.1∈fp∧h.get? p.1=some p.2:=by
 obtain ⟨b,hb,e⟩:=List.mem_filterMap.mp hp;cases q:h.get? b with
 | none=>rw [q] at e; cases e
 | some o =>
   rw [q] at e;have e':(b,o)=p:=Option.some.inj e;subst e';exact ⟨hb,q⟩
theorem Inv.pinned {pins:List (Addr×Obj)} {σ:St} {H:Hp} {s:Shared} {fp:List Addr} (I:Inv X pins σ H s) (hf:∀ b∈fp,xK X pins H b) (ho:∀ b∈fp,∃ o,s.heap.get? b=some o∧∀ v,o.data≠.cell v):Inv X (pins ++ vC fp s.heap) σ H s :=
 I.pins_of fun p hp=>(List.mem_append.mp hp).elim (fun z=>I.pin p (List.mem_append_right _ z)) fun z=>by
   obtain ⟨hb,e⟩:=OQ z;obtain ⟨f0,f1,f2,_⟩:=hf p.1 hb;obtain ⟨o,e',d⟩:=ho p.1 hb;rw [e] at e'; cases e';exact ⟨e,f0,f1,f2,d⟩
theorem Inv.unpinned {pins pl:List (Addr×Obj)} {σ:St} {H:Hp} {s:Shared} (I:Inv X (pins ++ pl) σ H s):Inv X pins σ H s:=I.pins_of fun p hp=>I.pin p (List.mem_append_right _ (List.mem_append_left _ hp))
theorem aGM {iter:Expr} {body:List Stmt} {wi:TI} {g:TG} {tb:TS} {pos:Pos} (hp:PassesOwn (model X.prog X.w) X.A X.env X.xe) (hc:X.calm=true) (hi:PI X tg iter wi) (hg:PG X tg g) (hb:PSs X body tb)
   (hs:∀ x,foldedSetIterable iter X.env x=pure x:=by intro _; rfl):PS X (.For tg iter body [] pos) (aNC wi g tb):=by
 intro pins s σ H D I h;refine wpAny_For (thn (hi pins s σ H _ I h) fun v s1 h1=>thn h1 fun itv s2 h2=>?_) hs;obtain ⟨it,fp,tn,J,H2,e,I2,T,st2,f2,W,⟨m0,w0⟩,turn⟩:=h2;subst e;have stat:∀ {H':Hp},(∀ b∈fp,H' b=none)→∀ b∈fp,xK X pins H' b:=fun hn b hb=>⟨hn b hb,(f2 b hb).2⟩;refine codeAny_forLoop_any (fun n s'=>∃ i σ' H',Inv X pins σ' H' s'∧tn i s'.heap∧(∀ b∈fp,H' b=none)∧W i n σ' H') ?_ m0 ⟨0,σ,H2,I2,st2,fun b hb=>(f2 b hb).1,w0⟩;rintro n s3 ⟨i,σ3,H3,I3,st3,fr3,w3⟩;rcases turn i n σ3 H3 w3 with ⟨stop,qn⟩ | ⟨go,N,hN,step⟩
 · refine wpAny_passesOwn hp (thn (T.done X rfl rfl rfl hc i pins s3 σ3 H3 X.xe I3 (stat fr3) st3 stop) fun r s4 zz=>?_);obtain ⟨hr,I4⟩:=zz;subst hr;exact wpAny_execs_nil ⟨σ3,H3,I4,qn⟩
 · refine wpAny_passesOwn hp (thn (T.item X rfl rfl rfl hc i pins s3 σ3 H3 X.xe I3 (stat fr3) st3 go) fun r s4 zz=>?_);obtain ⟨u,hr,h4⟩:=zz;subst hr;refine wpAny_passesOwn hp (thn h4 fun _ s5 zz=>?_);obtain ⟨x,H5,I5,r5,y5,st5,fr5⟩:=zz;have I5':=I5.pinned (stat fr5) (T.obj _ _ st5);refine wpAny_passesOwn hp (thn (hg _ s5 σ3 H5 x u _ I5' r5 (step x H5 y5)) fun _ s6 zz=>?_);obtain ⟨σ6,H6,I6,q6⟩:=zz;refine wpAny_passesOwn hp (thn (hb _ s6 σ6 H6 _ I6 q6) fun f s7 q7=>?_);have again:∀ {σ7:St} {H7:Hp},Inv X (pins ++ vC fp s5.heap) σ7 H7 s7→N σ7 H7→∃ m,m < n∧∃ i σ' H',Inv X pins σ' H' s7∧tn i s7.heap∧(∀ b∈fp,H' b=none)∧W i m σ' H':=fun {σ7 H7} I7 n7=>by
     obtain ⟨m',hm,w7⟩:=hN σ7 H7 n7;refine ⟨m',hm,i + 1,σ7,H7,I7.unpinned,T.keep _ _ _ st5 fun b hb o e=>(I7.pin (b,o) (List.mem_append_right _ (List.mem_append_right _ (iX hb e)))).1,fun b hb=>?_,w7⟩;obtain ⟨o,e,d⟩:=T.obj _ _ st5 b hb;exact (I7.pin (b,o) (List.mem_append_right _ (List.mem_append_right _ (iX hb e)))).2.1
   cases f with
   | next=>obtain ⟨σ7,H7,I7,n7⟩:=q7; exact again I7 n7
   | cont=>obtain ⟨σ7,H7,I7,n7⟩:=q7; exact again I7 n7
   | brk=>obtain ⟨σ7,H7,I7,q7⟩:=q7; exact ⟨σ7,H7,I7.unpinned,q7⟩
   | ret v=>obtain ⟨x7,σ7,H7,I7,r7,q7⟩:=q7; exact ⟨x7,σ7,H7,I7.unpinned,r7,q7⟩
end
noncomputable abbrev R2:=V→V→Hp→VK→Prop
noncomputable def OpR (X:Cx) (f:Value→Value→Sem Value) (r:R2):Prop :=
 ∀ (pins:List (Addr×Obj)) (s:Shared) (σ:St) (H:Hp) (x y:V) (v u:Value) (Q:VK),Inv X pins σ H s→aO x v→aO y u→r x y H Q→
   wpAny (model X.prog X.w) X.A (f v u) (EP X pins σ Q) X.xe s
noncomputable def UnR (X:Cx) (f:Value→Sem Value) (r:V→Hp→VK→Prop):Prop :=
 ∀ (pins:List (Addr×Obj)) (s:Shared) (σ:St) (H:Hp) (x:V) (v:Value) (Q:VK),Inv X pins σ H s→aO x v→r x H Q→
   wpAny (model X.prog X.w) X.A (f v) (EP X pins σ Q) X.xe s
noncomputable def bT (X:Cx) (f:Value) (r:List V→Hp→VK→Prop):Prop :=
 ∀ (pins:List (Addr×Obj)) (s:Shared) (σ:St) (H:Hp) (xs:List V) (us:List Value) (Q:VK),Inv X pins σ H s→aM xs us→r xs H Q→
   wpAny (model X.prog X.w) X.A (call f us) (EP X pins σ Q) X.xe s
noncomputable def aOj (X:Cx) (r:V→Hp→(Bool→Hp→Prop)→Prop):Prop :=
 ∀ (pins:List (Addr×Obj)) (s:Shared) (σ:St) (H:Hp) (x:V) (v:Value) (Q:Bool→Hp→Prop),Inv X pins σ H s→aO x v→r x H Q→
   wpAny (model X.prog X.w) X.A (truthy v) (TP X pins σ Q) X.xe s
def tOp (r:R2) (ta tb:TE):TE:=fun σ H Q=>ta σ H fun x H1=>tb σ H1 fun y H2=>r x y H2 Q
def tUn (r:V→Hp→VK→Prop) (ta:TE):TE:=fun σ H Q=>ta σ H fun x H1=>r x H1 Q
def rI (C:Int→Int→Prop) (g:Int→Int→V):R2:=fun x y H Q=>∃ i j,x= .int i∧y= .int j∧C i j∧Q (g i j) H
def rI0 (g:Int→Int→V):R2:=fun x y H Q=>∃ i j,x= .int i∧y= .int j∧Q (g i j) H
noncomputable def rU (g:Int→V):V→Hp→VK→Prop:=fun x H Q=>∃ i,x= .int i∧Q (g i) H
section
variable {X:Cx} {a b c:Expr} {ta tb tc:TE} {pos:Pos}
theorem aHQ (ha:PE X a ta) (hb:PE X b tb) {pins:List (Addr×Obj)} {s:Shared} {σ:St} {H:Hp} {R:V→V→Hp→Prop} (I:Inv X pins σ H s)
   (h:ta σ H fun x H1=>tb σ H1 fun y H2=>R x y H2) {Q:Value→Shared→Prop} {f:Value→Value→Sem Value}
   (hf:∀ v u s2 x y H2,Inv X pins σ H2 s2→aO x v→aO y u→R x y H2→wpAny (model X.prog X.w) X.A (f v u) Q X.xe s2) :
   wpAny (model X.prog X.w) X.A (eval a X.env) (fun v s₁=>wpAny (model X.prog X.w) X.A (eval b X.env) (fun u s₂=>wpAny (model X.prog X.w) X.A (f v u) Q X.xe s₂) X.xe s₁) X.xe s:=by
 refine thn (ha pins s σ H _ I h) fun v s1 zz=>?_;obtain ⟨x,H1,I1,r1,q1⟩:=zz;refine thn (hb pins s1 σ H1 _ I1 q1) fun u s2 zz=>?_;obtain ⟨y,H2,I2,r2,q2⟩:=zz;exact hf v u s2 x y H2 I2 r1 r2 q2
theorem aKT {op:Operator} {r:R2} (ho:OpR X (binaryOp op) r) (ha:PE X a ta) (hb:PE X b tb):PE X (.BinOp a op b pos) (tOp r ta tb):=by
 intro pins s σ H Q I h;exact wpAny_BinOp (aHQ ha hb I h fun v u s2 x y H2 I2 rx ry q=>ho pins s2 σ H2 x y v u Q I2 rx ry q)
theorem aJz {op:UnaryOp} {r:V→Hp→VK→Prop} (ho:UnR X (unaryOp op) r) (ha:PE X a ta):PE X (.UnaryOp op a pos) (tUn r ta):=by
 intro pins s σ H Q I h;exact UnaryOp_ (thn (ha pins s σ H _ I h) <|by rintro v s1 ⟨x,H1,I1,r1,q1⟩;exact ho pins s1 σ H1 x v Q I1 r1 q1)
theorem opI {f:Value→Value→Sem Value} {C:Int→Int→Prop} {g:Int→Int→Int}
   (rule:∀ (i j:Int) (t u:Tok) (s:Shared) (Q:Value→Shared→Prop) (E:Value→Shared→Prop),C i j→Q (.int (g i j) s.toks) { s with toks:=s.toks + 1 }→wpAny (model X.prog X.w) X.A (f (.int i t) (.int j u)) Q E s) :
   OpR X f (rI C fun i j=>.int (g i j)):=by
 intro pins s σ H x y v u Q I rx ry h;obtain ⟨i,j,rfl,rfl,hc,q⟩:=h;obtain ⟨t,rfl⟩:=rx;obtain ⟨t',rfl⟩:=ry;exact rule i j t t' s _ _ hc ⟨.int (g i j),H,I.tok _,⟨_,rfl⟩,q⟩
theorem aJy {f:Value→Value→Sem Value} {g:Int→Int→Int}
   (rule:∀ (i j:Int) (t u:Tok) (s:Shared) (Q:Value→Shared→Prop) (E:Value→Shared→Prop),Q (.int (g i j) s.toks) { s with toks:=s.toks + 1 }→wpAny (model X.prog X.w) X.A (f (.int i t) (.int j u)) Q E s) :
   OpR X f (rI0 fun i j=>.int (g i j)):=by
 intro pins s σ H x y v u Q I rx ry h;obtain ⟨i,j,rfl,rfl,q⟩:=h;obtain ⟨t,rfl⟩:=rx;obtain ⟨t',rfl⟩:=ry;exact rule i j t t' s _ _ ⟨.int (g i j),H,I.tok _,⟨_,rfl⟩,q⟩
theorem aD6 {f:Value→Value→Sem Value} {g:Int→Int→Bool}
   (rule:∀ (i j:Int) (t u:Tok) (s:Shared) (Q:Value→Shared→Prop) (E:Value→Shared→Prop),Q (.bool (g i j)) s→wpAny (model X.prog X.w) X.A (f (.int i t) (.int j u)) Q E s) :
   OpR X f (rI0 fun i j=>.bl (g i j)):=by
 intro pins s σ H x y v u Q I rx ry h;obtain ⟨i,j,rfl,rfl,q⟩:=h;obtain ⟨t,rfl⟩:=rx;obtain ⟨t',rfl⟩:=ry;exact rule i j t t' s _ _ ⟨.bl (g i j),H,I,rfl,q⟩
def VN (i j:Int):Prop:=0≤j∧j≤1000000∧i.natAbs < 2 ^ 64
theorem aIs:OpR X (binaryOp .Add) (rI0 fun i j=>.int (i + j)):=aJy fun _ _ _ _ _ _ _ q=>add_int q
theorem aGh:OpR X (binaryOp .Sub) (rI0 fun i j=>.int (i - j)):=aJy fun _ _ _ _ _ _ _ q=>sub_int q
theorem aIb:OpR X (binaryOp .Mod) (rI (fun _ j=>0 < j) fun i j=>.int (i % j)):=opI fun i j _ _ _ _ _ hc q=>by
 have h1:(0:Int) < j:=hc;exact mod_int' (by omega) (by rw [Int.fmod_eq_emod_of_nonneg i (by omega)]; exact q)
theorem aGp:OpR X (binaryOp .Pow) (rI VN fun i j=>.int (i ^ j.toNat)):=opI fun _ _ _ _ _ _ _ hc q=>pow_int_small hc.1 hc.2.1 hc.2.2 q
theorem aGu:OpR X (binaryOp .LShift) (rI VN fun i j=>.int (i * 2 ^ j.toNat)):=opI fun _ _ _ _ _ _ _ hc q=>lshift_int_small hc.1 hc.2.1 hc.2.2 q
theorem unI {f:Value→Sem Value} {g:Int→Int}
   (rule:∀ (i:Int) (t:Tok) (s:Shared) (Q:Value→Shared→Prop) (E:Value→Shared→Prop),Q (.int (g i) s.toks) { s with toks:=s.toks + 1 }→wpAny (model X.prog X.w) X.A (f (.int i t)) Q E s) :
   UnR X f (rU fun i=>.int (g i)):=by
 intro pins s σ H x v Q I rx h;obtain ⟨i,rfl,q⟩:=h;obtain ⟨t,rfl⟩:=rx;exact rule i t s _ _ ⟨.int (g i),H,I.tok _,⟨_,rfl⟩,q⟩
theorem aIw:UnR X (unaryOp .USub) (rU fun i=>.int (-i)):=unI fun _ _ _ _ _ q=>neg_int q
end
theorem aDo {i j:Int}:decide (V.int i=V.int j)=(i == j):=by
 rw [Bool.eq_iff_iff];simp
theorem aD0 {i j:Str}:decide (V.str i=V.str j)=(i == j):=by
 rw [Bool.eq_iff_iff];simp
section
variable {X:Cx} {a b c:Expr} {ta tb tc:TE} {pos:Pos}
theorem aAB {pins:List (Addr×Obj)} {σ:St} {H:Hp} {s:Shared} {Q:VK} {k k':Bool} (I:Inv X pins σ H s) (q:Q (.bl k) H) (e:k=k'):EP X pins σ Q (.bool k') s:=by
 subst e;exact ⟨.bl k,H,I,rfl,q⟩
theorem aKe:OpR X (compareOp .Lt) (rI0 fun i j=>.bl (decide (i < j))):=aD6 fun _ _ _ _ _ _ _ q=>lt_int q
theorem aKf:OpR X (compareOp .LtE) (rI0 fun i j=>.bl (decide (i≤j))):=aD6 fun _ _ _ _ _ _ _ q=>le_int q
theorem aMb:OpR X (compareOp .Gt) (rI0 fun i j=>.bl (decide (j < i))):=aD6 fun _ _ _ _ _ _ _ q=>gt_int q
theorem aLB:OpR X (compareOp .GtE) (rI0 fun i j=>.bl (decide (j≤i))):=aD6 fun _ _ _ _ _ _ _ q=>ge_int q
theorem aIo:OpR X (compareOp .Is) (fun x y H Q=>y= .non∧Q (.bl (decide (x= .non))) H):=by
 intro pins s σ H x y v u Q I rx ry h;obtain ⟨rfl,q⟩:=h;cases ry;refine is_none_gen (aAB I q ?_);cases x <;> first
   | (cases rx; rfl)
   | (obtain ⟨t,rfl⟩:=rx; rfl)
theorem aBG:OpR X (compareOp .IsNot) (fun x y H Q=>y= .non∧Q (.bl (!decide (x= .non))) H):=by
 intro pins s σ H x y v u Q I rx ry h;obtain ⟨rfl,q⟩:=h;cases ry;refine isnot_none_gen (aAB I q ?_);cases x <;> first
   | (cases rx; rfl)
   | (obtain ⟨t,rfl⟩:=rx; rfl)
theorem OpR.or {f:Value→Value→Sem Value} {r r':R2} (h:OpR X f r) (h':OpR X f r'):OpR X f (fun x y H Q=>r x y H Q∨r' x y H Q):=by
 intro pins s σ H x y v u Q I rx ry q;rcases q with q | q
 · exact h pins s σ H x y v u Q I rx ry q
 · exact h' pins s σ H x y v u Q I rx ry q
theorem MU {op:CmpOp} {r:R2} (ho:OpR X (compareOp op) r) (ha:PE X a ta) (hb:PE X b tb) (hm:behindInMarks op b=false):PE X (.Compare a [op] [b] pos) (tOp r ta tb):=by
 intro pins s σ H Q I h;exact wpAny_Compare1 (aHQ ha hb I h fun v u s2 x y H2 I2 rx ry q=>ho pins s2 σ H2 x y v u Q I2 rx ry q) hm
def aEf (t:TE):TT:=fun σ H Q=>t σ H fun x H'=>∃ k,x= .bl k∧Q k H'
theorem NY {op:CmpOp} {r:R2} (ho:OpR X (compareOp op) r) (ha:PE X a ta) (hb:PE X b tb) (hm:behindInMarks op b=false):PT X (.Compare a [op] [b] pos) (aEf (tOp r ta tb)):=by
 intro pins s σ H Q I h;refine wpAny_isTrue_Compare1 (thn (ha pins s σ H _ I h) fun v s1 ⟨x,H1,I1,r1,q1⟩=>thn (hb pins s1 σ H1 _ I1 q1) fun u s2 ⟨y,H2,I2,r2,q2⟩ =>
   thn (ho pins s2 σ H2 x y v u _ I2 r1 r2 q2) fun c s3 ⟨z,H3,I3,r3,k,e,q3⟩=>?_) hm
 subst e;cases r3;exact wpAny_truthy_bool ⟨H3,I3,q3⟩
def HS (r r':R2) (ta tb tc:TE):TE:=fun σ H Q=>ta σ H fun x H1=>tb σ H1 fun y H2=>r x y H2 fun z H3=>∃ k,z= .bl k∧
 (if k=true then tc σ H3 fun w' H4=>r' y w' H4 Q else Q (.bl false) H3)
theorem UB {op op':CmpOp} {r r':R2} (ho:OpR X (compareOp op) r) (ho':OpR X (compareOp op') r') (ha:PE X a ta) (hb:PE X b tb) (hc:PE X c tc)
   (hm:lastMarks [op,op'] [b,c]=false:=by with_unfolding_all rfl):PE X (.Compare a [op,op'] [b,c] pos) (HS r r' ta tb tc):=by
 intro pins s σ H Q I h;refine Compare_chain (thn (ha pins s σ H _ I h) fun v s1 ⟨x,H1,I1,r1,q1⟩=>chain_link (thn (hb pins s1 σ H1 _ I1 q1) fun u s2 ⟨y,H2,I2,r2,q2⟩ =>
   thn (ho pins s2 σ H2 x y v u _ I2 r1 r2 q2) fun d s3 ⟨z,H3,I3,r3,k,e,q3⟩=>?_)) hm
 subst e;cases r3;refine wpAny_truthy_bool ?_;cases k with
 | false=>exact ite_ff ⟨.bl false,H3,I3,rfl,q3⟩
 | true=>exact ite_tt (chain_last (thn (hc pins s3 σ H3 _ I3 q3) <|by rintro w' s4 ⟨z',H4,I4,r4,q4⟩;exact ho' pins s4 σ H4 y z' u w' Q I4 r2 r4 q4))
theorem WP {op op':CmpOp} {r r':R2} (ho:OpR X (compareOp op) r) (ho':OpR X (compareOp op') r') (ha:PE X a ta) (hb:PE X b tb) (hc:PE X c tc)
   (hm:lastMarks [op,op'] [b,c]=false:=by with_unfolding_all rfl):PT X (.Compare a [op,op'] [b,c] pos) (aEf (HS r r' ta tb tc)):=by
 intro pins s σ H Q I h;refine isTrue_chain (thn (ha pins s σ H _ I h) fun v s1 ⟨x,H1,I1,r1,q1⟩=>test_link (thn (hb pins s1 σ H1 _ I1 q1) fun u s2 ⟨y,H2,I2,r2,q2⟩ =>
   thn (ho pins s2 σ H2 x y v u _ I2 r1 r2 q2) fun d s3 ⟨z,H3,I3,r3,k,e,q3⟩=>?_)) hm
 subst e;cases r3;refine wpAny_truthy_bool ?_;cases k with
 | false =>
   obtain ⟨k',e',q'⟩:=q3;cases e';exact ite_ff ⟨H3,I3,q'⟩
 | true =>
   refine ite_tt (test_last (thn (hc pins s3 σ H3 _ I3 q3) fun w' s4 ⟨z',H4,I4,r4,q4⟩=>thn (ho' pins s4 σ H4 y z' u w' _ I4 r2 r4 q4) fun d' s5 zz=>?_));obtain ⟨z2,H5,I5,r5,k2,e2,q5⟩:=zz;subst e2;cases r5;exact wpAny_truthy_bool ⟨H5,I5,q5⟩
noncomputable def SJ (K:W.Frag) (x:V) (H:Hp) (k:Bool):Prop :=
 match x with
 | .non=>k=false
 | .bl b=>k=b
 | .int i=>k=(i != 0)
 | .str y=>y.length≤sizeLine∧k=((y.length:Int) != 0)
 | .byt y=>y.size≤sizeLine∧k=((y.size:Int) != 0)
 | .ref p=>(∃ xs,SqL K H p xs∧k= !xs.isEmpty)∨(∃ xs,SqT K H p xs∧k= !xs.isEmpty)∨∃ kvs,H p=some (.dK kvs)∧k= !kvs.isEmpty
 | _=>False
theorem IW {κ:Type} {kvs:List (κ×V)} {vs:List (κ×Value)} (r:KV kvs vs):(!vs.isEmpty)= !kvs.isEmpty:=by
 cases r <;> rfl
theorem vK {xs:List V} {its:List Value} (r:aM xs its):(!its.toArray.isEmpty)= !xs.isEmpty:=by
 cases r <;> simp
theorem nB:(sizeLine:Nat) < 2 ^ 63:=by rw [sizeLine_eq]; decide
theorem BG:aOj X (fun x H Q=>∃ k,SJ X.K x H k∧Q k H):=by
 intro pins s σ H x v Q I rx h;obtain ⟨k,e,q⟩:=h;have hl:=nB;have hs:sizeLine=16777216:=sizeLine_eq;cases x with
 | non =>
   cases rx;have e':k=false:=e;subst e';exact truthy_none ⟨H,I,q⟩
 | bl b =>
   cases rx;have e':k=b:=e;subst e';exact wpAny_truthy_bool ⟨H,I,q⟩
 | int i =>
   obtain ⟨t,rfl⟩:=rx;have e':k=(i != 0):=e;subst e';exact PySem.P.truthy_int ⟨H,I,q⟩
 | str y =>
   obtain ⟨t,rfl⟩:=rx;obtain ⟨hy,e'⟩:y.length≤sizeLine∧k=((y.length:Int) != 0):=e;subst e';exact PySem.P.truthy_str (by omega) ⟨H,I.tok _,q⟩
 | byt y =>
   obtain ⟨t,rfl⟩:=rx;obtain ⟨hy,e'⟩:y.size≤sizeLine∧k=((y.size:Int) != 0):=e;subst e';exact W.truthy_bytes (by omega) ⟨H,I.tok _,q⟩
 | ref p =>
   cases rx;have e':(∃ xs,SqL X.K H p xs∧k= !xs.isEmpty)∨(∃ xs,SqT X.K H p xs∧k= !xs.isEmpty)∨∃ kvs,H p=some (.dK kvs)∧k= !kvs.isEmpty:=e;rcases e' with ⟨xs,hx,e'⟩ | ⟨xs,hx,e'⟩ | ⟨kvs,hx,e'⟩
   · subst e';obtain ⟨its,r,pl,hz⟩:=I.list hx;have hlen:=r.length;exact wpAny_truthy_list pl.isList (by simp only [wIq]; omega) ⟨H,I.tok _,by rw [vK r]; exact q⟩
   · subst e';obtain ⟨its,r,pl,hz⟩:=I.tuple hx;have hlen:=r.length;exact truthy_tuple pl (by simp only [wIq]; omega) ⟨H,I.tok _,by rw [vK r]; exact q⟩
   · subst e';obtain ⟨hz,hS,vs,r,m⟩:kvs.length≤sizeLine∧(p == sysModules)=false∧∃ vs,KV kvs vs∧s.heap.DictOf (bR X.prog X.w) p vs:=I.hok p _ hx;have hlen:kvs.length=vs.length:=Paired.length r;exact wpAny_truthy_dict hS m (by omega) ⟨H,I.tok _,by rw [IW r]; exact q⟩
 | _=>exact (show False from e).elim
theorem aAg (ha:PE X a ta) (he:∀ whole,isTrue a X.env whole=(do let v ←whole; standAt a.pos; holding [v] (truthy v))) :
   PT X a (fun σ H Q=>ta σ H fun x H'=>∃ k,SJ X.K x H' k∧Q k H'):=by
 intro pins s σ H Q I h;exact isTrue_plain (thn (ha pins s σ H _ I h) <|by rintro v s1 ⟨x,H1,I1,r1,q1⟩;exact BG pins s1 σ H1 x v Q I1 r1 q1) (he _)
theorem LF:OpR X (binaryOp .Add) (fun x y H Q=>∃ i j,x= .str i∧y= .str j∧i.length + j.length≤sizeLine∧Q (.str (i ++ j)) H):=by
 intro pins s σ H x y v u Q I rx ry h;obtain ⟨i,j,rfl,rfl,hz,q⟩:=h;obtain ⟨t,rfl⟩:=rx;obtain ⟨t',rfl⟩:=ry;exact add_str (fun t' tk=>⟨.str (i ++ j),H,I.tok _,⟨_,rfl⟩,q⟩) hz
theorem mO {x:V} {us:List Value} (r:aM [x] us):∃ u,us=[u]∧aO x u:=by
 cases r with
 | cons r1 r2=>cases r2; exact ⟨_,rfl,r1⟩
theorem DG {x y:V} {us:List Value} (r:aM [x,y] us):∃ u w',us=[u,w']∧aO x u∧aO y w':=by
 cases r with
 | cons r1 r2 =>
   cases r2 with
   | cons r3 r4=>cases r4; exact ⟨_,_,rfl,r1,r3⟩
theorem aAa:bT X (.builtin "abs") (fun xs H Q=>∃ i,xs=[.int i]∧Q (.int (if i < 0 then -i else i)) H):=by
 intro pins s σ H xs us Q I r h;obtain ⟨i,rfl,q⟩:=h;obtain ⟨u,rfl,t,rfl⟩:=mO r;exact call_abs_int fun u tk=>⟨.int (if i < 0 then -i else i),H,I.tok _,⟨_,rfl⟩,q⟩
theorem PY (hc:X.calm=true):bT X (.builtin "max") (fun xs H Q=>∃ i j,xs=[.int i,.int j]∧Q (.int (if j > i then j else i)) H):=by
 intro pins s σ H xs us Q I r h;obtain ⟨i,j,rfl,q⟩:=h;obtain ⟨u,w',rfl,⟨t,rfl⟩,⟨t',rfl⟩⟩:=DG r;refine max_two_ints (I.ok.hd hc) fun h' tk k=>⟨_,H,I.kept k, ?_,q⟩;by_cases hj:j > i
 · rw [if_pos hj,if_pos hj]; exact ⟨_,rfl⟩
 · rw [if_neg hj,if_neg hj]; exact ⟨_,rfl⟩
theorem SM (hc:X.calm=true):bT X (.builtin "min") (fun xs H Q=>∃ i j,xs=[.int i,.int j]∧Q (.int (if j < i then j else i)) H):=by
 intro pins s σ H xs us Q I r h;obtain ⟨i,j,rfl,q⟩:=h;obtain ⟨u,w',rfl,⟨t,rfl⟩,⟨t',rfl⟩⟩:=DG r;refine min_two_ints (I.ok.hd hc) fun h' tk k=>⟨_,H,I.kept k, ?_,q⟩;by_cases hj:j < i
 · rw [if_pos hj,if_pos hj]; exact ⟨_,rfl⟩
 · rw [if_neg hj,if_neg hj]; exact ⟨_,rfl⟩
theorem SR:bT X (.type "int") (fun xs H Q=>(∃ i,xs=[.int i]∧Q (.int i) H)∨∃ k,xs=[.bl k]∧Q (.int (if k then 1 else 0)) H):=by
 intro pins s σ H xs us Q I r h;rcases h with ⟨i,rfl,q⟩ | ⟨k,rfl,q⟩
 · obtain ⟨u,rfl,t,rfl⟩:=mO r;exact call_int_int ⟨.int i,H,I,⟨_,rfl⟩,q⟩
 · obtain ⟨u,rfl,r1⟩:=mO r;cases r1;exact call_int_bool ⟨.int (if k then 1 else 0),H,I.tok _,⟨_,rfl⟩,q⟩
end
structure SD (h:Heap) (x dx C:Addr) (mA:Str→Option Value):Prop where
 obj:h.get? x=some (W.instObj C dx)
 ns:h.Ns1 dx mA
 ne:dx≠x
theorem yU {h:Heap} {dx:Addr} {mA:Str→Option Value} (n:h.Ns1 dx mA):∃ od,h.get? dx=some od∧∀ name,W.lookIn name od=some (mA name):=by
 obtain ⟨o,es,ep,ho,hd,hk,_,hm⟩:=n;refine ⟨o,ho,fun name=>?_⟩;have e:=hm name;unfold nsFind findBy at e;rw [←Array.find?_toList] at e;unfold W.lookIn;rw [hd];dsimp only;split
 · rename_i y q;rw [q] at e;exact congrArg some e
 · rename_i q;rw [q] at e;have a:es.toList.any (·.refKey)=false:=by
     rw [List.any_eq_false];intro y hy;obtain ⟨z,t,hkey⟩:=hk y (Array.mem_toList_iff.mp hy);simp [DictEntry.refKey,hkey]
   have a':¬es.toList.any (·.refKey)=true:=by rw [a]; exact Bool.false_ne_true
   rw [if_neg a'];exact congrArg some e
theorem SD.look {h:Heap} {x dx C:Addr} {mA:Str→Option Value} (I:SD h x dx C mA):∃ od,W.InstAt h x (W.instObj C dx) C (some od)∧∀ name,W.lookIn name od=some (mA name) :=
 let ⟨od,ho,hl⟩:=yU I.ns
 ⟨od,⟨I.obj,rfl,rfl,ho⟩,hl⟩
section
variable {prog:Program} {w:World} {A:Around} {E:Value→Shared→Prop} {s:Shared} {K:W.Frag} {x dx C f:Addr} {mA:Str→Option Value} {name:Str} {v:Value}
theorem aDx {expr:Bool} {Q:Value→Shared→Prop} (X:K.In s.heap) (I:SD s.heap x dx C mA) (hg:W.plainGet K C name=true) (hh:W.hasDictIn K C=true)
   (ha:W.findIn K (.ref C) name=some none) (hv:mA name=some v) (hv':W.handedIn v=true) (h:Q v { s with toks:=s.toks + 1 }) :
   wpAny (model prog w) A (getAttr (.ref x) name expr) Q E s:=by
 obtain ⟨od,J,hl⟩:=I.look;exact W.get_value X J (W.plainGet_of hg).1 (W.findObj_own hh ha rfl (by rw [hl,hv])) hv' h
theorem aCE {ns:List Str} {Q:Unit→Shared→Prop} (X:K.In s.heap) (I:SD s.heap x dx C mA)
   (hs:W.findIn K (.ref C) "__setattr__"=some (some (.builtin "object.__setattr__"))) (hp:W.plainOver K C=true) (ht:W.takerIn K C name=some none) (hh:W.hasDictIn K C=true)
   (hw:PySem.Within mA ns) (hsz:ns.length≤sizeLine)
   (h:∀ h',SD h' x dx C (fun y=>if y=name then some v else mA y)→Heap.SameBut dx s.heap h'→Q () { s with heap:=h',toks:=s.toks + 2 }) :
   wpAny (model prog w) A (setAttr (.ref x) name v) Q E s:=by
 obtain ⟨od,J,hl⟩:=I.look;refine W.set_plain X J hs (W.osa_open (s:={ s with toks:=s.toks + 1 }) (r:=none) X J hp ht fun b=>?_);obtain ⟨cd,hc,hd'⟩:=W.any_some hh;have hx:s.heap.get? x=some ⟨.ref C,some dx,.plain, #[]⟩:=I.obj;refine wAq (wBq (wAq (wAq (wpAny_loadPart hx (wAq (W.Looks.here (s:={ s with toks:=s.toks + 1 }) (W.looks_clsIn X hc) ?_))))));rw [hd'];refine wBq (a:=some dx) (wAq (wBq (wAq ?_)));refine wpAny_nsSet1 (s:={ s with toks:=s.toks + 1 }) I.ns fun h' hn2 hs2=>?_;obtain ⟨oD,esD,epD,hoD,hdD,hcD⟩:=hn2.count (PySem.Within.cons name v hw);refine wAq (wpAny_lookBehind hoD (by rw [hdD]; exact pastItsLine_dict (Nat.le_trans hcD (by rw [List.length_cons]; omega))) ?_);exact wBq (h _ ⟨(hs2.2 _ (Ne.symm I.ne)).trans I.obj,hn2,I.ne⟩ hs2)
theorem EQ {R:Result→Shared→Prop} {vs:List Value} {kw:List (Str×Value)} (X:K.In s.heap) (hm:W.makesIn K C=true)
   (hi:W.findIn K (.ref C) "__init__"=some (some (.ref f))) (hf:W.typeIn K (.ref f)=some (.type "function"))
   (h :codeAny (model prog w) (A.under (.builtin "type.__call__" ⟨.ref C :: vs,kw⟩)) (.call (.ref f) ⟨.ref (s.heap.objs.size + 1) :: vs,kw⟩) (W.InitBack (s.heap.objs.size + 1) R)
     { s with heap:=(s.heap.push W.emptyDict).push (W.instObj C s.heap.objs.size) }) :
   codeAny (model prog w) A (.call (.ref C) ⟨vs,kw⟩) R s:=by
 obtain ⟨hh,g,d,t,os⟩:=s;exact W.make_core (W.makes_of X hm) (W.looks_findIn X hi) (fun self=>W.bind_fn X self hf) (.inl rfl) h
end
noncomputable def kG (f:Str) (v:V):List (Str×V)→List (Str×V)
 | []=>[(f,v)]
 | (g,x) :: r=>if g=f then (g,v) :: r else (g,x) :: kG f v r
theorem sC (f g:Str) (v:V):∀ fs:List (Str×V),(kG f v fs).lookup g=if g=f then some v else fs.lookup g
 | [] =>by
   show List.lookup g [(f,v)]=_;by_cases h:g=f
   · have hb:(g == f)=true:=beq_iff_eq.mpr h;simp only [List.lookup,hb,if_pos h]
   · have hb:(g == f)=false:=beq_eq_false_iff_ne.mpr h;simp only [List.lookup,hb,if_neg h]
 | (k, x) :: r=>by
   have ih:=sC f g v r;rw [show kG f v ((k,x) :: r)=(if k=f then (k,v) :: r else (k,x) :: kG f v r) from rfl];by_cases hk:k=f
   · rw [if_pos hk];by_cases h:g=k
     · have hb:(g == k)=true:=beq_iff_eq.mpr h;simp only [List.lookup,hb,if_pos (h.trans hk)]
     · have hb:(g == k)=false:=beq_eq_false_iff_ne.mpr h;simp only [List.lookup,hb,if_neg (fun e:g=f=>h (e.trans hk.symm))]
   · rw [if_neg hk];by_cases h:g=k
     · have hb:(g == k)=true:=beq_iff_eq.mpr h;simp only [List.lookup,hb,if_neg (fun e:g=f=>hk (h.symm.trans e))]
     · have hb:(g == k)=false:=beq_eq_false_iff_ne.mpr h;simp only [List.lookup,hb];exact ih
theorem rT (f:Str) (v:V):∀ fs:List (Str×V),f∈(kG f v fs).map (·.1)∧∀ g,g∈fs.map (·.1)→g∈(kG f v fs).map (·.1)
 | []=>⟨by simp [kG],fun g h=>by simp at h⟩
 | (k, x) :: r=>by
   obtain ⟨i1,i2⟩:=rT f v r;rw [show kG f v ((k,x) :: r)=(if k=f then (k,v) :: r else (k,x) :: kG f v r) from rfl];by_cases hk:k=f
   · rw [if_pos hk];subst hk;exact ⟨by simp,fun g h=>by simpa using h⟩
   · rw [if_neg hk];refine ⟨?_,fun g h=>?_⟩
     · rw [List.map_cons];exact wCq _ i1
     · rw [List.map_cons] at h ⊢;rcases List.mem_cons.mp h with e | e
       · exact List.mem_cons.mpr (.inl e)
       · exact wCq _ (i2 g e)
theorem sJ (f:Str) (v:V):∀ fs:List (Str×V),(kG f v fs).length≤fs.length + 1
 | []=>by simp [kG]
 | (k,x) :: r=>by
   have ih:=sJ f v r;rw [show kG f v ((k,x) :: r)=(if k=f then (k,v) :: r else (k,x) :: kG f v r) from rfl];by_cases hk:k=f
   · rw [if_pos hk,List.length_cons,List.length_cons]; omega
   · rw [if_neg hk,List.length_cons,List.length_cons]; omega
theorem pB.some_of {v:V} {o:Option Value} (r:pB (some v) o):∃ u,o=some u∧aO v u:=by
 cases o with
 | none=>exact (show False from r).elim
 | some u=>exact ⟨u,rfl,r⟩
theorem yJ {v:V} {u:Value} (r:aO v u):W.handedIn u=true:=by
 cases v with
 | non=>cases (show u=Value.none from r); rfl
 | bl b=>cases (show u=Value.bool b from r); rfl
 | int i=>obtain ⟨t,e⟩:=(show ∃ t,u=Value.int i t from r); cases e; rfl
 | str x=>obtain ⟨t,e⟩:=(show ∃ t,u=Value.str x t from r); cases e; rfl
 | byt b=>obtain ⟨t,e⟩:=(show ∃ t,u=Value.bytes b t from r); cases e; rfl
 | flt b=>obtain ⟨t,e⟩:=(show ∃ t,u=Value.float b t from r); cases e; rfl
 | ref a=>cases (show u=Value.ref a from r); rfl
 | ty n=>cases (show u=Value.type n from r); rfl
section
variable {P:Program} {w:World} {H H':Hp} {h h':Heap} {a C dx:Addr} {fs fs':List (Str×V)}
theorem tM (hok:HOk P w H h) (e:H a=some (.ins C dx fs)):∃ mA,SD h a dx C mA∧(∀ f,pB (fs.lookup f) (mA f))∧PySem.Within mA (fs.map (·.1))∧fs.length≤1000∧H dx=some (.own a):=by
 obtain ⟨d,z,ne,ob,mA,n,r,q⟩:=(show bE P w H h a (.ins C dx fs) from hok a _ e);exact ⟨mA,⟨ob,n,ne⟩,r,q,z,d⟩
end
structure Cls (K:W.Frag) (C:Addr):Prop where
 pg:W.plainGet K C Str.empty=true
 hd:W.hasDictIn K C=true
 po:W.plainOver K C=true
 sa:W.findIn K (.ref C) "__setattr__"=some (some (.builtin "object.__setattr__"))
theorem Cls.get {K:W.Frag} {C:Addr} (c:Cls K C) (f:Str):W.plainGet K C f=true:=c.pg
def eO (K:W.Frag) (C:Addr) (f:Str):Prop:=W.findIn K (.ref C) f=some none
theorem eO.taker {K:W.Frag} {C:Addr} {f:Str} (n:eO K C f):W.takerIn K C f=some none:=by
 unfold W.takerIn;rw [show W.findIn K (.ref C) f=some none from n];rfl
structure xC (K:W.Frag) (C:Addr) (m:Str) (f:Addr):Prop where
 at_:W.findIn K (.ref C) m=some (some (.ref f))
 fn:W.isFn K (.ref f)=true
 kp:W.keepIn K (.ref f)=true
section
variable {X:Cx} {pins:List (Addr×Obj)} {σ:St} {H:Hp} {s:Shared} {a C dx:Addr} {fs:List (Str×V)} {f:Str} {v:V} {A:Around} {E:Value→Shared→Prop}
theorem LL {b:Bool} {Q:Value→Shared→Prop} (I:Inv X pins σ H s) (e:H a=some (.ins C dx fs)) (c:Cls X.K C) (n:eO X.K C f) (l:fs.lookup f=some v)
   (h:∀ u s',Inv X pins σ H s'→aO v u→Q u s'):wpAny (model X.prog X.w) A (getAttr (.ref a) f b) Q E s:=by
 obtain ⟨mA,O,r,_,_,_⟩:=tM I.hok e;obtain ⟨u,hu,ru⟩:=pB.some_of (v:=v) (o:=mA f) (by rw [←l]; exact r f);exact aDx I.kIn O (c.get f) c.hd n hu (yJ ru) (h u _ (I.tok _) ru)
theorem IE {y:V} {u:Value} {Q:Unit→Shared→Prop} (I:Inv X pins σ H s) (e:H a=some (.ins C dx fs)) (c:Cls X.K C) (n:eO X.K C f) (hl:fs.length < 1000) (ry:aO y u)
   (h:∀ s',Inv X pins σ (upd H a (.ins C dx (kG f y fs))) s'→Q () s'):wpAny (model X.prog X.w) A (setAttr (.ref a) f u) Q E s:=by
 obtain ⟨mA,O,r,wi,_,ho⟩:=tM I.hok e;have hz:(fs.map (·.1)).length≤sizeLine:=by rw [List.length_map,sizeLine_eq]; omega
 refine aCE I.kIn O c.sa c.po n.taker c.hd wi hz fun h' O' sb=>h _ ?_;have hd:∃ o,h'.get? dx=some o:=let ⟨o,_,_,e',_⟩:=O'.ns; ⟨o,e'⟩
 refine I.write (x:=a) (e:=dx) (by rw [e]; exact True.intro) (.inr ho) (fun b q hb z=>(sb.2 b hb).trans z) hd ?_;refine ⟨by rw [aD O.ne]; exact ho, ?_,O.ne,O'.obj,_,O'.ns,fun g=>?_,fun g hg=>?_⟩
 · have:=sJ f y fs; omega
 · show pB ((kG f y fs).lookup g) (if g=f then some u else mA g);rw [sC];by_cases q:g=f
   · rw [if_pos q,if_pos q]; exact ry
   · rw [if_neg q,if_neg q]; exact r g
 · by_cases q:g=f
   · rw [q]; exact (rT f y fs).1
   · refine (rT f y fs).2 g (wi g fun z=>hg ?_);show (if g=f then some u else mA g)=none;rw [if_neg q]; exact z
theorem Inv.made (I:Inv X pins σ H s):Inv X pins σ (upd (upd H s.heap.objs.size (.own (s.heap.objs.size + 1))) (s.heap.objs.size + 1) (.ins C s.heap.objs.size []))
   { s with heap:=(s.heap.push W.emptyDict).push (W.instObj C s.heap.objs.size) }:=by
 have e1:(s.heap.push W.emptyDict).get? s.heap.objs.size=some W.emptyDict:=wGq s.heap rfl;have e2:((s.heap.push W.emptyDict).push (W.instObj C s.heap.objs.size)).get? (s.heap.objs.size + 1)=some (W.instObj C s.heap.objs.size):=by
   have:=wGq (s.heap.push W.emptyDict) (o:=W.instObj C s.heap.objs.size) rfl
   rwa [Heap.size_push] at this
 have e3:(s.heap.push W.emptyDict).Ns s.heap.objs.size (fun _=>none):=⟨W.emptyDict, #[],_,e1,rfl,(fun e he=>absurd he (by simp)),fun _=>rfl⟩;have I1:=I.laid (a:=s.heap.objs.size) (o:=.own (s.heap.objs.size + 1)) (h':=s.heap.push W.emptyDict) (t':=s.toks) (fun b u q=>wEq _ q) (Nat.le_refl _) ⟨_,e1⟩;refine I1.laid (a:=s.heap.objs.size + 1) (o:=.ins C s.heap.objs.size []) (t':=s.toks) (fun b u q=>wEq _ q) (Nat.le_of_eq (Heap.size_push _ _)) ?_;have ne:s.heap.objs.size≠s.heap.objs.size + 1:=Nat.ne_of_lt (Nat.lt_succ_self _);refine ⟨by rw [aD ne,aI],Nat.zero_le _,ne,e2,fun _=>none,(Heap.Ns1.of_empty e3).at fun o q=>wEq _ q,fun _=>True.intro,fun y hy=>absurd rfl hy⟩
theorem LP {prog:Program} {w:World} {env:Env} {e:Expr} {f:Str} {pos:Pos} {s:Shared} {Q:Value→Shared→Prop} (hb:attributeBase e f env (eval e env)=eval e env)
   (h:wpAny (model prog w) A (eval e env) (fun o s₁=>wpAny (model prog w) A (getAttr o f true) Q E s₁) E s):wpAny (model prog w) A (eval (.Attribute e f pos) env) Q E s :=
 Attribute_any_ h (by rw [arm_eval_Attribute,hb])
end
def aNh (K:W.Frag) (ta:TE) (f:Str):TE:=fun σ H Q=>ta σ H fun x H1=>∃ a C dx fs v,x= .ref a∧H1 a=some (.ins C dx fs)∧Cls K C∧eO K C f∧fs.lookup f=some v∧Q v H1
def aML (K:W.Frag) (ta tv:TE) (f:Str):TS:=fun D σ H=>tv σ H fun y H1=>ta σ H1 fun x H2=>∃ a C dx fs,x= .ref a∧H2 a=some (.ins C dx fs)∧Cls K C∧eO K C f∧fs.length < 1000∧
 D.nx σ (upd H2 a (.ins C dx (kG f y fs)))
section
variable {X:Cx} {o e value:Expr} {f:Str} {pos pos' tpos:Pos} {ta tv:TE}
theorem aIW (he:PE X e ta) (hb:attributeBase e f X.env (eval e X.env)=eval e X.env):PE X (.Attribute e f pos) (aNh X.K ta f):=by
 intro pins s σ H Q I h;refine LP hb (thn (he pins s σ H _ I h) fun u s1 zz=>?_);obtain ⟨x,H1,I1,rx,a,C,dx,fs,v,ex,ea,c,n,l,q⟩:=zz;subst ex;obtain rfl:u=Value.ref a:=rx;exact LL I1 ea c n l fun u' s2 I2 ru=>⟨v,H1,I2,ru,q⟩
theorem aFI (ha:PE X o ta) (hv:PE X value tv) (hs:swapsWith value (some (.Attribute o f pos')) pos.line X.env=pure false):PS X (.Assign [.Attribute o f pos'] value pos) (aML X.K ta tv f):=by
 intro pins s σ H D I h;refine plainObj_wpAny_Assign_Attribute (thn (hv pins s σ H _ I h) fun u s1 ⟨y,H1,I1,ry,q⟩=>thn (ha pins s1 σ H1 _ I1 q) fun ov s2 zz=>?_) hs;obtain ⟨x,H2,I2,rx,a,C,dx,fs,ex,ea,c,n,l,q2⟩:=zz;subst ex;obtain rfl:ov=Value.ref a:=rx;exact IE I2 ea c n l ry fun s3 I3=>⟨σ,_,I3,q2⟩
end
section
variable {X:Cx} {pins:List (Addr×Obj)} {σ:St} {H:Hp} {s:Shared} {A:Around} {E:Value→Shared→Prop} {Q:Value→Shared→Prop} {c:Value} {b:Bool}
inductive rF (K:W.Frag) (H:Hp):V→Value→Prop where
 | non:rF K H .non (.type "NoneType")
 | bl (x:Bool):rF K H (.bl x) (.type "bool")
 | int (i:Int):rF K H (.int i) (.type "int")
 | str (x:Str):rF K H (.str x) (.type "str")
 | flt (x:UInt64):rF K H (.flt x) (.type "float")
 | lst {a:Addr} {xs:List V} (e:H a=some (.lst xs)):rF K H (.ref a) (.type "list")
 | frz {a:Addr} {o:Obj} {xs:List V} (e:H a=some (.frz o (.lst xs))):rF K H (.ref a) (.type "list")
 | tup {a:Addr} {xs:List V} (e:H a=some (.tup xs)):rF K H (.ref a) (.type "tuple")
 | dK {a:Addr} {kvs:List (Key×V)} (e:H a=some (.dK kvs)):rF K H (.ref a) (.type "dict")
 | dT {a:Addr} {kvs:List (List Key×V)} (e:H a=some (.dT kvs)):rF K H (.ref a) (.type "dict")
 | ins {a C dx:Addr} {fs:List (Str×V)} (e:H a=some (.ins C dx fs)) (cl:Cls K C) (ha:W.findIn K (.ref C) "__class__"=some (some (.builtin "object.__class__")))
     (hn:W.specialIn K (.builtin "object.__class__") "__get__"=some (some (.builtin "getset_descriptor.__get__"))) (htk:W.takesIn K (.builtin "object.__class__")=some true)
     (hm:W.mroIn K C (.type "object")=some true):rF K H (.ref a) (.ref C)
theorem zW {x:V} {u t:Value} (I:Inv X pins σ H s) (rx:aO x u) (ty:rF X.K H x t) (e:W.kitOne X.K t c=some b) (h:∀ tk,Q (.bool b) { s with toks:=tk }) :
   wpAny (model X.prog X.w) A (call (.builtin "isinstance") [u,c]) Q E s:=by
 cases ty with
 | non=>cases (show u=Value.none from rx); exact W.kia_one W.kitx_none I.kIn True.intro e (fun z=>nomatch z) h
 | bl y=>cases (show u=Value.bool y from rx); exact W.kia_one W.kitx_bool I.kIn True.intro e (fun z=>nomatch z) h
 | int i=>obtain ⟨t,q⟩:=(show ∃ t,u=Value.int i t from rx); cases q; exact W.kia_one W.kitx_int I.kIn True.intro e (fun z=>nomatch z) h
 | str y=>obtain ⟨t,q⟩:=(show ∃ t,u=Value.str y t from rx); cases q; exact W.kia_one W.kitx_str I.kIn True.intro e (fun z=>nomatch z) h
 | flt y=>obtain ⟨t,q⟩:=(show ∃ t,u=Value.float y t from rx); cases q; exact W.kia_one W.kitx_float I.kIn True.intro e (fun z=>nomatch z) h
 | @lst a xs ea =>
   cases (show u=Value.ref a from rx);obtain ⟨_,_,n,_,h1⟩:=(show bE X.prog X.w H s.heap a (.lst xs) from I.hok a _ ea);exact W.kia_one W.kitx_list I.kIn ⟨_,h1,rfl⟩ e (fun z=>nomatch z) h
 | @frz a ob xs ea =>
   cases (show u=Value.ref a from rx);obtain ⟨_,_,_,n,_,h1⟩:=(show bE X.prog X.w H s.heap a (.frz ob (.lst xs)) from I.hok a _ ea);exact W.kia_one W.kitx_list I.kIn ⟨_,h1,rfl⟩ e (fun z=>nomatch z) h
 | @tup a xs ea =>
   cases (show u=Value.ref a from rx);obtain ⟨_,_,_,p⟩:=(show bE X.prog X.w H s.heap a (.tup xs) from I.hok a _ ea);obtain ⟨o,h1,h2,_⟩:=p.1;exact W.kia_one W.kitx_tuple I.kIn ⟨o,h1,h2⟩ e (fun z=>nomatch z) h
 | @dK a kvs ea =>
   cases (show u=Value.ref a from rx);obtain ⟨_,_,vs,_,p⟩:=(show bE X.prog X.w H s.heap a (.dK kvs) from I.hok a _ ea);obtain ⟨o,es,ep,h1,h2,_⟩:=p;exact W.kia_one W.kitx_dict I.kIn ⟨o,h1,h2.1⟩ e (fun z=>nomatch z) h
 | @dT a kvs ea =>
   cases (show u=Value.ref a from rx);obtain ⟨_,_,xs,_,o,es,ep,h1,h2,_⟩:=(show bE X.prog X.w H s.heap a (.dT kvs) from I.hok a _ ea);exact W.kia_one W.kitx_dict I.kIn ⟨o,h1,h2.1⟩ e (fun z=>nomatch z) h
 | @ins a C dx fs ea cl ha hn htk hm =>
   cases (show u=Value.ref a from rx);obtain ⟨mA,O,_⟩:=tM I.hok ea;obtain ⟨od,J,_⟩:=O.look;exact W.kia_one (W.kitx_own (cl.get _) cl.hd ha hn htk hm) I.kIn J e (fun z=>nomatch z) h
end
structure bK (k:Nat) (A:Around):Prop where
 hd:40≤k→A.handled=none
 dp:A.depth + 3 * k + 5 < recursionLimit
 un:A.units + 16 * k + 200 < cLine
 gd:80≤k→A.guards=some []
theorem bK.mono {j k:Nat} {A:Around} (r:bK k A) (h:j≤k):bK j A:=⟨fun z=>r.hd (Nat.le_trans z h),by have:=r.dp; omega,by have:=r.un; omega,fun z=>r.gd (Nat.le_trans z h)⟩
theorem bK.deeper {k:Nat} {A:Around} (r:bK (k + 1) A) (env:Env):bK k (A.deeper env) :=
 ⟨fun z=>r.hd (Nat.le_succ_of_le z),by have:=r.dp; show A.depth + 1 + 3 * k + 5 < _; omega,by have:=r.un; show A.units + 3 + 16 * k + 200 < _; omega,fun z=>r.gd (Nat.le_succ_of_le z)⟩
theorem bK.in1 {k:Nat} {A:Around} (r:bK (k + 1) A):bK k A.in1 :=
 ⟨fun z=>r.hd (Nat.le_succ_of_le z),by have:=r.dp; show A.depth + 3 * k + 5 < _; omega,by have:=r.un; show A.units + 1 + 16 * k + 200 < _; omega,fun z=>r.gd (Nat.le_succ_of_le z)⟩
theorem HG {A:Around} {C:Addr} {us:List Value} {kw:List (Str×Value)}:(A.under (.builtin "type.__call__" ⟨.ref C :: us,kw⟩)).depth=A.depth + 1:=by
 first | rfl | simp [Around.under,Code.weight,Code.isCreation,Code.isGuard,Code.isCaller,Code.frames,Code.isFrame,guardIds]
theorem LH {A:Around} {C:Addr} {us:List Value} {kw:List (Str×Value)}:(A.under (.builtin "type.__call__" ⟨.ref C :: us,kw⟩)).units=A.units + 1:=by
 first | rfl | simp [Around.under,Code.cUnits,Code.frames,Code.isFrame]
theorem bK.make {k:Nat} {A:Around} (r:bK (k + 1) A) (C:Addr) (us:List Value) (kw:List (Str×Value)):bK k (A.under (.builtin "type.__call__" ⟨.ref C :: us,kw⟩)) :=
 ⟨fun z=>r.hd (Nat.le_succ_of_le z),by have:=r.dp; rw [HG]; omega,by have:=r.un; rw [LH]; omega,fun z=>by
   have e:=r.gd (Nat.le_succ_of_le z);first | exact e | (simp only [Around.under,Code.isGuard,guardIds]; simpa using e)⟩
theorem bK.depth {k:Nat} {A:Around} (r:bK k A):A.depth < recursionLimit:=by have:=r.dp; omega
theorem bK.units {k:Nat} {A:Around} (r:bK k A):A.units + 64 < cLine:=by have:=r.un; omega
def aF6:TA:=fun _ H Q=>Q [] H
def NS (ta:TE) (tr:TA):TA:=fun σ H Q=>ta σ H fun x H1=>tr σ H1 fun xs H2=>Q (x :: xs) H2
section
variable {X:Cx} {e:Expr} {es:List Expr} {te:TE} {t:TA} {pos:Pos}
theorem fL:PA X [] aF6:=fun _ _ _ _ H Q I h=>Calls.spliced_nil ⟨[],H,I,.nil,h⟩
theorem cF (ha:PE X e te) (hr:PA X es t) (hs:starEach (e :: es) X.env=(false,eval e X.env) :: starEach es X.env:=by rfl):PA X (e :: es) (NS te t):=by
 intro pos pins s σ H Q I h;rw [hs];show wpAny _ _ (spliced ((false,eval e X.env) :: backTo pos (starEach es X.env))) _ _ s;refine Calls.spliced_cons (thn (ha pins s σ H _ I h) fun u s1 zz=>?_);obtain ⟨x,H1,I1,r1,q1⟩:=zz;exact thn (hr pos pins s1 σ H1 _ I1 q1) <|by rintro us s2 ⟨xs,H2,I2,r2,q2⟩;exact ⟨x :: xs,H2,I2,.cons r1 r2,q2⟩
def aM7 (t:TA):TE:=fun σ H Q=>t σ H fun xs H1=>xs.length≤sizeLine∧∀ p,H1 p=none→Q (.ref p) (upd H1 p (.tup xs))
def aN0 (t:TA):TE:=fun σ H Q=>t σ H fun xs H1=>xs.length≤sizeLine∧∀ p,H1 p=none→Q (.ref p) (upd H1 p (.lst xs))
theorem aHx {x1} (h:PA X es t):PE X (.Tuple es x1 pos) (aM7 t):=by
 intro pins s σ H Q I hq;refine wpAny_Tuple_spliced (thn (h pos pins s σ H _ I hq) fun us s1 ⟨xs,H1,I1,r,z,q⟩=>⟨by rw [←r.length]; exact z, ?_⟩);have hf:H1 s1.heap.objs.size=none:=I1.hok.fresh (Nat.le_refl _);refine ⟨.ref s1.heap.objs.size,upd H1 s1.heap.objs.size (.tup xs),I1.laid (t':=s1.toks) (fun b u e=>wEq _ e) (Nat.le_refl _) ?_,rfl,q _ hf⟩;exact ⟨z,us,r,gF.new _ _⟩
theorem aFP (h:PA X es t):PE X (.List es pos) (aN0 t):=by
 intro pins s σ H Q I hq;refine wpAny_List_spliced (thn (h pos pins s σ H _ I hq) fun us s1 ⟨xs,H1,I1,r,z,q⟩=>⟨by rw [←r.length]; exact z, ?_⟩);have hf:H1 s1.heap.objs.size=none:=I1.hok.fresh (Nat.le_refl _);refine ⟨.ref s1.heap.objs.size,upd H1 s1.heap.objs.size (.lst xs),I1.laid (t':=s1.toks) (fun b u e=>wEq _ e) (Nat.le_refl _) ?_,rfl,q _ hf⟩;exact ⟨z,us,0,r,wGq _ rfl⟩
end
noncomputable abbrev Sp:=List V→Hp→VK→XK→Prop
noncomputable abbrev CXT:=List Env→Hp→Shared→XK→Value→Shared→Prop
structure sW (P:Program) (w:World) (K:W.Frag) (mg:Str→Option Value) (base:Heap) (A:Around) (outer:List Env) (s:Shared) (H:Hp):Prop where
 frames:A.frames=some outer
 mod:Mod K mg base
 bs:∀ b o,base.get? b=some o→s.heap.get? b=some o∧H b=none
 bsz:base.objs.size≤s.heap.objs.size
 funs:s.heap.FunFrames base outer
 frf:∀ b∈frs outer,H b=none
 hok:HOk P w H s.heap
 bare:AllBare s.gens
noncomputable def CE (outer:List Env) (P:Program) (w:World) (H:Hp) (s:Shared) (Q:VK) (u:Value) (s':Shared):Prop :=
 ∃ v H',s'.os=s.os∧AllBare s'.gens∧Un (frs outer) [] H H' s.heap s'.heap∧HOk P w H' s'.heap∧aO v u∧Q v H'
noncomputable def CR (CX:CXT) (outer:List Env) (P:Program) (w:World) (H:Hp) (s:Shared) (Q:VK) (E:XK) (r:Result) (s':Shared):Prop :=
 match r with
 | .ok (.ret u)=>CE outer P w H s Q u s'
 | .ok _=>False
 | .error e=>CX outer H s E e s'
structure bC (P:Program) (w:World) (K:W.Frag) (mg:Str→Option Value) (base:Heap) (CX:CXT) (k:Nat) (f:Addr) (fd:FuncData) (ps:List Str) (sp:Sp):Prop where
 len:∀ vs H Q E,sp vs H Q E→vs.length=ps.length
 run:∀ (A:Around) (outer:List Env) (s:Shared) (H:Hp) (args:Args) (us:List Value) (vs:List V) (Q:VK) (E:XK),bK k A→sW P w K mg base A outer s H→BindsTo s fd args (ps.zip us)→aM vs us→sp vs H Q E→
   codeAny (model P w) A (.call (.ref f) args) (CR CX outer P w H s Q E) s
theorem bC.mono {P:Program} {w:World} {K:W.Frag} {mg:Str→Option Value} {base:Heap} {CX:CXT} {j k:Nat} {f:Addr} {fd:FuncData} {ps:List Str} {sp:Sp} (F:bC P w K mg base CX j f fd ps sp) (h:j≤k) :
   bC P w K mg base CX k f fd ps sp:=⟨F.len,fun A outer s H args us vs Q E hr=>F.run A outer s H args us vs Q E (hr.mono h)⟩
theorem bC.imp {P:Program} {w:World} {K:W.Frag} {mg:Str→Option Value} {base:Heap} {CX:CXT} {k:Nat} {f:Addr} {fd:FuncData} {ps:List Str} {sp sp':Sp} (F:bC P w K mg base CX k f fd ps sp)
   (h:∀ vs H Q E,sp' vs H Q E→sp vs H Q E):bC P w K mg base CX k f fd ps sp' :=
 ⟨fun vs H Q E q=>F.len vs H Q E (h _ _ _ _ q),fun A outer s H args us vs Q E hr he hb hv hs=>F.run A outer s H args us vs Q E hr he hb hv (h _ _ _ _ hs)⟩
theorem sW.make {P:Program} {w:World} {K:W.Frag} {mg:Str→Option Value} {base:Heap} {A:Around} {outer:List Env} {s:Shared} {H:Hp} (e:sW P w K mg base A outer s H) (C:Addr) (us:List Value) (kw:List (Str×Value)) :
   sW P w K mg base (A.under (.builtin "type.__call__" ⟨.ref C :: us,kw⟩)) outer s H:=⟨by first | exact e.frames | (simpa [Around.under,Code.envs,Code.isFrame,pushEnvs] using e.frames),e.mod,e.bs,e.bsz,e.funs,e.frf,e.hok,e.bare⟩
theorem sW.in1 {P:Program} {w:World} {K:W.Frag} {mg:Str→Option Value} {base:Heap} {A:Around} {outer:List Env} {s:Shared} {H:Hp} (e:sW P w K mg base A outer s H) :
   sW P w K mg base A.in1 outer s H:=⟨e.frames,e.mod,e.bs,e.bsz,e.funs,e.frf,e.hok,e.bare⟩
section
variable {X:Cx} {pins:List (Addr×Obj)} {σ:St} {H:Hp} {s s':Shared}
theorem Inv.env0 (I:Inv X pins σ H s):sW X.prog X.w X.K X.mg X.base X.A X.stack s H :=
 ⟨I.ok.frames,I.ok.mod,I.bs,Nat.le_trans I.ok.bsz I.sz,I.stack,I.stkFree,I.hok,I.bare⟩
theorem Inv.after {Q:VK} {u:Value} (I:Inv X pins σ H s) (h:CE X.stack X.prog X.w H s Q u s'):EP X pins σ Q u s':=by
 obtain ⟨v,H',os,bare,un,hok,r,q⟩:=h;obtain ⟨hh,g,d,t,os'⟩:=s';obtain rfl:os'=s.os:=os;exact ⟨v,H',I.call (h':=hh) (g':=g) (d':=d) (t':=t) (ch:=[]) un hok bare (fun b z=>absurd z (by simp)),r,q⟩
end
def aJR (sp:Sp) (dvs:List V) (E:XK) (t:TA):TE:=fun σ H Q=>t σ H fun vs H1=>sp (vs ++ dvs) H1 Q E
def aLl (C:Addr) (sp:Sp) (dvs:List V) (E:XK) (t:TA):TE:=fun σ H Q=>t σ H fun vs H1=>∀ x dx,H1 x=none→H1 dx=none→dx≠x→
 sp (.ref x :: (vs ++ dvs)) (upd (upd H1 dx (.own x)) x (.ins C dx [])) (fun v H2=>v= .non∧Q (.ref x) H2) E
noncomputable def aJ (K:W.Frag) (fd:FuncData) (ps:List Str) (ds:List Value):Prop :=
 ∀ (s:Shared) (us:List Value),K.In s.heap→(us ++ ds).length=ps.length→BindsTo s fd ⟨us,[]⟩ (ps.zip (us ++ ds))
def jY (CX:CXT) (X:Cx) (E:XK):Prop:= ∀ (pins:List (Addr×Obj)) (σ:St) (H:Hp) (s:Shared) (e:Value) (s':Shared),Inv X pins σ H s→CX X.stack H s E e s'→X.xe e s'
section
variable {X:Cx} {CX:CXT} {k:Nat} {f C:Addr} {fd:FuncData} {ps:List Str} {sp:Sp} {dvs:List V} {ds:List Value} {E:XK} {x m:Str} {p pos apos:Pos} {e o:Expr} {es:List Expr} {ta:TE} {t:TA}
theorem aIz {pins:List (Addr×Obj)} {σ:St} {H:Hp} {s:Shared} {Q:VK} {us:List Value} {vs:List V} (F:bC X.prog X.w X.K X.mg X.base CX k f fd ps sp) (hr:bK k X.A) (hb:aJ X.K fd ps ds) (hd:aM dvs ds) (hx:jY CX X E)
   (I:Inv X pins σ H s) (r:aM vs us) (h:sp (vs ++ dvs) H Q E):wpAny (model X.prog X.w) X.A (call (.ref f) us) (EP X pins σ Q) X.xe s:=by
 have r2:aM (vs ++ dvs) (us ++ ds):=r.append hd;have hl:(us ++ ds).length=ps.length:=by rw [←r2.length]; exact F.len _ _ _ _ h
 refine wpAny_call (codeAny_mono (F.run X.A X.stack s H ⟨us,[]⟩ (us ++ ds) (vs ++ dvs) Q E hr I.env0 (hb s us I.kIn hl) r2 h) fun r s' hq=>?_);cases r with
 | error e=>exact hx pins σ H s e s' I hq
 | ok fl =>
   cases fl with
   | ret u=>exact I.after hq
   | next=>exact False.elim hq
   | brk=>exact False.elim hq
   | cont=>exact False.elim hq
theorem aB0 (F:bC X.prog X.w X.K X.mg X.base CX k f fd ps sp) (hr:bK k X.A) (hg:Gl X x) (hm:X.mg x=some (.ref f)) (hk:W.keepIn X.K (.ref f)=true) (hb:aJ X.K fd ps ds) (hd:aM dvs ds) (hx:jY CX X E)
   (ha:PA X (e :: es) t) (hdb:(x == ("__debug__":Str))=false:=by decide) (he:starEach (e :: es) X.env=(false,eval e X.env) :: starEach es X.env:=by rfl) (hpl:(backTo pos (starEach es X.env)).any (·.1)=false:=by rfl) :
   PE X (.Call (.Name x p) (e :: es) [] pos) (aJR sp dvs E t):=by
 intro pins s σ H Q I h;refine wpAny_Call_Name_kw (eE I hg hm ?_ hdb);refine W.callWith_K (h₀:=X.base) I.ok.mod.kin hk (thn (ha pos pins s σ H _ I h) fun us s1 ⟨vs,H1,I1,r,q⟩=>⟨I1.kIn, ?_⟩) he hpl;exact aIz F hr hb hd hx I1 r q
structure Mk (K:W.Frag) (C f:Addr):Prop where
 makes:W.makesIn K C=true
 init:W.findIn K (.ref C) "__init__"=some (some (.ref f))
 fn:W.isFn K (.ref f)=true
 kp:W.keepIn K (.ref C)=true
theorem UI {pins:List (Addr×Obj)} {σ:St} {H:Hp} {s:Shared} {Q:VK} {us:List Value} {vs:List V} (M:Mk X.K C f) (F:bC X.prog X.w X.K X.mg X.base CX k f fd ps sp) (hr:bK (k + 1) X.A) (hb:aJ X.K fd ps ds) (hd:aM dvs ds)
   (hx:jY CX X E) (I:Inv X pins σ H s) (r:aM vs us)
   (h:∀ x dx,H x=none→H dx=none→dx≠x→sp (.ref x :: (vs ++ dvs)) (upd (upd H dx (.own x)) x (.ins C dx [])) (fun v H2=>v= .non∧Q (.ref x) H2) E) :
   wpAny (model X.prog X.w) X.A (call (.ref C) us) (EP X pins σ Q) X.xe s:=by
 have hq:=h (s.heap.objs.size + 1) s.heap.objs.size (I.hok.fresh (Nat.le_succ _)) (I.hok.fresh (Nat.le_refl _)) (Nat.ne_of_lt (Nat.lt_succ_self _));have I2:=Inv.made (C:=C) I;have r2:aM (V.ref (s.heap.objs.size + 1) :: (vs ++ dvs)) (Value.ref (s.heap.objs.size + 1) :: (us ++ ds)):=.cons rfl (r.append hd);have hl:(Value.ref (s.heap.objs.size + 1) :: us ++ ds).length=ps.length:=by
   have e:=r2.length;rw [F.len _ _ _ _ hq] at e;exact e.symm
 refine wpAny_call (EQ (f:=f) I.kIn M.makes M.init (beq_iff_eq.mp M.fn) (codeAny_mono (F.run _ X.stack _ _ ⟨Value.ref (s.heap.objs.size + 1) :: us,[]⟩ (Value.ref (s.heap.objs.size + 1) :: (us ++ ds)) _ _ E (hr.make C us [])
   (I2.env0.make C us []) (hb _ (Value.ref (s.heap.objs.size + 1) :: us) I2.kIn hl) r2 hq) fun r s' hq'=>?_))
 cases r with
 | error e=>exact hx pins σ _ _ e s' I2 hq'
 | ok fl =>
   cases fl with
   | ret u =>
     obtain ⟨v,H',I3,rv,ev,q3⟩:=I2.after hq';subst ev;exact ⟨rv,⟨V.ref (s.heap.objs.size + 1),H',I3,rfl,q3⟩⟩
   | next=>exact False.elim hq'
   | brk=>exact False.elim hq'
   | cont=>exact False.elim hq'
theorem aDM (M:Mk X.K C f) (F:bC X.prog X.w X.K X.mg X.base CX k f fd ps sp) (hr:bK (k + 1) X.A) (hg:Gl X x) (hm:X.mg x=some (.ref C)) (hb:aJ X.K fd ps ds) (hd:aM dvs ds) (hx:jY CX X E)
   (ha:PA X (e :: es) t) (hdb:(x == ("__debug__":Str))=false:=by decide) (he:starEach (e :: es) X.env=(false,eval e X.env) :: starEach es X.env:=by rfl) (hpl:(backTo pos (starEach es X.env)).any (·.1)=false:=by rfl) :
   PE X (.Call (.Name x p) (e :: es) [] pos) (aLl C sp dvs E t):=by
 intro pins s σ H Q I h;refine wpAny_Call_Name_kw (eE I hg hm ?_ hdb);refine W.callWith_K (h₀:=X.base) I.ok.mod.kin M.kp (thn (ha pos pins s σ H _ I h) fun us s1 ⟨vs,H1,I1,r,q⟩=>⟨I1.kIn, ?_⟩) he hpl;exact UI M F hr hb hd hx I1 r q
end
noncomputable def PK (X:Cx) (kws:List Keyword) (t:TA):Prop :=
 ∀ (pos:Pos) (pins:List (Addr×Obj)) (s:Shared) (σ:St) (H:Hp) (Q:List V→Hp→Prop),Inv X pins σ H s→t σ H Q→wpAny (model X.prog X.w) X.A (evalAll ((backToKw pos (keywordEach kws X.env)).map (·.2))) (AP X pins σ Q) X.xe s
section
variable {X:Cx} {CX:CXT} {k:Nat} {f C:Addr} {fd:FuncData} {ps ks:List Str} {sp:Sp} {E:XK} {x m:Str} {p pos apos kpos:Pos} {e o:Expr} {es:List Expr} {kws:List Keyword} {te ta:TE} {t tk:TA} {nm:Option Str}
theorem ZO:PK X [] aF6:=fun _ _ _ _ H Q I h=>wpAny_evalAll_nil ⟨[],H,I,.nil,h⟩
theorem aC8 (ha:PE X e te) (hr:PK X kws t):PK X (⟨nm,e,kpos⟩ :: kws) (NS te t):=by
 intro pos pins s σ H Q I h;show wpAny _ _ (evalAll ((do let v ←eval e X.env; standAt pos; pure v) :: (backToKw pos (keywordEach kws X.env)).map (·.2))) _ _ s;refine wpAny_evalAll_cons (wAq (thn (ha pins s σ H _ I h) fun u s1 ⟨x,H1,I1,r1,q1⟩=>wAq (wpAny_standAt (wBq ?_))));exact thn (hr pos pins s1 σ H1 _ I1 q1) <|by rintro us s2 ⟨xs,H2,I2,r2,q2⟩;exact ⟨x :: xs,H2,I2,.cons r1 r2,q2⟩
variable {g:List Value→List Value→List Value} {gV:List V→List V→List V}
end
structure fP (N P:List Str) (sc:Scope):Prop where
 kind:sc.kind= .function
 co:sc.isCoroutine=false
 gen:sc.isGenerator=false
 nd:N.Nodup
 pre:N.take P.length=P
 par:∀ x∈P,sc.names.lookup x=some .local∨sc.names.lookup x=some .cell
 nofree:∀ y∈sc.names,y.2≠.free
theorem yQ {kindOf:Str→Option NameKind} {x:Str}:∀ {binds:List (Str×Value)} {m:Str→Option Value},(∀ v,(x,v)∉ binds)→bindL kindOf binds m x=m x
 | [],_,_=>rfl
 | (n,v) :: r,m,h=>by
   unfold bindL;rw [yQ fun w hw=>h w (wCq _ hw)];split
   · have:x≠n:=by rintro rfl; exact h v wDq
     simp [this]
   · rfl
theorem yW {kindOf:Str→Option NameKind} {x:Str}:∀ {binds:List (Str×Value)} {m:Str→Option Value},(∀ v,(x,v)∉ binds)→bindC kindOf binds m x=m x
 | [],_,_=>rfl
 | (n,v) :: r,m,h=>by
   unfold bindC;rw [yW fun w hw=>h w (wCq _ hw)];split
   · rfl
   · have:x≠n:=by rintro rfl; exact h v wDq
     simp [this]
theorem yZ {kindOf:Str→Option NameKind} {x:Str} {v:Value}:∀ {P:List Str} {vs:List Value} {i:Nat} {m:Str→Option Value},P.Nodup→P[i]? =some x→vs[i]? =some v→kindOf x=some .local→
   bindL kindOf (P.zip vs) m x=some v
 | [],_,_,_,_,h,_,_=>by simp at h
 | _ :: _,[],_,_,_,_,h,_=>by simp at h
 | p :: P,w :: vs,0,m,nd,h1,h2,hk=>by
   simp at h1 h2; subst h1; subst h2
   show bindL kindOf ((p,w) :: P.zip vs) m p=_;unfold bindL;rw [yQ fun v hv=>(List.nodup_cons.mp nd).1 (List.of_mem_zip hv).1,if_pos hk];simp
 | p :: P,w :: vs,i + 1,m,nd,h1,h2,hk=>by
   show bindL kindOf ((p,w) :: P.zip vs) m x=_;unfold bindL;exact yZ (i:=i) (List.nodup_cons.mp nd).2 (by simpa using h1) (by simpa using h2) hk
theorem yX {kindOf:Str→Option NameKind} {x:Str} {v:Value}:∀ {P:List Str} {vs:List Value} {i:Nat} {m:Str→Option Value},P.Nodup→P[i]? =some x→vs[i]? =some v→kindOf x≠some .local→
   bindC kindOf (P.zip vs) m x=some v
 | [],_,_,_,_,h,_,_=>by simp at h
 | _ :: _,[],_,_,_,_,h,_=>by simp at h
 | p :: P,w :: vs,0,m,nd,h1,h2,hk=>by
   simp at h1 h2; subst h1; subst h2
   show bindC kindOf ((p,w) :: P.zip vs) m p=_;unfold bindC;rw [yW fun v hv=>(List.nodup_cons.mp nd).1 (List.of_mem_zip hv).1,if_neg hk];simp
 | p :: P,w :: vs,i + 1,m,nd,h1,h2,hk=>by
   show bindC kindOf ((p,w) :: P.zip vs) m x=_;unfold bindC;exact yX (i:=i) (List.nodup_cons.mp nd).2 (by simpa using h1) (by simpa using h2) hk
noncomputable def start (N:List Str) (vs:List V):St:=vs.map some ++ List.replicate (N.length - vs.length) none
noncomputable def sB (CX:CXT) (P:Program) (w:World) (K:W.Frag) (mg:Str→Option Value) (base:Heap) (N:List Str) (qual:Str) (scope:Scope) (f:Addr) (cd:Value) (A:Around) (outer:List Env) (s:Shared) (H:Hp) (E:XK):Cx where
 prog:=P
 w:=w
 K:=K
 mg:=mg
 base:=base
 A:=A.deeper (envOfC qual scope s.heap.objs.size f cd)
 N:=N
 s₀:=s
 H₀:=H
 env:=envOfC qual scope s.heap.objs.size f cd
 outer:=outer
 stack:=envOfC qual scope s.heap.objs.size f cd :: outer
 ex:=[]
 calm:=A.handled.isNone
 fn:=fun _=>true
 pn:=[]
 xe:=fun e s'=>wpAny (model P w) (A.deeper (envOfC qual scope s.heap.objs.size f cd)) (leaving (envOfC qual scope s.heap.objs.size f cd) e) (fun _ s''=>CX outer H s E e s'') (fun e' s''=>CX outer H s E e' s'') s'
theorem oK {sc:Scope} {n:Nat} {x:Str} (h:sc.names.lookup x=some .cell):∃ c,(cellsFrom n sc.names []).lookup x=some c:=by
 have q:=W.cellsFrom_some sc.names n [] (.inl h);exact Option.isSome_iff_exists.mp q
theorem RQ {CX:CXT} {P:Program} {w:World} {K:W.Frag} {mg:Str→Option Value} {base:Heap} {N ps:List Str} {qual:Str} {scope:Scope} {f:Addr} {cd:Value} {A:Around} {outer:List Env} {s s1:Shared} {H:Hp} {E:XK} {us:List Value} {vs:List V}
   (S:fP N ps scope) (e0:sW P w K mg base A outer s H) (hl:vs.length=ps.length) (r:aM vs us)
   (x:InCallC s s.heap.objs.size (bindL (envOfC qual scope s.heap.objs.size f cd).kindOf (ps.zip us) fun _=>none) (cellsFrom (s.heap.objs.size + 1) scope.names []) (bindC (envOfC qual scope s.heap.objs.size f cd).kindOf (ps.zip us) fun _=>none) s1) :
   Inv (sB CX P w K mg base N qual scope f cd A outer s H E) [] (start N vs) H s1:=by
 have hpl:ps.length≤N.length:=by have:=congrArg List.length S.pre; rw [List.length_take] at this; omega
 obtain ⟨h1,tk,rfl,hk⟩:=x.done;have noA:∀ b:Addr,b∉ (sB CX P w K mg base N qual scope f cd A outer s H E).ex:=fun b z=>absurd (show b∈([]:List Addr) from z) (by simp);refine ⟨⟨e0.mod,S.kind,rfl,rfl,Nat.le_refl _,fun y z c h1 h2=>?_,fun y hy=>?_,fun y c _ h=>?_,fun z=>Option.isNone_iff_eq_none.mp z,Around.frames_deeper e0.frames,.inr ⟨rfl,rfl⟩,fun b z=>absurd z (noA b),e0.bs,e0.bsz,fun b _ _=>noA b,fun b z=>absurd z (noA b),e0.funs,e0.frf⟩,
   rfl,e0.bare,Un.kept hk,⟨_,x.toInCall.ns,fun i y v h1 h2 h3=>?_⟩,fun y c h=>⟨_,x.cell y c h⟩,e0.hok.fresh (Nat.le_refl _),fun y c h=>?_,fun p hp=>absurd (show p∈([]:List (Addr×Obj)) from hp) (by simp),e0.hok.kept hk, ?_⟩
 · exact name_of_addr x.apart (PySem.mem_of_lookup h1) (PySem.mem_of_lookup h2)
 · have hy:scope.names.lookup y=some .cell∨scope.names.lookup y=some .free:=hy;rcases hy with hy | hy
   · exact oK hy
   · exact absurd rfl (S.nofree _ (PySem.mem_of_lookup hy))
 · exact Nat.le_of_lt (x.above y c (PySem.mem_of_lookup h))
 · have hi:i < vs.length:=by
     unfold start at h2;by_cases hi:i < vs.length
     · exact hi
     · rw [List.getElem?_append_right (by simpa using hi)] at h2;rw [List.getElem?_replicate] at h2;split at h2 <;> cases h2
   have ha:vs[i]? =some v:=by
     unfold start at h2;rw [List.getElem?_append_left (by simpa using hi),List.getElem?_map] at h2;cases e:vs[i]? with
     | none=>rw [e] at h2; cases h2
     | some a=>rw [e] at h2; cases h2; rfl
   obtain ⟨u,hu,rv⟩:=r.get ha;have hp:ps[i]? =some y:=by
     rw [←S.pre,List.getElem?_take_of_lt (by omega)]; exact h1
   have ndP:ps.Nodup:=by rw [←S.pre]; exact S.nd.sublist (List.take_sublist _ _)
   refine ⟨u,rv, ?_⟩;rcases S.par y (List.mem_of_getElem? hp) with k | k
   · exact .inl ⟨k,yZ ndP hp hu k⟩
   · obtain ⟨c,e⟩:=oK (n:=s.heap.objs.size + 1) k;refine .inr ⟨.inl k,c,e, ?_⟩;have q:=x.cell y c e;rw [yX ndP hp hu (by show scope.names.lookup y≠_; rw [k]; decide)] at q;exact q
 · exact e0.hok.fresh (Nat.le_of_lt (x.above y c (PySem.mem_of_lookup h)))
 · unfold start;show _=N.length;rw [List.length_append,List.length_map,List.length_replicate];omega
theorem aAA {CX:CXT} {P:Program} {w:World} {K:W.Frag} {mg:Str→Option Value} {base:Heap} {k:Nat} {f:Addr} {name qual:Str} {params:Arguments} {body:List Stmt} {scope:Scope} {dV kV doc pm cdv ct oc:Value} {an od:Option Addr}
   {osl:Array (Option Value)} {N ps:List Str} {sp:Sp} (lk:K.lookup f=some ⟨oc,od,.func (W.fnOf name qual params body scope dV kV doc pm an cdv ct),osl⟩) (hcd:W.codeIn K cdv qual=true) (S:fP N ps scope)
   (len:∀ vs H Q E,sp vs H Q E→vs.length=ps.length)
   (hbody:∀ (A:Around) (outer:List Env) (s:Shared) (H:Hp) (vs:List V) (Q:VK) (E:XK),bK k (A.deeper (envOfC qual scope s.heap.objs.size f cdv))→sp vs H Q E→
     ∃ t,PSs (sB CX P w K mg base N qual scope f cdv A outer s H E) body t∧t { nx:=fun _ H'=>Q .non H',rt:=Q } (start N vs) H) :
   bC P w K mg base CX (k + 1) f (W.fnOf name qual params body scope dV kV doc pm an cdv ct) ps sp:=by
 refine ⟨len,fun A outer s H args us vs Q E hr e0 hb r hsp=>?_⟩;have hl:=len _ _ _ _ hsp;have KX:K.In s.heap:=e0.mod.kin.keeps fun b o e=>(e0.bs b o e).1;have lim:s.heap.NoLimit:=e0.mod.nolimit.keeps fun b o e=>(e0.bs b o e).1;have hkind:∀ y∈ps.zip us,scope.names.lookup y.1=some .local∨(scope.names.lookup y.1=some .cell∧((cellsFrom (s.heap.objs.size + 1) scope.names []).lookup y.1).isSome=true):=by
   rintro ⟨n,v⟩ hy;rcases S.par n (List.of_mem_zip hy).1 with q | q
   · exact .inl q
   · exact .inr ⟨q,W.cellsFrom_some _ _ _ (.inl q)⟩
 refine codeAny_call_function hr.depth (KX _ _ lk) rfl S.co S.gen rfl (W.codeRec_of KX hcd) (hb _ _ _ _ ?_);refine wpAny_newFunctionEnv_cells S.kind hkind fun env he s1 x=>?_;subst he;refine ⟨lim.keeps x.toInCall.keep,codeAny_func ?_⟩;obtain ⟨t,ht,hq⟩:=hbody A outer s H vs Q E (hr.deeper _) hsp;have I:Inv (sB CX P w K mg base N qual scope f cdv A outer s H E) [] (start N vs) H s1:=RQ S e0 hl r x;refine wpAny_mono (ht [] s1 (start N vs) H _ I hq) (fun fl s' hs=>?_) fun e s' hs=>hs;have fin:∀ {σ':St} {H':Hp} {v:V} {u:Value},Inv (sB CX P w K mg base N qual scope f cdv A outer s H E) [] σ' H' s'→aO v u→Q v H'→CE outer P w H s Q u s' :=
   fun {σ' H' v u} J rv q=>⟨v,H',J.os,J.bare,J.base,J.hok,rv,q⟩
 cases fl with
 | ret u =>
   obtain ⟨v,σ',H',J,rv,q⟩:=hs;exact fin J rv q
 | next =>
   obtain ⟨σ',H',J,q⟩:=hs;exact fin (v:=V.non) (u:=Value.none) J rfl q
 | brk =>
   obtain ⟨_,_,_,q⟩:=hs;exact False.elim q
 | cont =>
   obtain ⟨_,_,_,q⟩:=hs;exact False.elim q
section
variable {X:Cx} {x:Str} {p pos:Pos} {e:Expr} {es:List Expr} {t:TA} {id T:String} {r:List V→Hp→VK→Prop}
def tCB (r:List V→Hp→VK→Prop) (t:TA):TE:=fun σ H Q=>t σ H fun vs H1=>r vs H1 Q
theorem EW (hc:bT X (.builtin id) r) (hg:Gl X x) (hm:X.mg x=none) (hv:bootBuiltins x=some (.builtin id)) (ha:PA X (e :: es) t) (hn:x≠"__name__":=by decide) (hdb:(x == ("__debug__":Str))=false:=by decide)
   (he:starEach (e :: es) X.env=(false,eval e X.env) :: starEach es X.env:=by rfl) (hpl:(backTo pos (starEach es X.env)).any (·.1)=false:=by rfl):PE X (.Call (.Name x p) (e :: es) [] pos) (tCB r t):=by
 intro pins s σ H Q I h;refine wpAny_Call_Name_kw (lJ I hg hm hv ?_ hn hdb);exact PyProof.Rows.callWith_builtin1 (thn (ha pos pins s σ H _ I h) <|by rintro us s1 ⟨vs,H1,I1,r1,q1⟩;exact hc pins s1 σ H1 vs us Q I1 r1 q1) he hpl
theorem QC (hc:bT X (.type T) r) (hg:Gl X x) (hm:X.mg x=none) (hv:bootBuiltins x=some (.type T)) (ha:PA X (e :: es) t) (hn:x≠"__name__":=by decide) (hdb:(x == ("__debug__":Str))=false:=by decide)
   (he:starEach (e :: es) X.env=(false,eval e X.env) :: starEach es X.env:=by rfl) (hpl:(backTo pos (starEach es X.env)).any (·.1)=false:=by rfl):PE X (.Call (.Name x p) (e :: es) [] pos) (tCB r t):=by
 intro pins s σ H Q I h;refine wpAny_Call_Name_kw (lJ I hg hm hv ?_ hn hdb);exact PyProof.Rows.callWith_type1 (thn (ha pos pins s σ H _ I h) <|by rintro us s1 ⟨vs,H1,I1,r1,q1⟩;exact hc pins s1 σ H1 vs us Q I1 r1 q1) he hpl
end
end L2
namespace HT
open PySem PyProof.Rows
noncomputable def yR:List Int→List Int→Bool
 | [],[]=>false
 | [],_ :: _=>true
 | _ :: _,[]=>false
 | x :: xs,y :: ys=>if x=y then yR xs ys else decide (x < y)
theorem aIZ (x y:Int) (xs ys:List Int):yR (x :: xs) (y :: ys)=if x=y then yR xs ys else decide (x < y):=rfl
theorem aBe:yR [] []=false:=rfl
theorem ZK (y:Int) (ys:List Int):yR [] (y :: ys)=true:=rfl
theorem TK (x:Int) (xs:List Int):yR (x :: xs) []=false:=rfl
section
open PySem.SeqAt
open PySem.AutoSeq1 (wpAny_loadPart')
open PySem.MeetsSeq PySem.MeetsSeq2 PySem.MeetsSeq3
end
section
variable {prog:Program} {w:World} {A:Around} {E:Value→Shared→Prop} {s:Shared}
theorem aCf {t b:Addr} {vs ws:List Value} {Q:Value→Shared→Prop} (ht:IsTup s.heap t vs.toArray) (hb:IsTup s.heap b ws.toArray) (hv:vs≠ [])
   (h1:ws=[]→Q (.ref t) s) (h2:ws≠ []→Q (.ref s.heap.objs.size) { s with heap:=s.heap.push { cls:=.type "tuple",data:=.seq (vs ++ ws).toArray } })
   (hsz:vs.length + ws.length≤sizeLine):wpAny (model prog w) A (binaryOp .Add (.ref t) (.ref b)) Q E s:=by
 obtain ⟨⟨cls,dd,data,sl⟩,ho,hc,n,hd⟩:=id ht;obtain ⟨⟨cls2,dd2,data2,sl2⟩,ho2,hc2,n2,hd2⟩:=id hb;simp only at hc hd hc2 hd2;subst hc hd hc2 hd2;have e:vs.toArray ++ ws.toArray=(vs ++ ws).toArray:=by simp
 by_cases hw:ws=[]
 · exact concat_meets ⟨_,ho,rfl⟩ ⟨_,ho2,rfl⟩ noFill_tuple_add seq_tuple_add PySem.F.slot_tuple_add PySem.F.entry_tuple_add (PySem.F.args_tuple_add_2 _ _)
     (tuple_addW1 t b vs.toArray ws.toArray n n2 dd dd2 sl sl2 (by simpa using hv) (by simp [hw])) ⟨ho,ho2,h1 hw⟩
 · refine concat_meets ⟨_,ho,rfl⟩ ⟨_,ho2,rfl⟩ noFill_tuple_add seq_tuple_add PySem.F.slot_tuple_add PySem.F.entry_tuple_add (PySem.F.args_tuple_add_2 _ _)
     (tuple_addW2 t b vs.toArray ws.toArray n n2 dd dd2 sl sl2 (by simpa using hv) (by simpa using hw) (by rw [wIq,wIq]; exact hsz)) ⟨ho,ho2, ?_⟩
   rw [e];exact h2 hw
noncomputable def sIx (n d:Nat):Option Int→Nat
 | none=>d
 | some v=>if v < 0 then (v + (n:Int)).toNat else min v.toNat n
theorem aLH (n d:Nat):sIx n d none=d:=rfl
theorem aGV (n d:Nat) (hd:d≤n) (o:Option Int):sIx n d o≤n:=by
 cases o with
 | none=>exact hd
 | some v =>
   show (if v < 0 then (v + (n:Int)).toNat else min v.toNat n)≤n;by_cases hv:v < 0
   · rw [if_pos hv]; omega
   · rw [if_neg hv]; exact Nat.min_le_right _ _
theorem MQ (v:Int) (n d:Nat):(if v < 0 then max (v + (n:Int)) 0 else min v (n:Int))=((sIx n d (some v):Nat):Int):=by
 show (if v < 0 then max (v + (n:Int)) 0 else min v (n:Int))=(((if v < 0 then (v + (n:Int)).toNat else min v.toNat n):Nat):Int);by_cases hv:v < 0
 · simp only [if_pos hv]; omega
 · simp only [if_neg hv]; omega
theorem HK (lo hi:Option Int) (n:Nat):Builtin.Slice.sliceAdjust lo hi 1 (n:Int)=(((sIx n 0 lo:Nat):Int),((sIx n n hi:Nat):Int)):=by
 have h1:¬((1:Int) < 0):=by omega
 unfold Builtin.Slice.sliceAdjust;simp only [h1,if_false];refine Prod.ext ?_ ?_
 · cases lo with
   | none=>rfl
   | some v=>exact MQ v n 0
 · cases hi with
   | none=>rfl
   | some v=>exact MQ v n n
theorem LK (i j:Nat):Builtin.Slice.slicePlaces (i:Int) (j:Int) 1=j - i:=by
 unfold Builtin.Slice.slicePlaces;have h1:(1:Int) > 0:=by omega
 simp only [h1,if_true,Int.ediv_one];split <;> omega
theorem uR {v:Value} {o:Option Int} {Q:Option Int→Shared→Prop} (p:IsPart v o) (h:Q o s):wpAny (model prog w) A (Builtin.Slice.slicePartIndex v) Q E s:=by
 cases p with
 | none=>exact slicePart_none h
 | int i t=>exact slicePart_int h
theorem iN {sl:Addr} {vl vu:Value} {lo hi:Option Int} {n:Nat} {Q:Int×Int×Nat→Shared→Prop} (hs:s.heap.IsSliceOf sl vl vu .none) (pl:IsPart vl lo) (pu:IsPart vu hi)
   (h:Q (((sIx n 0 lo:Nat):Int),1,sIx n n hi - sIx n 0 lo) s):wpAny (model prog w) A (Builtin.Slice.sliceApplied (.ref sl) (pure (n:Int))) Q E s:=by
 obtain ⟨os,hos,hcs,hds⟩:=id hs;unfold Builtin.Slice.sliceApplied Builtin.Slice.sliceFields;refine wAq (wAq (wpAny_field hos hds (x:=vl) rfl (wAq (wpAny_field hos hds (x:=vu) rfl (wAq (wpAny_field hos hds (x:=.none) rfl (wBq ?_)))))));refine wAq (slicePart_none ?_);show wpAny _ _ (if ((1:Int) == 0)=true then _ else _) _ _ s;rw [if_neg (by decide)];refine wAq (uR pl (wAq (uR pu (wAq (wBq ?_)))));show wpAny _ _ (match Builtin.Slice.sliceAdjust lo hi 1 (n:Int) with | (lo,hi)=>pure (lo,(1:Int),Builtin.Slice.slicePlaces lo hi 1)) _ _ s;rw [HK lo hi n];show wpAny _ _ (pure (((sIx n 0 lo:Nat):Int),(1:Int),Builtin.Slice.slicePlaces ((sIx n 0 lo:Nat):Int) ((sIx n n hi:Nat):Int) 1)) _ _ s;rw [LK];exact wBq h
theorem XJ (xs:Array Value) (i k:Nat):((List.range k).filterMap fun (m:Nat)=>xs[((i:Int) + (m:Int) * 1).toNat]?).toArray=((xs.toList.drop i).take k).toArray:=by
 have e:(fun (m:Nat)=>xs[((i:Int) + (m:Int) * 1).toNat]?)=fun m=>xs[i + m]? :=by
   funext m
   have:((i:Int) + (m:Int) * 1).toNat=i + m:=by omega
   rw [this]
 rw [e];have:=pick_run xs i k;rw [List.filterMap_map] at this;have e2:((fun x=>xs[x]?) ∘ fun x=>i + x)=fun m=>xs[i + m]? :=rfl;rw [e2] at this;rw [this]
theorem oM {t sl:Addr} {items:Array Value} {vl vu:Value} {lo hi:Option Int} {Q:Value→Shared→Prop} (ht:IsTup s.heap t items) (hs:s.heap.IsSliceOf sl vl vu .none) (pl:IsPart vl lo) (pu:IsPart vu hi)
   (hw:¬(sIx items.size 0 lo=0∧sIx items.size items.size hi=items.size))
   (h:Q (.ref s.heap.objs.size) { s with heap:=s.heap.push { cls:=.type "tuple",data:=.seq ((items.toList.drop (sIx items.size 0 lo)).take (sIx items.size items.size hi - sIx items.size 0 lo)).toArray } })
   (hsz:items.size≤sizeLine):wpAny (model prog w) A (getItem (.ref t) (.ref sl)) Q E s:=by
 have htake:sizeOk (.seq ((items.toList.drop (sIx items.size 0 lo)).take (sIx items.size items.size hi - sIx items.size 0 lo)).toArray):=by
   show ((items.toList.drop (sIx items.size 0 lo)).take (sIx items.size items.size hi - sIx items.size 0 lo)).toArray.size≤sizeLine;rw [wIq,List.length_take,List.length_drop,Array.length_toList];omega
 have hj:sIx items.size items.size hi≤items.size:=aGV _ _ (Nat.le_refl _) hi;obtain ⟨os,hos,hcs,hds⟩:=id hs;have hTs:s.TypeIs (.ref sl) "slice":=⟨os,hos,hcs⟩;unfold getItem
 try with_reducible refine wpAny_holding ?_
 first | refine wAq (wBq ?_) | skip
 refine wAq (wpAny_sequenceKey ht.typeIs (by decide) ?_);refine wAq (wpAny_callSpecial?_slot (name:=Str.ofString "__getitem__") ht.typeIs PyProof.Rows.slot_tuple_getitem
   (wpAny_call_entry PyProof.Rows.slot_tuple_getitem ht.typeIs entry_tuple_getitem ?_ (args_tuple_getitem _ _)))
 show wpAny _ _ (Builtin.Tuple.tupleItemsOf (.ref t) >>= _) _ _ s;refine wAq (tupleItemsOf_ ht ?_);refine wAq (wpAny_typeOf hTs ?_);rw [if_pos (by decide)];refine wAq (iN hs pl pu ?_);have hno:¬((((sIx items.size 0 lo:Nat):Int) == 0 && (1:Int) == 1 && (sIx items.size items.size hi - sIx items.size 0 lo) == items.size)=true):=by
   intro q;rw [Bool.and_eq_true,Bool.and_eq_true] at q;have q1:((sIx items.size 0 lo:Nat):Int)=0:=eq_of_beq q.1.1;have q2:sIx items.size items.size hi - sIx items.size 0 lo=items.size:=eq_of_beq q.2;exact hw ⟨by omega,by omega⟩
 show wpAny _ _ (if (((sIx items.size 0 lo:Nat):Int) == 0 && (1:Int) == 1 && (sIx items.size items.size hi - sIx items.size 0 lo) == items.size)=true then _ else _) _ _ s;rw [if_neg hno,XJ];first
   | exact wAq (m:=Builtin.Tuple.tupleExact _) (wpAny_newObj_type (wBq ⟨_,rfl,wBq h⟩) htake)
   | exact wAq (m:=Builtin.Tuple.tupleExact _) (wpAny_newObj_type (wAq (wBq (wBq ⟨_,rfl,wBq h⟩))) htake)
   | exact wAq (wAq (m:=Builtin.Tuple.tupleExact _) (wpAny_newObj_type (wBq (wBq ⟨_,rfl,wBq h⟩)) htake))
   | exact wAq (wAq (m:=Builtin.Tuple.tupleExact _) (wpAny_newObj_type (wBq ⟨_,rfl,wBq h⟩) htake))
end
end HT
namespace L2
open PySem PySem.Spec PyProof.Rows
noncomputable abbrev TO:=St→Hp→(Option Int→Hp→Prop)→Prop
noncomputable def PO (X:Cx) (e:Option Expr) (t:TO):Prop :=
 ∀ (pins:List (Addr×Obj)) (s:Shared) (σ:St) (H:Hp) (Q:Option Int→Hp→Prop),Inv X pins σ H s→t σ H Q→
   wpAny (model X.prog X.w) X.A (evalPart e X.env) (fun u s'=>∃ o H',Inv X pins σ H' s'∧IsPart u o∧Q o H') X.xe s
noncomputable def aCo:TO:=fun _ H Q=>Q none H
noncomputable def aKy (t:TE):TO:=fun σ H Q=>t σ H fun x H1=>∃ i,x= .int i∧Q (some i) H1
section
variable {X:Cx} {e:Expr} {te:TE} {lo hi:Option Expr} {tl th:TO} {pos p2:Pos}
theorem aCY:PO X none aCo:=by
 intro pins s σ H Q I h;rw [evalPart_none];exact wBq ⟨none,H,I,.none,h⟩
theorem aCs (h:PE X e te):PO X (some e) (aKy te):=by
 intro pins s σ H Q I hw;rw [evalPart_some];refine thn (h pins s σ H _ I hw) fun u s1 zz=>?_;obtain ⟨x,H1,I1,r1,q1⟩:=zz;obtain ⟨i,rfl,q⟩:=q1;obtain ⟨t,rfl⟩:=r1;exact ⟨some i,H1,I1,.int i t,q⟩
noncomputable def SlR (X:Cx) (r:V→Option Int→Option Int→Hp→VK→Prop):Prop :=
 ∀ (pins:List (Addr×Obj)) (s:Shared) (σ:St) (H:Hp) (x:V) (v vl vu:Value) (lo hi:Option Int) (sl:Addr) (Q:VK),Inv X pins σ H s→aO x v→s.heap.IsSliceOf sl vl vu .none→IsPart vl lo→IsPart vu hi→r x lo hi H Q→
   ∃ T id,typeLookup (.type T) "__getitem__"=pure (some (.builtin id))∧s.TypeIs v T∧wpAny (model X.prog X.w) X.A (getItem v (.ref sl)) (EP X pins σ Q) X.xe s
theorem SlR.or {r r':V→Option Int→Option Int→Hp→VK→Prop} (h:SlR X r) (h':SlR X r'):SlR X (fun x lo hi H Q=>r x lo hi H Q∨r' x lo hi H Q):=by
 intro pins s σ H x v vl vu lo hi sl Q I rx hs pl pu q;rcases q with q | q
 · exact h pins s σ H x v vl vu lo hi sl Q I rx hs pl pu q
 · exact h' pins s σ H x v vl vu lo hi sl Q I rx hs pl pu q
def tSl (r:V→Option Int→Option Int→Hp→VK→Prop) (te:TE) (tl th:TO):TE:=fun σ H Q=>te σ H fun x H1=>tl σ H1 fun l H2=>th σ H2 fun u H3=>r x l u H3 Q
theorem XU {r:V→Option Int→Option Int→Hp→VK→Prop} (hr:SlR X r) (he:PE X e te) (hl:PO X lo tl) (hu:PO X hi th):PE X (.Subscript e (.Slice lo hi none p2) pos) (tSl r te tl th):=by
 intro pins s σ H Q I h;refine Subscript_ (thn (he pins s σ H _ I h) fun v s1 zz=>?_);obtain ⟨x,H1,I1,r1,q1⟩:=zz;refine wpAny_Slice (thn (hl pins s1 σ H1 _ I1 q1) fun vl s2 ⟨l,H2,I2,pl,q2⟩=>thn (hu pins s2 σ H2 _ I2 q2) fun vu s3 zz=>?_);obtain ⟨u,H3,I3,pu,q3⟩:=zz;rw [evalPart_none];refine wBq ?_;have I4:Inv X pins σ H3 { s3 with heap:=s3.heap.push { cls:=.type "slice",data:=.fields #[vl,vu,.none] } }:=I3.kept (t':=s3.toks) fun b ob q=>wEq _ q;obtain ⟨T,id,hT,ht,hg⟩:=hr pins { s3 with heap:=s3.heap.push { cls:=.type "slice",data:=.fields #[vl,vu,.none] } } σ H3 x v vl vu l u s3.heap.objs.size Q I4 r1 (Heap.IsSliceOf.new ..) pl pu q3;show wpAny (model X.prog X.w) X.A (subscriptTail e (.Slice lo hi none p2) v (.ref s3.heap.objs.size)) (EP X pins σ Q) X.xe { s3 with heap:=s3.heap.push { cls:=.type "slice",data:=.fields #[vl,vu,.none] } };exact tail_any (ops:=[.ref s3.heap.objs.size,v]) ht hT hg (by with_unfolding_all rfl)
noncomputable def FK (xs:List V) (lo hi:Option Int):List V:=(xs.drop (HT.sIx xs.length 0 lo)).take (HT.sIx xs.length xs.length hi - HT.sIx xs.length 0 lo)
theorem sG (xs:List V) (lo hi:Option Int):(FK xs lo hi).length≤xs.length:=by
 unfold FK;rw [List.length_take,List.length_drop];omega
noncomputable def aOu (K:W.Frag):V→Option Int→Option Int→Hp→VK→Prop:=fun x lo hi H Q=>∃ a xs,x= .ref a∧SqT K H a xs∧
 ¬(HT.sIx xs.length 0 lo=0∧HT.sIx xs.length xs.length hi=xs.length)∧∀ p,H p=none→Q (.ref p) (upd H p (.tup (FK xs lo hi)))
theorem aHp:SlR X (aOu X.K):=by
 intro pins s σ H x v vl vu lo hi sl Q I rx hs pl pu h;obtain ⟨a,xs,rfl,hx,hw,q⟩:=h;cases rx;obtain ⟨its,r,ht,hz⟩:=I.tuple hx;have hlen:its.toArray.size=xs.length:=by rw [wIq]; exact r.length.symm
 refine ⟨"tuple",_,PyProof.Rows.slot_tuple_getitem.lookup,ht.typeIs, ?_⟩;refine HT.oM ht hs pl pu (by rw [hlen]; exact hw) ?_ (by rw [hlen]; exact hz);rw [hlen];refine ⟨.ref s.heap.objs.size,_,I.laid (t':=s.toks) (o:=.tup (FK xs lo hi)) (fun b ob q=>wEq _ q) (Nat.le_refl _) ?_,rfl,q _ (I.hok.fresh (Nat.le_refl _))⟩;exact ⟨Nat.le_trans (sG xs lo hi) hz,_,(r.drop (HT.sIx xs.length 0 lo)).take (HT.sIx xs.length xs.length hi - HT.sIx xs.length 0 lo),gF.new _ _⟩
def aK4 (K:W.Frag):R2:=fun x y H Q=>∃ a b xs ys,x= .ref a∧y= .ref b∧SqT K H a xs∧SqT K H b ys∧xs≠ []∧xs.length + ys.length≤sizeLine∧
 (ys=[]→Q (.ref a) H)∧(ys≠ []→∀ p,H p=none→Q (.ref p) (upd H p (.tup (xs ++ ys))))
theorem aM.nil_iff {xs:List V} {us:List Value} (r:aM xs us):us=[]↔xs=[]:=by
 cases r with
 | nil=>simp
 | cons _ _=>simp
theorem aCp:OpR X (binaryOp .Add) (aK4 X.K):=by
 intro pins s σ H x y v u Q I rx ry h;obtain ⟨a,b,xs,ys,rfl,rfl,ha,hb,hx,hz,q1,q2⟩:=h;cases rx;cases ry;obtain ⟨its,r1,p1,_⟩:=I.tuple ha;obtain ⟨its2,r2,p2,_⟩:=I.tuple hb;refine HT.aCf p1 p2 (fun z=>hx (r1.nil_iff.mp z)) (fun z=>⟨.ref a,H,I,rfl,q1 (r2.nil_iff.mp z)⟩) (fun z=>?_) (by rw [←r1.length,←r2.length]; exact hz);refine ⟨.ref s.heap.objs.size,_,I.laid (t':=s.toks) (o:=.tup (xs ++ ys)) (fun b ob q=>wEq _ q) (Nat.le_refl _) ?_,rfl,q2 (fun w=>z (r2.nil_iff.mpr w)) _ (I.hok.fresh (Nat.le_refl _))⟩;exact ⟨by rw [List.length_append]; exact hz,_,r1.append r2,gF.new _ _⟩
end
noncomputable def ixN (n:Nat) (i:Int):Option Nat:=if 0≤i then (if i < n then some i.toNat else none) else if -(n:Int)≤i then some (i + n).toNat else none
noncomputable def atI {α:Type} (xs:List α) (i:Int):Option α:=(ixN xs.length i).bind fun j=>xs[j]?
theorem MR {n:Nat} {i:Int} {j:Nat} (h:ixN n i=some j):seqIndex? i n=some j∧j < n∧ -(n:Int)≤i∧i < n:=by
 unfold ixN at h;by_cases h0:0≤i
 · rw [if_pos h0] at h;by_cases h1:i < n
   · rw [if_pos h1] at h;have e:i.toNat=j:=Option.some.inj h;exact ⟨by rw [seqIndex_of h0 h1,e],by omega,by omega,h1⟩
   · rw [if_neg h1] at h; cases h
 · rw [if_neg h0] at h;by_cases h1: -(n:Int)≤i
   · rw [if_pos h1] at h;have e:(i + n).toNat=j:=Option.some.inj h;exact ⟨by rw [seqIndex_neg (by omega) h1,e],by omega,h1,by omega⟩
   · rw [if_neg h1] at h; cases h
theorem BZ {α:Type} {xs:List α} {i:Int} {v:α} (h:atI xs i=some v):∃ j,seqIndex? i xs.length=some j∧xs[j]? =some v∧j < xs.length∧ -(xs.length:Int)≤i∧i < xs.length:=by
 unfold atI at h;cases e:ixN xs.length i with
 | none=>rw [e] at h; cases h
 | some j =>
   rw [e] at h;obtain ⟨h1,h2,h3,h4⟩:=MR e;exact ⟨j,h1,h,h2,h3,h4⟩
theorem dF {α:Type} {xs:List α} {j:Nat} {v:α} (h:xs[j]? =some v):atI xs (j:Int)=some v:=by
 have hj:j < xs.length:=(List.getElem?_eq_some_iff.mp h).1;have e:ixN xs.length (j:Int)=some j:=by
   unfold ixN;rw [if_pos (by omega),if_pos (by omega)]; simp
 unfold atI; rw [e]; exact h
def CK (b:Expr):Prop:= ∀ o i,subscripted b false o i=operate [o,i] (getItem o i)
noncomputable def IxR (X:Cx) (r:R2):Prop :=
 ∀ (value slice:Expr) (pins:List (Addr×Obj)) (s:Shared) (σ:St) (H:Hp) (x y:V) (v u:Value) (Q:VK),Inv X pins σ H s→aO x v→aO y u→r x y H Q→
   subscripted slice false v u=operate [v,u] (getItem v u)→wpAny (model X.prog X.w) X.A (subscriptTail value slice v u) (EP X pins σ Q) X.xe s
noncomputable def MtR (X:Cx) (id:String) (r:V→List V→Hp→VK→Prop):Prop :=
 ∀ (pins:List (Addr×Obj)) (s:Shared) (σ:St) (H:Hp) (x:V) (xs:List V) (v:Value) (us:List Value) (Q:VK),Inv X pins σ H s→aO x v→aM xs us→r x xs H Q→
   wpAny (model X.prog X.w) X.A (call (.builtin id) (v :: us)) (EP X pins σ Q) X.xe s
section
variable {X:Cx} {a b:Expr} {ta tb:TE} {pos:Pos}
theorem IxR.or {r r':R2} (h:IxR X r) (h':IxR X r'):IxR X (fun x y H Q=>r x y H Q∨r' x y H Q):=by
 intro value slice pins s σ H x y v u Q I rx ry q hs;rcases q with q | q
 · exact h value slice pins s σ H x y v u Q I rx ry q hs
 · exact h' value slice pins s σ H x y v u Q I rx ry q hs
theorem aL2 {r:R2} (hr:IxR X r) (ha:PE X a ta) (hb:PE X b tb) (hs:CK b):PE X (.Subscript a b pos) (tOp r ta tb):=by
 intro pins s σ H Q I h;exact Subscript_ (aHQ ha hb I h fun v u s2 x y H2 I2 rx ry q=>hr a b pins s2 σ H2 x y v u Q I2 rx ry q (hs _ _))
def aLc (K:W.Frag):R2:=fun x y H Q=>∃ p xs i v,x= .ref p∧y= .int i∧SqL K H p xs∧atI xs i=some v∧Q v H
def aJN (K:W.Frag):R2:=fun x y H Q=>∃ p xs i v,x= .ref p∧y= .int i∧SqT K H p xs∧atI xs i=some v∧Q v H
def aL6:R2:=fun x y H Q=>∃ z i c,x= .str z∧y= .int i∧z.length≤sizeLine∧atI z.cps.toList i=some c∧Q (.str ⟨#[c]⟩) H
theorem aB4:IxR X (aLc X.K):=by
 intro value slice pins s σ H x y v u Q I rx ry h hs;obtain ⟨p,xs,i,z,rfl,rfl,hq,he,q⟩:=h;cases rx;obtain ⟨t,rfl⟩:=ry;obtain ⟨its,r,pl,hz⟩:=I.list hq;obtain ⟨j,h1,h2,h3,h4,h5⟩:=BZ he;obtain ⟨w,ew,rw'⟩:=r.get h2;have hl:=r.length;have hn:=nB;have fin:EP X pins σ Q w s:=⟨z,H,I,rw',q⟩;by_cases h0:0≤i
 · have hj:i.toNat=j:=by
     rw [seqIndex_of h0 h5] at h1;exact Option.some.inj h1
   exact item_listR pl.isList h0 (by omega) (by rw [hj]; simpa using ew) fin hs
 · have hj:(i + (its.toArray.size:Int)).toNat=j:=by
     rw [seqIndex_neg (by omega) h4] at h1;rw [wIq,←hl];exact Option.some.inj h1
   exact subscriptTail_builtinR (x:=w) pl.isList.typeIs slot_list_getitem.lookup
     (wpAny_getItem_list_neg (Q:=fun r s'=>r=w∧EP X pins σ Q r s') pl.isList (by omega) (by rw [wIq] <;> omega) (by omega) (by rw [hj]; simpa using ew) ⟨rfl,fin⟩) hs
theorem aIa:IxR X (aJN X.K):=by
 intro value slice pins s σ H x y v u Q I rx ry h hs;obtain ⟨p,xs,i,z,rfl,rfl,hq,he,q⟩:=h;cases rx;obtain ⟨t,rfl⟩:=ry;obtain ⟨its,r,pl,hz⟩:=I.tuple hq;obtain ⟨j,h1,h2,h3,h4,h5⟩:=BZ he;obtain ⟨w,ew,rw'⟩:=r.get h2;have hl:=r.length;have hn:=nB;have fin:EP X pins σ Q w s:=⟨z,H,I,rw',q⟩;exact subscriptTail_builtinR (x:=w) pl.typeIs slot_tuple_getitem.lookup
   (getItem_tuple (j:=j) (Q:=fun r s'=>r=w∧EP X pins σ Q r s') pl (by omega) (by omega) (by rw [wIq,←hl]; exact h1) (by simpa using ew) ⟨rfl,fin⟩) hs
theorem aFL:IxR X aL6:=by
 intro value slice pins s σ H x y v u Q I rx ry h hs;obtain ⟨z,i,c,rfl,rfl,hz,he,q⟩:=h;obtain ⟨t,rfl⟩:=rx;obtain ⟨t',rfl⟩:=ry;obtain ⟨j,h1,h2,h3,h4,h5⟩:=BZ he;have hl:z.cps.toList.length=z.length:=by simp [Str.length]
 rw [hl] at h1 h4 h5;have hn:=nB;exact tail_any (typeIs_str s z t) slot_str_getitem.lookup (getItem_str (c:=c) (by
   have e1:decide (i < -(2 ^ 63:Int))=false:=decide_eq_false (by omega);have e2:decide (i ≥ 2 ^ 63)=false:=decide_eq_false (by omega);rw [e1,e2,Bool.or_false]) (by rw [h1]; simpa using h2) ⟨.str ⟨#[c]⟩,H,I.tok _,⟨_,rfl⟩,q⟩) hs
def rIx (K:W.Frag):R2:=fun x y H Q=>aLc K x y H Q∨aJN K x y H Q∨aL6 x y H Q
theorem aGE:IxR X (rIx X.K):=aB4.or (aIa.or aFL)
theorem IR (its:List Value) (n j:Nat) (u:Value):Obj.mapSeq (·.setIfInBounds j u) { cls:=.type "list",data:=.seq its.toArray n }={ cls:=.type "list",data:=.seq (its.set j u).toArray n }:=by
 simp [Obj.mapSeq]
theorem Inv.lst {pins:List (Addr×Obj)} {σ:St} {H:Hp} {s:Shared} {p:Addr} {xs:List V} (I:Inv X pins σ H s) (h:H p=some (.lst xs)) :
   ∃ (its:List Value) (n:Nat),aM xs its∧s.heap.get? p=some { cls:=.type "list",data:=.seq its.toArray n }∧xs.length≤sizeLine:=by
 obtain ⟨z,its,n,r,e⟩:=I.hok p _ h;exact ⟨its,n,r,e,z⟩
theorem Inv.lstUpd {pins:List (Addr×Obj)} {σ:St} {H:Hp} {s:Shared} {p:Addr} {xs ys:List V} {its its':List Value} {n n':Nat} {f:Obj→Obj} (I:Inv X pins σ H s) (h:H p=some (.lst xs))
   (ho:s.heap.get? p=some { cls:=.type "list",data:=.seq its.toArray n }) (hf:f { cls:=.type "list",data:=.seq its.toArray n }={ cls:=.type "list",data:=.seq its'.toArray n' }) (r:aM ys its') (hz:ys.length≤sizeLine) (t:Nat) :
   Inv X pins σ (upd H p (.lst ys)) { s with heap:=s.heap.update p f,toks:=t }:=by
 have e:(s.heap.update p f).get? p=some { cls:=.type "list",data:=.seq its'.toArray n' }:=by
   rw [Heap.get?_update_self f ho (by rw [hf] <;> rfl),hf]
 refine I.write (x:=p) (e:=p) (by rw [h]; trivial) (.inl rfl) (fun b u hb q=>(Heap.get?_update_other _ _ (Ne.symm hb)).trans q) ⟨_,e⟩ ?_;exact ⟨hz,its',n',r,e⟩
noncomputable def aKZ:V→V→V→Hp→(Hp→Prop)→Prop:=fun o i v H Q=>∃ p xs k j,o= .ref p∧i= .int k∧H p=some (.lst xs)∧ixN xs.length k=some j∧Q (upd H p (.lst (xs.set j v)))
theorem XM:aIt X aKZ:=by
 intro pins s σ H o i v ov iv u Q I ro ri rv h;obtain ⟨p,xs,k,j,rfl,rfl,hp,hj,q⟩:=h;cases ro;obtain ⟨t,rfl⟩:=ri;obtain ⟨its,n,r,ho,hz⟩:=I.lst hp;obtain ⟨h1,h2,h3,h4⟩:=MR hj;have hl:=r.length;have hn:=nB;have I':Inv X pins σ (upd H p (.lst (xs.set j v))) { s with heap:=s.heap.update p (Obj.mapSeq (·.setIfInBounds j u)) } :=
   I.lstUpd hp ho (IR its n j u) (r.set rv j) (by rw [List.length_set]; exact hz) s.toks
 by_cases h0:0≤k
 · have hk:k.toNat=j:=by
     rw [seqIndex_of h0 h4] at h1;exact Option.some.inj h1
   exact W.ki_setAt ho h0 (by omega) (by rw [wIq,←hl]; exact h4) (by rw [hk]; exact ⟨_,I',q⟩)
 · have hk:(k + (its.toArray.size:Int)).toNat=j:=by
     rw [seqIndex_neg (by omega) h3] at h1;rw [wIq,←hl];exact Option.some.inj h1
   exact W.ki_setBack ho (by omega) (by rw [wIq,←hl]; exact h3) (by omega) (by rw [hk]; exact ⟨_,I',q⟩)
theorem CY (lo hi:Option Int) (n:Nat):(sliceBounds lo hi none n).1=((HT.sIx n 0 lo:Nat):Int)∧(sliceBounds lo hi none n).2.1=((HT.sIx n n hi:Nat):Int)∧(sliceBounds lo hi none n).2.2=1:=by
 refine ⟨?_, ?_,rfl⟩
 · cases lo with
   | none=>simp [sliceBounds,HT.sIx]
   | some i =>
     simp only [sliceBounds,HT.sIx,Option.getD_none,show (1:Int) > 0 by decide,if_true];by_cases h:i < 0
     · simp only [h,if_true] <;> omega
     · simp only [h,if_false] <;> omega
 · cases hi with
   | none=>simp [sliceBounds,HT.sIx]
   | some i =>
     simp only [sliceBounds,HT.sIx,Option.getD_none,show (1:Int) > 0 by decide,if_true];by_cases h:i < 0
     · simp only [h,if_true] <;> omega
     · simp only [h,if_false] <;> omega
theorem xQ (its:List Value) (lo hi:Option Int):slicePick its.toArray lo hi none=((its.drop (HT.sIx its.length 0 lo)).take (HT.sIx its.length its.length hi - HT.sIx its.length 0 lo)).toArray:=by
 obtain ⟨h1,h2,h3⟩:=CY lo hi its.toArray.size;unfold slicePick;rw [h1,h2,h3];simp only [sliceRange_one,pick_run,wIq] <;> rfl
noncomputable def aNX (K:W.Frag):V→Option Int→Option Int→Hp→VK→Prop:=fun x lo hi H Q=>∃ a xs,x= .ref a∧SqL K H a xs∧∀ p,H p=none→Q (.ref p) (upd H p (.lst (FK xs lo hi)))
theorem aD8:SlR X (aNX X.K):=by
 intro pins s σ H x v vl vu lo hi sl Q I rx hs pl pu h;obtain ⟨a,xs,rfl,hx,q⟩:=h;cases rx;obtain ⟨its,r,ht,hz⟩:=I.list hx;have hlen:=r.length;refine ⟨"list",_,slot_list_getitem.lookup,ht.isList.typeIs, ?_⟩;refine wpAny_getItem_list_slice ht.isList hs pl pu .none (by simp) ?_ (by rw [wIq] <;> omega);rw [xQ,←hlen];refine ⟨.ref s.heap.objs.size,_,I.laid (t':=s.toks) (o:=.lst (FK xs lo hi)) (fun b ob q=>wEq _ q) (Nat.le_refl _) ?_,rfl,q _ (I.hok.fresh (Nat.le_refl _))⟩;exact ⟨Nat.le_trans (sG xs lo hi) hz,_,0,(r.drop (HT.sIx xs.length 0 lo)).take (HT.sIx xs.length xs.length hi - HT.sIx xs.length 0 lo),wGq _ rfl⟩
noncomputable def mP:V→Bool
 | .non=>true
 | .bl _=>true
 | .int _=>true
 | .str _=>true
 | _=>false
noncomputable def eqV:V→V→Bool
 | .non,.non=>true
 | .bl a,.bl b=>a == b
 | .bl a,.int b=>(if a then 1 else 0) == b
 | .int a,.bl b=>a == (if b then 1 else 0)
 | .int a,.int b=>a == b
 | .str a,.str b=>a == b
 | _,_=>false
theorem aIy {A:Around} {s:Shared} {y x:V} {u v:Value} (ry:aO y u) (rx:aO x v) (fy:mP y=true) (fx:mP x=true):SeqAt.EqAt A s u v (eqV y x):=by
 cases y with
 | non =>
   cases ry;cases x with
   | non=>cases rx; exact SeqAt.EqAt.same _
   | bl b=>cases rx; exact SeqAt.EqAt.none_bool b
   | int b=>obtain ⟨t,rfl⟩:=rx; exact SeqAt.EqAt.none_int b t
   | str b=>obtain ⟨t,rfl⟩:=rx; exact SeqAt.EqAt.none_str b t
   | _=>exact absurd (show false=true from fx) Bool.false_ne_true
 | bl a =>
   cases ry;cases x with
   | non=>cases rx; exact SeqAt.EqAt.bool_none a
   | bl b=>cases rx; exact SeqAt.EqAt.bool_bool a b
   | int b=>obtain ⟨t,rfl⟩:=rx; exact SeqAt.EqAt.bool_int a b t
   | str b=>obtain ⟨t,rfl⟩:=rx; exact SeqAt.EqAt.bool_str a b t
   | _=>exact absurd (show false=true from fx) Bool.false_ne_true
 | int a =>
   obtain ⟨t',rfl⟩:=ry;cases x with
   | non=>cases rx; exact SeqAt.EqAt.int_none a t'
   | bl b=>cases rx; exact SeqAt.EqAt.int_bool a t' b
   | int b=>obtain ⟨t,rfl⟩:=rx; exact SeqAt.EqAt.int_int a t' b t
   | str b=>obtain ⟨t,rfl⟩:=rx; exact SeqAt.EqAt.int_str a t' b t
   | _=>exact absurd (show false=true from fx) Bool.false_ne_true
 | str a =>
   obtain ⟨t',rfl⟩:=ry;cases x with
   | non=>cases rx; exact SeqAt.EqAt.str_none a t'
   | bl b=>cases rx; exact SeqAt.EqAt.str_bool a t' b
   | int b=>obtain ⟨t,rfl⟩:=rx; exact SeqAt.EqAt.str_int a t' b t
   | str b=>obtain ⟨t,rfl⟩:=rx; exact SeqAt.EqAt.str_str a t' b t
   | _=>exact absurd (show false=true from fx) Bool.false_ne_true
 | _=>exact absurd (show false=true from fy) Bool.false_ne_true
noncomputable def eqU (x:V) (u:Value):Bool:=match u with
 | .none=>eqV .non x
 | .bool b=>eqV (.bl b) x
 | .int i _=>eqV (.int i) x
 | .str z _=>eqV (.str z) x
 | _=>false
theorem UX {x y:V} {u:Value} (r:aO y u) (f:mP y=true):eqU x u=eqV y x:=by
 cases y with
 | non=>cases r; rfl
 | bl b=>cases r; rfl
 | int i=>obtain ⟨t,rfl⟩:=r; rfl
 | str z=>obtain ⟨t,rfl⟩:=r; rfl
 | _=>exact absurd (show false=true from f) Bool.false_ne_true
theorem pU {x:V}:∀ {xs:List V} {us:List Value},aM xs us→xs.all mP=true→us.any (eqU x)=xs.any fun y=>eqV y x
 | _,_,.nil,_=>rfl
 | y :: xs,u :: us,.cons r t,f=>by
   rw [List.all_cons,Bool.and_eq_true] at f;rw [List.any_cons,List.any_cons,UX r f.1,pU t f.2]
theorem lA {A:Around} {s:Shared} {x:V} {v:Value} (rx:aO x v) (fx:mP x=true):∀ {xs:List V} {us:List Value},aM xs us→xs.all mP=true→∀ u∈us,SeqAt.EqAt A s u v (eqU x u)
 | _,_,.nil,_=>fun u hu=>by cases hu
 | y :: xs,u :: us,.cons r t,f=>fun u' hu=>by
   rw [List.all_cons,Bool.and_eq_true] at f;rcases List.mem_cons.mp hu with rfl | hu
   · rw [UX r f.1]; exact aIy r rx f.1 fx
   · exact lA rx fx t f.2 u' hu
noncomputable def inV (x:V) (xs:List V):Bool:=xs.any fun y=>eqV y x
def rIn (K:W.Frag) (neg:Bool):R2:=fun x y H Q=>∃ p xs,y= .ref p∧(SqL K H p xs∨SqT K H p xs)∧mP x=true∧xs.all mP=true∧Q (.bl (if neg then !inV x xs else inV x xs)) H
theorem QA:OpR X (compareOp .In) (rIn X.K false):=by
 intro pins s σ H x y v u Q I rx ry h;obtain ⟨p,xs,rfl,hq,fx,fs,q⟩:=h;cases ry;rcases hq with hq | hq
 · obtain ⟨its,r,pl,hz⟩:=I.list hq;refine SeqAt.in_listAt (eqU x) pl.isList (fun w hw=>lA rx fx r fs w (by simpa using hw)) ⟨.bl _,H,I,rfl, ?_⟩;rw [show its.toArray.any (eqU x)=its.any (eqU x) by simp,pU r fs];exact q
 · obtain ⟨its,r,pl,hz⟩:=I.tuple hq;refine SeqAt.in_tupleAt (eqU x) pl (fun w hw=>lA rx fx r fs w (by simpa using hw)) ⟨.bl _,H,I,rfl, ?_⟩;rw [show its.toArray.any (eqU x)=its.any (eqU x) by simp,pU r fs];exact q
theorem BP:OpR X (compareOp .NotIn) (rIn X.K true):=by
 intro pins s σ H x y v u Q I rx ry h;obtain ⟨p,xs,rfl,hq,fx,fs,q⟩:=h;cases ry;rcases hq with hq | hq
 · obtain ⟨its,r,pl,hz⟩:=I.list hq;refine SeqAt.notIn_listAt (eqU x) pl.isList (fun w hw=>lA rx fx r fs w (by simpa using hw)) ⟨.bl _,H,I,rfl, ?_⟩;rw [show its.toArray.any (eqU x)=its.any (eqU x) by simp,pU r fs];exact q
 · obtain ⟨its,r,pl,hz⟩:=I.tuple hq;refine SeqAt.notIn_tupleAt (eqU x) pl (fun w hw=>lA rx fx r fs w (by simpa using hw)) ⟨.bl _,H,I,rfl, ?_⟩;rw [show its.toArray.any (eqU x)=its.any (eqU x) by simp,pU r fs];exact q
theorem CH:bT X (.builtin "len") (fun xs H Q=>∃ p ys,xs=[.ref p]∧(SqL X.K H p ys∨SqT X.K H p ys)∧Q (.int ys.length) H):=by
 intro pins s σ H xs us Q I r h;obtain ⟨p,ys,rfl,hq,q⟩:=h;obtain ⟨u,rfl,rx⟩:=mO r;cases rx;have hn:=nB;rcases hq with hq | hq
 · obtain ⟨its,r',pl,hz⟩:=I.list hq;have hlen:=r'.length;exact Calls.call_len_list pl.isList (by simp only [wIq] <;> omega) ⟨.int ys.length,H,I.tok _,⟨s.toks + 1,by rw [wIq,hlen]⟩,q⟩
 · obtain ⟨its,r',pl,hz⟩:=I.tuple hq;have hlen:=r'.length;exact len_tuple pl (by simp only [wIq] <;> omega) ⟨.int ys.length,H,I.tok _,⟨s.toks + 1,by rw [wIq,hlen]⟩,q⟩
theorem AT:bT X (.builtin "len") (fun xs H Q=>∃ z,xs=[.str z]∧z.length≤sizeLine∧Q (.int z.length) H):=by
 intro pins s σ H xs us Q I r h;obtain ⟨z,rfl,hz,q⟩:=h;obtain ⟨u,rfl,t,rfl⟩:=mO r;have hn:=nB;exact len_str (by omega) ⟨.int z.length,H,I.tok _,⟨_,rfl⟩,q⟩
theorem bT.or {f:Value} {r r':List V→Hp→VK→Prop} (h:bT X f r) (h':bT X f r'):bT X f (fun xs H Q=>r xs H Q∨r' xs H Q):=by
 intro pins s σ H xs us Q I rs q;rcases q with q | q
 · exact h pins s σ H xs us Q I rs q
 · exact h' pins s σ H xs us Q I rs q
theorem CN:bT X (.type "list") (fun xs H Q=>∃ p ys,xs=[.ref p]∧(SqL X.K H p ys∨SqT X.K H p ys)∧∀ l,H l=none→Q (.ref l) (upd H l (.lst ys))):=by
 intro pins s σ H xs us Q I r h;obtain ⟨p,ys,rfl,hq,q⟩:=h;obtain ⟨u,rfl,rx⟩:=mO r;cases rx;have fin:∀ (its:List Value),aM ys its→ys.length≤sizeLine→∀ (h':Heap) (c':Nat),(∀ b o',s.heap.get? b=some o'→h'.get? b=some o')→
     h'.get? s.heap.objs.size=some { cls:=.type "list",dict:=none,data:=.seq its.toArray c',slots:= #[] }→EP X pins σ Q (.ref s.heap.objs.size) { s with heap:=h' }:=fun its r' hz h' c' kp e =>
   ⟨.ref s.heap.objs.size,_,I.laid (t':=s.toks) kp (Nat.le_refl _) (show bE X.prog X.w _ h' _ (.lst ys) from ⟨hz,its,c',r',e⟩),rfl,q _ (I.hok.fresh (Nat.le_refl _))⟩
 rcases hq with hq | hq
 · obtain ⟨its,r',pl,hz⟩:=I.list hq;have hlen:=r'.length;obtain ⟨o,ho,hc,n,hd⟩:=pl.isList;exact call_list_seq p (.inl rfl) ho hc hd (fun h' c' kp e=>fin its r' hz h' c' kp e) (by simp only [wIq] <;> omega)
 · obtain ⟨its,r',pl,hz⟩:=I.tuple hq;have hlen:=r'.length;obtain ⟨o,ho,hc,n,hd⟩:=pl;exact call_list_seq p (.inr rfl) ho hc hd (fun h' c' kp e=>fin its r' hz h' c' kp e) (by simp only [wIq] <;> omega)
theorem wT:bT X (.type "tuple") (fun xs H Q=>∃ p ys,xs=[.ref p]∧((SqL X.K H p ys∧∀ l,H l=none→Q (.ref l) (upd H l (.tup ys)))∨(SqT X.K H p ys∧Q (.ref p) H))):=by
 intro pins s σ H xs us Q I r h;obtain ⟨p,ys,rfl,h⟩:=h;obtain ⟨u,rfl,rx⟩:=mO r;cases rx;rcases h with ⟨hq,q⟩ | ⟨hq,q⟩
 · obtain ⟨its,r',pl,hz⟩:=I.list hq;have hlen:=r'.length;refine call_tuple_list pl.isList (fun h' kp=>?_) (by simp only [wIq] <;> omega);have I1:Inv X pins σ H { s with heap:=h' }:=I.kept (t':=s.toks) kp;have I2:Inv X pins σ (upd H h'.objs.size (.tup ys)) { s with heap:=h'.push { cls:=.type "tuple",data:=.seq its.toArray } } :=
     I1.laid (t':=s.toks) (fun b o e=>wEq _ e) (Nat.le_refl _) (show bE X.prog X.w _ _ _ (.tup ys) from ⟨hz,its,r',gF.new _ _⟩)
   exact ⟨.ref h'.objs.size,_,I2,rfl,q _ (I1.hok.fresh (Nat.le_refl _))⟩
 · obtain ⟨its,r',pl,hz⟩:=I.tuple hq;exact call_tuple_same pl ⟨.ref p,H,I,rfl,q⟩
def tyV (K:W.Frag) (T:String) (x:V) (H:Hp):Prop:=match x with
 | .str _=>T="str"
 | .int _=>T="int"
 | .ref p=>(T="list"∧∃ xs,SqL K H p xs)∨(T="tuple"∧∃ o,K.lookup p=some o∧o.cls= .type "tuple"∧o.dict=none)∨
     (T="dict"∧((∃ kvs,H p=some (.dK kvs))∨∃ kvs,H p=some (.dT kvs)))∨(T="set"∧∃ S n,H p=some (.set S n))
 | _=>False
theorem UG {pins:List (Addr×Obj)} {σ:St} {H:Hp} {s:Shared} {T:String} {x:V} {v:Value} (I:Inv X pins σ H s) (r:aO x v) (ty:tyV X.K T x H) :
   s.TypeIs v T∧∀ a,v= .ref a→∃ ob,s.heap.get? a=some ob∧ob.dict=none:=by
 cases x with
 | str z =>
   obtain ⟨t,rfl⟩:=r;cases (show T="str" from ty);exact ⟨typeIs_str s z t,fun _ e=>nomatch e⟩
 | int i =>
   obtain ⟨t,rfl⟩:=r;cases (show T="int" from ty);exact ⟨typeIs_int s i t,fun _ e=>nomatch e⟩
 | ref p =>
   cases r;rcases ty with ⟨rfl,xs,hq⟩ | ⟨rfl,o,hk,hc,hd⟩ | ⟨rfl,hk⟩ | ⟨rfl,S,n,hk⟩
   · obtain ⟨its,_,pl,_⟩:=I.list hq;refine ⟨pl.isList.typeIs,fun a e=>?_⟩;cases e;obtain ⟨o,n,e,c,hd,_⟩:=pl;exact ⟨o,e,hd⟩
   · refine ⟨⟨o,I.kIn p o hk,hc⟩,fun a e=>?_⟩;cases e;exact ⟨o,I.kIn _ o hk,hd⟩
   · have z:∃ o,s.heap.get? p=some o∧o.ExactDict:=by
       rcases hk with ⟨kvs,hk⟩ | ⟨kvs,hk⟩
       · obtain ⟨_,_,_,_,o,_,_,e,ex,_⟩:=I.hok p _ hk;exact ⟨o,e,ex⟩
       · obtain ⟨_,_,_,_,o,_,_,e,ex,_⟩:=I.hok p _ hk;exact ⟨o,e,ex⟩
     obtain ⟨o,e,ex⟩:=z;refine ⟨⟨o,e,ex.1⟩,fun a e2=>?_⟩;cases e2;exact ⟨o,e,ex.2.1⟩
   · obtain ⟨o,_,_,_,e,ex,_⟩:=I.hok p _ hk;refine ⟨⟨o,e,ex.1⟩,fun a e2=>?_⟩;cases e2;exact ⟨o,e,ex.2.1⟩
 | _=>exact False.elim ty
def tBM (K:W.Frag) (T:String) (r:V→List V→Hp→VK→Prop) (to:TE) (t:TA):TE:=fun σ H Q=>to σ H fun x H1=>tyV K T x H1∧t σ H1 fun xs H2=>r x xs H2 Q
variable {o e:Expr} {es:List Expr} {to:TE} {t:TA} {name:Str} {apos cpos:Pos} {T id:String} {r:V→List V→Hp→VK→Prop}
theorem aL5 (pa:PlainAttrs T) (slot:Slot T name id) (hty:typeOf (.builtin id)=pure (.type "method_descriptor")) (hm:MtR X id r) (ho:PE X o to) (ha:PA X (e :: es) t)
   (hbase:attributeBase o name X.env (eval o X.env)=eval o X.env:=by rfl)
   (hfew:((backTo cpos (starEach (e :: es) X.env)).all (fun x=> !x.1) && (backToKw cpos (keywordEach [] X.env)).all (fun x=>x.1.isSome)
     && decide ((e :: es).length + ([]:List Keyword).length + (if ([]:List Keyword).isEmpty then 0 else 1) < 30))=true:=by rfl)
   (hline:(apos.endLine == cpos.line)=true:=by rfl) (hs:starEach (e :: es) X.env=(false,eval e X.env) :: starEach es X.env:=by rfl) (hplain:(backTo cpos (starEach es X.env)).any (·.1)=false:=by rfl) :
   PE X (.Call (.Attribute o name apos) (e :: es) [] cpos) (tBM X.K T r to t):=by
 intro pins s σ H Q I h;refine wpAny_Call_method_late hbase hfew hline rfl (thn (ho pins s σ H _ I h) fun v s1 zz=>?_);obtain ⟨x,H1,I1,r1,ty,q1⟩:=zz;obtain ⟨h1,h2⟩:=UG I1 r1 ty;refine ⟨T,id,pa,slot,hty,h1,h2, ?_⟩;have hA:=ha cpos pins s1 σ H1 _ I1 q1;rw [hs] at hA ⊢;refine Calls.callWith_builtin (by show (false || (backTo cpos (starEach es X.env)).any (·.1))=false; rw [hplain] <;> rfl) (Calls.evalArgs_plain ?_);exact thn hA <|by rintro us s2 ⟨vs,H2,I2,r2,q2⟩;exact hm pins s2 σ H2 x vs v us Q I2 r1 r2 q2
end
noncomputable def MtM (X:Cx) (id:String) (r:V→List V→Hp→VK→Prop):Prop :=
 ∀ (pins:List (Addr×Obj)) (s:Shared) (σ:St) (H:Hp) (x:V) (xs:List V) (v:Value) (us:List Value) (Q:VK),Inv X pins σ H s→aO x v→aM xs us→r x xs H Q→
   wpAny (model X.prog X.w) X.A (call (.builtin id) (v :: us)) (EP X pins σ Q) X.xe s
theorem aM.one:∀ {x:V} {us:List Value},aM [x] us→∃ u,us=[u]∧aO x u
 | _,_,.cons r .nil=>⟨_,rfl,r⟩
section
variable {X:Cx} {pins:List (Addr×Obj)} {σ:St} {H:Hp} {s:Shared} {l b:Addr} {xs ys zs:List V}
theorem Inv.lset {its its':List Value} {n:Nat} {f:Array Value→Array Value} {t':Nat} (I:Inv X pins σ H s) (hH:H l=some (.lst xs))
   (e:s.heap.get? l=some { cls:=.type "list",data:=.seq its.toArray n }) (hf:f its.toArray=its'.toArray) (hv:aM ys its') (hz:ys.length≤sizeLine) :
   Inv X pins σ (upd H l (.lst ys)) { s with heap:=s.heap.update l (Obj.mapSeq f),toks:=t' }:=by
 have q:=PySem.IsL.update e f;rw [hf] at q;refine I.write (x:=l) (e:=l) (by rw [hH]; exact trivial) (.inl rfl) (fun b' u hb hu=>(Heap.get?_update_other s.heap (Obj.mapSeq f) (Ne.symm hb)).trans hu) ⟨_,q⟩ ?_;exact ⟨hz,its',_,hv,q⟩
theorem Inv.lnew {its:List Value} {t':Nat} (I:Inv X pins σ H s) (hv:aM ys its) (hz:ys.length≤sizeLine) :
   Inv X pins σ (upd H s.heap.objs.size (.lst ys)) { s with heap:=s.heap.push { cls:=.type "list",data:=.seq its.toArray },toks:=t' } :=
 I.laid (fun _ _ q=>wEq _ q) (Nat.le_refl _) ⟨hz,its,0,hv,wGq _ rfl⟩
theorem Inv.fresh (I:Inv X pins σ H s):H s.heap.objs.size=none:=I.hok.fresh (Nat.le_refl _)
theorem Inv.lstM (I:Inv X pins σ H s) (hH:H l=some (.lst xs)):xs.length≤sizeLine∧∃ (its:List Value) (n:Nat),aM xs its∧xs.length=its.length∧s.heap.get? l=some { cls:=.type "list",data:=.seq its.toArray n }:=by
 obtain ⟨z,its,n,r,e⟩:=I.hok l _ hH;exact ⟨z,its,n,r,r.length,e⟩
end
section
variable {X:Cx}
noncomputable def aBo:V→List V→Hp→VK→Prop:=fun x vs H Q=>∃ l xs y,x= .ref l∧vs=[y]∧H l=some (.lst xs)∧xs.length < sizeLine∧Q .non (upd H l (.lst (xs ++ [y])))
theorem QI:MtM X "list.append" aBo:=by
 intro pins s σ H x vs v us Q I rx rv h;obtain ⟨l,xs,y,rfl,rfl,hH,hz,q⟩:=h;cases rx;obtain ⟨u,rfl,ru⟩:=rv.one;obtain ⟨z,its,n,r,hl,e⟩:=I.lstM hH;refine call_meets F.slot_list_append ⟨_,e,rfl⟩ F.entry_list_append (F.args_list_append_2 _ _) (PySem.list_append l its.toArray n u (by rw [wIq]; omega)) ⟨e, ?_⟩;refine ⟨.non,_,I.lset (its':=its ++ [u]) hH e (by simp) (r.append (.cons ru .nil)) ?_,rfl,q⟩;rw [List.length_append,List.length_singleton];omega
def aK5:R2:=fun x y H Q=>∃ l b xs zs,x= .ref l∧y= .ref b∧H l=some (.lst xs)∧H b=some (.lst zs)∧xs.length + zs.length≤sizeLine∧∀ p,H p=none→Q (.ref p) (upd H p (.lst (xs ++ zs)))
theorem aJa:OpR X (binaryOp .Add) aK5:=by
 intro pins s σ H x y v u Q I rx ry h;obtain ⟨l,b,xs,zs,rfl,rfl,hH,hB,hz,q⟩:=h;cases rx;cases ry;obtain ⟨z,its,n,r,hl,e⟩:=I.lstM hH;obtain ⟨z2,its2,n2,r2,hl2,e2⟩:=I.lstM hB;refine PySem.P.add_list e e2 ?_ (by rw [wIq,wIq]; omega);have ea:its.toArray ++ its2.toArray=(its ++ its2).toArray:=by simp
 rw [ea];exact ⟨.ref _,_,I.lnew (t':=s.toks) (r.append r2) (by rw [List.length_append]; omega),rfl,q _ I.fresh⟩
end
section
variable {prog:Program} {w:World} {A:Around} {E:Value→Shared→Prop} {s:Shared}
end
section
variable {X:Cx}
end
end L2
namespace Att
open PySem PySem.W PySem.Calls PyProof.Rows
theorem tF {P:Params} {h:Heap}:∀ (ns:List Int) (vs:List Value),WellAll P h vs (ns.map WData.int)→IntsAre vs ns:=by
 intro ns;induction ns with
 | nil =>
   intro vs w;rw [List.map_nil] at w;cases w;exact .nil
 | cons n ns ih =>
   intro vs w;rw [List.map_cons] at w;cases w with
   | cons a b =>
     cases a;exact .cons _ _ (ih _ b)
theorem OJ {l:OpenLaw} {n:Nat} (hn:l.most=some n) {P:Params} {h:Heap} {args:List WData} {vals:List Value}
   (hpre:l.row.toRowW.claim.pre args=true) (hwl:WellAll P h vals args) :
   ∃ a vs ns,vals=[Value.ref a]∧args=[WData.list (ns.map WData.int)]∧h.get? a=some { cls:=.type "list",data:=.seq vs.toArray }∧IntsAre vs ns∧ns.length≤n:=by
 have hsh:WShape.hasAll [] args [.list .int]=true:=(pre_splitW hpre).1;have hc:l.pre.holds [] { args:=args }=true:=(pre_splitW hpre).2;obtain ⟨d,r,rfl,h1,h2⟩:=hasAllW_cons hsh;obtain rfl:=hasAllW_nil h2;obtain ⟨xs,rfl,h3⟩:=hasW_list h1;obtain ⟨ns,rfl⟩:=items_int h3;have hlen:ns.length≤n:=by
   unfold OpenLaw.pre at hc;have h4:(WTm.not (.lt (.lit (.int (n:Int))) (.len (.arg 0)))).holds [] { args:=[.list (ns.map .int)] }=true:=by
     have h4:=(holds_andW hc).1;rw [hn] at h4;exact h4
   have h5:=condW_of h4 (w_not (w_lt w_lit (w_len_list (w_arg rfl))));rw [List.length_map] at h5;refine Nat.le_of_not_lt fun q=>?_;have q':(n:Int) < ((ns.length:Nat):Int):=by omega
   first
     | (rw [decide_eq_true q'] at h5; exact absurd h5 (by decide))
     | (simp at h5; omega)
 cases hwl with
 | cons w1 w2 =>
   cases w2;cases w1 with
   | list ho hall=>exact ⟨_,_,ns,rfl,rfl,ho,tF ns _ hall,hlen⟩
theorem QX (l:OpenLaw) (args:List WData):l.row.toRowW.claim.post args (.bool true) args=true :=
 postW_of (r:=l.row.toRowW) (X:=(true == true))
   (show WShape.has [] (.bool true) .bool=true by first | rfl | decide | simp [WShape.has,WShape.arms,WShape.armsAll])
   (show (WTm.eq .res (.lit (.bool true))).value [] { args:=args,res:=some (.bool true),after:=args }=some (.bool (true == true)) from w_eq_bool (w_res rfl) w_lit) rfl
theorem GZ {l:OpenLaw} {n:Nat} {q:Program} {loose:List Str} {XP:(Str→Option Value)→Heap→Prop} {YP:World→Heap→Prop} {d:DefRec}
   (hn:l.most=some n) (hdf:d.params.defaults=[])
   (call:∀ (w:World) (s₀ s₁:Shared) (mg mb:Str→Option Value) (fa:Addr) (o:Obj) (pm cd doc:Value) (a:Addr) (vs:List Value) (ns:List Int),
     Ground q loose [] XP w s₀ mg mb s₁.heap→YP w s₁.heap→
     s₁.heap.get? fa=some o→o.data= .func (docDef d.name d.params d.body d.scope pm cd doc)→s₁.heap.CodeRec cd d.name→mg d.name=some (.ref fa)→
     s₁.heap.get? a=some { cls:=.type "list",data:=.seq vs.toArray }→IntsAre vs ns→ns.length≤n→s₁.gens= #[]→
     codeAny (model l.prog w) callerA (.call (.ref fa) ⟨[.ref a],[]⟩) (fun r s'=>r= .ok (.ret (.bool true))∧OldK s₁.heap s'.heap∧s'.os=s₁.os∧AllBare s'.gens) s₁) :
   WalkO q loose XP YP l.row.toRowW d [] (fun f vs=>PySem.call f vs):=by
 intro w s₀ s₁ mg mb G Y fa o pm cd doc dV kV ho hd hcd hD hmg hg args vals as hpre hlay hrd hwl hlo;obtain rfl:dV= .none:=Dflts.none hD hdf;obtain rfl:kV= .none:=Dflts.noKw hD;obtain ⟨a,vs,ns,rfl,rfl,hobj,hints,hlen⟩:=OJ hn hpre hwl;refine enter_call (codeAny_mono (call w s₀ s₁ mg mb fa o pm cd doc a vs ns G Y ho (fd_plain hd) hcd hmg hobj hints hlen hg) fun r s' hq=>?_);obtain ⟨rfl,h2,h3,h4⟩:=hq;exact ⟨.inl ⟨.bool true,.bool true,[],rfl,fun _=>rfl,.bool true,QX l _,fun _=>⟨List.Pairwise.nil,fun _ hm=>(nomatch hm)⟩⟩,h2,h3,h4⟩
section
variable {prog:Program} {w:World} {A:Around} {E:Value→Shared→Prop} {s:Shared} {K:Frag}
end
end Att
namespace L2
open PySem PySem.Spec PyProof.Rows
theorem zJ:∀ {vs:List Value} {ns:List Int},IntsAre vs ns→aM (ns.map V.int) vs
 | _,_,.nil=>.nil
 | _,_,.cons n t h=>.cons ⟨t,rfl⟩ (zJ h)
def ZA (H:Hp):Prop:= ∀ b,H b=none∨∃ o xs,H b=some (.frz o (.lst xs))
theorem VL {P:Program} {w:World} {K:W.Frag} {mg mb:Str→Option Value} {CX:CXT} {k:Nat} {fa a:Addr} {fd:FuncData} {x:Str} {sp:Sp} {s₁:Shared} {vs:List Value} {ns:List Int}
   (KX:K.In s₁.heap) (hns:s₁.heap.Ns mainGlobals mg) (hb:s₁.heap.Ns builtinsNs mb) (hbb:∀ x:Str,x≠"__name__"→mb x=bootBuiltins x) (hlim:s₁.heap.NoLimit) (hg:s₁.gens= #[])
   (ha:s₁.heap.get? a=some { cls:=.type "list",data:=.seq vs.toArray }) (hi:IntsAre vs ns) (hl:ns.length≤sizeLine) (hr:bK k callerA)
   (F:∀ base:Heap,K.In base→base.Ns mainGlobals mg→bC P w K mg base CX k fa fd [x] sp) (hbind:∀ (s:Shared) (u:Value),BindsTo s fd ⟨[u],[]⟩ [(x,u)])
   (hsp:∀ H:Hp,ZA H→SqL K H a (ns.map V.int)→sp [.ref a] H (fun v _=>v= .bl true) fun _ _ _=>False)
   (hCX:∀ H e s',CX [] H s₁ (fun _ _ _=>False) e s'→False) :
   codeAny (model P w) callerA (.call (.ref fa) ⟨[.ref a],[]⟩) (fun r s'=>r= .ok (.ret (.bool true))∧OldK s₁.heap s'.heap∧s'.os=s₁.os∧AllBare s'.gens) s₁:=by
 have rv:=zJ hi;have lenV:=hi.length;have core :∀ H:Hp,ZA H→SqL K H a (ns.map V.int)→HOk P w H s₁.heap→(∀ b,H b≠none→b=a)→(H a≠none→K.lookup a=none)→
     codeAny (model P w) callerA (.call (.ref fa) ⟨[.ref a],[]⟩) (fun r s'=>r= .ok (.ret (.bool true))∧OldK s₁.heap s'.heap∧s'.os=s₁.os∧AllBare s'.gens) s₁:=by
   intro H hO hS hok hA hK;have base_of:∀ {b:Addr} {o:Obj},s₁.heap.get? b=some o→H b=none→(BI s₁.heap H).get? b=some o:=fun e n=>WE e n;have noA:∀ {b:Addr} {o:Obj} {es:Array DictEntry} {ep:Nat},s₁.heap.get? b=some o→o.data= .dict es ep→H b=none:=fun {b o es ep} e d=>by
     cases q:H b with
     | none=>rfl
     | some u =>
       have e':b=a:=hA b (by rw [q]; simp);subst e';rw [ha] at e; cases e;have d':Data.seq vs.toArray _=Data.dict es ep:=d;cases d'
   have nsK:∀ {b:Addr} {m:Str→Option Value},s₁.heap.Ns b m→(BI s₁.heap H).Ns b m:=fun {b m} ⟨o,es,ep,e,d,r⟩=>⟨o,es,ep,base_of e (noA e d),d,r⟩;have hKb:K.In (BI s₁.heap H):=fun b o e=>base_of (KX b o e) (by
     cases q:H b with
     | none=>rfl
     | some u =>
       have e':b=a:=hA b (by rw [q]; simp);subst e';rw [hK (by rw [q]; simp)] at e; cases e)
   have hM:Mod K mg (BI s₁.heap H):=⟨hKb,nsK hns,⟨mb,nsK hb,hbb⟩,let ⟨mc,h1,h2⟩:=hlim; ⟨mc,nsK h1,h2⟩⟩;have e0:sW P w K mg (BI s₁.heap H) callerA [] s₁ H:=⟨rfl,hM,fun b o e=>aBC e,Nat.le_of_eq (ST _ _),trivial,fun b hb=>absurd (show b∈([]:List Addr) from hb) (by simp),hok,.of_eq hg⟩;refine codeAny_mono ((F _ hKb (nsK hns)).run callerA [] s₁ H ⟨[.ref a],[]⟩ [.ref a] [.ref a] _ _ hr e0 (hbind s₁ (.ref a)) (.cons rfl .nil) (hsp H hO hS)) fun r s' h=>?_;cases r with
   | error e=>exact (hCX H e s' h).elim
   | ok fl =>
     cases fl with
     | next=>exact False.elim h
     | brk=>exact False.elim h
     | cont=>exact False.elim h
     | ret u =>
       obtain ⟨v,H',os,bare,un,hok',r',q⟩:=h;have q':v= .bl true:=q;subst q';obtain rfl:u=Value.bool true:=r';refine ⟨rfl,OldK.of_keep fun b o e=>?_,os,bare⟩;cases q:H b with
       | none=>exact un.keep b o e q (by intro z; exact absurd (show b∈([]:List Addr) from z) (by simp)) (by simp)
       | some u =>
         rcases hO b with z | ⟨ob,xs,z⟩
         · rw [q] at z; cases z
         · have z2:=un.frzs b ob _ z;obtain ⟨e1,_⟩:=hok b _ z;obtain ⟨e2,_⟩:=hok' b _ z2;rw [e] at e1; cases e1;exact e2
 cases hk:K.lookup a with
 | some o =>
   have e:=KX a o hk;rw [ha] at e;cases e;refine core (fun _=>none) (fun _=>.inl rfl) (.inr ⟨_,vs.toArray,_,hk,rfl,rfl,rfl,by rw [wIq,lenV]; exact hl,by simpa using rv⟩) (fun b u z=>by have z':(none:Option HO)=some u:=z; cases z') (fun b z=>absurd rfl z) fun z=>absurd rfl z
 | none =>
   refine core (fun b=>if b=a then some (.frz { cls:=.type "list",data:=.seq vs.toArray } (.lst (ns.map V.int))) else none) (fun b=>?_) (.inl (.inr ⟨{ cls:=.type "list",data:=.seq vs.toArray },if_pos rfl⟩)) (fun b u z=>?_) (fun b z=>?_) fun _=>hk
   · by_cases hb:b=a
     · exact .inr ⟨_,_,if_pos hb⟩
     · exact .inl (if_neg hb)
   · by_cases hb:b=a
     · have z':=(if_pos hb).symm.trans z;cases z';subst hb;exact ⟨ha,by rw [List.length_map]; exact hl,vs,_,rv,ha⟩
     · have z':=(if_neg hb).symm.trans z;cases z'
   · by_cases hb:b=a
     · exact hb
     · exact absurd (if_neg hb) z
theorem aCU {l:W.OpenLaw} {n k:Nat} {q:Program} {loose:List Str} {XP:(Str→Option Value)→Heap→Prop} {YP:World→Heap→Prop} {d:DefRec} {K:Params→W.Frag} {CX:World→CXT} {sp:World→Sp} {x:Str}
   (hn:l.most=some n) (hn2:n≤sizeLine) (hdf:d.params.defaults=[]) (hr:bK k callerA)
   (hY:∀ (w:World) (h:Heap),YP w h→(K w.params).In h)
   (F : ∀ (w:World) (mg:Str→Option Value) (fa:Addr) (h:Heap),(K w.params).In h→h.Ns mainGlobals mg→mg d.name=some (.ref fa)→
     ∃ fd:FuncData,(∀ (s:Shared) (u:Value),BindsTo s fd ⟨[u],[]⟩ [(x,u)])∧
       ∀ base:Heap,(K w.params).In base→base.Ns mainGlobals mg→bC l.prog w (K w.params) mg base (CX w) k fa fd [x] (sp w))
   (hsp:∀ (w:World) (H:Hp) (a:Addr) (ns:List Int),ns.length≤n→ZA H→SqL (K w.params) H a (ns.map V.int)→sp w [.ref a] H (fun v _=>v= .bl true) fun _ _ _=>False)
   (hCX:∀ (w:World) (H:Hp) (s:Shared) (e:Value) (s':Shared),CX w [] H s (fun _ _ _=>False) e s'→False) :
   W.WalkO q loose XP YP l.row.toRowW d [] (fun f vs=>PySem.call f vs):=by
 refine Att.GZ hn hdf fun w s₀ s₁ mg mb fa o pm cd doc a vs ns G Y ho hd hcd hmg hobj hints hlen hg=>?_;have KX:=hY w _ Y;obtain ⟨fd,hb,hF⟩:=F w mg fa _ KX G.T.g hmg;exact VL KX G.T.g G.T.b G.T.builtins G.T.nolimit hg hobj hints (Nat.le_trans hlen hn2) hr hF hb (fun H hO hS=>hsp w H a ns hlen hO hS) fun H e s'=>hCX w H s₁ e s'
theorem VT {l:W.OpenLaw} {n k:Nat} {q:Program} {loose:List Str} {XP:(Str→Option Value)→Heap→Prop} {YP:World→Heap→Prop} {d:DefRec} {K:Params→W.Frag} {CX:CXT} {sp:W.Frag→Sp} {x:Str}
   (hn:l.most=some n) (hn2:n≤sizeLine) (hdf:d.params.defaults=[]) (hr:bK k callerA)
   (hY:∀ (w:World) (h:Heap),YP w h→(K w.params).In h)
   (F : ∀ (w:World) (mg:Str→Option Value) (fa:Addr) (h:Heap),(K w.params).In h→h.Ns mainGlobals mg→mg d.name=some (.ref fa)→
     ∃ fd:FuncData,(∀ (s:Shared) (u:Value),BindsTo s fd ⟨[u],[]⟩ [(x,u)])∧
       ∀ base:Heap,(K w.params).In base→base.Ns mainGlobals mg→bC l.prog w (K w.params) mg base CX k fa fd [x] (sp (K w.params)))
   (hsp:∀ (K:W.Frag) (H:Hp) (a:Addr) (ns:List Int),ns.length≤n→ZA H→SqL K H a (ns.map V.int)→sp K [.ref a] H (fun v _=>v= .bl true) fun _ _ _=>False)
   (hCX:∀ (H:Hp) (s:Shared) (e:Value) (s':Shared),CX [] H s (fun _ _ _=>False) e s'→False) :
   W.WalkO q loose XP YP l.row.toRowW d [] (fun f vs=>PySem.call f vs) :=
 aCU (K:=K) (CX:=fun _=>CX) (sp:=fun w=>sp (K w.params)) hn hn2 hdf hr hY F (fun w H a ns h1 h2 h3=>hsp (K w.params) H a ns h1 h2 h3) fun _ H s e s'=>hCX H s e s'
noncomputable def aG (s:Stmt) (j:Nat):Stmt:=match s with
 | .ClassDef _ _ _ body _ _ _ _ _ _ _=>body.getD j (.Pass ⟨0,0,0,0⟩)
 | _=>.Pass ⟨0,0,0,0⟩
noncomputable def gX (s:Stmt):Arguments:=match s with
 | .FunctionDef _ a _ _ _ _ _ _ _ _=>a
 | _=>{ posonlyargs:=[],args:=[],vararg:=none,kwonlyargs:=[],kw_defaults:=[],kwarg:=none,defaults:=[] }
noncomputable def aF (s:Stmt):List Stmt:=match s with
 | .FunctionDef _ _ b _ _ _ _ _ _ _=>b
 | _=>[]
noncomputable def aB (s:Stmt):Scope:=match s with
 | .FunctionDef _ _ _ _ _ _ sc _ _ _=>sc
 | _=>{ kind:=.function,names:=[],isGenerator:=false,isCoroutine:=false }
noncomputable abbrev CX0:CXT:=fun _ _ _ _ _ _=>False
noncomputable abbrev E0:XK:=fun _ _ _=>False
theorem VZ {X:Cx}:jY CX0 X E0:=fun _ _ _ _ _ _ _ h=>h.elim
section
variable {P:Program} {w:World} {K:W.Frag} {mg:Str→Option Value} {base:Heap}
end
section
variable {X:Cx}
theorem pv (i:Nat) {x:Str} {pos:Pos} (hN:X.N[i]? =some x:=by rfl) (hv:Vis X.env.scope x:=by first | exact Or.inl rfl | exact Or.inr (Or.inl rfl) | exact Or.inr (Or.inr rfl)) (hd:(x == ("__debug__":Str))=false:=by decide)
   (hcd:(x == ("__classdict__":Str))=false:=by decide):PE X (.Name x pos) (aI5 i):=rH hN hv hd hcd
end
def aN (H H':Hp):Prop:= ∀ b o,H b=some o→H' b=some o
theorem aN.refl (H:Hp):aN H H:=fun _ _ h=>h
theorem aN.trans {H H1 H2:Hp} (a:aN H H1) (b:aN H1 H2):aN H H2:=fun c o h=>b c o (a c o h)
theorem aN.seq {K:W.Frag} {H H':Hp} {a:Addr} {xs:List V} (e:aN H H') (h:SqL K H a xs):SqL K H' a xs:=by
 rcases h with (h | ⟨o,h⟩) | h
 · exact .inl (.inl (e _ _ h))
 · exact .inl (.inr ⟨o,e _ _ h⟩)
 · exact .inr h
end L2
set_option maxHeartbeats 4000000
namespace L2
open PySem PySem.Spec PyProof.Rows
def Sm (k:Nat) (x:Int):Prop:=x.natAbs < 2 ^ k
theorem Sm.mono {k l:Nat} {x:Int} (h:Sm k x) (q:k≤l):Sm l x:=wFq h (Nat.pow_le_pow_right (by decide) q)
theorem Sm.mul {k l:Nat} {x y:Int} (h:Sm k x) (q:Sm l y):Sm (k + l) (x * y):=by
 unfold Sm at *; rw [Int.natAbs_mul,Nat.pow_add]; exact Nat.mul_lt_mul'' h q
theorem Sm.add {k l:Nat} {x y:Int} (h:Sm k x) (q:Sm k y) (e:k + 1≤l):Sm l (x + y):=by
 have a:(x + y).natAbs≤x.natAbs + y.natAbs:=Int.natAbs_add_le x y;have b:2 ^ k + 2 ^ k≤2 ^ l:=by
   have:=Nat.pow_le_pow_right (show 0 < 2 by decide) e;rw [Nat.pow_succ] at this; omega
 unfold Sm at *; omega
theorem Sm.neg {k:Nat} {x:Int} (h:Sm k x):Sm k (-x):=by unfold Sm at *; rw [Int.natAbs_neg]; exact h
theorem Sm.sub {k l:Nat} {x y:Int} (h:Sm k x) (q:Sm k y) (e:k + 1≤l):Sm l (x - y):=by
 rw [Int.sub_eq_add_neg]; exact h.add q.neg e
theorem Sm.le {k:Nat} {x y:Int} (h:Sm k y) (a:0≤x) (b:x≤y):Sm k x:=by unfold Sm at *; omega
theorem Sm.div {k:Nat} {x y:Int} (h:Sm k x) (hy:0 < y):Sm k (x / y):=by
 rcases Int.le_total 0 x with z | z
 · exact h.le (Int.ediv_nonneg z (by omega)) (Int.ediv_le_self _ z)
 · have a:x≤x / y:=Int.le_ediv_of_mul_le hy (by
     have:=Int.mul_le_mul_of_nonpos_left z (show 1≤y by omega);omega)
   have b:x / y≤0:=by
     have:=Int.ediv_le_ediv hy z;rw [Int.zero_ediv] at this; exact this
   unfold Sm at *; omega
theorem Sm.bits {k:Nat} {x:Int} (h:Sm k x):Builtin.Int.intBits x≤k:=by
 unfold Builtin.Int.intBits;split
 · exact Nat.zero_le _
 · rename_i z;have hz:x.natAbs≠0:=fun e=>z (by rw [Int.natAbs_eq_zero.mp e]; rfl);exact (Nat.log2_lt hz).mpr h
theorem Sm.mulOk {k l:Nat} {x y:Int} (h:Sm k x) (q:Sm l y) (e:k + l≤100000000):IntMulOk x y:=by
 have b1:=h.bits;have b2:=q.bits;unfold IntMulOk;have z:Builtin.Int.intTooBig (((Builtin.Int.intBits x + Builtin.Int.intBits y:Nat):Int))=false:=by
   unfold Builtin.Int.intTooBig;refine decide_eq_false ?_;have:bitsLine=134217728:=by decide
   rw [this]; omega
 have z':Builtin.Int.intTooBig ((Builtin.Int.intBits x:Int) + (Builtin.Int.intBits y:Int))=false:=by
   rw [←z]; congr 1
 rw [z']; simp
theorem Sm.log {k:Nat} {x:Int} (h:Sm k x) (e:k≤9000) (hk:0 < k):x.natAbs.log2 < 9000:=by
 by_cases hz:x.natAbs=0
 · rw [hz]; decide
 · exact wFq ((Nat.log2_lt hz).mpr h) e
section
variable {X:Cx}
def zB (i j:Int):Prop:=IntMulOk i j
theorem ON {i j:Int} (h:Sm 64 i):zB i j:=IntMulOk.of_left h.bits
theorem aKM {i j:Int} (h:Sm 64 j):zB i j:=IntMulOk.of_right h.bits
theorem kY {k l:Nat} {i j:Int} (h:Sm k i) (q:Sm l j) (e:k + l≤100000000:=by decide):zB i j:=h.mulOk q e
def mJ (_i j:Int):Prop:=0 < j∧∃ k,Sm k j∧0 < k∧k≤9000
theorem DD {k:Nat} {i j:Int} (h:0 < j) (q:Sm k j) (e:0 < k:=by decide) (e':k≤9000:=by decide):mJ i j:=⟨h,k,q,e,e'⟩
theorem aCX:OpR X (binaryOp .Mult) (rI zB fun i j=>.int (i * j)):=opI fun _ _ _ _ _ _ _ hc q=>by
 exact mul_int q hc
theorem VA:OpR X (binaryOp .FloorDiv) (rI mJ fun i j=>.int (i / j)):=opI fun i j _ _ _ _ _ hc q=>by
 obtain ⟨h1,k,a,hk,e⟩:=hc;exact floordiv_int (by omega) (by rw [Int.fdiv_eq_ediv_of_nonneg i (by omega)]; exact q) (.inl (PyProof.noPylong_of_log2 (a.log e hk)))
end
section
variable {X:Cx} {CX:CXT} {k:Nat} {f C:Addr} {fd:FuncData} {ps ks:List Str} {sp:Sp} {E:XK} {x m:Str} {p pos apos kpos:Pos} {kws:List Keyword} {tk:TA}
variable {g:List Value→List Value→List Value} {gV:List V→List V→List V}
end
theorem gF.at {h:Heap} {a:Addr} {items:Array Value} {n:Nat} (e:h.get? a=some { cls:=.type "tuple",data:=.seq items n }):gF h a items:=⟨⟨_,e,rfl,n,rfl⟩,fun o q=>by rw [e] at q; cases q; rfl⟩
end L2
namespace LE
open PySem PyProof.Rows
open AutoSeq1 (wpAny_loadPart')
open Builtin
variable {prog:Program} {w:World} {A:Around} {E:Value→Shared→Prop} {s:Shared}
theorem aJB {it l:Addr} {i:Nat} {xs:Array Value} {x:Value} {Q:Value→Shared→Prop} (a:s.heap.IsTupleIter it l i) (b:s.heap.IsTuple l xs) (c:xs[i]? =some x)
   (q:∀ h',h'.IsTupleIter it l (i + 1)→Heap.SameBut it s.heap h'→Q x { s with heap:=h' }):wpAny (model prog w) A (Builtin.SmallTypes.nextOf (.ref it)) Q E s:=by
 obtain ⟨o,ho,hc,hd⟩:=id a;obtain ⟨p,hp,_,n,hn⟩:=b;unfold Builtin.SmallTypes.nextOf;refine wAq (wpAny_callSpecial?_slot (name:=Str.ofString "__next__") a.typeIs F.slot_tuple_iterator_next (wpAny_call_entry F.slot_tuple_iterator_next a.typeIs F.entry_tuple_iterator_next ?_ (F.args_tuple_iterator_next_1 _)));show wpAny _ _ (field (.ref it) 0 >>= _) _ _ _;refine wAq (wpAny_field ho hd (x:=.ref l) rfl ?_);show wpAny _ _ (if (Value.ref l == Value.none)=true then _ else _) _ _ _;rw [if_neg (show ¬((Value.ref l == Value.none)=true) from nofun)];show wpAny _ _ (field (.ref it) 1 >>= _) _ _ _;refine wAq (wpAny_field ho hd (x:=.int i 0) rfl ?_);show wpAny _ _ (seqItems? (.ref l) >>= _) _ _ _;refine wAq (wpAny_seqItems hp hn ?_);simp only [Int.toNat_natCast,c];exact wAq (wpAny_setField ho hd (by simp) (wBq ⟨x,rfl,wBq (q _ ⟨_,Heap.get?_update_self _ ho (Obj.isFreed_of_fields (Obj.data_mapFields hd _)),(Obj.cls_mapFields ..).trans hc,by rw [Obj.data_mapFields hd]; simp [rawInt]⟩ (Heap.SameBut.update ..))⟩))
theorem aLj {it l:Addr} {i:Nat} {xs:Array Value} {Q:Value→Shared→Prop} (hh:A.handled=none) (a:s.heap.IsTupleIter it l i) (b:s.heap.IsTuple l xs) (c:xs[i]? =none)
   (q:∀ h' e,Heap.ExtBut it s.heap h'→(∃ o,h'.get? e=some o∧o.cls= .type "StopIteration")→E (.ref e) { s with heap:=h' }):wpAny (model prog w) A (Builtin.SmallTypes.nextOf (.ref it)) Q E s:=by
 obtain ⟨o,ho,hc,hd⟩:=id a;obtain ⟨p,hp,_,n,hn⟩:=b;unfold Builtin.SmallTypes.nextOf;refine wAq (wpAny_callSpecial?_slot (name:=Str.ofString "__next__") a.typeIs F.slot_tuple_iterator_next (wpAny_call_entry F.slot_tuple_iterator_next a.typeIs F.entry_tuple_iterator_next ?_ (F.args_tuple_iterator_next_1 _)));show wpAny _ _ (field (.ref it) 0 >>= _) _ _ _;refine wAq (wpAny_field ho hd (x:=.ref l) rfl ?_);show wpAny _ _ (if (Value.ref l == Value.none)=true then _ else _) _ _ _;rw [if_neg (show ¬((Value.ref l == Value.none)=true) from nofun)];show wpAny _ _ (field (.ref it) 1 >>= _) _ _ _;refine wAq (wpAny_field ho hd (x:=.int i 0) rfl ?_);show wpAny _ _ (seqItems? (.ref l) >>= _) _ _ _;refine wAq (wpAny_seqItems hp hn ?_);simp only [Int.toNat_natCast,c];refine wAq (wpAny_rule (wAq (wpAny_setField ho hd (by simp) ?_)));show wpAny _ _ (newExc (.type "StopIteration") [] >>= _) _ _ _;refine wAq ?_;simp only [newExc,newTuple];refine wAq (wpAny_newObj_type ?_ (by size_fits));refine wAq (m:=firstArgMember _ _) (wpAny_of_eq (a:=Value.none) (by first | rfl | (simp only [firstArgMember]; rfl)) (wpAny_newObj_type ?_ (by size_fits)));simp only [raiseNew];refine wAq (wpAny_handled ?_);first | rw [show A.in1.handled=none from hh] | rw [hh]
 exact wAq (wBq (wpAny_throw (q _ _ (((Heap.SameBut.update ..).extBut.push _).push _) ⟨_,wGq _ rfl,rfl⟩)))
theorem aHt (hh:A.handled=none) (it l:Addr) (hne:l≠it) (xs:Array Value):Draws prog w A it [it,l] xs.size (fun i v=>xs[i]? =some v) (fun i h=>h.IsTupleIter it l i∧h.IsTuple l xs) where
 live:=fun _ _ st=>let ⟨o,ho,_⟩:=st.1; ⟨o,ho⟩
 frame:=fun _ _ _ st hk=>⟨st.1.at fun o e=>hk it (by simp) o e,let ⟨o,e,r⟩:=st.2; ⟨o,hk l (by simp) o e,r⟩⟩
 item:=fun i s Q E hi st hQ=>aJB st.1 st.2 (x:=xs[i]) (by simp [hi]) fun h' a b=>hQ _ h' s.toks (by simp [hi]) ⟨a,st.2.extBut b.extBut hne⟩ b
 done:=fun s Q E st hE=>aLj hh st.1 st.2 (by simp) hE
theorem aH4 (hh:A.handled=none) (it l:Addr) (i:Nat) (xs:Array Value) (hx:xs[i]? =none):Draws prog w A it [it,l] i (fun _ _=>True) (fun j h=>j=i∧h.IsTupleIter it l j∧h.IsTuple l xs) where
 live:=fun _ _ st=>let ⟨o,ho,_⟩:=st.2.1; ⟨o,ho⟩
 frame:=fun _ _ _ st hk=>⟨st.1,st.2.1.at fun o e=>hk it (by simp) o e,let ⟨o,e,r⟩:=st.2.2; ⟨o,hk l (by simp) o e,r⟩⟩
 item:=fun j s Q E hi st hQ=>absurd st.1 (Nat.ne_of_lt hi)
 done:=fun s Q E st hE=>aLj hh st.2.1 st.2.2 hx hE
theorem aC4 (l:Addr) (items:Array Value) (o:Obj) (ho:o.cls= .type "tuple") (n:Nat) (hd:o.data= .seq items n) :
   Meets (Builtin.«enumerate.__new__» ⟨[.type "enumerate",.ref l],[]⟩) (fun _ R s=>s.heap.get? l=some o∧
     R (.ok (.ret (.ref (s.heap.push { cls:=.type "tuple_iterator",data:=.fields #[.ref l,.int 0 0] }).objs.size)))
       { s with heap:=(s.heap.push { cls:=.type "tuple_iterator",data:=.fields #[.ref l,.int 0 0] }).push { cls:=.type "enumerate",data:=.fields #[.none,.bool false,.ref s.heap.objs.size,rawInt 0,.none,.none] } }) :=
 .of_wp fun prog w A R s h=>by
   obtain ⟨hp,g,d,tk,os⟩:=s;obtain ⟨oc,od,dt,sl⟩:=o
   replace ho:oc= .type "tuple":=ho
   replace hd:dt= .seq items n:=hd
   subst ho hd;obtain ⟨hl,h⟩:=h;have hsub:=sub_enumerate;have hL:Heap.IsTuple (Shared.heap ⟨hp,g,d,tk,os⟩) l items:=⟨_,hl,rfl,n,rfl⟩
   wp_walk using wpAny_loadPart' hl
   refine wpAny_stack_any fun st=>wBq ?_;split
   · rename_i c _ _ _ _ _;cases (c == Value.type "enumerate") <;> (wp_walk using wpAny_loadPart' hl,wpAny_pyIter_tuple hL) <;> exact ⟨_,rfl,h⟩
   · wp_walk using wpAny_loadPart' hl,wpAny_pyIter_tuple hL
     exact ⟨_,rfl,h⟩
theorem RV {l:Addr} {items:Array Value} {Q:Value→Shared→Prop} (hL:s.heap.IsTuple l items)
   (h :∀ h',IsEnum h' (s.heap.objs.size + 1) s.heap.objs.size 0 .none→h'.IsTupleIter s.heap.objs.size l 0→h'.objs.size=s.heap.objs.size + 2→
     (∀ b o,s.heap.get? b=some o→h'.get? b=some o)→Q (.ref (s.heap.objs.size + 1)) { s with heap:=h' }) :
   wpAny (model prog w) A (call (.type "enumerate") [.ref l]) Q E s:=by
 obtain ⟨o,hl,hc,n,hd⟩:=hL;refine callType_new F.called_enumerate (by decide) (F.typeCall_enumerate_1 _) (F.newCall_enumerate_1 _) (fun obj=>F.args_object_init_2 obj _) F.entry_enumerate_new (aC4 l items o hc n hd) ⟨hl, ?_⟩;have hz:(s.heap.push { cls:=.type "tuple_iterator",data:=.fields #[.ref l,.int 0 0] }).objs.size=s.heap.objs.size + 1:=Heap.size_push ..;show _∧_;rw [hz];have he:IsEnum ((s.heap.push { cls:=.type "tuple_iterator",data:=.fields #[.ref l,.int 0 0] }).push
     { cls:=.type "enumerate",data:=.fields #[.none,.bool false,.ref s.heap.objs.size,rawInt 0,.none,.none] }) (s.heap.objs.size + 1) s.heap.objs.size 0 .none:=by
   have:=wGq (s.heap.push { cls:=.type "tuple_iterator",data:=.fields #[.ref l,.int 0 0] })
     (o:={ cls:=.type "enumerate",data:=.fields #[.none,.bool false,.ref s.heap.objs.size,rawInt 0,.none,.none] }) rfl
   rw [hz] at this; exact this
 exact ⟨⟨_,he,rfl⟩,h _ he ⟨_,wEq _ (wGq _ rfl),rfl,rfl⟩ (by rw [Heap.size_push,hz]) fun b o x=>wEq _ (wEq _ x)⟩
end LE
namespace L2
open PySem PySem.Spec PyProof.Rows
section
variable {X:Cx} {pins:List (Addr×Obj)} {σ:St} {H:Hp} {s:Shared} {h':Heap}
theorem Inv.turnNew {t':Nat} {ch:List Addr} {T:Addr} {u:HO} (I:Inv X pins σ H s)
   (hch:∀ b∈ch,(b∈X.ex∨X.s₀.heap.objs.size≤b)∧b≠X.env.locals∧(∀ x c,X.env.cells.lookup x=some c→c≠b)∧∀ p∈X.pn ++ pins,p.1≠b) (hn:∀ b∈ch,H b=none)
   (k:∀ b o,b∉ ch→s.heap.get? b=some o→h'.get? b=some o) (hT:s.heap.objs.size≤T) (new:bE X.prog X.w (upd H T u) h' T u):Inv X pins σ (upd H T u) { s with heap:=h',toks:=t' }:=by
 have fT:H T=none:=I.hok.fresh hT;have nT:∀ {b o},s.heap.get? b=some o→b≠T:=fun q=>Nat.ne_of_lt (wFq (Heap.lt_size q) hT);have nit:∀ b u,H b=some u→b∉ ch:=fun b u e z=>by rw [hn b z] at e; cases e
 refine I.step (g':=s.gens) (d':=s.drawn) (ch:=ch) hch (fun b o _ _ hc e _=>k b o hc e) (fun b o _ _ hc e _=>⟨o.slots,k b o hc e⟩) (fun b o _ q n=>by rw [aD (nT q)]; exact n)
   (fun b o hc e=>⟨o,k b o hc e⟩) (fun b xs e=>by rw [aD (aH e fT)]; exact e) (fun b o v e=>by rw [aD (aH e fT)]; exact e) (fun b ps e=>⟨#[],by rw [aD (aH e fT),e]; simp⟩) (fun m hm=>?_) (fun b v e=>?_) I.bare
 · obtain ⟨o,es,ep,ho,r⟩:=hm;exact ⟨o,es,ep,k _ o (fun z=>(hch _ z).2.1 rfl) ho,r⟩
 · by_cases hb:b=T
   · subst hb;rw [aI] at e;cases e;exact new
   · rw [aD hb] at e;refine (I.hok b v e).stay (fun c v hc q=>k c v ?_ q) (fun c q=>by rw [aD (aH q fT)]; exact q) fun c xs q=>by rw [aD (aH q fT)]; exact q
     rcases hc with z | z
     · rw [z]; exact nit b _ e
     · exact nit c _ z
noncomputable def Ite (K:W.Frag) (a:Addr):It :=
 ⟨fun i H=>∃ xs x,SqT K H a xs∧xs[i]? =some x,fun i H x H'=>∃ T v,x= .ref T∧H T=none∧H'=upd H T (.tup [.int i,v])∧∀ xs,SqT K H a xs→xs[i]? =some v,fun i H=>∃ xs,SqT K H a xs∧xs.length≤i⟩
theorem SQ {P:Program} {w:World} {K:W.Frag} {es:List Expr} {x1} {tp:Pos} (a e it:Addr) (hei:e≠it) (hai:a≠it) (hae:a≠e) :
   SB P w K (.Tuple es x1 tp) (Ite K a) [e,it] e (fun i h=>(∃ old,IsEnum h e it ((i:Nat):Int) old)∧h.IsTupleIter it a i) where
 mem:=by simp
 obj :=fun i h st b hb=>by
   obtain ⟨⟨old,h1⟩,o,h2,c,d⟩:=st;rcases List.mem_cons.mp hb with rfl | hb
   · exact ⟨_,h1,fun v z=>by have z':Data.fields _=Data.cell v:=z; cases z'⟩
   · have e':b=it:=by simpa using hb
     subst e';exact ⟨o,h2,fun v z=>by rw [d] at z; cases z⟩
 keep:=fun i h h' st k=>⟨let ⟨old,q⟩:=st.1; ⟨old,k e (by simp) _ q⟩,st.2.at fun o q=>k it (by simp) o q⟩
 item := by
   intro X hP hw hK hc i pins s σ H E I hf st hg;subst hP hw hK;obtain ⟨xs,x,hq,hx⟩:=hg;obtain ⟨its,rv,p,hz⟩:=I.tuple hq;obtain ⟨u,hu,ru⟩:=rv.get hx;obtain ⟨⟨old,he⟩,hit⟩:=st;have hi:i < its.toArray.size:=by
     have:=(List.getElem?_eq_some_iff.mp hu).1;simpa using this
   have D:=LE.aHt (prog:=X.prog) (w:=X.w) (A:=X.A.in1) (I.ok.hd hc) it a hai its.toArray;refine wpAny_pyNext_enum_itemD (A:=X.A) D he ⟨hit,(show s.heap.IsTuple a its.toArray from p)⟩ hi hei (by simp [hei,Ne.symm hae]) fun y h1 tk hy ho hs' hT hsz hk=>?_;refine ⟨_,rfl,wpAny_letOwnedTupleGo_enum ho fun h2 he2 sb=>?_⟩;have hy':y=u:=by
     have z:its.toArray[i]? =some u:=by simpa using hu
     exact Option.some.inj (hy.symm.trans z)
   subst hy';have hTe:s.heap.objs.size≠e:=Nat.ne_of_gt (Heap.lt_size he);have gT:h2.get? s.heap.objs.size=some { cls:=.type "tuple",data:=.seq #[.int i tk,y] }:=(sb.2 _ hTe).trans hT;refine ⟨.ref s.heap.objs.size,upd H s.heap.objs.size (.tup [.int i,x]),I.turnNew (ch:=[e,it]) (h':=h2) (fun b hb=>?_) (fun b hb=>(hf b hb).1) (fun b o hb q=>?_) (Nat.le_refl _) ?_,rfl,⟨_,x,rfl,I.hok.fresh (Nat.le_refl _),rfl,fun ys hy=>by rw [I.tuple_inj hy hq]; exact hx⟩,⟨⟨_,by simpa using he2⟩, ?_⟩,fun b hb=>?_⟩
   · obtain ⟨f0,f1,f2,f3,f4,f5⟩:=hf b hb;exact ⟨f3,f1,f4,f5⟩
   · simp only [List.mem_cons,List.not_mem_nil,or_false,not_or] at hb;exact (sb.2 b hb.1).trans (hk b o hb.1 hb.2 q)
   · exact ⟨by show 2≤sizeLine; decide,[.int i tk,y],.cons ⟨tk,rfl⟩ (.cons ru .nil),gF.at gT⟩
   · exact hs'.1.at fun o q=>(sb.2 it (Ne.symm hei)).trans q
   · have hl:∀ b,b∈ [e,it]→b≠s.heap.objs.size:=fun b hb z=>by
       rcases List.mem_cons.mp hb with r | r
       · exact hTe (z▸r)
       · obtain ⟨o,q,_⟩:=hit;have r':b=it:=by simpa using r
         have l:=Heap.lt_size q;rw [←r',z] at l;exact absurd l (Nat.lt_irrefl _)
     rw [aD (hl b hb)];exact (hf b hb).1
 done:=by
   intro X hP hw hK hc i pins s σ H E I hf st hg;subst hP hw hK;obtain ⟨xs,hq,hx⟩:=hg;obtain ⟨its,rv,p,hz⟩:=I.tuple hq;obtain ⟨⟨old,he⟩,hit⟩:=st;obtain ⟨f0,f1,f2,f3,f4,f5⟩:=hf it (by simp);have hl:=rv.length;have hx':its.toArray[i]? =none:=by simp; omega
   refine wpAny_pyNext_enum_endD (A:=X.A) (LE.aH4 (prog:=X.prog) (w:=X.w) (A:=X.A.in1) (I.ok.hd hc) it a i its.toArray hx') he ⟨rfl,hit,(show s.heap.IsTuple a its.toArray from p)⟩ fun h' eb=>⟨rfl,I.turned (t':=s.toks) (fun b o hb e=>eb b o hb e) f0 f1 f3 f4 f5⟩
 self:=fun _ _ _ _ _ st h=>let ⟨_,q⟩:=st.1; wpAny_pyIter_enum q h
def aJK (K:W.Frag) (ta:TA):TI:=fun σ H R=>ta σ H fun vs H1=>∃ a,vs=[.ref a]∧(∃ xs,SqT K H1 a xs)∧R (Ite K a) H1
theorem aCz {es:List Expr} {x1} {tp:Pos} {e:Expr} {ta:TA} {p pos:Pos} (hg:Gl X "enumerate") (hm:X.mg "enumerate"=none) (ha:PA X [e] ta) (hs:starEach [e] X.env=[(false,eval e X.env)]:=by rfl) :
   PI X (.Tuple es x1 tp) (.Call (.Name "enumerate" p) [e] [] pos) (aJK X.K ta):=by
 intro pins s σ H R I h;refine Call_ (lJ I hg hm boot_enumerate (PyProof.Rows.callWith_type1 (thn (ha pos pins s σ H _ I h) fun us s1 zz=>?_) hs rfl));obtain ⟨vs,H1,I1,r1,q1⟩:=zz;obtain ⟨a,e,⟨xs,hq⟩,q⟩:=q1;subst e;obtain ⟨u,rfl,r⟩:=mO r1;cases r;obtain ⟨its,rv,ht,hz⟩:=I1.tuple hq;have ht':s1.heap.IsTuple a its.toArray:=ht;have hl:a < s1.heap.objs.size:=let ⟨o,e,_⟩:=ht'; Heap.lt_size e
 refine LE.RV ht' fun h' he hit hsz k=>?_;have I2:Inv X pins σ H1 { s1 with heap:=h' }:=I1.kept (t':=s1.toks) k;refine wpAny_pyIter_enum (s:={ s1 with heap:=h' }) he ?_;refine ⟨s1.heap.objs.size + 1,[s1.heap.objs.size + 1,s1.heap.objs.size],_,_,H1,rfl,I2,SQ a _ _ (Nat.succ_ne_self _) (Nat.ne_of_lt hl) (Nat.ne_of_lt (Nat.lt_succ_of_lt hl)),⟨⟨_,he⟩,hit⟩,fun b hb=>?_,q⟩;have hb':s1.heap.objs.size≤b:=by
   rcases List.mem_cons.mp hb with z | z
   · rw [z]; exact Nat.le_succ _
   · have z':b=s1.heap.objs.size:=by simpa using z
     exact Nat.le_of_eq z'.symm
 exact I1.fpOk hb' (I1.hok.fresh hb')
end
section
variable {X:Cx}
theorem IxR.imp {r r':R2} (h:IxR X r) (f:∀ x y H Q,r' x y H Q→r x y H Q):IxR X r':=fun value slice pins s σ H x y v u Q I rx ry q hs=>h value slice pins s σ H x y v u Q I rx ry (f _ _ _ _ q) hs
theorem bT.imp {g:Value} {r r':List V→Hp→VK→Prop} (h:bT X g r) (f:∀ x H Q,r' x H Q→r x H Q):bT X g r':=fun pins s σ H xs us Q I rs q=>h pins s σ H xs us Q I rs (f _ _ _ q)
theorem PG.imp {e:Expr} {t t':TG} (h:PG X e t) (f:∀ v σ H Q,t' v σ H Q→t v σ H Q):PG X e t':=fun pins s σ H v u Q I r q=>h pins s σ H v u Q I r (f _ _ _ _ q)
theorem PI.imp {tg it:Expr} {t t':TI} (h:PI X tg it t) (f:∀ σ H R,t' σ H R→t σ H R):PI X tg it t':=fun pins s σ H R I q=>h pins s σ H R I (f _ _ _ q)
end
theorem UQ {n:Nat}:ixN (n + 1) 0=some 0:=by unfold ixN; rw [if_pos (by decide),if_pos (by omega)]; rfl
theorem VO {n:Nat}:ixN (n + 2) 1=some 1:=by unfold ixN; rw [if_pos (by decide),if_pos (by omega)]; rfl
theorem aAp {n:Nat}:ixN (n + 3) 2=some 2:=by unfold ixN; rw [if_pos (by decide),if_pos (by omega)]; rfl
theorem gK {H:Hp} {p q:Addr} {o u:HO} (h:H q=some u) (n:H p=none):upd H p o q=some u:=by rw [aD (aH h n)]; exact h
theorem aT {H:Hp} {p:Addr} (h:H p=none) (o:HO):aN H (upd H p o):=fun b u q=>gK q h
noncomputable def tyN (H:Hp):V→Option String
 | .non=>some "NoneType"
 | .bl _=>some "bool"
 | .int _=>some "int"
 | .str _=>some "str"
 | .ref a=>match H a with
   | some (.lst _)=>some "list"
   | some (.tup _)=>some "tuple"
   | some (.dK _)=>some "dict"
   | _=>none
 | _=>none
noncomputable def sV (n T:String):Bool:=n == T || (n == "bool" && T == "int")
noncomputable def nA:List String:=["int","bool","tuple","str","list","dict"]
noncomputable def aAd:List String:=["NoneType","bool","int","str","list","tuple","dict"]
theorem aIx {K:W.Frag} {H:Hp} {x:V} {n:String} (h:tyN H x=some n):rF K H x (.type n):=by
 unfold tyN at h;split at h
 · cases h; exact .non
 · cases h; exact .bl _
 · cases h; exact .int _
 · cases h; exact .str _
 · split at h
   · rename_i e; cases h; exact .lst e
   · rename_i e; cases h; exact .tup e
   · rename_i e; cases h; exact .dK e
   · cases h
 · cases h
theorem aI4 (K:W.Frag):∀ n∈aAd,∀ T∈nA,W.kitOne K (.type n) (.type T)=some (sV n T):=by
 intro n hn T hT;simp only [aAd,nA,List.mem_cons,List.not_mem_nil,or_false] at hn hT;rcases hn with rfl | rfl | rfl | rfl | rfl | rfl | rfl <;> rcases hT with rfl | rfl | rfl | rfl | rfl | rfl <;> rfl
theorem OpR.imp {X:Cx} {f:Value→Value→Sem Value} {r r':R2} (h:OpR X f r) (g:∀ x y H Q,r' x y H Q→r x y H Q):OpR X f r':=fun pins s σ H x y v u Q I rx ry q=>h pins s σ H x y v u Q I rx ry (g _ _ _ _ q)
theorem aM0 (i:Int):(if i < 0 then -i else i)=(i.natAbs:Int):=by split <;> omega
theorem PL {X:Cx}:bT X (.builtin "abs") (fun xs H Q=>∃ i,xs=[.int i]∧Q (.int (i.natAbs:Int)) H):=aAa.imp <|by rintro _ _ _ ⟨i,a,q⟩;exact ⟨i,a,by rw [aM0]; exact q⟩
theorem aLM:((0:Nat):Int)=0:=rfl
theorem aFy:((1:Nat):Int)=1:=rfl
theorem aAm:((2:Nat):Int)=2:=rfl
theorem aJ9:((3:Nat):Int)=3:=rfl
section
variable {prog:Program} {w:World} {A:Around} {R:Result→Shared→Prop} {s:Shared}
noncomputable abbrev NoE:Value→Shared→Prop:=fun _ _=>False
theorem RN {elt target iter:Expr} {ifs:List Expr} {scope:Scope} {pos:Pos} {it acc:Value} {env:Env} (I:Nat→Shared→Prop)
   (turn : ∀ n s,I n s→wpAny (model prog w) A (pyNext it) (fun r s₁=>match r with
     | none=>R (.ok .next) s₁
     | some v=>wpAny (model prog w) A (letOwnedTupleGo target it v) (fun _ s₁'=>wpAny (model prog w) A (assign target env v) (fun _ s₂ =>
         wpAny (model prog w) A (forIn ifs true fun c r=>if r=true then do let ok ←isTrue c env (eval c env); pure (ForInStep.yield ok) else pure (ForInStep.yield r)) (fun ok s₃ =>
           if ok=true then wpAny (model prog w) A (eval elt env) (fun x s₄=>wpAny (model prog w) A (call (.builtin "list.append") [acc,x]) (fun _ s₅=>∃ m,m < n∧I m s₅) NoE s₄) NoE s₃
           else ∃ m,m < n∧I m s₃) NoE s₂) NoE s₁') NoE s₁) NoE s) (n:Nat) (h:I n s) :
   codeAny (model prog w) A (.compLoop (.ListComp elt [⟨target,iter,ifs,0⟩] scope pos) 0 it acc env) R s:=by
 refine codeAny_loop rfl I (fun n s hI=>?_) n h;refine wpAny_noted (m:=compTurn (.ListComp elt [⟨target,iter,ifs,0⟩] scope pos) 0 it acc env) ?_;rw [compTurn_list];refine wAq (wpAny_standAt (wAq (wpAny_mono (turn n s hI) (fun r s₁ h₁=>?_) fun _ _ f=>f.elim)));cases r with
 | none=>exact wBq h₁
 | some v =>
   refine wAq (wpAny_mono h₁ (fun _ s₁' h₁'=>?_) fun _ _ f=>f.elim);refine wAq (wpAny_mono h₁' (fun _ s₂ h₂=>wAq (wpAny_mono h₂ (fun ok s₃ h₃=>?_) fun _ _ f=>f.elim)) fun _ _ f=>f.elim);cases ok with
   | false=>exact wBq ⟨rfl,h₃⟩
   | true =>
     exact wAq (wAq (wpAny_mono h₃ (fun x s₄ h₄=>wAq (wpAny_mono h₄ (fun _ s₅ h₅=>wBq (wBq ⟨rfl,h₅⟩)) fun _ _ f=>f.elim)) fun _ _ f=>f.elim))
end
noncomputable def nL (cl cells:List (Str×Addr)):List (Str×NameKind)→Prop
 | []=>True
 | (n,k) :: r=>(k= .free→∃ c,cl.lookup n=some c∧cells.lookup n=some c)∧nL cl cells r
noncomputable def wY (cells:List (Str×Addr)):List (Str×Addr)→Prop
 | []=>True
 | (n,c) :: r=>cells.lookup n=some c∧wY cells r
theorem wY.look {cells:List (Str×Addr)}:∀ {cl:List (Str×Addr)} {x:Str} {c:Addr},wY cells cl→cl.lookup x=some c→cells.lookup x=some c
 | [],_,_,_,h=>by cases h
 | (n,c') :: r,x,c,ok,h=>by
   cases hx:x == n with
   | true =>
     rw [List.lookup_cons,hx] at h;cases h;rw [beq_iff_eq.mp hx]; exact ok.1
   | false =>
     rw [List.lookup_cons,hx] at h;exact wY.look ok.2 h
theorem nL.look {cl cells:List (Str×Addr)} {f:Str×NameKind→Str×NameKind} (hf:∀ y,(f y).1=y.1∧((f y).2= .cell∨(f y).2= .free→y.2= .cell∨y.2= .free)):∀ {names:List (Str×NameKind)} {x:Str},nL cl cells names→
   ((names.map f).lookup x=some .cell∨(names.map f).lookup x=some .free)→(∃ c,cl.lookup x=some c)∨(x,NameKind.cell)∈names
 | [],_,_,h=>by rcases h with h | h <;> cases h
 | (n, k) :: r,x,ok,h=>by
   have h1:=hf (n,k);rw [List.map_cons] at h;cases hx:x == (f (n,k)).1 with
   | true =>
     have e:List.lookup x (f (n,k) :: r.map f)=some (f (n,k)).2:=by rw [List.lookup_cons,hx]
     rw [e] at h;have hk:k= .cell∨k= .free:=h1.2 (h.imp Option.some.inj Option.some.inj);rcases hk with hk | hk
     · subst hk;rw [beq_iff_eq.mp hx,h1.1];exact .inr (wDq ..)
     · obtain ⟨c,q,_⟩:=ok.1 hk;rw [beq_iff_eq.mp hx,h1.1]; exact .inl ⟨c,q⟩
   | false =>
     have e:List.lookup x (f (n,k) :: r.map f)=List.lookup x (r.map f):=by rw [List.lookup_cons,hx]
     rw [e] at h;exact (nL.look hf ok.2 h).imp_right fun z=>wCq _ z
theorem cM:∀ (names:List (Str×NameKind)) (n:Nat) (acc:List (Str×Addr)),cellsFrom n names acc=cellsFrom n names [] ++ acc
 | [],_,_=>rfl
 | (y,k) :: r,n,acc=>by
   unfold cellsFrom;split
   · rw [cM r (n + 1) ((y,n) :: acc),cM r (n + 1) [(y,n)],List.append_assoc]; rfl
   · exact cM r n acc
theorem dP:∀ {names:List (Str×NameKind)} {n:Nat} {acc:List (Str×Addr)} {x:Str} {c:Addr},(x,c)∈cellsFrom n names acc→(x,c)∈acc∨((x,NameKind.cell)∈names∧n≤c)
 | [],_,_,_,_,h=>.inl h
 | (y, k) :: r,n,acc,x,c,h=>by
   unfold cellsFrom at h;split at h
   · rename_i hk;rcases dP h with z | ⟨z,l⟩
     · rcases List.mem_cons.mp z with e | z
       · cases e; rw [beq_iff_eq.mp hk]; exact .inr ⟨wDq ..,Nat.le_refl _⟩
       · exact .inl z
     · exact .inr ⟨wCq _ z,Nat.le_of_succ_le l⟩
   · rcases dP h with z | ⟨z,l⟩
     · exact .inl z
     · exact .inr ⟨wCq _ z,l⟩
theorem hV:∀ {names:List (Str×NameKind)} {n:Nat} {acc:List (Str×Addr)} {x:Str},(x,NameKind.cell)∈names∨(∃ c,(x,c)∈acc)→∃ c,(x,c)∈cellsFrom n names acc
 | [],_,_,_,h=>by
   rcases h with h | h
   · cases h
   · exact h
 | (y, k) :: r,n,acc,x,h=>by
   unfold cellsFrom;split
   · refine hV ?_;rcases h with h | ⟨c,h⟩
     · rcases List.mem_cons.mp h with e | h
       · cases e; exact .inr ⟨n,wDq ..⟩
       · exact .inl h
     · exact .inr ⟨c,wCq _ h⟩
   · rename_i hk;refine hV (h.imp_left fun h=>?_);rcases List.mem_cons.mp h with e | h
     · cases e; exact absurd rfl hk
     · exact h
theorem EF {l:List (Str×Addr)} {x:Str}:(∃ c,(x,c)∈l)→∃ c,l.lookup x=some c:=by
 induction l with
 | nil=>rintro ⟨_,h⟩; cases h
 | cons p r ih =>
   rintro ⟨c,h⟩;rw [List.lookup_cons];cases hb:x == p.1 with
   | true=>exact ⟨p.2,rfl⟩
   | false =>
     rcases List.mem_cons.mp h with e | h
     · rw [←e] at hb; rw [beq_self_eq_true] at hb; cases hb
     · exact ih ⟨c,h⟩
theorem dR {n:Nat} {names:List (Str×NameKind)} {cl:List (Str×Addr)} {x:Str} {c:Addr} (h:(cellsFrom n names cl).lookup x=some c):((x,c)∈cellsFrom n names []∧(x,NameKind.cell)∈names∧n≤c)∨cl.lookup x=some c:=by
 rw [cM,List.lookup_append] at h;cases e:(cellsFrom n names []).lookup x with
 | none=>rw [e] at h; exact .inr h
 | some d =>
   rw [e] at h; cases h;have m:=PySem.mem_of_lookup e;rcases dP m with z | z
   · cases z
   · exact .inl ⟨m,z⟩
theorem rE {n:Nat} {names:List (Str×NameKind)} {cl:List (Str×Addr)} {x:Str} {c:Addr} (hx:(x,NameKind.cell)∉ names) (h:cl.lookup x=some c):(cellsFrom n names cl).lookup x=some c:=by
 rw [cM,List.lookup_append];cases e:(cellsFrom n names []).lookup x with
 | none=>exact h
 | some d =>
   rcases dP (PySem.mem_of_lookup e) with z | z
   · cases z
   · exact absurd z.1 hx
theorem zC {n:Nat} {names:List (Str×NameKind)} {cl:List (Str×Addr)} {x:Str} (h:(x,NameKind.cell)∈names):∃ c,(cellsFrom n names cl).lookup x=some c∧n≤c:=by
 obtain ⟨c,e⟩:=EF (hV (n:=n) (acc:=[]) (.inl h));refine ⟨c,by rw [cM,List.lookup_append,e]; rfl, ?_⟩;rcases dP (PySem.mem_of_lookup e) with z | z
 · cases z
 · exact z.2
noncomputable def aMO (scope:Scope) (x:Str):Bool:=scope.names.contains (x,NameKind.cell)
theorem GP {M:Model} {A:Around} {E:Value→Shared→Prop} {s:Shared} {scope:Scope} {globals:Addr} {cl:List (Str×Addr)} {qual:Str} {env:Env} {Q:Env→Shared→Prop}
   (hQ:Q (newEnv scope s.heap.objs.size globals (cellsFrom (s.heap.objs.size + 1) scope.names cl) qual none .none (some env) builtinsNs) { s with heap:=pushCells (s.heap.push { cls:=.type "dict",data:=.dict #[] }) scope.names }) :
   wpAny M A (newFunctionEnv scope globals cl [] qual none .none (some env)) Q E s:=by
 simp only [newFunctionEnv,Option.isSome_some,if_true];refine wAq (wpAny_alloc ?_);refine wAq (wpAny_layCells _ (fun name kind cells=>by cases hkc:kind == NameKind.cell <;> simp [hkc]) _ _ _ _ ?_);rw [show ({ s with heap:=s.heap.push { cls:=.type "dict",data:=.dict #[] } }:Shared).heap.objs.size=s.heap.objs.size + 1 from Heap.size_push ..];rw [List.forIn_nil];exact wAq (wBq (wBq hQ))
noncomputable def cxC (X:Cx) (N:List Str) (scope:Scope) (cl:List (Str×Addr)) (C:Addr) (s₀:Shared) (H₀:Hp) (ex:List Addr):Cx :=
 { X with N:=N,s₀:=s₀,H₀:=H₀,env:=compEnvC scope (cellsFrom (C + 1) scope.names cl) C X.env,outer:=X.stack,stack:=X.stack,ex:=ex,fn:=aMO scope,pn:=[],xe:=NoE }
noncomputable def TZ (js:List (Option Nat)) (σ:St):St:=js.map fun o=>match o with | none=>none | some j=>(σ[j]?).getD none
noncomputable def gG (X:Cx) (scope:Scope) (cl:List (Str×Addr)):List Str→List (Option Nat)→Prop
 | [],[]=>True
 | _ :: N,none :: J=>gG X scope cl N J
 | x :: N,some j :: J=>(X.N[j]? =some x∧X.env.kindOf x=some .cell∧(relabel scope X.env).names.lookup x=some .cell∧∃ c,cl.lookup x=some c∧X.env.cells.lookup x=some c)∧gG X scope cl N J
 | _,_=>False
theorem gG.len {X:Cx} {scope:Scope} {cl:List (Str×Addr)}:∀ {N:List Str} {J:List (Option Nat)},gG X scope cl N J→N.length=J.length
 | [],[],_=>rfl
 | _ :: _,none :: _,h=>congrArg (· + 1) (gG.len (show gG X scope cl _ _ from h))
 | _ :: _,some _ :: _,h=>congrArg (· + 1) (gG.len h.2)
 | [],_ :: _,h=>h.elim
 | _ :: _,[],h=>h.elim
theorem gG.at {X:Cx} {scope:Scope} {cl:List (Str×Addr)}:∀ {N:List Str} {J:List (Option Nat)} {i:Nat} {x:Str} {σ:St} {v:V},gG X scope cl N J→N[i]? =some x→(TZ J σ)[i]? =some (some v)→
   ∃ (j:Nat),σ[j]? =some (some v)∧X.N[j]? =some x∧X.env.kindOf x=some .cell∧(relabel scope X.env).names.lookup x=some .cell∧∃ c,cl.lookup x=some c∧X.env.cells.lookup x=some c
 | [],[],_,_,_,_,_,h,_=>by cases h
 | y :: N,none :: J,i,x,σ,v,ok,h,q=>by
   cases i with
   | zero=>cases q
   | succ i=>exact gG.at (show gG X scope cl N J from ok) h q
 | y :: N,some j :: J,i,x,σ,v,ok,h,q=>by
   cases i with
   | zero =>
     cases h;refine ⟨j, ?_,ok.1⟩;have q':some ((σ[j]?).getD none)=some (some v):=q;have q2:=Option.some.inj q';cases e:σ[j]? with
     | none=>rw [e] at q2; cases q2
     | some o=>rw [e] at q2; exact congrArg some q2
   | succ i=>exact gG.at ok.2 h q
 | [],_ :: _,_,_,_,_,ok,_,_=>ok.elim
 | _ :: _,[],_,_,_,_,ok,_,_=>ok.elim
section
variable {X:Cx} {pins:List (Addr×Obj)} {σ:St} {H:Hp} {s:Shared} {N:List Str} {scope:Scope} {cl:List (Str×Addr)} {js:List (Option Nat)} {fp:List Addr}
structure jK (X:Cx) (N:List Str) (scope:Scope) (cl:List (Str×Addr)) (js:List (Option Nat)):Prop where
 clos:closureFor scope X.env=pure cl
 own:∀ x,(x,NameKind.cell)∈scope.names→cl.lookup x=none
 kind:scope.kind= .function
 names:∀ y∈scope.names,y.2= .local→scope.names.lookup y.1=some .local
 free:nL cl X.env.cells scope.names
 cls:wY X.env.cells cl
 cap:gG X scope cl N js
theorem FZ (S:jK X N scope cl js) (I:Inv X pins σ H s) (hf:∀ b∈fp,xK X pins H b) (he:∀ b∈fp,b < s.heap.objs.size) {h':Heap} {m:Str→Option Value} {t':Nat} (hn:h'.Ns s.heap.objs.size m)
   (k:∀ b o,s.heap.get? b=some o→h'.get? b=some o) (hc:CellsOk h' (s.heap.objs.size + 1) (cellsFrom (s.heap.objs.size + 1) scope.names [])):Inv (cxC X N scope cl s.heap.objs.size s H fp) [] (TZ js σ) H { s with heap:=h',toks:=t' }:=by
 have hcl:∀ x c,cl.lookup x=some c→X.env.cells.lookup x=some c:=fun x c h=>S.cls.look h;have lo:∀ x c,cl.lookup x=some c→c < s.heap.objs.size:=fun x c h=>let ⟨_,q⟩:=I.cell x c (hcl x c h); q.lt
 refine ⟨⟨I.mod, ?_,I.ok.glob,I.ok.blt,Nat.le_refl _,fun x y c a b=>?_,fun x hx=>?_,fun x c z e=>?_,I.ok.hd,I.ok.frames,.inl rfl,fun b hb=>⟨Nat.ne_of_lt (he b hb),fun x c e=>?_⟩,
   I.bs,Nat.le_trans I.ok.bsz I.sz,fun b o e hb=>?_,fun b hb z=>?_,I.stack,I.stkFree⟩,rfl,I.bare,⟨fun b o q _ _ _=>k b o q,fun b o q _ _ _=>⟨o.slots,k b o q⟩,fun _ _ _ n _=>n,fun b o q _=>⟨o,k b o q⟩,fun _ _ q=>q,fun _ _ _ q=>q,fun b ps q=>⟨#[],by rw [show H b=_ from q]; simp⟩⟩, ?_,fun x c e=>?_, ?_,fun x c e=>?_,(fun p hp=>nomatch hp),I.hok.kept k, ?_⟩
 · exact S.kind
 · rcases dR a with ⟨m1,_,l1⟩ | a1 <;> rcases dR b with ⟨m2,_,l2⟩ | b1
   · exact name_of_addr hc.apart m1 m2
   · exact absurd (wFq (lo y c b1) (Nat.le_of_succ_le l1)) (Nat.lt_irrefl _)
   · exact absurd (wFq (lo x c a1) (Nat.le_of_succ_le l2)) (Nat.lt_irrefl _)
   · exact I.ok.inj x y c (hcl x c a1) (hcl y c b1)
 · have q:=nL.look (f:=fun y=>if (y.2 == .free && X.env.scope.kind == .function && X.env.kindOf y.1 == some .cell) then (y.1,.cell) else (y.1,y.2)) (fun y=>by
     by_cases hc:(y.2 == .free && X.env.scope.kind == .function && X.env.kindOf y.1 == some .cell)=true
     · rw [if_pos hc];refine ⟨rfl,fun _=>.inr ?_⟩;rw [Bool.and_eq_true,Bool.and_eq_true] at hc;exact beq_iff_eq.mp hc.1.1
     · rw [if_neg hc];exact ⟨rfl,fun z=>z⟩) S.free hx
   rcases q with ⟨c,q⟩ | q
   · refine ⟨c,rE (fun z=>?_) q⟩;rw [S.own x z] at q; cases q
   · obtain ⟨c,e,_⟩:=zC (n:=s.heap.objs.size + 1) (cl:=cl) q;exact ⟨c,e⟩
 · have z':(x,NameKind.cell)∈scope.names:=List.contains_iff_mem.mp z;rcases dR e with ⟨_,_,l⟩ | q
   · exact Nat.le_of_succ_le l
   · rw [S.own x z'] at q; cases q
 · rcases dR e with ⟨_,_,l⟩ | q
   · exact Nat.ne_of_gt (wFq (he b hb) (Nat.le_of_succ_le l))
   · exact (hf b hb).2.2.2.2.1 x c (hcl x c q)
 · obtain ⟨_,n2⟩:=I.bs b o e;rcases (hf b hb).2.2.2.1 with z | z
   · exact I.ok.noex b o e z
   · exact absurd (wFq (Heap.lt_size (I.ok.bs b o e).1) z) (Nat.lt_irrefl _)
 · obtain ⟨_,f1,f2,_⟩:=hf b hb;exact (List.mem_cons.mp (I.stkSub b z)).elim f1 f2
 · obtain ⟨mX,hnX,hl⟩:=I.loc;refine ⟨m,hn,fun i x v e1 e2 e3=>?_⟩;obtain ⟨j,q1,q2,q3,q4,c,q5,q6⟩:=S.cap.at e1 e2;obtain ⟨u,r,l⟩:=hl j x v q2 q1 (.inr (.inl q3));refine ⟨u,r,.inr ⟨.inl q4,c,rE (fun z=>?_) q5, ?_⟩⟩
   · rw [S.own x z] at q5; cases q5
   rcases l with ⟨l,_⟩ | ⟨_,c',e',z⟩
   · rw [q3] at l; cases l
   · rw [q6] at e'; cases e';obtain ⟨o,ho,hd⟩:=z;exact ⟨o,k _ _ ho,hd⟩
 · rcases dR e with ⟨m1,_,_⟩ | q
   · exact ⟨none,(hc.empty x c m1).1⟩
   · obtain ⟨v,o,ho,hd⟩:=I.cell x c (hcl x c q);exact ⟨v,o,k _ _ ho,hd⟩
 · exact I.hok.fresh (Nat.le_refl _)
 · rcases dR e with ⟨_,_,l⟩ | q
   · exact I.hok.fresh (Nat.le_of_succ_le l)
   · exact I.freeC x c (hcl x c q)
 · show (js.map _).length=N.length;rw [List.length_map]; exact S.cap.len.symm
end
noncomputable def PTs (X:Cx) (ifs:List Expr) (t:TT):Prop :=
 ∀ (pins:List (Addr×Obj)) (s:Shared) (σ:St) (H:Hp) (Q:Bool→Hp→Prop),Inv X pins σ H s→t σ H Q→
   wpAny (model X.prog X.w) X.A (forIn ifs true fun c r=>if r=true then do let ok ←isTrue c X.env (eval c X.env); pure (ForInStep.yield ok) else pure (ForInStep.yield r)) (TP X pins σ Q) X.xe s
theorem aD2 {X:Cx}:PTs X [] (fun _ H Q=>Q true H):=fun pins s σ H Q I h=>wpAny_tests_nil ⟨H,I,h⟩
theorem aDb {X:Cx} {c:Expr} {t:TT} (h:PT X c t):PTs X [c] t:=fun pins s σ H Q I q=>wpAny_tests_one (h pins s σ H Q I q)
def TX (J:It) (D:Addr) (g:TG) (ts:TT) (te:TE) (Q:VK) (σ:St) (H:Hp):Prop:= ∃ W:Nat→Nat→St→Hp→Prop,(∃ m,W 0 m σ H)∧∀ i m σ' H',W i m σ' H'→
 (J.stop i H'∧Q (.ref D) H')∨(J.go i H'∧∃ N:St→Hp→Prop,(∀ σ2 H2,N σ2 H2→∃ m',m' < m∧W (i + 1) m' σ2 H2)∧∀ x H2,J.yld i H' x H2→g x σ' H2 fun σ3 H3=>ts σ3 H3 fun ok H4=>if ok=true then te σ3 H4 fun y H5 =>
   ∃ ys,H5 D=some (.lst ys)∧ys.length < sizeLine∧N σ3 (upd H5 D (.lst (ys ++ [y]))) else N σ3 H4)
def VW (wi:TI) (g:TG) (ts:TT) (te:TE) (js:List (Option Nat)):TE:=fun σ H Q=>wi σ H fun J H1=>∀ D,H1 D=none→TX J D g ts te Q (TZ js σ) (upd H1 D (.lst []))
section
variable {X:Cx} {pins:List (Addr×Obj)} {σ:St} {H:Hp} {s:Shared} {N:List Str} {scope:Scope} {cl:List (Str×Addr)} {js:List (Option Nat)} {fp:List Addr} {tg elt iter:Expr} {ifs:List Expr} {pos:Pos} {J:It} {it:Addr} {tn:Nat→Heap→Prop}
 {g:TG} {ts:TT} {te:TE}
structure aF4 (X:Cx) (pins:List (Addr×Obj)) (σ:St) (Q:VK) (D C:Addr) (s':Shared):Prop where
 ex:∃ H' m,Inv X pins σ H' s'∧s'.heap.Ns C m∧H' C=none∧C≠X.env.locals∧C∉ X.fs∧X.s₀.heap.objs.size≤C∧(∀ x c,X.env.cells.lookup x=some c→c≠C)∧(∀ p∈X.pn ++ pins,p.1≠C)∧Q (.ref D) H'
theorem DE (S:jK X N scope cl js) (hc:X.calm=true) (I:Inv X pins σ H s) (T:SB X.prog X.w X.K tg J fp it tn) (st:tn 0 s.heap) (hf:∀ b∈fp,xK X pins H b)
   (hg:∀ C s₀ H₀ ex,PG (cxC X N scope cl C s₀ H₀ ex) tg g) (ht:∀ C s₀ H₀ ex,PTs (cxC X N scope cl C s₀ H₀ ex) ifs ts) (he:∀ C s₀ H₀ ex,PE (cxC X N scope cl C s₀ H₀ ex) elt te) {Q:VK}
   (q:∀ D,H D=none→TX J D g ts te Q (TZ js σ) (upd H D (.lst [])))
   {RR:Value→Addr→Result→Shared→Prop} (hR:∀ D C s',aF4 X pins σ Q D C s'→RR (.ref D) C (.ok .next) s') {E:Value→Shared→Prop} :
   wpAny (model X.prog X.w) X.A (newList []) (fun acc s₃=>wpAny (model X.prog X.w) X.A (newFunctionEnv scope X.env.globals cl [] X.env.qual none .none (some X.env)) (fun cenv s₄ =>
     codeAny (model X.prog X.w) X.A (.compStart (.ListComp elt [⟨tg,iter,ifs,0⟩] scope pos) 0 (.ref it) acc { cenv with scope:=relabel scope X.env }) (RR acc cenv.locals) s₄) E s₃) E s:=by
 refine wpAny_newObj_type (GP ?_);have fD:H s.heap.objs.size=none:=I.hok.fresh (Nat.le_refl _);have I3:Inv X pins σ (upd H s.heap.objs.size (.lst [])) { s with heap:=s.heap.push { cls:=.type "list",dict:=none,data:=.seq ([]:List Value).toArray },toks:=s.toks } :=
   I.laid (t':=s.toks) (fun b u e=>wEq _ e) (Nat.le_refl _) ⟨Nat.zero_le _,[],0,.nil,wGq _ rfl⟩
 have lt:∀ b∈fp,b < s.heap.objs.size:=fun b hb=>let ⟨o,e,_⟩:=T.obj _ _ st b hb; Heap.lt_size e
 have hf3:∀ b∈fp,xK X pins (upd H s.heap.objs.size (.lst [])) b:=fun b hb=>⟨by rw [aD (Nat.ne_of_lt (lt b hb))]; exact (hf b hb).1,(hf b hb).2⟩;dsimp only;generalize hH2:s.heap.push { cls:=.type "list",dict:=none,data:=.seq ([]:List Value).toArray }=H2 at I3 ⊢;have hns₁:(pushCells (H2.push { cls:=.type "dict",data:=.dict #[] }) scope.names).Ns H2.objs.size (fun _=>none):=(Heap.Ns.new H2 (.type "dict")).keeps (pushCells_keeps _ _);have hco:CellsOk (pushCells (H2.push { cls:=.type "dict",data:=.dict #[] }) scope.names) (H2.objs.size + 1) (cellsFrom (H2.objs.size + 1) scope.names []):=by
   have ok:=cellsFrom_ok scope.names (H2.push { cls:=.type "dict",data:=.dict #[] }) (H2.objs.size + 1) [] ⟨fun _ _ hm=>(nomatch hm),List.Pairwise.nil⟩ (by rw [Heap.size_push]; exact Nat.le_refl _);rw [Heap.size_push] at ok;exact ok
 have keep:∀ b o,H2.get? b=some o→(pushCells (H2.push { cls:=.type "dict",data:=.dict #[] }) scope.names).get? b=some o:=fun b o e=>pushCells_keeps _ _ b o (wEq _ e);generalize pushCells (H2.push { cls:=.type "dict",data:=.dict #[] }) scope.names=h₁ at hns₁ hco keep ⊢;have hC:H2.objs.size=s.heap.objs.size + 1:=by rw [←hH2,Heap.size_push]
 have Ic:=FZ (t':=s.toks) S I3 hf3 (fun b hb=>by show b < H2.objs.size; rw [hC]; exact Nat.lt_succ_of_lt (lt b hb)) hns₁ keep hco;obtain ⟨W,⟨m0,w0⟩,turn⟩:=q _ fD;have stat:∀ {H':Hp},(∀ b∈fp,H' b=none)→∀ b∈fp,xK (cxC X N scope cl H2.objs.size { s with heap:=H2,toks:=s.toks } (upd H s.heap.objs.size (.lst [])) fp) [] H' b:=fun hn b hb =>
   ⟨hn b hb,Nat.ne_of_lt (by rw [hC]; exact Nat.lt_succ_of_lt (lt b hb)),fun z=>(List.mem_cons.mp (I.stkSub b z)).elim (hf b hb).2.1 (hf b hb).2.2.1,.inl hb,fun x c e=>(dR e).elim (fun z=>Nat.ne_of_gt (wFq (lt b hb) (Nat.le_trans (by rw [hC]; omega) z.2.2))) fun q=>(hf b hb).2.2.2.2.1 x c (S.cls.look q),(fun p hp=>nomatch hp)⟩
 have st1:tn 0 h₁:=T.keep _ _ _ st fun b hb o e=>keep b o (by rw [←hH2]; exact wEq _ e);have loop:codeAny (model X.prog X.w) X.A (.compLoop (.ListComp elt [⟨tg,iter,ifs,0⟩] scope pos) 0 (.ref it) (.ref s.heap.objs.size) (compEnvC scope (cellsFrom (H2.objs.size + 1) scope.names cl) H2.objs.size X.env)) (RR (.ref s.heap.objs.size) H2.objs.size)
     { s with heap:=h₁,toks:=s.toks }:=by
   refine RN (fun n s'=>∃ i σ' H',Inv (cxC X N scope cl H2.objs.size { s with heap:=H2,toks:=s.toks } (upd H s.heap.objs.size (.lst [])) fp) [] σ' H' s'∧tn i s'.heap∧(∀ b∈fp,H' b=none)∧W i n σ' H') ?_ m0
     ⟨0,_,_,Ic,st1,fun b hb=>(hf3 b hb).1,w0⟩
   rintro n s3 ⟨i,σ3,H3,I3',st3,fr3,w3⟩;rcases turn i n σ3 H3 w3 with ⟨stop,qn⟩ | ⟨go,Nx,hN,step⟩
   · refine thn (T.done (cxC X N scope cl H2.objs.size { s with heap:=H2,toks:=s.toks } (upd H s.heap.objs.size (.lst [])) fp) rfl rfl rfl hc i [] s3 σ3 H3 NoE I3' (stat fr3) st3 stop) fun r s4 zz=>?_;obtain ⟨hr,I4⟩:=zz;subst hr;obtain ⟨mC,hnC,_⟩:=I4.loc;have IX:Inv X pins σ H3 s4:=I3.call' (ch:=fp) I4.os I4.base I4.hok I4.bare fun b hb=>by
       obtain ⟨_,f1,_,f3,f4,f5⟩:=hf3 b hb;exact ⟨f3,f1,f4,f5⟩
     have up:s.heap.objs.size≤H2.objs.size:=by rw [hC]; exact Nat.le_succ _
     have fp0:=I.fpOk (H':=H3) up I4.free;exact hR _ _ s4 ⟨⟨H3,mC,IX,hnC,I4.free,fp0.2.1,fp0.2.2.1,Nat.le_trans I.sz up,fp0.2.2.2.2.1,fp0.2.2.2.2.2,qn⟩⟩
   · refine thn (T.item (cxC X N scope cl H2.objs.size { s with heap:=H2,toks:=s.toks } (upd H s.heap.objs.size (.lst [])) fp) rfl rfl rfl hc i [] s3 σ3 H3 NoE I3' (stat fr3) st3 go) fun r s4 zz=>?_;obtain ⟨u,hr,h4⟩:=zz;subst hr;refine thn h4 fun _ s5 zz=>?_;obtain ⟨x,H5,I5,r5,y5,st5,fr5⟩:=zz;have I5':=I5.pinned (stat fr5) (T.obj _ _ st5);refine thn (hg _ _ _ _ _ s5 σ3 H5 x u _ I5' r5 (step x H5 y5)) fun _ s6 zz=>?_;obtain ⟨σ6,H6,I6,q6⟩:=zz;refine thn (ht _ _ _ _ _ s6 σ6 H6 _ I6 q6) fun ok s7 zz=>?_;obtain ⟨H7,I7,q7⟩:=zz;have again:∀ {σ8:St} {H8:Hp} {s8:Shared},Inv (cxC X N scope cl H2.objs.size { s with heap:=H2,toks:=s.toks } (upd H s.heap.objs.size (.lst [])) fp) ([] ++ vC fp s5.heap) σ8 H8 s8→Nx σ8 H8→
         ∃ m,m < n∧∃ i σ' H',Inv (cxC X N scope cl H2.objs.size { s with heap:=H2,toks:=s.toks } (upd H s.heap.objs.size (.lst [])) fp) [] σ' H' s8∧tn i s8.heap∧(∀ b∈fp,H' b=none)∧W i m σ' H':=fun {σ8 H8 s8} I8 n8=>by
       obtain ⟨m',hm,w8⟩:=hN σ8 H8 n8;refine ⟨m',hm,i + 1,σ8,H8,I8.unpinned,T.keep _ _ _ st5 fun b hb o e=>(I8.pin (b,o) (List.mem_append_right _ (List.mem_append_right _ (iX hb e)))).1,fun b hb=>?_,w8⟩;obtain ⟨o,e,d⟩:=T.obj _ _ st5 b hb;exact (I8.pin (b,o) (List.mem_append_right _ (List.mem_append_right _ (iX hb e)))).2.1
     cases ok with
     | false=>exact again I7 q7
     | true =>
       refine thn (he _ _ _ _ _ s7 σ6 H7 _ I7 q7) fun v s8 zz=>?_;obtain ⟨y,H8,I8,r8,ys,e8,l8,q8⟩:=zz;exact thn (QI _ s8 σ6 H8 (.ref s.heap.objs.size) [y] (.ref s.heap.objs.size) [v] (fun _ H9=>Nx σ6 H9) I8 rfl (.cons r8 .nil) ⟨_,ys,y,rfl,rfl,e8,l8,q8⟩) <|by rintro _ s9 ⟨_,H9,I9,_,q9⟩;exact again I9 q9
 exact codeAny_compStart_list loop (T.self _ 0 _ _ _ st1 loop)
theorem aDr {wi:TI} (S:jK X N scope cl js) (hc:X.calm=true) (hi:PI X tg iter wi) (hg:∀ C s₀ H₀ ex,PG (cxC X N scope cl C s₀ H₀ ex) tg g) (ht:∀ C s₀ H₀ ex,PTs (cxC X N scope cl C s₀ H₀ ex) ifs ts) (he:∀ C s₀ H₀ ex,PE (cxC X N scope cl C s₀ H₀ ex) elt te)
   (hs:∀ x,foldedSetIterable iter X.env x=pure x:=by intro _; rfl):PE X (.ListComp elt [⟨tg,iter,ifs,0⟩] scope pos) (VW wi g ts te js):=by
 intro pins s σ H Q I h;rw [eval_ListComp];refine wpAny_comprehension_free (use:=none) (g:=⟨tg,iter,ifs,0⟩) (gs:=[]) rfl hs S.clos S.kind S.names (thn (hi pins s σ H _ I h) fun v s1 h1=>thn h1 fun itv s2 h2=>?_);obtain ⟨it,fp,tn,J,H2,e,I2,T,st2,f2,q⟩:=h2;subst e;refine DE (RR:=fun acc C=>compPost (model X.prog X.w) X.A X.xe none (EP X pins σ Q) acc C) S hc I2 T st2 f2 hg ht he q ?_;rintro D C s' ⟨H',m,I',hn,f0,f1,_,f3,f4,f5,q'⟩;exact ⟨m,hn,fun h' sb=>⟨.ref D,H',I'.turned (t':=s'.toks) (fun b o hb e=>(sb.2 b hb).trans e) f0 f1 (.inr f3) f4 f5,rfl,q'⟩⟩
theorem aCK {wi:TI} {i:Nat} {y:Str} {py spos:Pos} (S:jK X N scope cl js) (hc:X.calm=true) (hN:X.N.Nodup) (hi':X.N[i]? =some y) (hy:X.env.scope.names.lookup y=some .local) (hi:PI X tg iter wi)
   (hg:∀ C s₀ H₀ ex,PG (cxC X N scope cl C s₀ H₀ ex) tg g) (ht:∀ C s₀ H₀ ex,PTs (cxC X N scope cl C s₀ H₀ ex) ifs ts) (he:∀ C s₀ H₀ ex,PE (cxC X N scope cl C s₀ H₀ ex) elt te)
   (hsw:swapsWith (.ListComp elt [⟨tg,iter,ifs,0⟩] scope pos) (some (.Name y py)) spos.line X.env=pure true:=by rfl)
   (hs:∀ x,foldedSetIterable iter X.env x=pure x:=by intro _; rfl):PS X (.Assign [.Name y py] (.ListComp elt [⟨tg,iter,ifs,0⟩] scope pos) spos) (aIL (VW wi g ts te js) (UO i)):=by
 intro pins s σ H D' I h;rw [exec_Assign_Name_used _ _ _ _ hsw];refine wAq (wpAny_standAt (wAq ?_));show wpAny _ X.A (do let _ ←comprehension (.ListComp elt [⟨tg,iter,ifs,0⟩] scope pos) scope X.env _ (newList []) false (eval iter X.env) (some (assign (.Name y py) X.env))) _ _ s;refine wAq (wpAny_mono (wpAny_comprehension_free (use:=some (assign (.Name y py) X.env)) (g:=⟨tg,iter,ifs,0⟩) (gs:=[]) (Q:=fun _ s'=>SP X pins D' .next s') rfl hs S.clos S.kind S.names
   (thn (hi pins s σ H _ I h) fun v s1 h1=>thn h1 fun itv s2 h2=>?_)) (fun _ s' hq=>wBq (wBq hq)) fun _ _ e=>e)
 obtain ⟨it,fp,tn,J,H2,e,I2,T,st2,f2,q⟩:=h2;subst e;refine DE (Q:=fun x H1=>UO i x σ H1 D'.nx) (RR:=fun acc C=>compPost (model X.prog X.w) X.A X.xe (some (assign (.Name y py) X.env)) (fun _ s'=>SP X pins D' .next s') acc C) S hc I2 T st2 f2 hg ht he q ?_;rintro D C s' ⟨H',m,I',hn,f0,f1,f2',f3,f4,f5,q'⟩;obtain ⟨oC,es,ep,hoC,hdC,hrC⟩:=hn;have Ip:Inv X (pins ++ [(C,oC)]) σ H' s':=I'.pins_of fun p hp=>(List.mem_append.mp hp).elim (fun z=>I'.pin p (List.mem_append_right _ z)) fun z=>by
   rw [List.mem_singleton.mp z];exact ⟨hoC,f0,f1,f2',fun v z=>by rw [hdC] at z; cases z⟩
 show wpAny _ X.A (assign (.Name y py) X.env (.ref D)) _ _ _;refine thn (MW (i:=i) hN hi' (.inl hy) (.inr hy) _ s' σ H' (.ref D) (.ref D) _ Ip rfl q') fun _ s'' zz=>?_;obtain ⟨σ',H'',I'',q''⟩:=zz;have pc:=I''.pin (C,oC) (List.mem_append_right _ (List.mem_append_right _ (List.mem_singleton.mpr rfl)));refine ⟨m,⟨oC,es,ep,pc.1,hdC,hrC⟩,fun h' sb=>⟨σ',H'', ?_,q''⟩⟩;exact (I''.unpinned).turned (t':=s''.toks) (fun b o hb e=>(sb.2 b hb).trans e) pc.2.1 f1 (.inr f3) f4 f5
end
mutual
inductive RdD (H:Hp):V→PyData→Prop
 | non:RdD H .non .none
 | bl (b:Bool):RdD H (.bl b) (.bool b)
 | int (i:Int):RdD H (.int i) (.int i)
 | str (x:Str):RdD H (.str x) (.str x)
 | tup {a:Addr} {xs:List V} {ds:List PyData}:H a=some (.tup xs)→RdDs H xs ds→RdD H (.ref a) (.tuple ds)
 | lst {a:Addr} {xs:List V} {ds:List PyData}:H a=some (.lst xs)→RdDs H xs ds→RdD H (.ref a) (.list ds)
inductive RdDs (H:Hp):List V→List PyData→Prop
 | nil:RdDs H [] []
 | cons {x:V} {xs:List V} {d:PyData} {ds:List PyData}:RdD H x d→RdDs H xs ds→RdDs H (x :: xs) (d :: ds)
end
section
variable {P:Program} {w:World} {H H':Hp} {h:Heap}
mutual
theorem RdD.reads (ok:HOk P w H h):∀ {x:V} {d:PyData} {u:Value},RdD H x d→aO x u→∃ as,Reads h u d as
 | _,_,_,.non,r=>⟨[],by cases r; exact .none⟩
 | _,_,_,.bl b,r=>⟨[],by cases r; exact .bool b⟩
 | _,_,_,.int i,r=>⟨[],by obtain ⟨t,rfl⟩:=r; exact .int i t⟩
 | _,_,_,.str x,r=>⟨[],by obtain ⟨t,rfl⟩:=r; exact .str x t⟩
 | _,_,_,.tup e rs,r=>by
   cases r;obtain ⟨_,its,rv,⟨o,ho,hc,n,hd⟩,_⟩:=ok _ _ e;obtain ⟨as,q⟩:=RdDs.reads ok rs rv;exact ⟨as,.tuple ho hc hd (by simpa using q)⟩
 | _,_,_,.lst e rs,r=>by
   cases r;obtain ⟨_,its,n,rv,ho⟩:=ok _ _ e;obtain ⟨as,q⟩:=RdDs.reads ok rs rv;exact ⟨_ :: as,.list ho rfl rfl (by simpa using q)⟩
theorem RdDs.reads (ok:HOk P w H h):∀ {xs:List V} {ds:List PyData} {us:List Value},RdDs H xs ds→aM xs us→∃ as,ReadsAll h us ds as
 | _,_,_,.nil,r=>⟨[],by cases r; exact .nil⟩
 | _, _,_,.cons a b,r=>by
   cases r with
   | cons r1 r2 =>
     obtain ⟨as,q⟩:=RdD.reads ok a r1;obtain ⟨bs,q2⟩:=RdDs.reads ok b r2;exact ⟨as ++ bs,.cons q q2⟩
end
mutual
theorem RdD.same (s:aN H H'):∀ {x:V} {d:PyData},RdD H x d→RdD H' x d
 | _,_,.non=>.non
 | _,_,.bl b=>.bl b
 | _,_,.int i=>.int i
 | _,_,.str x=>.str x
 | _,_,.tup e rs=>.tup (s _ _ e) (RdDs.same s rs)
 | _,_,.lst e rs=>.lst (s _ _ e) (RdDs.same s rs)
theorem RdDs.same (s:aN H H'):∀ {xs:List V} {ds:List PyData},RdDs H xs ds→RdDs H' xs ds
 | _,_,.nil=>.nil
 | _,_,.cons a b=>.cons (RdD.same s a) (RdDs.same s b)
end
end
section
variable {X:Cx}
end
section
variable {X:Cx} {CX:CXT} {k:Nat} {f C:Addr} {fd:FuncData} {ps ks:List Str} {sp:Sp} {E:XK} {pins:List (Addr×Obj)} {σ:St} {H:Hp} {s:Shared} {Q:VK} {us:List Value} {vs:List V} {dvs:List V} {ds:List Value}
theorem aGX {A':Around} (F:bC X.prog X.w X.K X.mg X.base CX k f fd ps sp) (hr:bK k A') (e0:sW X.prog X.w X.K X.mg X.base A' X.stack s H) (hb:aJ X.K fd ps ds) (hd:aM dvs ds) (hx:jY CX X E)
   (I:Inv X pins σ H s) (r:aM vs us) (h:sp (vs ++ dvs) H Q E):wpAny (model X.prog X.w) A' (call (.ref f) us) (EP X pins σ Q) X.xe s:=by
 have r2:aM (vs ++ dvs) (us ++ ds):=r.append hd;have hl:(us ++ ds).length=ps.length:=by rw [←r2.length]; exact F.len _ _ _ _ h
 refine wpAny_call (codeAny_mono (F.run A' X.stack s H ⟨us,[]⟩ (us ++ ds) (vs ++ dvs) Q E hr e0 (hb s us I.kIn hl) r2 h) fun r s' hq=>?_);cases r with
 | error e=>exact hx pins σ H s e s' I hq
 | ok fl =>
   cases fl with
   | ret u=>exact I.after hq
   | next=>exact False.elim hq
   | brk=>exact False.elim hq
   | cont=>exact False.elim hq
end
structure aCI (K:W.Frag) (C:Addr):Prop where
 cl:Cls K C
 ha:W.findIn K (.ref C) "__class__"=some (some (.builtin "object.__class__"))
 hn:W.specialIn K (.builtin "object.__class__") "__get__"=some (some (.builtin "getset_descriptor.__get__"))
 htk:W.takesIn K (.builtin "object.__class__")=some true
 hm:W.mroIn K C (.type "object")=some true
theorem OF {X:Cx} {pins:List (Addr×Obj)} {σ:St} {H:Hp} {s:Shared} {p C dx:Addr} {fs:List (Str×V)} (I:Inv X pins σ H s) (e:H p=some (.ins C dx fs)):∃ od,W.InstAt s.heap p (W.instObj C dx) C (some od):=by
 obtain ⟨mA,O,_⟩:=tM I.hok e;obtain ⟨od,J,_⟩:=O.look;exact ⟨od,J⟩
section
variable {X:Cx} {CX:CXT} {k:Nat} {f C:Addr} {fd:FuncData} {sp:Sp}
end
section
variable {X:Cx} {e:Expr} {es:List Expr} {te:TE} {pos:Pos}
end
end L2
namespace LE
open PySem PyProof.Rows
open AutoSeq1 (wpAny_loadPart')
end LE
namespace L2
open PySem PySem.Spec PyProof.Rows
section
variable {X:Cx} {CX:CXT} {k:Nat} {f C:Addr} {fd:FuncData} {ps ks:List Str} {sp:Sp} {E:XK} {x:Str} {p pos:Pos} {kws:List Keyword} {tk:TA} {g:List Value→List Value→List Value} {gV:List V→List V→List V}
end
section
variable {X:Cx} {C:Addr} {f x:Str} {pos pos':Pos} {e o value:Expr} {ta tv:TE} {i:Int}
theorem PE.imp {t t':TE} (h:PE X e t) (g:∀ σ H Q,t' σ H Q→t σ H Q):PE X e t':=fun pins s σ H Q I q=>h pins s σ H Q I (g _ _ _ q)
theorem PS.imp {st:Stmt} {t t':TS} (h:PS X st t) (g:∀ D σ H,t' D σ H→t D σ H):PS X st t':=fun pins s σ H D I q=>h pins s σ H D I (g _ _ _ q)
end
section
variable {X:Cx} {es:List Expr} {te:TE} {t:TA} {pos:Pos}
end
end L2
namespace LZ
open PySem PyProof.Rows
open AutoSeq1 (wpAny_loadPart')
open Builtin
section
variable {prog:Program} {w:World} {A:Around} {E:Value→Shared→Prop} {s:Shared}
end
end LZ
namespace LZ
open PySem PyProof.Rows
open Builtin
section
variable {prog:Program} {w:World} {A:Around} {E:Value→Shared→Prop} {s:Shared}
end
end LZ
namespace LZ
open PySem PyProof.Rows
open Builtin
section
variable {prog:Program} {w:World} {A:Around} {E:Value→Shared→Prop}
end
end LZ
namespace L2
open PySem PySem.Spec PyProof.Rows LZ
section
variable {X:Cx} {pins:List (Addr×Obj)} {σ:St} {H:Hp} {s:Shared} {h':Heap}
end
section
variable {X:Cx} {pins:List (Addr×Obj)} {σ:St} {H:Hp} {s:Shared} {h':Heap}
end
end L2
namespace L2
open PySem PySem.Spec PyProof.Rows
section
variable {X:Cx}
theorem FC:∀ {bs:List Bool} {us:List Value} {i:Nat} {v:Value},aM (bs.map V.bl) us→us[i]? =some v→∃ b,bs[i]? =some b∧v= .bool b
 | [],_,_,_,r,h=>by cases r; simp at h
 | b :: bs,_,0,v,r,h=>by
   cases r with
   | cons r1 r2 =>
     simp at h; subst h
     exact ⟨b,rfl,r1⟩
 | b :: bs,_,i + 1,v,r,h=>by
   cases r with
   | cons r1 r2 =>
     obtain ⟨c,e,q⟩:=FC (i:=i) r2 (by simpa using h);exact ⟨c,by simpa using e,q⟩
theorem aDR {s:Shared} {h':Heap} {o:Obj} (hk:∀ b x,b∉ [s.heap.objs.size]→(s.heap.push o).get? b=some x→h'.get? b=some x):∀ b x,s.heap.get? b=some x→h'.get? b=some x :=
 fun b x e=>hk b x (fun hm=>by rw [List.mem_singleton.mp hm] at e; exact Nat.lt_irrefl _ (Heap.lt_size e)) (wEq _ e)
theorem QR (bs:List Bool):((List.range bs.length).all fun i=>(bs[i]?).getD true)=bs.all id:=by
 rw [Bool.eq_iff_iff,List.all_eq_true,List.all_eq_true];constructor
 · intro h b hb;obtain ⟨i,hi,rfl⟩:=List.getElem_of_mem hb;have:=h i (List.mem_range.mpr hi);simp only [wHq hi,Option.getD_some] at this;exact this
 · intro h i hi;have hi':=List.mem_range.mp hi;simp only [wHq hi',Option.getD_some];exact h _ (List.getElem_mem hi')
theorem QS (hc:X.calm=true):bT X (.builtin "all") (fun xs H Q=>∃ (p:Addr) (bs:List Bool),xs=[.ref p]∧H p=some (.lst (bs.map V.bl))∧Q (.bl (bs.all id)) H):=by
 rintro pins s σ H xs us Q I r ⟨p,bs,e,hp,q⟩;subst e;obtain ⟨u,rfl,ru⟩:=mO r;cases ru;obtain ⟨_,its,n,rv,ho⟩:=I.hok _ _ hp;have hl:s.heap.IsList p its.toArray:=⟨_,ho,rfl,n,rfl⟩;have hlt:p < s.heap.objs.size:=Heap.lt_size ho;refine call_all_walk (wpAny_pyIter_list hl ?_);refine ⟨s.heap.objs.size,[s.heap.objs.size,p],[s.heap.objs.size],its.toArray.size,_,_,fun i=>(bs[i]?).getD true,rfl,Walks.list (A:=X.A.in1) (I.ok.hd hc) _ p (Nat.ne_of_lt hlt) its.toArray,
   ⟨⟨_,wGq _ rfl,rfl,rfl⟩,hl.push _⟩,fun i v s' Q' E' hP hQ=>?_,fun h' tk hk=>?_⟩
 · obtain ⟨b,e,rfl⟩:=FC rv (i:=i) (v:=v) (by simpa using hP);simp only [e,Option.getD_some] at hQ;exact wpAny_truthy_bool hQ
 · have e:((List.range its.toArray.size).all fun i=>(bs[i]?).getD true)=bs.all id:=by
     have:=rv.length;rw [List.length_map] at this;rw [wIq,←this]; exact QR bs
   rw [e];exact ⟨.bl _,H,I.kept (t':=tk) (aDR hk),rfl,q⟩
end
end L2
namespace LX
open PySem PyProof.Rows
section
variable {prog:Program} {w:World} {A:Around} {E:Value→Shared→Prop} {s:Shared}
end
end LX
namespace L2
open PySem PySem.Spec PyProof.Rows
section
variable {X:Cx} {pos:Pos}
variable {a b c d:Expr} {ta tb tc td:TE}
end
section
variable {X:Cx}
end
section
variable {X:Cx} {pos:Pos}
theorem Inv.big1 {pins:List (Addr×Obj)} {σ:St} {H:Hp} {s:Shared} (I:Inv X pins σ H s):sysModules < s.heap.objs.size:=by
 obtain ⟨o,es,ep,ho,_⟩:=I.mod.glob;exact Nat.lt_trans (show sysModules < mainGlobals by decide) (Heap.lt_size (I.bk _ _ ho))
theorem aIq:PE X (.Dict [] [] pos) (fun _ H Q=>∀ p,H p=none→Q (.ref p) (upd H p (.dK []))):=fun pins s σ H Q I h =>
 wpAny_Dict_empty ⟨.ref s.heap.objs.size,_,I.laid (a:=s.heap.objs.size) (o:=.dK []) (t':=s.toks) (fun _ _ q=>wEq _ q) (Nat.le_refl _)
   (show bE X.prog X.w _ _ _ (.dK []) from ⟨Nat.zero_le _,beq_eq_false_iff_ne.mpr (Ne.symm (Nat.ne_of_lt I.big1)),[],.nil,Heap.DictOf.new s.heap⟩),rfl,h _ (I.hok.fresh (Nat.le_refl _))⟩
end
end L2
namespace LE
open PySem PyProof.Rows
open AutoSeq1 (wpAny_loadPart')
open MeetsSeq MeetsSeq2 MeetsSeq3 SeqRoads2
end LE
namespace L2
open PySem PySem.Spec PyProof.Rows
section
variable {X:Cx}
end
section
variable {κ:Type} [DecidableEq κ]
noncomputable def valV (kvs:List (κ×V)) (k:κ):Option V:=(kvs.find? fun kv=>decide (kv.1=k)).map (·.2)
noncomputable def vM (kvs:List (κ×V)) (k:κ) (v:V):List (κ×V) :=
 if (kvs.any fun kv=>decide (kv.1=k))=true then kvs.map (fun kv=>if kv.1=k then (kv.1,v) else kv) else kvs ++ [(k,v)]
theorem aLS {k:κ}:valV ([]:List (κ×V)) k=none:=rfl
theorem vF {p:κ×V} {r:List (κ×V)} {k:κ} (e:p.1=k):valV (p :: r) k=some p.2:=by simp [valV,List.find?_cons,e]
theorem uQ {p:κ×V} {r:List (κ×V)} {k:κ} (e:¬p.1=k):valV (p :: r) k=valV r k:=by simp [valV,List.find?_cons,e]
theorem FH (kvs:List (κ×V)) (k:κ) (v:V):(vM kvs k v).length≤kvs.length + 1:=by
 unfold vM;split
 · rw [List.length_map]; omega
 · rw [List.length_append,List.length_cons,List.length_nil]; omega
theorem KV.val {kvs:List (κ×V)} {vs:List (κ×Value)} (r:KV kvs vs) (k:κ):pB (valV kvs k) (valueAt vs k):=by
 unfold KV at r;induction r with
 | nil=>exact True.intro
 | @cons p q ps qs h t ih =>
   obtain ⟨h1,h2⟩:=h;by_cases e:p.1=k
   · have e':q.1=k:=h1.symm.trans e;have b:valueAt (q :: qs) k=some q.2:=by simp [valueAt,List.find?_cons,e']
     rw [vF e,b]; exact h2
   · have e':¬q.1=k:=fun z=>e (h1.trans z);have b:valueAt (q :: qs) k=valueAt qs k:=by simp [valueAt,List.find?_cons,e']
     rw [uQ e,b]; exact ih
theorem KV.any {kvs:List (κ×V)} {vs:List (κ×Value)} (r:KV kvs vs) (k:κ):(kvs.any fun kv=>decide (kv.1=k))=vs.any fun kv=>decide (kv.1=k):=by
 unfold KV at r;induction r with
 | nil=>rfl
 | cons h t ih=>rw [List.any_cons,List.any_cons,ih,h.1]
theorem KV.repl {kvs:List (κ×V)} {vs:List (κ×Value)} (r:KV kvs vs) (k:κ) {y:V} {u:Value} (ry:aO y u) :
   KV (kvs.map fun kv=>if kv.1=k then (kv.1,y) else kv) (vs.map fun kv=>if kv.1=k then (kv.1,u) else kv):=by
 unfold KV at r ⊢;induction r with
 | nil=>exact .nil
 | @cons p q ps qs h t ih =>
   rw [List.map_cons,List.map_cons];refine .cons ?_ ih;obtain ⟨h1,h2⟩:=h;by_cases e:p.1=k
   · rw [if_pos e,if_pos (h1.symm.trans e)]; exact ⟨h1,ry⟩
   · rw [if_neg e,if_neg (fun z=>e (h1.trans z))]; exact ⟨h1,h2⟩
theorem KV.put {kvs:List (κ×V)} {vs:List (κ×Value)} (r:KV kvs vs) (k:κ) {y:V} {u:Value} (ry:aO y u):KV (vM kvs k y) (stored vs k u):=by
 unfold vM stored;rw [r.any k];by_cases e:(vs.any fun kv=>decide (kv.1=k))=true
 · rw [if_pos e,if_pos e]; exact r.repl k ry
 · rw [if_neg e,if_neg e]; exact Paired.snoc r ⟨rfl,ry⟩
end
theorem TJ {P:Program} {w:World} {k:Key} {u:Value} (r:aO (kV k) u):(bR P w).is k u=true:=by
 cases k with
 | inl i=>obtain ⟨t,e⟩:=(show ∃ t,u=Value.int i t from r); subst e; exact FW P w i t
 | inr x=>obtain ⟨t,e⟩:=(show ∃ t,u=Value.str x t from r); subst e; exact GY P w x t
theorem yY {P:Program} {w:World}:∀ {ks:List Key} {us:List Value},aM (ks.map kV) us→ItemsAre (bR P w) ks us
 | [],_,r=>by rw [List.map_nil] at r; cases r; exact .nil
 | k :: ks,_,r=>by
   rw [List.map_cons] at r;cases r with
   | cons h t=>exact .cons (TJ h) (yY t)
noncomputable abbrev KT (H:Hp):List (List Key×V)→List (List Key×Addr×Value)→Prop:=Paired fun p q=>p.1=q.1∧H q.2.1=some (.tup (p.1.map kV))∧aO p.2 q.2.2
theorem KT.val {H:Hp} {kvs:List (List Key×V)} {xs:List (List Key×Addr×Value)} (r:KT H kvs xs) (k:List Key):pB (valV kvs k) ((atKey xs k).map (·.2)):=by
 induction r with
 | nil=>exact True.intro
 | @cons p q ps qs h t ih =>
   obtain ⟨h1,_,h2⟩:=h;by_cases e:p.1=k
   · have e':q.1=k:=h1.symm.trans e;have b:atKey (q :: qs) k=some q.2:=by simp [atKey,List.find?_cons,e']
     rw [vF e,b]; exact h2
   · have e':¬q.1=k:=fun z=>e (h1.trans z);have b:atKey (q :: qs) k=atKey qs k:=by simp [atKey,List.find?_cons,e']
     rw [uQ e,b]; exact ih
section
variable {P:Program} {w:World} {H:Hp} {h:Heap} {a:Addr}
theorem aFj {u:HO} (ok:HOk P w H h) (e:Rd H a u):bE P w H h a u:=e.ok ok
theorem WX {kvs:List (Key×V)} (ok:HOk P w H h) (e:Rd H a (.dK kvs)):kvs.length≤sizeLine∧(a == sysModules)=false∧∃ vs,KV kvs vs∧h.DictOf (bR P w) a vs :=
 show bE P w H h a (.dK kvs) from aFj ok e
theorem aJA {kvs:List (Key×V)} (ok:HOk P w H h) (e:H a=some (.dK kvs)):kvs.length≤sizeLine∧(a == sysModules)=false∧∃ vs,KV kvs vs∧h.DictOf (bR P w) a vs:=WX ok (.inl e)
theorem WZ {ks:List Key} (ok:HOk P w H h) (e:H a=some (.tup (ks.map kV))):(tupleKind (bR P w)).is h ks a:=by
 obtain ⟨_,its,r,⟨o,h1,h2,n,h3⟩,_⟩:=(show bE P w H h a (.tup (ks.map kV)) from ok a _ e);exact ⟨o,its.toArray,n,h1,h2,h3,by simpa using yY r⟩
theorem aFp {kvs:List (List Key×V)} (ok:HOk P w H h) (e:Rd H a (.dT kvs)):kvs.length≤sizeLine∧(a == sysModules)=false∧
   ∃ xs,KT H kvs xs∧h.DictOfH (tupleKind (bR P w)) a xs:=by
 obtain ⟨z,y,xs,r,o,es,ep,h1,h2,h3,h4,h5⟩:=(show bE P w H h a (.dT kvs) from aFj ok e);refine ⟨z,y,xs,r,o,es,ep,h1,h2,h3,h4,fun x hx=>?_,h5⟩;have all:∀ {l:List (List Key×V)} {m:List (List Key×Addr×Value)},KT H l m→∀ x∈m,(tupleKind (bR P w)).is h x.1 x.2.1:=by
   intro l m q;induction q with
   | nil=>intro x hx; exact nomatch hx
   | @cons p q ps qs hq t ih =>
     intro x hx;rcases List.mem_cons.mp hx with e | hx
     · subst e;exact WZ ok (by rw [←hq.1]; exact hq.2.1)
     · exact ih x hx
 exact all r x hx
end
noncomputable def aA8 (H:Hp) (a:Addr) (y:V) (r:Option V):Prop :=
 (∃ kvs k,Rd H a (.dK kvs)∧y=kV k∧r=valV kvs k)∨∃ kvs k b,Rd H a (.dT kvs)∧y= .ref b∧H b=some (.tup (k.map kV))∧r=valV kvs k
theorem aA8.k {H:Hp} {a:Addr} {kvs:List (Key×V)} {k:Key} (e:H a=some (.dK kvs)):aA8 H a (kV k) (valV kvs k):=.inl ⟨kvs,k,.inl e,rfl,rfl⟩
section
variable {X:Cx} {pins:List (Addr×Obj)} {σ:St} {H:Hp} {s:Shared} {a:Addr} {y v:V} {u r:Value} {o:Option V} {A:Around} {E:Value→Shared→Prop}
theorem Inv.big (I:Inv X pins σ H s):sysModules < s.heap.objs.size:=by
 have h:mainGlobals < s.heap.objs.size:=(I.mod.glob.keeps I.bk).lt;exact Nat.lt_trans (by decide) h
theorem QO {Q:Value→Shared→Prop} (hu:A.units + 1 < cLine) (I:Inv X pins σ H s) (g:aA8 H a y (some v)) (ry:aO y u) (h:∀ w' s',Inv X pins σ H s'→aO v w'→Q w' s') :
   wpAny (model X.prog X.w) A (getItem (.ref a) u) Q E s:=by
 rcases g with ⟨kvs,k,e,ey,l⟩ | ⟨kvs,k,b,e,ey,eb,l⟩
 · subst ey;obtain ⟨z,hd,vs,rel,dd⟩:=WX I.hok e;obtain ⟨w',hw,rw'⟩:=pB.some_of (v:=v) (o:=valueAt vs k) (by rw [l]; exact rel.val k);exact wpAny_getItem_of (TJ ry) dd.mapOf hw (h w' _ (I.tok _) rw')
 · subst ey;cases (show u=Value.ref b from ry);obtain ⟨z,hd,xs,rel,dd⟩:=aFp I.hok e;obtain ⟨w',hw,rw'⟩:=pB.some_of (v:=v) (o:=(atKey xs k).map (·.2)) (by rw [l]; exact rel.val k);obtain ⟨p,hp,hp2⟩:=Option.map_eq_some_iff.mp hw;refine wpAny_getItem_heap (tupleKind_room_in1 hu) (WZ I.hok eb) dd hp ?_;rw [hp2];exact h w' _ (I.tok _) rw'
theorem aDO {h':Heap} {t':Nat} {ob:HO} (I:Inv X pins σ H s) (mu:Mut (H a)) (hs:Heap.SameBut a s.heap h') (he:∃ q,h'.get? a=some q) (new:bE X.prog X.w (upd H a ob) h' a ob) :
   Inv X pins σ (upd H a ob) { s with heap:=h',toks:=t' } :=
 I.write (x:=a) (e:=a) mu (.inl rfl) (fun b q hb z=>(hs.2 b hb).trans z) he new
theorem aFJ {P:Program} {w:World} {H':Hp} {h':Heap} {kvs:List (Key×V)} {vs:List (Key×Value)} (z:kvs.length≤sizeLine) (hd:(a == sysModules)=false) (rel:KV kvs vs) (dd:h'.DictOf (bR P w) a vs) :
   bE P w H' h' a (.dK kvs):=⟨z,hd,vs,rel,dd⟩
end
section
variable {X:Cx} {pins:List (Addr×Obj)} {σ:St} {H:Hp} {s:Shared} {a:Addr} {kvs:List (Key×V)} {k:Key} {u:Value} {A:Around} {E:Value→Shared→Prop}
end
theorem DT {X:Cx} {pins:List (Addr×Obj)} {σ:St} {H:Hp} {s:Shared} {a:Addr} {y:V} {o:Option V} (I:Inv X pins σ H s) (g:aA8 H a y o):s.TypeIs (.ref a) "dict":=by
 rcases g with ⟨kvs,k,e,_,_⟩ | ⟨kvs,k,b,e,_,_,_⟩
 · obtain ⟨_,_,vs,_,dd⟩:=WX I.hok e;exact dd.typeIs
 · obtain ⟨_,_,xs,_,dd⟩:=aFp I.hok e;exact dd.typeIs
section
variable {X:Cx} {o i e value:Expr} {pos pos' tpos:Pos} {td ty tv:TE}
end
theorem aA4 {P:Program} {w:World} {H:Hp} (h:Heap) (hb:sysModules < h.objs.size):bE P w H (h.push { cls:=.type "dict",data:=.dict #[] }) h.objs.size (.dK []) :=
 ⟨Nat.zero_le _,beq_eq_false_iff_ne.mpr (Ne.symm (Nat.ne_of_lt hb)),[],.nil,Heap.DictOf.new h⟩
section
variable {X:Cx} {pos:Pos}
end
noncomputable abbrev VV:List (V×V)→List (Value×Value)→Prop:=Paired fun p q=>aO p.1 q.1∧aO p.2 q.2
noncomputable def kW (kvs more:List (Key×V)):List (Key×V):=more.foldl (fun acc kv=>vM acc kv.1 kv.2) kvs
theorem KV.merge:∀ {more:List (Key×V)} {rs:List (Key×Value)} {kvs:List (Key×V)} {vs:List (Key×Value)},KV more rs→KV kvs vs→KV (kW kvs more) (merged vs rs):=by
 intro more rs kvs vs r;unfold KV at r;induction r generalizing kvs vs with
 | nil=>intro q; exact q
 | @cons p q ps qs h t ih =>
   intro r0;have e:KV (vM kvs p.1 p.2) (stored vs q.1 q.2):=by
     have:=r0.put p.1 h.2;rw [←h.1]; exact this
   exact ih e
theorem mL:∀ (more kvs:List (Key×V)),(kW kvs more).length≤kvs.length + more.length
 | [],kvs=>by show kvs.length≤kvs.length + 0; omega
 | p :: r,kvs=>by
   have h1:=mL r (vM kvs p.1 p.2);have h2:=FH kvs p.1 p.2;show (kW (vM kvs p.1 p.2) r).length≤_;rw [List.length_cons]; omega
theorem uS {P:Program} {w:World}:∀ {kvs:List (Key×V)} {ws:List (Value×Value)},VV (kvs.map fun kv=>(kV kv.1,kv.2)) ws→∃ rs,Carries (bR P w) ws rs∧KV kvs rs
 | [],_,r=>by rw [List.map_nil] at r; cases r; exact ⟨[],True.intro,.nil⟩
 | p :: kvs,_,r=>by
   rw [List.map_cons] at r;cases r with
   | @cons a b as bs h t =>
     obtain ⟨rs,c,q⟩:=uS (P:=P) (w:=w) t;obtain ⟨b1,b2⟩:=b;exact ⟨(p.1,b2) :: rs,⟨TJ h.1,rfl,c⟩,.cons ⟨rfl,h.2⟩ q⟩
noncomputable abbrev TD:=St→Hp→(List (V×V)→Hp→Prop)→Prop
noncomputable def PD (X:Cx) (pos:Pos) (keys:List (Option Expr)) (values:List Expr) (t:TD):Prop :=
 ∀ (pins:List (Addr×Obj)) (s:Shared) (σ:St) (H:Hp) (Q:List (V×V)→Hp→Prop),Inv X pins σ H s→t σ H Q→
   wpAny (model X.prog X.w) X.A (evalPairs (pairTrees keys values X.env pos)) (fun vs s'=>∃ ps H',Inv X pins σ H' s'∧VV ps vs∧Q ps H') X.xe s
theorem aHg {X:Cx} {pos:Pos}:PD X pos [] [] (fun _ H Q=>Q [] H):=fun pins s σ H Q I h=>pairTrees_nil_walk ⟨[],H,I,.nil,h⟩
theorem aBp {X:Cx} {pos:Pos} {k v:Expr} {ks:List (Option Expr)} {vs:List Expr} {tk tv:TE} {tr:TD} (hk:PE X k tk) (hv:PE X v tv) (hr:PD X pos ks vs tr) :
   PD X pos (some k :: ks) (v :: vs) (fun σ H Q=>tk σ H fun x H1=>tv σ H1 fun y H2=>tr σ H2 fun ps H3=>Q ((x,y) :: ps) H3):=fun pins s σ H Q I h =>
 pairTrees_cons_walk (thn (hk pins s σ H _ I h) fun u s1 ⟨x,H1,I1,rx,q1⟩=>thn (hv pins s1 σ H1 _ I1 q1) fun w2 s2 ⟨y,H2,I2,ry,q2⟩ =>
   thn (hr pins s2 σ H2 _ I2 q2) <|by rintro ws s3 ⟨ps,H3,I3,rel,q3⟩;exact ⟨(x,y) :: ps,H3,I3,.cons ⟨rx,ry⟩ rel,q3⟩)
theorem PD.imp {X:Cx} {pos:Pos} {ks:List (Option Expr)} {vs:List Expr} {t t':TD} (h:PD X pos ks vs t) (g:∀ σ H Q,t' σ H Q→t σ H Q):PD X pos ks vs t':=fun pins s σ H Q I q=>h pins s σ H Q I (g _ _ _ q)
def aKG (t:TD):TE:=fun σ H Q=>∀ p,H p=none→t σ (upd H p (.dK [])) fun ps H2=>H2 p=some (.dK [])∧∃ kvs:List (Key×V),ps=kvs.map (fun kv=>(kV kv.1,kv.2))∧kvs.length≤15∧Q (.ref p) (upd H2 p (.dK (kW [] kvs)))
theorem aHX {X:Cx} {pos:Pos} {keys:List (Option Expr)} {values:List Expr} {t:TD} (h:PD X pos keys values t) (hall:keys.all (·.isSome)=true) (hl:keys.length=values.length) (h0:keys≠ [])
   (h15:keys.length≤15):PE X (.Dict keys values pos) (aKG t):=by
 intro pins s σ H Q I q;have hn:=I.hok.fresh (Nat.le_refl s.heap.objs.size);have I1:=I.laid (a:=s.heap.objs.size) (o:=.dK []) (h':=s.heap.push { cls:=.type "dict",data:=.dict #[] }) (t':=s.toks) (fun _ _ q=>wEq _ q) (Nat.le_refl _) (aA4 s.heap I.big);refine wpAny_Dict_walk (knd:=bR X.prog X.w) hall hl h0 h15 (thn (h pins _ σ _ _ I1 (q _ hn)) fun ws s2 zz=>?_);obtain ⟨ps,H2,I2,rel,e,kvs,ep,lk,q2⟩:=zz;subst ep;obtain ⟨rs,c,rk⟩:=uS (P:=X.prog) (w:=X.w) rel;obtain ⟨z,hd,vs0,r0,dd⟩:=aJA I2.hok e;cases r0;refine ⟨rs,c,dd,fun h' dd' hs=>⟨.ref s.heap.objs.size,_, ?_,rfl,q2⟩⟩;have hz:(kW [] kvs).length≤sizeLine:=by
   have h1:=mL kvs [];rw [List.length_nil] at h1;rw [sizeLine_eq]; omega
 have he:∃ q,h'.get? s.heap.objs.size=some q:=let ⟨q,_,_,hq,_⟩:=dd'; ⟨q,hq⟩
 exact aDO I2 (by rw [e]; exact True.intro) hs he (aFJ hz hd (rk.merge .nil) dd')
def aOy:R2:=fun x y H Q=>∃ a v,x= .ref a∧aA8 H a y (some v)∧Q v H
theorem aBu {X:Cx} {k:Nat} (hr:bK k X.A):IxR X aOy:=by
 rintro value slice pins s σ H x y v u Q I rx ry ⟨a,z,ex,g,q⟩ hs;subst ex;cases rx;exact tail_any (DT I g) slot_dict_getitem.lookup (QO (by have:=hr.units; omega) I g ry fun w' s' I' r'=>⟨z,H,I',r',q⟩) hs
theorem ZZ {kvs:List (Key×V)} {k:Key} {v:V} (h:k∉ kvs.map (·.1)):vM kvs k v=kvs ++ [(k,v)]:=by
 unfold vM;rw [if_neg];intro z;obtain ⟨p,hp,e⟩:=List.any_eq_true.mp z;exact h (List.mem_map.mpr ⟨p,hp,of_decide_eq_true e⟩)
theorem vT:∀ {more kvs:List (Key×V)},((kvs ++ more).map (·.1)).Nodup→kW kvs more=kvs ++ more
 | [],kvs,_=>by rw [List.append_nil]; rfl
 | p :: r,kvs,h=>by
   have h1:p.1∉ kvs.map (·.1):=by
     rw [List.map_append,List.nodup_append] at h;intro z;exact h.2.2 _ z _ (by rw [List.map_cons]; exact wDq ..) rfl
   show kW (vM kvs p.1 p.2) r=_;rw [ZZ h1,vT (by rw [List.append_assoc]; exact h),List.append_assoc]; rfl
end L2
namespace LE
open PySem PySem.W PySem.Calls PyProof.Rows Builtin
section
variable {prog:Program} {w:World} {A:Around} {E:Value→Shared→Prop} {s:Shared} {K:Frag} {x C L f:Addr} {h₀:Heap} {m:Str→Option Value} {ox:Obj} {od:Option Obj} {b tb:Value}
theorem SL {M:Model} {T id:String} {name:Str} {args:List Value} {Q:Option Value→Shared→Prop} (X:K.In s.heap) (I:InstAt s.heap x ox C od) (hs:findIn K (.ref C) name=some (some (.builtin id))) (S:Slot T name id)
   (h:wpAny M A (call (.builtin id) (.ref x :: args)) (fun v=>Q (some v)) E s):wpAny M A (callSpecialIfBound? (.ref x) name args) Q E s:=by
 simp only [callSpecialIfBound?,bindSpecialIfBound?];refine wpAny_holding (wAq (wAq (wAq (I.type.here ((looks_findIn X hs).here ?_)))));simp only [S.bind];refine wAq (wpAny_askSetting (wpAny_ite ?_));have fin:wpAny M A (call (.builtin id) ([.ref x] ++ args) >>= fun v=>pure (some v)) Q E s:=wAq (wpAny_mono h (fun v s' h'=>wBq h') fun _ _ h'=>h');split
 · exact wAq (wBq (wBq fin))
 · exact wpAny_tryCatch (wAq (wBq (wBq fin)))
theorem YO {M:Model} {Q:Unit→Shared→Prop} (X:K.In s.heap) (I:InstAt s.heap x ox C od) (hob:subIn K (.ref C) (.type "object")=some true) (hq:Q () s) :
   wpAny M A (checkBuiltinCall "object.__ne__" ⟨[.ref x,b],[]⟩) Q E s:=by
 have ha:=PySem.F.cmpArgs_ne (.ref x) b;simp only [checkBuiltinCall,PySem.F.cmpKind_ne,PySem.F.cmpSplit_ne];refine wAq ?_;unfold isInstance;refine wAq (I.type.here ((looks_subIn X hob).here ?_));simp only [Bool.not_true,Bool.false_eq_true,if_false];cases hsig:Manifest.signature? "object.__ne__" with
 | none=>exact wBq hq
 | some sig =>
   simp only [argsOk,hsig] at ha;have h2:Bind.checkArgs "object.__ne__" sig ⟨[.ref x,b],[]⟩=pure ():=ha;show wpAny M A (Bind.checkArgs "object.__ne__" sig ⟨[.ref x,b],[]⟩) Q E _;rw [h2]; exact wBq hq
theorem aOr {Q:Value→Shared→Prop} (hu:A.units + 1 < cLine) (X:K.In s.heap) (I:InstAt s.heap x ox C od) (hb:Looks (model prog w) s.heap (typeOf b) tb) (hn:notFirst K C tb=true) (hne:findIn K (.ref C) "__ne__"=some (some (.builtin "object.__ne__")))
   (hob:subIn K (.ref C) (.type "object")=some true) (hs:findIn K (.ref C) "__eq__"=some (some (.ref f))) (hf:isFn K (.ref f)=true)
   (h:wpAny (model prog w) A.in1 (call (.ref f) [.ref x,b]) (fun v s'=>∃ r,v= .bool r∧Q (.bool (!r)) s') E s):wpAny (model prog w) A (richCompare .NotEq (.ref x) b) Q E s:=by
 have one:wpAny (model prog w) A (tryCompare (.ref x) (cmpInfo .NotEq).2.1 b) (fun r s'=>∃ v,r=some v∧Q v s') E s:=by
   unfold tryCompare;refine wAq (SL (T:="object") X I hne PySem.F.cmp_object.ne ?_);refine wpAny_call (codeAny_call_builtin PySem.F.cmp_object.ne.plain PySem.F.cmpEntry_ne (YO X I hob ?_));unfold Builtin.«object.__ne__»;refine wAq (m:=slotArgs "__ne__" 1 _) (wBq ?_);refine wAq (wpAny_cRoomFor (by show A.units + 1 < cLine; exact hu) ?_);refine wAq (ifBound_K X I hs hf (wpAny_mono h (fun v s' hv=>?_) fun _ _ e=>e));obtain ⟨r,rfl,q⟩:=hv;refine wAq (wpAny_truthy_bool ?_);refine wBq ?_;exact wBq ⟨_,rfl,q⟩
 unfold richCompare;simp only [oneThing_ref];refine wpAny_holding (wAq (wpAny_cRoomFor (by omega) ?_));refine wAq (I.type.here (wAq (hb.here ?_)));split
 · rename_i q;have e:subIn K tb (.ref C)=some false:=by
     rcases Bool.or_eq_true_iff.mp hn with e | e
     · rw [beq_iff_eq.mp e] at q; simp at q
     · exact beq_iff_eq.mp e
   refine wAq ((looks_subIn X e).here ?_);simp only [Bool.false_eq_true,if_false];refine wAq (wpAny_mono one (fun r s' z=>?_) fun _ _ e=>e);obtain ⟨v,rfl,hq⟩:=z;exact wBq hq
 · refine wAq (wBq ?_);simp only [Bool.false_eq_true,if_false];refine wAq (wpAny_mono one (fun r s' z=>?_) fun _ _ e=>e);obtain ⟨v,rfl,hq⟩:=z;exact wBq hq
end
end LE
namespace L2
open PySem PySem.Spec PyProof.Rows
section
variable {X:Cx}
structure NeC (K:W.Frag) (C:Addr):Prop where
 ne:W.findIn K (.ref C) "__ne__"=some (some (.builtin "object.__ne__"))
 ob:W.subIn K (.ref C) (.type "object")=some true
 bo:W.findIn K (.ref C) "__bool__"=some none
def aNS (C:Addr) (sp:Sp):R2:=fun x y H Q=>∃ p dx fs p' dx' fs',x= .ref p∧y= .ref p'∧H p=some (.ins C dx fs)∧H p'=some (.ins C dx' fs')∧sp [.ref p,.ref p'] H (fun v H'=>∃ b,v= .bl b∧Q (.bl (!b)) H') E0
theorem aGw {k:Nat} {f C:Addr} {fd:FuncData} {sp:Sp} (N:NeC X.K C) (M:xC X.K C "__eq__" f) (F:bC X.prog X.w X.K X.mg X.base CX0 k f fd ["self","other"] sp) (hr:bK (k + 1) X.A) (hb:aJ X.K fd ["self","other"] []) :
   OpR X (compareOp .NotEq) (aNS C sp):=by
 rintro pins s σ H x y v u Q I rx ry ⟨p,dx,fs,p',dx',fs',e1,e2,ea,eb,q⟩;subst e1 e2;cases rx;cases ry;obtain ⟨od,J⟩:=OF I ea;obtain ⟨od',J'⟩:=OF I eb;refine W.cmp_ofNotEq (LE.aOr (by have:=hr.units; omega) I.kIn J J'.type (by unfold W.notFirst; simp) N.ne N.ob M.at_ M.fn
   (thn (aGX (dvs:=[]) (ds:=[]) (vs:=[.ref p,.ref p']) F hr.in1 I.env0.in1 hb .nil VZ I (.cons rfl (.cons rfl .nil)) q) fun v s' ⟨x,H',I',rx,b,e,q'⟩=>?_))
 subst e;cases rx;exact ⟨b,rfl,.bl (!b),H',I',rfl,q'⟩
end
end L2
namespace LE
open PySem PyProof.Rows
open AutoSeq1 (wpAny_loadPart')
open MeetsSeq MeetsSeq2 MeetsSeq3 SeqRoads2 SeqAt
theorem sT {M:Model} {A:Around} {E:Value→Shared→Prop} {s:Shared} {β:Type} (f:Nat→β→Sem (ForInStep β)) (I:List Nat→β→Shared→Prop) (Q:β→Shared→Prop)
   (turn:∀ x aV b s,I (x :: aV) b s→wpAny M A (f x b) (fun r s'=>match r with | .yield b'=>I aV b' s' | .done b'=>Q b' s') E s)
   (fin:∀ b s,I [] b s→Q b s) (n:Nat) (b:β) (h:I (List.range' 0 n) b s):wpAny M A (forIn [:n] b f) Q E s:=by
 rw [Std.Legacy.Range.forIn_eq_forIn_range'];simp only [Std.Legacy.Range.size,Nat.sub_zero,Nat.add_sub_cancel,Nat.div_one];exact wpAny_forIn_list f I Q turn fin _ b h
theorem BT (l:Addr) (items:Array Value) (n:Nat) (dd:Option Addr) (sl:Array (Option Value)) (x:Value) (e:Nat→Bool) (j:Nat) (hj:j < items.size) (hit:e j=true) (hno:∀ m,m < j→e m=false) :
   Meets (Builtin.«tuple.index» ⟨[.ref l,x],[]⟩) (fun A R s=>s.heap.get? l=some { cls:=.type "tuple",dict:=dd,data:=.seq items n,slots:=sl }∧(∀ m (hm:m < items.size),m≤j→EqAt A.in1 s items[m] x (e m))∧R (.ok (.ret (.int j s.toks))) { s with toks:=s.toks + 1 }) :=
 .of_wp fun prog w A R s h=>by
   obtain ⟨hp,g,d,tk,os⟩:=s; obtain ⟨hl,he,h⟩:=h
   wp_walk using wpAny_loadPart' hl,sT _ (fun aV b s'=>b.1=none∧s'=⟨hp,g,d,tk,os⟩∧∃ i,aV=List.range' i (items.size - i)∧i≤j) _
   case turn =>
     rintro y aV b s' ⟨hb,rfl,i,hi,hij⟩;have e1:items.size - i=(items.size - (i + 1)) + 1:=by omega
     rw [e1,List.range'_succ] at hi;obtain ⟨rfl,rfl⟩:=List.cons.inj hi;have hlt:y < items.size:=by omega
     have hy:items[y]? =some items[y]:=by simp [hlt]
     rw [hy];refine wAq (he _ hlt hij prog w _ _ ?_);by_cases ej:y=j
     · subst ej;rw [hit]
       wp_walk
       exact ⟨_,rfl,h⟩
     · rw [hno y (by omega)]
       wp_walk
       exact ⟨rfl,rfl,y + 1,rfl,by omega⟩
   case fin =>
     rintro b s' ⟨hb,rfl,i,hi,hij⟩;exfalso
     have:=congrArg List.length hi;rw [List.length_range'] at this;simp at this
     omega
   case h =>
     exact ⟨rfl,rfl,0,by simp,Nat.zero_le _⟩
theorem GG (l:Addr) (items:Array Value) (n:Nat) (dd:Option Addr) (sl:Array (Option Value)) (x:Value) (e:Nat→Bool) (upto:Int) (j:Nat) (hj:j < items.size) (hupto:(j:Int) < upto) (hit:e j=true) (hno:∀ m,m < j→e m=false) (k:Nat) :
   ∀ i:Nat,j - i=k→i≤j→Meets (Builtin.«list.index.loop» ⟨[.ref l,x,rawInt i,rawInt upto],[]⟩)
     (fun A R s=>s.heap.get? l=some { cls:=.type "list",dict:=dd,data:=.seq items n,slots:=sl }∧(∀ m (hm:m < items.size),m≤j→EqAt A.in1 s items[m] x (e m))∧R (.ok (.ret (.int j s.toks))) { s with toks:=s.toks + 1 }):=by
 induction k with
 | zero =>
   intro i hk hij prog w A R s h;obtain ⟨hp,g,d,tk,os⟩:=s; obtain ⟨hl,he,h⟩:=h;have hij':i=j:=by omega
   subst hij'
   wp_walk using wpAny_loadPart' hl
   have hi:(if (i:Int) < upto then items[((i:Nat):Int).toNat]? else none)=some items[i]:=by simp [hupto,hj]
   rw [hi];refine wAq (he i hj (Nat.le_refl _) prog w _ _ ?_);rw [hit]
   wp_walk
   exact h
 | succ k ih =>
   intro i hk hij prog w A R s h;obtain ⟨hp,g,d,tk,os⟩:=s; obtain ⟨hl,he,h⟩:=h;have hlt:i < items.size:=by omega
   have hst:(i:Int) < upto:=by omega
   wp_walk using wpAny_loadPart' hl
   have hi:(if (i:Int) < upto then items[((i:Nat):Int).toNat]? else none)=some items[i]:=by simp [hst,hlt]
   have hc:((i:Int) + 1)=((i + 1:Nat):Int):=by push_cast; rfl
   rw [hi];refine wAq (he i hlt hij prog w _ _ ?_);rw [hno i (by omega)]
   wp_walk
   rw [hc];exact ⟨plainId_quiet plain_index_loop _,codeAny_builtin entry_index_loop (by
     rw [Around.under_plainId plain_index_loop _];exact ih (i + 1) (by omega) (by omega) prog w A R _ ⟨hl,he,h⟩)⟩
theorem EN (l:Addr) (items:Array Value) (n:Nat) (dd:Option Addr) (sl:Array (Option Value)) (x:Value) (e:Nat→Bool) (j:Nat) (hj:j < items.size) (hsmall:(j:Int) < 2 ^ 63 - 1) (hit:e j=true) (hno:∀ m,m < j→e m=false) :
   Meets (Builtin.«list.index» ⟨[.ref l,x],[]⟩)
     (fun A R s=>s.heap.get? l=some { cls:=.type "list",dict:=dd,data:=.seq items n,slots:=sl }∧(∀ m (hm:m < items.size),m≤j→EqAt A.in1 s items[m] x (e m))∧R (.ok (.ret (.int j s.toks))) { s with toks:=s.toks + 1 }):=by
 intro prog w A R s h;obtain ⟨hp,g,d,tk,os⟩:=s; obtain ⟨hl,he,h⟩:=h
 wp_walk using wpAny_loadPart' hl
 have a1:((fun i:Int=>if i < 0 then max 0 (i + (items.size:Int)) else i) ((none:Option Int).getD 0))=((0:Nat):Int):=by simp
 have a2:((fun i:Int=>if i < 0 then max 0 (i + (items.size:Int)) else i) ((none:Option Int).getD (2 ^ 63 - 1)))=2 ^ 63 - 1:=by simp
 rw [a1,a2];exact ⟨plainId_quiet plain_index_loop _,codeAny_builtin entry_index_loop (by
   rw [Around.under_plainId plain_index_loop _];exact GG l items n dd sl x e (2 ^ 63 - 1) j hj hsmall hit hno _ 0 rfl (Nat.zero_le _) prog w A R _ ⟨hl,he,h⟩)⟩
end LE
namespace HT
open PySem PySem.Spec PyProof.Rows
section
variable {prog:Program} {w:World} {A:Around} {E:Value→Shared→Prop} {s:Shared}
end
end HT
namespace L2
open PySem PySem.Spec PyProof.Rows
section
variable {X:Cx} {pins:List (Addr×Obj)} {σ:St} {H:Hp} {s:Shared} {a:Addr} {xs:List V}
theorem Inv.tupleN (I:Inv X pins σ H s) (h:SqT X.K H a xs):∃ its:List Value,aM xs its∧gF s.heap a its.toArray∧xs.length≤sizeLine:=by
 rcases h with h | ⟨o,its,n,hk,hc,hs,hz,r,hd⟩
 · obtain ⟨z,its,r,p⟩:=h.ok I.hok;exact ⟨its,r,p,z⟩
 · refine ⟨its.toList,r,⟨⟨o,I.kIn a o hk,hc,n,by simpa using hs⟩,fun o' e=>by rw [I.kIn a o hk] at e; cases e; exact hd⟩, ?_⟩;have e:=r.length;simp only [Array.length_toList] at e;omega
end
section
variable {X:Cx} {o e:Expr} {to te:TE} {pos apos:Pos}
def aM2 (K:W.Frag) (rl rt:V→V→Hp→VK→Prop) (to te:TE):TE:=fun σ H Q=>to σ H fun x H1=>∃ p,x= .ref p∧(((∃ xs,SqL K H1 p xs)∧te σ H1 fun y H2=>rl x y H2 Q)∨((∃ xs,SqT K H1 p xs)∧te σ H1 fun y H2=>rt x y H2 Q))
def IxM (X:Cx) (id:String) (r:V→V→Hp→VK→Prop):Prop:= ∀ (pins:List (Addr×Obj)) (s:Shared) (σ:St) (H:Hp) (x y:V) (v u:Value) (Q:VK),Inv X pins σ H s→aO x v→aO y u→r x y H Q→
   wpAny (model X.prog X.w) X.A (call (.builtin id) [v,u]) (EP X pins σ Q) X.xe s
theorem aA5 {rl rt:V→V→Hp→VK→Prop} (hl:IxM X "list.index" rl) (ht:IxM X "tuple.index" rt) (ho:PE X o to) (he:PE X e te)
   (hmono:∀ σ H (Q Q':VK),(∀ y H',Q y H'→Q' y H')→te σ H Q→te σ H Q') (hbase:attributeBase o "index" X.env (eval o X.env)=eval o X.env) (hline:(apos.endLine == pos.line)=true) (hs:starEach [e] X.env=[(false,eval e X.env)]) :
   PE X (.Call (.Attribute o "index" apos) [e] [] pos) (aM2 X.K rl rt to te):=by
 intro pins s σ H Q I h;have hfew:((backTo pos (starEach [e] X.env)).all (fun x=> !x.1) && (backToKw pos (keywordEach [] X.env)).all (fun x=>x.1.isSome) && decide ([e].length + ([]:List Keyword).length + (if ([]:List Keyword).isEmpty then 0 else 1) < 30))=true:=by rw [hs]; rfl
 refine wpAny_Call_method_late hbase hfew hline rfl (thn (ho pins s σ H _ I h) fun v s1 zz=>?_);obtain ⟨x,H1,I1,r1,p,ex,hq⟩:=zz;subst ex;rcases hq with ⟨⟨xs,hx⟩,q⟩ | ⟨⟨xs,hx⟩,q⟩
 · obtain ⟨h1,h2⟩:=UG (T:="list") I1 r1 (.inl ⟨rfl,xs,hx⟩);refine ⟨"list","list.index",PySem.F.plainAttrs_list,PySem.F.slot_list_index,PySem.F.type_list_index,h1,h2, ?_⟩;have hA:=(cF he fL hs) pos pins s1 σ H1 (fun vs H2=>∃ y,vs=[y]∧rl (.ref p) y H2 Q) I1 (hmono σ H1 _ _ (fun y H2 z=>⟨y,rfl,z⟩) q);rw [hs] at hA ⊢;refine Calls.callWith_builtin rfl (Calls.evalArgs_plain ?_);exact thn hA <|by
     rintro us s2 ⟨vs,H2,I2,r2,y,ev,q2⟩;subst ev;obtain ⟨u,rfl,ru⟩:=r2.one;exact hl pins s2 σ H2 (.ref p) y v u Q I2 r1 ru q2
 · cases r1;obtain ⟨its,rv,⟨⟨o,e1,e2,e3⟩,hd⟩,hz⟩:=I1.tupleN hx;refine ⟨"tuple","tuple.index",PySem.F.plainAttrs_tuple,PySem.F.slot_tuple_index,PySem.F.type_tuple_index,⟨o,e1,e2⟩,fun b eb=>by cases eb; exact ⟨o,e1,hd o e1⟩, ?_⟩;have hA:=(cF he fL hs) pos pins s1 σ H1 (fun vs H2=>∃ y,vs=[y]∧rt (.ref p) y H2 Q) I1 (hmono σ H1 _ _ (fun y H2 z=>⟨y,rfl,z⟩) q);rw [hs] at hA ⊢;refine Calls.callWith_builtin rfl (Calls.evalArgs_plain ?_);exact thn hA <|by
     rintro us s2 ⟨vs,H2,I2,r2,y,ev,q2⟩;subst ev;obtain ⟨u,rfl,ru⟩:=r2.one;exact ht pins s2 σ H2 (.ref p) y (.ref p) u Q I2 rfl ru q2
end
section
variable {X:Cx} {a:Addr} {es:Array DictEntry} {n:Nat}
end
section
variable {X:Cx} {pos:Pos}
end
end L2
namespace HT
open PySem PySem.Spec PyProof PyProof.Rows
section
variable {prog:Program} {w:World} {A:Around} {E:Value→Shared→Prop} {s:Shared}
theorem mD {t sl:Addr} {items:Array Value} {vl vu:Value} {lo hi:Option Int} {Q:Value→Shared→Prop} (ht:IsTup s.heap t items) (hs:s.heap.IsSliceOf sl vl vu .none) (pl:IsPart vl lo) (pu:IsPart vu hi)
   (hw:sIx items.size 0 lo=0∧sIx items.size items.size hi=items.size)
   (h:Q (.ref t) s):wpAny (model prog w) A (getItem (.ref t) (.ref sl)) Q E s:=by
 obtain ⟨os,hos,hcs,hds⟩:=id hs;have hTs:s.TypeIs (.ref sl) "slice":=⟨os,hos,hcs⟩;unfold getItem
 try with_reducible refine wpAny_holding ?_
 first | refine wAq (wBq ?_) | skip
 refine wAq (wpAny_sequenceKey ht.typeIs (by decide) ?_);refine wAq (wpAny_callSpecial?_slot (name:=Str.ofString "__getitem__") ht.typeIs PyProof.Rows.slot_tuple_getitem
   (wpAny_call_entry PyProof.Rows.slot_tuple_getitem ht.typeIs entry_tuple_getitem ?_ (args_tuple_getitem _ _)))
 show wpAny _ _ (Builtin.Tuple.tupleItemsOf (.ref t) >>= _) _ _ s;refine wAq (tupleItemsOf_ ht ?_);refine wAq (wpAny_typeOf hTs ?_);rw [if_pos (by decide)];refine wAq (iN hs pl pu ?_);have hno:(((sIx items.size 0 lo:Nat):Int) == 0 && (1:Int) == 1 && (sIx items.size items.size hi - sIx items.size 0 lo) == items.size)=true:=by
   rw [hw.1,hw.2]; simp
 show wpAny _ _ (if (((sIx items.size 0 lo:Nat):Int) == 0 && (1:Int) == 1 && (sIx items.size items.size hi - sIx items.size 0 lo) == items.size)=true then _ else _) _ _ s;rw [if_pos hno];unfold Builtin.Tuple.tupleIsExact;refine wAq (wAq (wpAny_typeOf ht.typeIs (wBq ?_)));rw [if_pos (by decide)];refine wAq (wpAny_rule ?_);first
   | exact wAq (wBq ⟨_,rfl,wBq h⟩)
   | exact wAq (wBq (wBq ⟨_,rfl,wBq h⟩))
   | exact wBq ⟨_,rfl,wBq h⟩
end
end HT
namespace L2
open PySem PySem.Spec PyProof.Rows
section
variable {X:Cx}
noncomputable def aOv (K:W.Frag):V→Option Int→Option Int→Hp→VK→Prop:=fun x lo hi H Q=>∃ a xs,x= .ref a∧SqT K H a xs∧
 (HT.sIx xs.length 0 lo=0∧HT.sIx xs.length xs.length hi=xs.length)∧Q (.ref a) H
theorem aCx:SlR X (aOv X.K):=by
 intro pins s σ H x v vl vu lo hi sl Q I rx hs pl pu h;obtain ⟨a,xs,rfl,hx,hw,q⟩:=h;cases rx;obtain ⟨its,r,ht,hz⟩:=I.tuple hx;have hlen:its.toArray.size=xs.length:=by rw [wIq]; exact r.length.symm
 refine ⟨"tuple",_,PyProof.Rows.slot_tuple_getitem.lookup,ht.typeIs, ?_⟩;exact HT.mD ht hs pl pu (by rw [hlen]; exact hw) ⟨.ref a,_,I,rfl,q⟩
end
end L2
namespace LR
open PySem PySem.W PyProof PyProof.Rows
section
variable {prog:Program} {w:World} {A:Around} {E:Value→Shared→Prop} {s:Shared} {K:Frag} {x C L f:Addr} {h₀:Heap} {m:Str→Option Value} {ox:Obj} {od:Option Obj} {a:Value}
open PySem.AutoSeq1 (wpAny_loadPart') in
theorem aDo {C dx:Addr} {sl:Array (Option Value)} {i:Int} {u:Tok} {Q':Value→Shared→Prop} (ho:s.heap.get? x=some { cls:=.ref C,dict:=some dx,data:=.plain,slots:=sl }) (q:Q' .notImplemented s) :
   wpAny (model prog w) A (call (.builtin "int.__eq__") [.int i u,.ref x]) Q' E s:=by
 refine wpAny_call_entry PySem.F.slot_int_eq (s:=s) rfl PySem.F.entry_int_eq ?_ (PySem.F.args_int_eq_2 _ _);obtain ⟨hp,g,d,tk,os⟩:=s
 wp_walk using wpAny_loadPart' ho
 exact ⟨_,rfl,q⟩
open PySem.AutoSeq1 (wpAny_loadPart') in
theorem aKx {C dx:Addr} {sl:Array (Option Value)} {b:Bool} {Q':Value→Shared→Prop} (ho:s.heap.get? x=some { cls:=.ref C,dict:=some dx,data:=.plain,slots:=sl }) (q:Q' .notImplemented s) :
   wpAny (model prog w) A (call (.builtin "int.__eq__") [.bool b,.ref x]) Q' E s:=by
 refine wpAny_call_entry PySem.F.slot_bool_eq (s:=s) rfl PySem.F.entry_int_eq ?_ (PySem.F.args_int_eq_2 _ _);obtain ⟨hp,g,d,tk,os⟩:=s
 wp_walk using wpAny_loadPart' ho
 exact ⟨_,rfl,q⟩
open PySem.AutoSeq1 (wpAny_loadPart') in
theorem aD0 {C dx:Addr} {sl:Array (Option Value)} {z:Str} {u:Tok} {Q':Value→Shared→Prop} (ho:s.heap.get? x=some { cls:=.ref C,dict:=some dx,data:=.plain,slots:=sl }) (q:Q' .notImplemented s) :
   wpAny (model prog w) A (call (.builtin "str.__eq__") [.str z u,.ref x]) Q' E s:=by
 refine wpAny_call_entry PySem.F.slot_str_eq (s:=s) rfl PySem.F.entry_str_eq ?_ (PySem.F.args_str_eq_2 _ _);obtain ⟨hp,g,d,tk,os⟩:=s
 wp_walk using wpAny_loadPart' ho
 exact ⟨_,rfl,q⟩
variable {y D:Addr} {oy:Obj} {oyd:Option Obj}
end
end LR
namespace L2
open PySem PySem.Spec PyProof.Rows
section
variable {X:Cx}
noncomputable def aL4:List String:=["NoneType","bool","int","str","list","tuple","dict"]
structure EqL (K:W.Frag) (C:Addr):Prop where
 nt:∀ T∈aL4,W.subIn K (.ref C) (.type T)=some false
 tn:∀ T∈aL4,W.subIn K (.type T) (.ref C)=some false
structure EqD (K:W.Frag) (C D:Addr):Prop where
 ne:D≠C
 eq:W.findIn K (.ref D) "__eq__"=some (some (.builtin "object.__eq__"))
 ob:W.subIn K (.ref D) (.type "object")=some true
 cd:W.subIn K (.ref C) (.ref D)=some false
 dc:W.subIn K (.ref D) (.ref C)=some false
inductive BuV (K:W.Frag) (H:Hp):V→Prop
 | non:BuV K H .non
 | bl (b:Bool):BuV K H (.bl b)
 | int (i:Int):BuV K H (.int i)
 | str (z:Str):BuV K H (.str z)
 | tup {a:Addr} {xs:List V}:SqT K H a xs→BuV K H (.ref a)
 | lst {a:Addr} {xs:List V}:SqL K H a xs→BuV K H (.ref a)
 | dK {a:Addr} {kvs:List (Key×V)}:H a=some (.dK kvs)→BuV K H (.ref a)
end
end L2
namespace LR
open PySem PyProof.Rows
open AutoSeq1 (wpAny_loadPart')
open MeetsSeq MeetsSeq2 MeetsSeq3 SeqRoads2
end LR
namespace L2
open PySem PySem.Spec PyProof.Rows
section
variable {X:Cx}
inductive ItV (K:W.Frag) (C:Addr) (H:Hp):V→Bool→Prop
 | bu {y:V}:BuV K H y→ItV K C H y false
 | own {p dx:Addr} {fs:List (Str×V)}:H p=some (.ins C dx fs)→ItV K C H (.ref p) true
 | oth {p D dx:Addr} {fs:List (Str×V)}:H p=some (.ins D dx fs)→EqD K C D→ItV K C H (.ref p) false
end
end L2
namespace LR
open PySem PyProof.Rows
open AutoSeq1 (wpAny_loadPart')
open MeetsSeq MeetsSeq2 MeetsSeq3 SeqRoads2
end LR
namespace L2
open PySem PySem.Spec PyProof.Rows
section
variable {X:Cx}
noncomputable def inT (K:W.Frag) (C:Addr) (sp:Sp) (p:Addr) (Q:Bool→Hp→Prop):List V→Hp→Prop
 | [],H=>Q false H
 | y :: r,H=>(∃ dx fs,H p=some (.ins C dx fs))∧((y= .ref p∧Q true H)∨(∃ o,(o=true→y≠.ref p)∧ItV K C H y o∧
     sp (if o=true then [y,.ref p] else [.ref p,y]) H (fun v H'=>∃ b,v= .bl b∧if b=true then Q true H' else inT K C sp p Q r H') E0))
end
end L2
namespace L2
open PySem PySem.Spec
open PyProof.Rows hiding St
noncomputable def iF (h:Heap) (lo:Nat) (H:Hp) (e:Addr) (C:Value) (d:Option Addr):Prop :=
 lo ≤e∧H e=none∧∃ oe vs,h.get? e=some oe∧oe.cls=C∧oe.dict=d∧oe.data= .fields vs∧1 < vs.size∧
   ∃ T oT ts fl,vs[1]? =some (.ref T)∧lo≤T∧H T=none∧T≠e∧h.get? T=some oT∧oT.data= .fields ts∧ts[3]? =some fl
noncomputable def aMW (h:Heap) (lo:Nat) (H:Hp) (e:Addr) (C:Value) (d:Option Addr):Prop :=
 lo≤e∧H e=none∧∃ oe vs,h.get? e=some oe∧oe.cls=C∧oe.dict=d∧oe.data= .fields vs∧1 < vs.size∧vs[1]? =some .none
def uG (h:Heap) (lo:Nat) (H:Hp) (e:Addr) (C:Value) (d:Option Addr):Prop:=aMW h lo H e C d∨iF h lo H e C d
structure Way (fs ch:List Addr) (h h':Heap):Prop where
 keep:∀ b o,b∉ fs→b∉ ch→h.get? b=some o→h'.get? b=some o
 slot:∀ b o,b∈fs→h.get? b=some o→∃ sl,h'.get? b=some { o with slots:=sl }
 there:∀ b o,h.get? b=some o→∃ o',h'.get? b=some o'
theorem Way.refl {fs:List Addr} {h:Heap}:Way fs [] h h:=⟨fun _ _ _ _ e=>e,fun _ o _ e=>⟨o.slots,e⟩,fun _ o e=>⟨o,e⟩⟩
def wC (h:Heap) (lo:Nat) (H:Hp) (ch:List Addr):Prop:= ∀ b∈ch,lo≤b∧H b=none∧∃ o vs,h.get? b=some o∧o.data= .fields vs
theorem wC.nil {h:Heap} {lo:Nat} {H:Hp}:wC h lo H []:=fun _ z=>nomatch z
section
variable {M:Model} {A:Around} {E:Value→Shared→Prop} {s:Shared} {base:Heap} {env:Env} {outer:List Env} {L e:Addr} {C:Value} {d:Option Addr} {lo:Nat} {H:Hp}
theorem MN {oe:Obj} {vs:Array Value} {head:Value} {hadNext:Bool} {Q:Unit→Shared→Prop}
   (hfr:A.frames=some (env :: outer)) (hl:s.heap.FunFrames base (env :: outer)) (hf:env.frame=some L) (hlo:lo≤s.heap.objs.size) (hH:∀ b,s.heap.objs.size≤b→H b=none)
   (le:lo≤e) (he0:H e=none) (he:s.heap.get? e=some oe) (hc:oe.cls=C) (hdd:oe.dict=d) (hd:oe.data= .fields vs) (hsz:1 < vs.size)
   (h:∀ h',Way (frs (env :: outer)) [e] s.heap h'→iF h' lo H e C d→Q () { s with heap:=h' }) :
   wpAny M A (do let a ←frameOf env; let pl ←entryPlaceOf L hadNext; let b ←EntryCells.newEntry head a .none (rawInt L) .none pl; setField (.ref e) 1 b) Q E s:=by
 have hene:e∉ (env :: outer).filterMap (·.frame):=fun hm=>by
   obtain ⟨_,o,ho,hnf⟩:=hl.mem hm;rw [he] at ho; injection ho with ho; subst ho; exact hnf vs hd
 refine wAq (wpAny_frameOf_fun hfr hl hf fun h₁ hs₁=>?_);refine wAq (wpAny_entryPlaceOf fun pl hpl=>?_);unfold EntryCells.newEntry newFields;refine wAq (wpAny_newObj_type ?_ (hpl.sizeOk5 _ _ _ _ _));have he₁:h₁.get? e=some oe:=(hs₁.2.1 e hene).trans he;have he₂:=wEq (h:=h₁) { cls:=.type "traceback",dict:=none,data:=.fields ([head,.ref L,.none,rawInt L,.none] ++ (if pl.isEmpty then List.replicate 6 Value.none else pl)).toArray } he₁;refine wpAny_setField he₂ hd hsz (h _ ?_ ?_)
 · have keep:∀ b o,b≠e→h₁.get? b=some o→
     ((h₁.push { cls:=.type "traceback",dict:=none,data:=.fields ([head,.ref L,.none,rawInt L,.none] ++ (if pl.isEmpty then List.replicate 6 Value.none else pl)).toArray }).update e (Obj.mapFields (·.setIfInBounds 1 (Value.ref h₁.objs.size)))).get? b=some o :=
     fun b o hbe hb=>by
       rw [Heap.get?_update_other _ _ (Ne.symm hbe)];exact wEq _ hb
   have hd₃:=Obj.data_mapFields hd (·.setIfInBounds 1 (Value.ref h₁.objs.size));have he₃:=Heap.get?_update_self (Obj.mapFields (·.setIfInBounds 1 (Value.ref h₁.objs.size))) he₂ (Obj.isFreed_of_fields hd₃);refine ⟨fun b o hb hc ho=>keep b o (fun z=>hc (by simp [z])) ((hs₁.2.1 b hb).trans ho),fun b o hb ho=>?_,fun b o ho=>?_⟩
   · obtain ⟨sl,hs⟩:=hs₁.2.2 b o ho;exact ⟨sl,keep b _ (fun z=>hene (z▸hb)) hs⟩
   · by_cases z:b=e
     · subst z; exact ⟨_,he₃⟩
     · obtain ⟨sl,hs⟩:=hs₁.2.2 b o ho;exact ⟨_,keep b _ z hs⟩
 · have hTe:h₁.objs.size≠e:=Nat.ne_of_gt (Heap.lt_size he₁);have hd₃:=Obj.data_mapFields hd (·.setIfInBounds 1 (Value.ref h₁.objs.size));have he₃:=Heap.get?_update_self (Obj.mapFields (·.setIfInBounds 1 (Value.ref h₁.objs.size))) he₂ (Obj.isFreed_of_fields hd₃);have hT₃:=(Heap.get?_update_other (h₁.push { cls:=.type "traceback",dict:=none,data:=.fields ([head,.ref L,.none,rawInt L,.none] ++ (if pl.isEmpty then List.replicate 6 Value.none else pl)).toArray })
     (Obj.mapFields (·.setIfInBounds 1 (Value.ref h₁.objs.size))) (Ne.symm hTe)).trans (wGq h₁ rfl)
   have hz:s.heap.objs.size=h₁.objs.size:=by first | exact hs₁.1.symm | exact hs₁.1
   refine ⟨le,he0,_,_,he₃,(Obj.cls_mapFields _ _).trans hc, ?_,hd₃,by simpa using hsz,h₁.objs.size,_,_,rawInt L,by simp [hsz],by omega,hH _ (by omega),hTe,hT₃,rfl,by first | (simp; done) | (rcases hpl with rfl | ⟨_,_,_,_,_,_,_,rfl⟩ <;> simp)⟩;rw [←hdd];unfold Obj.mapFields;split <;> rfl
theorem VE {fo:Option Addr} {Q:Unit→Shared→Prop} (hl:s.heap.FunFrames base (env :: outer)) (x:uG s.heap lo H e C d)
   (h:∀ h' ch,wC s.heap lo H ch→Way (frs (env :: outer)) ch s.heap h'→uG h' lo H e C d→(iF s.heap lo H e C d→iF h' lo H e C d)→Q () { s with heap:=h' }):wpAny M A (setFlight (.ref e) fo) Q E s:=by
 rcases x with x | x
 · have x0:=x;obtain ⟨le,he0,oe,vs,he,hc,hdd,hd,hsz,h1⟩:=x;unfold setFlight;refine wAq (wpAny_field he hd h1 ?_);rw [if_neg (by decide)];exact wBq (h s.heap [] wC.nil Way.refl (.inl x0) fun z=>z)
 · obtain ⟨le,he0,oe,vs,he,hc,hdd,hd,hsz,T,oT,ts,fl,h1,lT,hT0,hTe,hT,hdT,h3⟩:=x;have hsz3:3 < ts.size:=(Array.getElem?_eq_some_iff.mp h3).1;have nf:T∉ frs (env :: outer):=fun hm=>by
     obtain ⟨_,o,ho,hnf⟩:=hl.mem hm;rw [hT] at ho; injection ho with ho; subst ho; exact hnf ts hdT
   unfold setFlight;refine wAq (wpAny_field he hd h1 ?_);rw [if_pos (show (Value.ref T != Value.none)=true from by simp)];have hd₃:=Obj.data_mapFields hdT (·.setIfInBounds 3 (fo.elim .none fun f=>rawInt f));have hT₃:=Heap.get?_update_self (Obj.mapFields (·.setIfInBounds 3 (fo.elim .none fun f=>rawInt f))) hT (Obj.isFreed_of_fields hd₃);have other:∀ b,b≠T→(s.heap.update T (Obj.mapFields (·.setIfInBounds 3 (fo.elim .none fun f=>rawInt f)))).get? b=s.heap.get? b:=fun b hb=>Heap.get?_update_other _ _ (Ne.symm hb);have xt:iF (s.heap.update T (Obj.mapFields (·.setIfInBounds 3 (fo.elim .none fun f=>rawInt f)))) lo H e C d :=
     ⟨le,he0,oe,vs,(other e (Ne.symm hTe)).trans he,hc,hdd,hd,hsz,T,_,_,_,h1,lT,hT0,hTe,hT₃,hd₃,by simp [hsz3]; rfl⟩
   refine wpAny_setField hT hdT hsz3 (h _ [T] (fun b hb=>?_) ⟨fun b o hb hc ho=>?_,fun b o hb ho=>?_,fun b o ho=>?_⟩ (.inr xt) fun _=>xt)
   · have e:b=T:=by simpa using hb
     subst e; exact ⟨lT,hT0,oT,ts,hT,hdT⟩
   · exact (other b fun z=>hc (by simp [z])).trans ho
   · exact ⟨o.slots,(other b fun z=>nf (z▸hb)).trans ho⟩
   · by_cases z:b=T
     · subst z; exact ⟨_,hT₃⟩
     · exact ⟨o,(other b z).trans ho⟩
theorem Way.trans {fs c1 c2:List Addr} {h1 h2 h3:Heap} (a:Way fs c1 h1 h2) (b:Way fs c2 h2 h3):Way fs (c1 ++ c2) h1 h3:=by
 refine ⟨fun x o hf hc ho=>b.keep x o hf (fun z=>hc (List.mem_append_right _ z)) (a.keep x o hf (fun z=>hc (List.mem_append_left _ z)) ho),fun x o hf ho=>?_,fun x o ho=>?_⟩
 · obtain ⟨sl,e⟩:=a.slot x o hf ho;obtain ⟨sl',e'⟩:=b.slot x _ hf e;exact ⟨sl',e'⟩
 · obtain ⟨o',e⟩:=a.there x o ho;exact b.there x o' e
theorem aH1 {Q:Unit→Shared→Prop} (hfr:A.frames=some (env :: outer)) (hl:s.heap.FunFrames base (env :: outer)) (hf:env.frame=some L) (hlo:lo≤s.heap.objs.size) (hH:∀ b,s.heap.objs.size≤b→H b=none) (x:uG s.heap lo H e C d)
   (h:∀ h' ch,wC s.heap lo H ch→Way (frs (env :: outer)) ch s.heap h'→iF h' lo H e C d→Q () { s with heap:=h' }):wpAny M A (noteFrame (.ref e) env) Q E s:=by
 rcases x with x | x
 · obtain ⟨le,he0,oe,vs,he,hc,hdd,hd,hsz,h1⟩:=x;unfold noteFrame;simp only [hf];refine wAq (wpAny_field he hd h1 ?_);rw [if_neg (by decide)];refine MN hfr hl hf hlo hH le he0 he hc hdd hd hsz fun h' w x'=>h h' [e] (fun b hb=>?_) w x';have e':b=e:=by simpa using hb
   subst e'; exact ⟨le,he0,oe,vs,he,hd⟩
 · have x0:=x;obtain ⟨le,he0,oe,vs,he,hc,hdd,hd,hsz,T,oT,ts,fl,h1,lT,hT0,hTe,hT,hdT,h3⟩:=x;have hsz3:3 < ts.size:=(Array.getElem?_eq_some_iff.mp h3).1;have nf:T∉ frs (env :: outer):=fun hm=>by
     obtain ⟨_,o,ho,hnf⟩:=hl.mem hm;rw [hT] at ho; injection ho with ho; subst ho; exact hnf ts hdT
   unfold noteFrame;simp only [hf];refine wAq (wpAny_field he hd h1 ?_);rw [if_pos (show (Value.ref T != Value.none)=true from by simp)];refine wAq (wpAny_field hT hdT h3 ?_);by_cases hfl:(fl == rawInt L)=true
   · rw [if_pos hfl];exact wBq (h s.heap [] wC.nil Way.refl x0)
   · rw [if_neg hfl];have hd₃:=Obj.data_mapFields hdT (·.setIfInBounds 3 Value.none);have hT₃:=Heap.get?_update_self (Obj.mapFields (·.setIfInBounds 3 Value.none)) hT (Obj.isFreed_of_fields hd₃);have other:∀ b,b≠T→(s.heap.update T (Obj.mapFields (·.setIfInBounds 3 Value.none))).get? b=s.heap.get? b:=fun b hb=>Heap.get?_update_other _ _ (Ne.symm hb);have w1:Way (frs (env :: outer)) [T] s.heap (s.heap.update T (Obj.mapFields (·.setIfInBounds 3 Value.none))):=by
       refine ⟨fun b o hb hc ho=>(other b fun z=>hc (by simp [z])).trans ho,fun b o hb ho=>⟨o.slots,(other b fun z=>nf (z▸hb)).trans ho⟩,fun b o ho=>?_⟩;by_cases z:b=T
       · subst z; exact ⟨_,hT₃⟩
       · exact ⟨o,(other b z).trans ho⟩
     have hzz:(s.heap.update T (Obj.mapFields (·.setIfInBounds 3 Value.none))).objs.size=s.heap.objs.size:=Heap.size_update ..;refine wAq (wpAny_setField hT hdT hsz3 ?_);refine MN (base:=base) hfr (hl.of_keeps fun b o hb hnf=>⟨o,(other b fun z=>by subst z; rw [hT] at hb; cases hb; exact hnf ts hdT).trans hb,rfl⟩) hf (by rw [hzz]; exact hlo) (fun b hb=>hH b (by rw [hzz] at hb; exact hb)) le he0 ((other e (Ne.symm hTe)).trans he) hc hdd hd hsz fun h' w x'=>h h' ([T] ++ [e]) (fun b hb=>?_) (w1.trans w) x';rcases List.mem_append.mp hb with hb | hb
     · have e':b=T:=by simpa using hb
       subst e'; exact ⟨lT,hT0,oT,ts,hT,hdT⟩
     · have e':b=e:=by simpa using hb
       subst e'; exact ⟨le,he0,oe,vs,he,hd⟩
end
noncomputable def Cx.lo (X:Cx):Nat:=X.pn.foldr (fun p n=>max (p.1 + 1) n) X.s₀.heap.objs.size
theorem NN {X:Cx}:X.s₀.heap.objs.size≤X.lo:=by
 unfold Cx.lo;induction X.pn with
 | nil=>exact Nat.le_refl _
 | cons p r ih=>exact Nat.le_trans ih (Nat.le_max_right _ _)
theorem TB {X:Cx}:∀ p∈X.pn,p.1 < X.lo:=by
 unfold Cx.lo;induction X.pn with
 | nil=>intro p hp; cases hp
 | cons q r ih =>
   intro p hp;rcases List.mem_cons.mp hp with e | hp
   · subst e; exact wFq (Nat.lt_succ_self _) (Nat.le_max_left _ _)
   · exact wFq (ih p hp) (Nat.le_max_right _ _)
section
variable {X:Cx} {pins:List (Addr×Obj)} {σ:St} {H:Hp} {s:Shared}
theorem Inv.lo_le (I:Inv X pins σ H s):X.lo≤s.heap.objs.size:=by
 have h:∀ l:List (Addr×Obj),(∀ p∈l,p.1 < s.heap.objs.size)→l.foldr (fun p n=>max (p.1 + 1) n) X.s₀.heap.objs.size≤s.heap.objs.size:=fun l=>by
   induction l with
   | nil=>intro _; exact I.sz
   | cons p r ih=>intro h; exact Nat.max_le.mpr ⟨h p (wDq ..),ih fun q hq=>h q (wCq _ hq)⟩
 exact h X.pn fun p hp=>Heap.lt_size (I.pin p (List.mem_append_left _ hp)).1
theorem Inv.nopins (I:Inv X pins σ H s):Inv X [] σ H s:=I.pins_of fun _ z=>nomatch z
theorem Inv.way {h':Heap} {ch:List Addr} (I:Inv X [] σ H s) (hc:wC s.heap X.lo H ch) (w:Way (frs X.stack) ch s.heap h'):Inv X [] σ H { s with heap:=h' }:=by
 have nch:∀ b u,H b=some u→b∉ ch:=fun b u e z=>by rw [(hc b z).2.1] at e; cases e
 have nfs:∀ b u,H b=some u→b∉ frs X.stack:=fun b u e z=>by rw [I.stkFree b z] at e; cases e
 refine I.call (g':=s.gens) (t':=s.toks) (d':=s.drawn) (ch:=ch) (H':=H) ⟨fun b o e n hf hx=>w.keep b o hf hx e,fun b o e n hf hx=>w.slot b o hf e,fun _ _ _ n _=>n,fun b o e _=>w.there b o e,fun _ _ e=>e,fun _ _ _ e=>e,fun b ps e=>⟨#[],by rw [e]; simp⟩⟩ (fun b u e=>?_) I.bare fun b hb=>?_
 · refine (I.hok b u e).stay (fun c v hcv q=>?_) (fun _ q=>q) fun _ _ q=>q;rcases hcv with z | z
   · rw [z] at q ⊢; exact w.keep b v (nfs b u e) (nch b u e) q
   · exact w.keep c v (nfs c _ z) (nch c _ z) q
 · obtain ⟨l1,n1,o,vs,ho,hd⟩:=hc b hb;refine ⟨.inr (Nat.le_trans NN l1),fun z=>?_,fun x c e z=>?_,fun p hp z=>?_⟩
   · obtain ⟨m,⟨o',es,ep,ho',hd',_⟩,_⟩:=I.loc;rw [←z,ho] at ho'; cases ho'; rw [hd] at hd'; cases hd'
   · obtain ⟨v,o',ho',hd'⟩:=I.cell x c e;rw [z,ho] at ho'; cases ho'; rw [hd] at hd'; cases hd'
   · have:=TB p (by simpa using hp);rw [z] at this;exact absurd l1 (Nat.not_le.mpr this)
end
noncomputable def CXo (P:Program) (w:World):CXT:=fun outer H s E e s'=>∃ a C d H',e= .ref a∧s'.os=s.os∧AllBare s'.gens∧Un (frs outer) [] H H' s.heap s'.heap∧HOk P w H' s'.heap∧iF s'.heap s.heap.objs.size H' a C d∧E C d H'
noncomputable def xeO (X:Cx) (E:XK):Value→Shared→Prop:=fun e s'=>∃ a C d σ H',e= .ref a∧Inv X [] σ H' s'∧uG s'.heap X.lo H' a C d∧E C d H'
structure Own (X:Cx):Prop where
 st:X.stack=X.env :: X.outer
 fr:X.env.frame=some X.env.locals
theorem iF.mono {h:Heap} {lo lo':Nat} {H:Hp} {e:Addr} {C:Value} {d:Option Addr} (x:iF h lo H e C d) (hl:lo'≤lo):iF h lo' H e C d:=by
 obtain ⟨le,he0,oe,vs,he,hc,hdd,hd,hsz,T,oT,ts,fl,h1,lT,r⟩:=x;exact ⟨Nat.le_trans hl le,he0,oe,vs,he,hc,hdd,hd,hsz,T,oT,ts,fl,h1,Nat.le_trans hl lT,r⟩
section
variable {X:Cx} {E:XK}
theorem IY {a:Addr} {C:Value} {d:Option Addr} {σ:St} {H:Hp} {s:Shared} {M:Model} {E':Value→Shared→Prop} {Q:Unit→Shared→Prop} (ow:Own X) (I:Inv X [] σ H s) (x:uG s.heap X.lo H a C d)
   (h:∀ h',Inv X [] σ H { s with heap:=h' }→iF h' X.lo H a C d→Q () { s with heap:=h' }):wpAny M X.A (noteFrame (.ref a) X.env) Q E' s:=by
 have hl:=I.stack;rw [ow.st] at hl;refine aH1 (base:=X.base) (outer:=X.outer) (by rw [I.ok.frames,ow.st]) hl ow.fr I.lo_le (fun b hb=>I.hok.fresh hb) x fun h' ch hc w x'=>?_;rw [←ow.st] at w;exact h h' (I.way hc w) x'
theorem nW {a:Addr} {C:Value} {d fo:Option Addr} {σ:St} {H:Hp} {s:Shared} {M:Model} {A:Around} {E':Value→Shared→Prop} {Q:Unit→Shared→Prop} (ow:Own X) (I:Inv X [] σ H s) (x:uG s.heap X.lo H a C d)
   (h:∀ h',Inv X [] σ H { s with heap:=h' }→uG h' X.lo H a C d→(iF s.heap X.lo H a C d→iF h' X.lo H a C d)→Q () { s with heap:=h' }):wpAny M A (setFlight (.ref a) fo) Q E' s:=by
 have hl:=I.stack;rw [ow.st] at hl;refine VE (base:=X.base) (outer:=X.outer) (env:=X.env) hl x fun h' ch hc w x' xt=>?_;rw [←ow.st] at w;exact h h' (I.way hc w) x' xt
theorem HL {h:Heap} {lo:Nat} {H:Hp} {a:Addr} {C:Value} {d:Option Addr} {M:Model} {A:Around} {E':Value→Shared→Prop} {Q:Value→Shared→Prop} {s:Shared} (x:iF s.heap lo H a C d) (h:∀ T,Q (.ref T) s):wpAny M A (field (.ref a) 1) Q E' s:=by
 obtain ⟨le,he0,oe,vs,he,hc,hdd,hd,hsz,T,oT,ts,fl,h1,r⟩:=x;exact wpAny_field he hd h1 (h T)
theorem aJ5 {a:Addr} {C:Value} {d:Option Addr} {σ:St} {H:Hp} {s:Shared} (ow:Own X) (I:Inv X [] σ H s) (x:iF s.heap X.lo H a C d) (q:E C d H):cameBackBy (model X.prog X.w) X.A X.env (xeO X E) (.ref a) s:=by
 unfold cameBackBy;refine wAq (HL (h:=s.heap) x fun T=>?_);rw [if_neg (by simp)];exact nW ow I (.inr x) fun h' I' x' _=>⟨a,C,d,σ,H,rfl,I',x',q⟩
theorem aKs (ow:Own X):PassesOwn (model X.prog X.w) X.A X.env (xeO X E):=by
 rintro e s' ⟨a,C,d,σ,H,rfl,I,x,q⟩;unfold notedBy;exact IY ow I x fun h' I' x'=>aJ5 ow I' x' q
theorem aF3 {s':Shared} {e:Value} {M:Model} {E':Value→Shared→Prop} {Q:Unit→Shared→Prop} (ow:Own X) (hx:xeO X E e s') (h:∀ s'' a C d σ H,e= .ref a→Inv X [] σ H s''→iF s''.heap X.lo H a C d→E C d H→Q () s''):wpAny M X.A (leaving X.env e) Q E' s':=by
 obtain ⟨a,C,d,σ,H,rfl,I,x,q⟩:=hx;unfold leaving;refine wAq (IY ow I x fun h' I' x'=>?_);exact nW ow I' (.inr x') fun h2 I2 _ x2=>h _ a C d σ H rfl I2 (x2 x') q
theorem PSs.wishO {st:List Stmt} {t:TS} {E2:Value→Shared→Prop} (h:PSs (X.wish E2) st t) (f:∀ e s',E2 e s'→X.xe e s'):PSs X st t:=fun pins s σ H D I hw =>
 wpAny_mono (h pins s σ H D (I.wish _) hw) (fun _ _ q=>q.unwish) f
end
theorem ZF {CX:CXT} {P:Program} {w:World} {K:W.Frag} {mg:Str→Option Value} {base:Heap} {N:List Str} {qual:Str} {scope:Scope} {f:Addr} {cd:Value} {A:Around} {outer:List Env} {s:Shared} {H:Hp} {E:XK} :
   Own (sB CX P w K mg base N qual scope f cd A outer s H E):=⟨rfl,rfl⟩
theorem aIp {P:Program} {w:World} {K:W.Frag} {mg:Str→Option Value} {base:Heap} {k:Nat} {f:Addr} {name qual:Str} {params:Arguments} {body:List Stmt} {scope:Scope} {dV kV doc pm cdv ct oc:Value} {an od:Option Addr}
   {osl:Array (Option Value)} {N ps:List Str} {sp:Sp} (lk:K.lookup f=some ⟨oc,od,.func (W.fnOf name qual params body scope dV kV doc pm an cdv ct),osl⟩) (hcd:W.codeIn K cdv qual=true) (S:fP N ps scope)
   (len:∀ vs H Q E,sp vs H Q E→vs.length=ps.length)
   (hbody:∀ (A:Around) (outer:List Env) (s:Shared) (H:Hp) (vs:List V) (Q:VK) (E:XK),bK k (A.deeper (envOfC qual scope s.heap.objs.size f cdv))→sp vs H Q E→
     ∃ t,PSs ((sB (CXo P w) P w K mg base N qual scope f cdv A outer s H E).wish (xeO (sB (CXo P w) P w K mg base N qual scope f cdv A outer s H E) E)) body t∧t { nx:=fun _ H'=>Q .non H',rt:=Q } (start N vs) H) :
   bC P w K mg base (CXo P w) (k + 1) f (W.fnOf name qual params body scope dV kV doc pm an cdv ct) ps sp:=by
 refine aAA lk hcd S len fun A outer s H vs Q E hr hsp=>?_;obtain ⟨t,ht,hq⟩:=hbody A outer s H vs Q E hr hsp;refine ⟨t,ht.wishO fun e s' hx=>?_,hq⟩;have ow:Own (sB (CXo P w) P w K mg base N qual scope f cdv A outer s H E):=ZF;show wpAny _ _ (leaving _ e) _ _ s';refine aF3 ow hx fun s'' a C d σ H' ee I x q=>?_;exact ⟨a,C,d,H',ee,I.os,I.bare,I.base,I.hok,x,q⟩
end L2
namespace LX
open PySem PySem.W PyProof.Rows
open PySem.Builtin PySem.Builtin.ObjectAttr
noncomputable def vE:List Value:=[.type "ValueError",.type "Exception",.type "BaseException",.type "object"]
noncomputable def aE:List Value:=[.type "ArithmeticError",.type "Exception",.type "BaseException",.type "object"]
noncomputable def lE:List Value:=[.type "LookupError",.type "Exception",.type "BaseException",.type "object"]
noncomputable def lF:List Value→Bool
 | .ref _ :: r=>lF r
 | l=>l == vE || l == aE || l == lE
theorem aAq (self:Value):refuseLoop self "__setattr__" vE=pure ():=by kernel_rfl
theorem aA9 (self:Value):refuseLoop self "__setattr__" aE=pure ():=by kernel_rfl
theorem ZI (self:Value):refuseLoop self "__setattr__" lE=pure ():=by kernel_rfl
theorem rQ {v:Value} {r:List Value} (e:lF (v :: r)=true):(∃ c,v= .ref c∧lF r=true)∨(v :: r=vE∨v :: r=aE∨v :: r=lE):=by
 cases v with
 | ref c=>exact .inl ⟨c,rfl,e⟩
 | _ =>
   refine .inr ?_;unfold lF at e;simp only [Bool.or_eq_true,beq_iff_eq] at e;rcases e with (e | e) | e
   · exact .inl e
   · exact .inr (.inl e)
   · exact .inr (.inr e)
theorem vZ (self:Value):∀ {l:List Value},lF l=true→refuseLoop self "__setattr__" l=pure ()
 | [],e=>by cases e
 | v :: r,e=>by
   rcases rQ e with ⟨c,rfl,e⟩ | e | e | e
   · rw [refuseLoop_ref]; exact vZ self e
   · rw [e]; exact aAq self
   · rw [e]; exact aA9 self
   · rw [e]; exact ZI self
theorem MX:∀ {l:List Value},lF l=true→l.contains (.type "object")=true
 | [],e=>by cases e
 | v :: r,e=>by
   rcases rQ e with ⟨c,rfl,e'⟩ | e | e | e
   · rw [List.contains_cons,MX e',Bool.or_true]
   · rw [e]; decide
   · rw [e]; decide
   · rw [e]; decide
theorem wP:∀ {l:List Value},lF l=true→l.contains (.type "BaseException")=true
 | [],e=>by cases e
 | v :: r,e=>by
   rcases rQ e with ⟨c,rfl,e'⟩ | e | e | e
   · rw [List.contains_cons,wP e',Bool.or_true]
   · rw [e]; decide
   · rw [e]; decide
   · rw [e]; decide
theorem tJ:Slot "ValueError" "__getattribute__" "BaseException.__getattribute__":=PySem.F.excAttr_ValueError.ga
noncomputable def iW (K:Frag) (C:Addr):Bool:=(clsIn K C).any fun cd=>lF cd.mro
section
variable {prog:Program} {w:World} {A:Around} {E:Value→Shared→Prop} {s:Shared} {K:Frag} {x C:Addr} {name:Str} {v:Value} {R:Result→Shared→Prop}
theorem QT {ox:Obj} {od:Option Obj} {tk:Tok} {r:Option Value} (X:K.In s.heap) (I:InstAt s.heap x ox C od) (hp:iW K C=true) (ht:takerIn K C name=some r)
   (h :∀ b,wpAny (model prog w) A.in1 (match r with | some a=>setByDescriptor a (.ref x) v | none=>storeInOwnDict (.ref x) (.ref C) (.str name tk) name v b)
     (fun fin s'=>match fin with | .done f=>R (.ok f) s' | .again c'=>c'.quiet=true∧codeAny (model prog w) A c' R s') (fun e s'=>R (.error e) s') s) :
   codeAny (model prog w) A (.call (.builtin "object.__setattr__") ⟨[.ref x,.str name tk,v],[]⟩) R s:=by
 have SF:=PySem.F.store_object;obtain ⟨cd,hc,ho⟩:=any_some hp;have ne:cd.mro.isEmpty=false:=by cases q:cd.mro with | nil=>rw [q] at ho; cases ho | cons _ _=>rfl
 have sub:Looks (model prog w) s.heap (isInstance (.ref x) (.type "object")) true:=I.type.andThen (looks_mroIn X (by unfold mroIn; rw [hc,Option.bind_some,if_neg (by rw [ne]; decide),MX ho]));refine codeAny_call_builtin SF.slot.plain SF.entry (@check_slot (model prog w) _ _ s "object.__setattr__" "object" "__setattr__" (.ref x) [.str name tk,v] [] _ SF.kind SF.split sub (SF.args (.ref x) (.str name tk) v) ?_);obtain ⟨attr,ha,hr⟩:=Option.bind_eq_some_iff.mp ht;have hm:Looks (model prog w) s.heap (mroOf (.ref C)) cd.mro:=(looks_clsIn X hc).andThen .now;have L3:Looks (model prog w) s.heap (storeTaker? attr) r:=by
   cases attr with
   | none=>cases hr; exact .now
   | some a =>
     obtain ⟨b,hb,rfl⟩:=Option.map_eq_some_iff.mp hr;refine (looks_takesIn X hb).andThen ?_;cases b <;> exact .now
 rw [osa_eq,refuse_eq];refine wAq (wAq (I.type.here (wAq (hm.here ?_))));rw [vZ _ ho];refine wBq (wAq (I.type.here (wAq ((looks_findIn X ha).here (wAq (L3.here ?_))))));exact h _
theorem aCD {vs:Array Value} {Q:Unit→Shared→Prop} (X:K.In s.heap) (hx:s.heap.get? x=some ⟨.ref C,none,.fields vs, #[]⟩)
   (hs:findIn K (.ref C) "__setattr__"=some (some (.builtin "object.__setattr__"))) (hp:iW K C=true) (ht:takerIn K C name=some none) (hh:hasDictIn K C=true)
   (h:∀ h' d,s.heap.objs.size≤d→h'.get? x=some ⟨.ref C,some d,.fields vs, #[]⟩→h'.Ns1 d (fun y=>if y=name then some v else none)→(∀ b o,b≠x→s.heap.get? b=some o→h'.get? b=some o)→Q () { s with heap:=h',toks:=s.toks + 2 }) :
   wpAny (model prog w) A (setAttr (.ref x) name v) Q E s:=by
 have J:InstAt s.heap x ⟨.ref C,none,.fields vs, #[]⟩ C none:=⟨hx,rfl,rfl,trivial⟩;refine set_plain X J hs (QT (s:={ s with toks:=s.toks + 1 }) (r:=none) X J hp ht fun b=>?_);obtain ⟨cd,hc,hd'⟩:=any_some hh;refine wAq (wBq (wAq (wAq (wpAny_loadPart hx (wAq (Looks.here (s:={ s with toks:=s.toks + 1 }) (looks_clsIn X hc) ?_))))));rw [hd'];dsimp only;rw [if_neg (by decide),if_neg (by simp [typeHasDict])];obtain ⟨hp2,g,d2,tk,os⟩:=s;have hx₁:(hp2.push { cls:=.type "dict",data:=.dict #[] }).get? x=some ⟨.ref C,none,.fields vs, #[]⟩:=wEq _ hx;have hxs:x≠hp2.objs.size:=Nat.ne_of_lt (Heap.lt_size hx);refine wAq (wpAny_alloc' ?_);refine wAq (wpAny_update' hx₁ ?_);refine wBq (a:=some hp2.objs.size) ?_;have hgd:((hp2.push { cls:=.type "dict",data:=.dict #[] }).update x fun o=>{ cls:=o.cls,dict:=some hp2.objs.size,data:=o.data,slots:=o.slots }).get? hp2.objs.size
     =some { cls:=.type "dict",data:=.dict #[] } :=
   (Heap.get?_update_ne _ _ _ _ hxs.symm).trans (Heap.get?_push_at rfl rfl)
 have hnd:((hp2.push { cls:=.type "dict",data:=.dict #[] }).update x fun o=>{ cls:=o.cls,dict:=some hp2.objs.size,data:=o.data,slots:=o.slots }).Ns hp2.objs.size (fun _=>none) :=
   ⟨_, #[],_,hgd,rfl,fun e he=>absurd he (by simp),fun _=>rfl⟩
 show wpAny _ _ (storeInDict hp2.objs.size (.str name _) name v) _ _ _;unfold storeInDict newKeyGuard;refine wAq (wBq (wAq (wpAny_nsSet1 (Heap.Ns1.of_empty hnd) fun h' hn' hs=>?_)));obtain ⟨oD,esD,epD,hoD,hdD,hcD⟩:=hn'.count (Within.cons name v Within.nil);refine wAq (wpAny_lookBehind hoD (by rw [hdD]; exact pastItsLine_dict (Nat.le_trans hcD (by rw [List.length_cons,List.length_nil,sizeLine_eq]; omega))) ?_);refine wBq (h h' hp2.objs.size (Nat.le_refl _) ?_ hn' fun b o hb ho=>?_)
 · exact (hs.2 x hxs).trans (Heap.get?_update_self _ hx₁ rfl)
 · exact (hs.2 b (Nat.ne_of_lt (Heap.lt_size ho))).trans ((Heap.get?_update_ne _ _ _ _ hb).trans (wEq _ ho))
theorem aBP {ox:Obj} {od:Option Obj} {expr:Bool} {Q:Value→Shared→Prop} (X:K.In s.heap) (I:InstAt s.heap x ox C od) (hga:findIn K (.ref C) "__getattribute__"=some (some (.builtin "BaseException.__getattribute__")))
   (hk:findIn K (.ref C) "__getattr__"=some none) (hp:iW K C=true) (hf:findObj K C od name=some (.value v)) (hh:handedIn v=true) (h:Q v { s with toks:=s.toks + 1 }) :
   wpAny (model prog w) A (getAttr (.ref x) name expr) Q E s:=by
 obtain ⟨cd,hc,ho⟩:=any_some hp;have ne:cd.mro.isEmpty=false:=by cases q:cd.mro with | nil=>rw [q] at ho; cases ho | cons _ _=>rfl
 have sub:Looks (model prog w) s.heap (isInstance (.ref x) (.type "BaseException")) true:=I.type.andThen (looks_mroIn X (by unfold mroIn; rw [hc,Option.bind_some,if_neg (by rw [ne]; decide),wP ho]));have L0:=I.type (M:=model prog w);have L1:=looks_findIn (M:=model prog w) X hga;have L2:=looks_findIn (M:=model prog w) X hk;have L3:=looks_find (M:=model prog w) X I hf;obtain ⟨hh',g,d,t,os⟩:=s;unfold getAttr getAttrBy;refine wAq (wpAny_mkText (wpAny_holding (wAq (L0.at (wAq (L1.at ?_))))));dsimp only;rw [if_neg (by simp [onTheHeap])];unfold getAttrByItsOwn hookBefore;rw [if_pos (show onTheHeap (Value.ref C)=true from rfl)];refine wAq (L2.at (wAq (wpAny_attempt (wpAny_holding ?_))));unfold callGetattribute;rw [if_neg (by cases expr <;> simp [onTheHeap])];unfold boundAndCalled;rw [tJ.bind];refine wAq (wBq (wpAny_call ?_));refine codeAny_call_builtin tJ.plain PySem.F.entry_bexc_ga (@check_slot (model prog w) _ _ _ "BaseException.__getattribute__" "BaseException" "__getattribute__" (.ref x) [.str name _] [] _ (by decide +kernel) (by decide +kernel) sub (PySem.F.args_bexc_ga (.ref x) _) ?_);refine wAq (wBq (wAq (wBq (a:=name) (wAq (L0.at (wAq (L3.at ?_)))))));refine wBq ?_;show wpAny _ _ (handedOut v) _ _ _;rw [handedOut_of hh]; exact wBq h
end
end LX
namespace LX
open PySem PySem.W PyProof.Rows
open PySem.Builtin PySem.Builtin.ObjectAttr
noncomputable abbrev exO (C:Value) (d:Option Addr) (t:Addr):Obj:={ cls:=C,dict:=d,data:=.fields #[.ref t,.none,.none,.none,.bool false,.none] }
section
variable {prog:Program} {w:World} {A:Around} {E:Value→Shared→Prop} {h:Heap} {g:Array GenState} {d:Drawn} {t:Nat} {os:OsState}
variable {nm q:Str} {C N:Addr} {bs bm bmB:List Value} {hdct:Bool} {sn:List Str} {sub:List Value} {ab:Bool} {col:Option Bool} {dd:Option Addr} {k0 k1 k2 k3 k5:Option Value} {B newId initId:String}
noncomputable abbrev mdX (h:Heap) (C:Addr) (aV:List Value):Heap:=(h.push { cls:=.type "tuple",data:=.seq aV.toArray }).push (exO (.ref C) none h.objs.size)
theorem HP (F:ExcBaseFacts B newId initId bmB) (T:OwnTail h bmB bm) {mN:Str→Option Value} {aV:List Value} {fI:Addr} {oI:Obj} {Q:Fin→Shared→Prop}
   (hC:h.get? C=some (excClassObj nm q C N bs bm hdct sn sub ab col dd k0 k1 k2 k3 k5 newId)) (hn:h.Ns N mN) (hi:mN "__init__"=some (.ref fI))
   (hfI:h.get? fI=some oI) (hfc:oI.cls= .type "function")
   (hq:wpAny (model prog w) A (call (.ref fI) (.ref (h.objs.size + 1) :: aV)) (fun r s'=>r= .none∧Q (.done (.ret (.ref (h.objs.size + 1)))) s') E ⟨mdX h C aV,g,d,t,os⟩) (hrest:aV.length≤sizeLine:=by size_fits) :
   wpAny (model prog w) A (Builtin.«type.__call__» ⟨.ref C :: aV,[]⟩) Q E ⟨h,g,d,t,os⟩:=by
 repeat (first | with_reducible refine wpAny_loadPart_at hC ?_ | with_reducible refine wpAny_madeBy_exc hC ?_ | wp_step)
 refine codeAny_call_builtin_code (Code.quiet_builtin _ F.quiet) (wpAny_check_new_subT F T hC ?_);refine codeAny_exc_new_subT F T hC ?_ hrest;show wpAny _ _ _ _ _ _;have hC₁:=wEq { cls:=.ref C,data:=.fields #[.ref h.objs.size,.none,.none,.none,.bool false,.none] }
   (wEq { cls:=.type "tuple",data:=.seq aV.toArray } hC)
 have hfI₁:=wEq { cls:=.ref C,data:=.fields #[.ref h.objs.size,.none,.none,.none,.bool false,.none] }
   (wEq { cls:=.type "tuple",data:=.seq aV.toArray } hfI)
 have hn₁:((h.push { cls:=.type "tuple",data:=.seq aV.toArray }).push { cls:=.ref C,data:=.fields #[.ref h.objs.size,.none,.none,.none,.bool false,.none] }).Ns N mN:=let ⟨o,es,ep,e,r⟩:=hn; ⟨o,es,ep,wEq _ (wEq _ e),r⟩
 have hget:((h.push { cls:=.type "tuple",data:=.seq aV.toArray }).push { cls:=.ref C,data:=.fields #[.ref h.objs.size,.none,.none,.none,.bool false,.none] }).get? (h.objs.size + 1)=some { cls:=.ref C,data:=.fields #[.ref h.objs.size,.none,.none,.none,.bool false,.none] }:=by heap_get
 have hcC:(Value.ref C :: bm).contains (.ref C)=true:=by simp
 have T₁:=T.keeps (h':=((h.push { cls:=.type "tuple",data:=.seq aV.toArray }).push { cls:=.ref C,data:=.fields #[.ref h.objs.size,.none,.none,.none,.bool false,.none] })) fun b o e=>wEq _ (wEq _ e);unfold isInstance
 repeat (first | with_reducible refine wpAny_loadPart_at hget ?_ | (with_reducible refine wpAny_isSubtype_exc hC₁ ?_; rw [hcC]) | wp_step)
 show wpAny _ _ (typeLookup (.ref C) _) _ _ _;refine wpAny_typeLookup_tail hC₁ hn₁ T₁ F.mroIs F.init.lookup ?_;rw [hi];refine wpAny_holding (wAq ?_);unfold bindSpecial;refine wAq (wpAny_typeOf (T:="function") ⟨_,hfI₁,hfc⟩ ?_);rw [if_pos (by decide)];refine wBq (wAq (wpAny_mono hq (fun r s' hr=>?_) fun _ _ x=>x));obtain ⟨rfl,hQ⟩:=hr
 wp_walk
 exact hQ
theorem QH (F:ExcBaseFacts B newId initId bmB) (T:OwnTail h bmB bm) {mN:Str→Option Value} {aV:List Value} {fI:Addr} {oI:Obj} {Q:Value→Shared→Prop}
   (hC:h.get? C=some (excClassObj nm q C N bs bm hdct sn sub ab col dd k0 k1 k2 k3 k5 newId)) (hn:h.Ns N mN) (hi:mN "__init__"=some (.ref fI))
   (hfI:h.get? fI=some oI) (hfc:oI.cls= .type "function")
   (hq:wpAny (model prog w) (A.under (.builtin "type.__call__" ⟨.ref C :: aV,[]⟩)) (call (.ref fI) (.ref (h.objs.size + 1) :: aV)) (fun r s'=>r= .none∧Q (.ref (h.objs.size + 1)) s') E ⟨mdX h C aV,g,d,t,os⟩) (hrest:aV.length≤sizeLine:=by size_fits) :
   wpAny (model prog w) A (call (.ref C) aV) Q E ⟨h,g,d,t,os⟩:=by
 have f1:=tc_lookup;have f2:=tc_bind (.ref C);have hT:(⟨h,g,d,t,os⟩:Shared).TypeIs (.ref C) "type":=⟨_,hC,rfl⟩;refine wpAny_call (codeAny_of_tree ?_);show wpAny _ _ (callAny (.ref C) _) _ _ _
 repeat (any_goals (first | assumption | with_reducible refine wpAny_loadPart_at hC ?_ | wp_step))
 refine ⟨rfl, ?_⟩;refine codeAny_call_builtin_at (Code.quiet_builtin _ (by decide +kernel)) entry_typeCall (wpAny_check_type_call_sub hC (HP (hrest:=hrest) F T hC hn hi hfI hfc hq))
theorem SU (F:ExcBaseFacts B newId initId bmB) (T:OwnTail h bmB bm) {e t0:Addr} {aV:List Value} {Q:Value→Shared→Prop}
   (hC:h.get? C=some (excClassObj nm q C N bs bm hdct sn sub ab col dd k0 k1 k2 k3 k5 newId)) (he:h.get? e=some (exO (.ref C) none t0))
   (hq:∀ h' tt,(∀ b o,b≠e→h.get? b=some o→h'.get? b=some o)→h'.get? e=some (exO (.ref C) none tt)→Q .none ⟨h',g,d,t,os⟩) (hrest:aV.length≤sizeLine:=by size_fits) :
   wpAny (model prog w) A (call (.builtin initId) (.ref e :: aV)) Q E ⟨h,g,d,t,os⟩:=by
 have he:h.get? e=some { cls:=.ref C,data:=.fields #[.ref t0,.none,.none,.none,.bool false,.none] }:=he;refine wpAny_call (codeAny_call_builtin F.init.plain F.initEntry (wpAny_check_init_subT F T hC he rfl ?_))
 wp_walk
 refine hq _ h.objs.size (fun b o hb ho=>?_) ?_
 · rw [Heap.get?_update_other _ _ (Ne.symm hb)];exact wEq _ ho
 · rw [Heap.get?_update_self _ (wEq _ he) rfl];rfl
theorem aBS {s:Shared} {x:Sem Value} {env:Env} {Q:Flow→Shared→Prop} (hbase:bm.contains (.type "BaseException")=true) (hh:A.handled=none)
   (hx:wpAny (model prog w) A x (fun v s₁=>∃ e tt dx,v= .ref e∧s₁.heap.get? C=some (excClassObj nm q C N bs bm hdct sn sub ab col dd k0 k1 k2 k3 k5 newId)∧
     s₁.heap.get? e=some (exO (.ref C) dx tt)∧E (.ref e) s₁) E s) :
   wpAny (model prog w) A (raiseStmt env (some x) none) Q E s:=by
 have hcB:(Value.ref C :: bm).contains (.type "BaseException")=true:=by rw [List.contains_cons,hbase,Bool.or_true]
 unfold raiseStmt;refine wAq (wpAny_mono hx (fun v s₁ h₁=>?_) fun _ _ x=>x);obtain ⟨e,t,dx,rfl,hC,he,hE⟩:=h₁;obtain ⟨hp,g,d,tk,os⟩:=s₁;have he:hp.get? e=some { cls:=.ref C,dict:=dx,data:=.fields #[.ref t,.none,.none,.none,.bool false,.none] }:=he
 repeat (first | with_reducible refine wpAny_loadPart_at he ?_ | with_reducible refine wpAny_loadPart_at hC ?_ | (with_reducible refine wpAny_isSubtype_exc hC ?_; rw [hcB]) | wp_step)
 exact wpAny_raiseNew_none hh hE
end
end LX
namespace LX
open PySem PySem.W PyProof.Rows
theorem JB {K:Frag} {h:Heap} {N:Addr} {mg:Str→Option Value} {n:Str} {v:Value} (X:K.In h) (G:h.Ns N mg) (e:nsIn K N n=some (some v)):mg n=some v:=by
 obtain ⟨o,es,ep,ho,hd,_,hf⟩:=G;unfold nsIn at e;split at e
 · rename_i c d es' n' sl q;have:=X _ _ q;rw [ho] at this;cases this;cases hd;split at e
   · rename_i he;rw [←hf];unfold nsFind findBy;rw [←Array.find?_toList,he];exact Option.some.inj e
   · split at e
     · cases e
     · cases e
 · cases e
theorem aMl {K:Frag} {h:Heap} {N:Addr} {n:Str} {iv:Option Value} (X:K.In h) (e:nsOkIn K N=true) (q:nsIn K N n=some iv):h.nsMap N n=iv:=by
 cases iv with
 | none=>exact nsMap_none_of_in X e q
 | some v=>exact JB X (.of_isNs (isNs_of_in X e)) q
noncomputable def rJ (K:Frag) (C:Addr) (bmB:List Value) (newId:String) (iv:Option Value):Bool:=match K.lookup C with
 | some ⟨.type "type",_,.cls cd,sl⟩=>(match cd.mro,sl.toList with
   | .ref C' :: bm,[_,_,_,_,some (.builtin n),_]=>C' == C && n == newId && !cd.hasDel && tailIn K bmB bm && nsOkIn K cd.ns && nsIn K cd.ns "__init__" == some iv
   | _,_=>false)
 | _=>false
structure Shp (K:Frag) (C:Addr) (bmB:List Value) (newId:String) (iv:Option Value) (bm:List Value) (N:Addr) (nm qn:Str) (bs:List Value) (hd:Bool) (sn:List Str) (sub:List Value) (ab:Bool) (col:Option Bool) (dd:Option Addr) (k0 k1 k2 k3 k5:Option Value):Prop where
 lk:K.lookup C=some (excClassObj nm qn C N bs bm hd sn sub ab col dd k0 k1 k2 k3 k5 newId)
 ok:nsOkIn K N=true
 ini:nsIn K N "__init__"=some iv
 tl:tailIn K bmB bm=true
theorem HD {K:Frag} {C:Addr} {bmB:List Value} {newId:String} {iv:Option Value} (q:rJ K C bmB newId iv=true) :
   ∃ bm N nm qn bs hd sn sub ab col dd k0 k1 k2 k3 k5,Shp K C bmB newId iv bm N nm qn bs hd sn sub ab col dd k0 k1 k2 k3 k5:=by
 unfold rJ at q;split at q
 · rename_i dd cd sl ho;split at q
   · rename_i C' bm k0 k1 k2 k3 n k5 hm hs;simp only [Bool.and_eq_true,beq_iff_eq,Bool.not_eq_true'] at q;obtain ⟨⟨⟨⟨⟨rfl,rfl⟩,hdel⟩,ht⟩,hok⟩,hni⟩:=q;obtain ⟨nm,bs,mro,ns,qn,hd,sn,sub,ab,col,del⟩:=cd;dsimp only at hm hdel hok hni;subst hm hdel;have hsl:sl= #[k0,k1,k2,k3,some (.builtin n),k5]:=by
       obtain ⟨l⟩:=sl;simp only at hs;rw [hs]
     subst hsl;exact ⟨bm,ns,nm,qn,bs,hd,sn,sub,ab,col,dd,k0,k1,k2,k3,k5,ho,hok,hni,ht⟩
   · cases q
 · cases q
end LX
namespace L2
open PySem PySem.Spec
open PyProof.Rows hiding St
noncomputable def XN (e C:Addr):Heap→Prop:=fun h=>∃ t,h.get? e=some (LX.exO (.ref C) none t)
noncomputable def XD (e C d:Addr):Heap→Prop:=fun h=>∃ t,h.get? e=some (LX.exO (.ref C) (some d) t)
section
variable {P:Program} {w:World} {H:Hp} {h:Heap} {e C d:Addr}
theorem XN.ok (x:XN e C h):bE P w H h e (.ext (XN e C)):=⟨x,let ⟨t,q⟩:=x; ⟨_,q⟩,by rintro h1 h2 ⟨t,q⟩ k;exact ⟨t,k _ q⟩⟩
theorem XD.ok (x:XD e C d h):bE P w H h e (.ext (XD e C d)):=⟨x,let ⟨t,q⟩:=x; ⟨_,q⟩,by rintro h1 h2 ⟨t,q⟩ k;exact ⟨t,k _ q⟩⟩
end
noncomputable def del (H:Hp) (a:Addr):Hp:=fun b=>if b=a then none else H b
theorem CB {H:Hp} {a b:Addr} (h:b≠a):del H a b=H b:=if_neg h
theorem vO {H:Hp} {a:Addr}:del H a a=none:=if_pos rfl
section
variable {X:Cx} {pins:List (Addr×Obj)} {σ:St} {H:Hp} {s:Shared}
theorem Inv.untrack {e:Addr} {φ:Heap→Prop} (I:Inv X pins σ H s) (he:H e=some (.ext φ)):Inv X pins σ (del H e) s:=by
 have no:∀ b,H b=none→del H e b=none:=fun b n=>by
   by_cases z:b=e
   · subst z; exact vO
   · rw [CB z]; exact n
 have ke:∀ b u,H b=some u→u≠.ext φ→del H e b=some u:=fun b u q nu=>by
   rw [CB (WF q he nu)]; exact q
 refine ⟨I.ok,I.os,I.bare,⟨I.base.keep,I.base.slot,fun b o q n hx=>no b (I.base.free b o q n hx),I.base.there,fun b xs q=>ke _ _ (I.base.tups b xs q) (by intro z; cases z),fun b o u q=>ke _ _ (I.base.frzs b o u q) (by intro z; cases z),fun b ps q=>?_⟩,I.loc,I.cell,no _ I.free,fun x c q=>no _ (I.freeC x c q),fun p hp=>?_,fun b u q=>?_,I.len⟩
 · obtain ⟨m,e1⟩:=I.base.tbls b ps q;exact ⟨m,ke _ _ e1 (by intro z; cases z)⟩
 · obtain ⟨a1,a2,a3⟩:=I.pin p hp;exact ⟨a1,no _ a2,a3⟩
 · have z:b≠e:=fun z=>by subst z; rw [vO] at q; cases q
   rw [CB z] at q;exact (I.hok b u q).stay (fun _ _ _ r=>r) (fun c r=>ke _ _ r (by intro z; cases z)) fun c xs r=>ke _ _ r (by intro z; cases z)
theorem Inv.xwrite {e C:Addr} {h':Heap} {t':Nat} (I:Inv X pins σ H s) (he:H e=some (.ext (XN e C))) (k:∀ b o,b≠e→s.heap.get? b=some o→h'.get? b=some o) (x:XN e C h'):Inv X pins σ H { s with heap:=h',toks:=t' }:=by
 have hu:upd H e (.ext (XN e C))=H:=by
   funext b
   unfold upd;split
   · rename_i z; rw [z,he]
   · rfl
 have:=I.write (x:=e) (e:=e) (o:=.ext (XN e C)) (t':=t') (by rw [he]; exact True.intro) (.inl rfl) k (let ⟨t,q⟩:=x; ⟨_,q⟩) x.ok;rw [hu] at this;exact this
theorem Inv.xdict {e C d:Addr} {h':Heap} {t':Nat} {f:Str} {v:V} {u:Value} (I:Inv X pins σ H s) (he:H e=some (.ext (XN e C))) (hd:s.heap.objs.size≤d) (k:∀ b o,b≠e→s.heap.get? b=some o→h'.get? b=some o) (x:XD e C d h')
   (hn:h'.Ns1 d (fun y=>if y=f then some u else none)) (r:aO v u):Inv X pins σ (upd (upd H e (.ext (XD e C d))) d (.xd [(f,v)])) { s with heap:=h',toks:=t' }:=by
 have hdn:H d=none:=I.hok.fresh hd;have hde:d≠e:=fun z=>by subst z; rw [he] at hdn; cases hdn
 have ou:∀ b,b≠d→b≠e→upd (upd H e (.ext (XD e C d))) d (.xd [(f,v)]) b=H b:=fun b h1 h2=>by rw [aD h1,aD h2]
 have ke:∀ b o,H b=some o→o≠.ext (XN e C)→upd (upd H e (.ext (XD e C d))) d (.xd [(f,v)]) b=some o:=fun b o q nu=>by rw [ou b (aH q hdn) (WF q he nu)]; exact q
 have ne0:∀ b,H b=none→b≠e:=fun b n z=>by subst z; rw [he] at n; cases n
 have th:∀ b o,s.heap.get? b=some o→∃ o',h'.get? b=some o':=fun b o q=>by
   by_cases z:b=e
   · subst z; obtain ⟨t,q'⟩:=x; exact ⟨_,q'⟩
   · exact ⟨o,k b o z q⟩
 refine I.un ⟨fun b o q n _ _=>k b o (ne0 b n) q,fun b o q n _ _=>⟨o.slots,k b o (ne0 b n) q⟩,fun b o q n _=>?_,fun b o q _=>th b o q,fun b xs q=>ke b _ q (by intro z; cases z),fun b o u q=>ke b _ q (by intro z; cases z),fun b ps q=>⟨#[],by rw [ke b _ q (by intro z; cases z)]; simp⟩⟩ fun b o q=>?_
 · rw [ou b (Nat.ne_of_lt (wFq (Heap.lt_size q) hd)) (ne0 b n)]; exact n
 · by_cases z:b=d
   · subst z;rw [aI] at q; cases q;refine ⟨_,hn,fun g=>?_⟩;by_cases z:g=f
     · subst z;show pB (List.lookup g [(g,v)]) _;simp only [List.lookup,beq_self_eq_true,if_true];exact r
     · show pB (List.lookup g [(f,v)]) _;have hb:(g == f)=false:=beq_eq_false_iff_ne.mpr z;simp only [List.lookup,hb,if_neg z];exact True.intro
   · by_cases z2:b=e
     · subst z2;rw [aD z,aI] at q; cases q;exact x.ok
     · rw [ou b z z2] at q;refine (I.hok b o q).stay (fun c w hc r=>?_) (fun c r=>ke _ _ r (by intro z; cases z)) fun c xs r=>ke _ _ r (by intro z; cases z);rcases hc with e1 | e1
       · rw [e1] at r ⊢; exact k b w z2 r
       · exact k c w (WF e1 he (by intro z; cases z)) r
end
structure XIn (K:W.Frag) (mg:Str→Option Value) (C f:Addr) (Bn fld:Str):Prop where
 ex :∃ B newId initId bmB BC,ExcBaseFacts B newId initId bmB∧LX.rJ K C bmB newId (some (.ref f))=true∧mg Bn=some (.ref BC)∧W.readsIn K BC (.type "type")=true∧
   W.findCls K (.ref BC) (.type "type") "__init__"=some (.val (.builtin initId))∧W.handedIn (.builtin initId)=true∧W.specialIn K (.ref BC) "__getattribute__"=some (some (.builtin "type.__getattribute__"))
 sa:W.findIn K (.ref C) "__setattr__"=some (some (.builtin "object.__setattr__"))
 ov:LX.iW K C=true
 na:W.takerIn K C fld=some none
 hd:W.hasDictIn K C=true
 kp:W.keepIn K (.ref C)=true
 fn:W.isFn K (.ref f)=true
theorem WO {env:Env} {Bn self t:Str} {p1 p2 p3 p4 p5:Pos} {j:Nat} (hline:(p2.endLine == p5.line)=true):eval (.Call (.Attribute (.Name Bn p1) "__init__" p2) [.Name self p3,.Constant (.str t) j p4] [] p5) env=(do
     let ov ←eval (.Name Bn p1) env
     standAt p2.atName
     let (f,first) ←holding [ov] (getMethod ov "__init__" (do return (←importBound (.Name Bn p1) env).getD true))
     callWith p5 f first (backTo p5 (starEach [.Name self p3,.Constant (.str t) j p4] env)) (backToKw p5 (keywordEach [] env))):=by
 rw [arm_eval_Call];have e0:attributeBase (.Name Bn p1) "__init__" env (eval (.Name Bn p1) env)=eval (.Name Bn p1) env:=rfl;rw [e0];have e2:methodCallPos true (.Name Bn p1) env p2 p5=pure p5:=by unfold methodCallPos; rw [hline]; rfl
 have e1:∀ ov,methodCall (.Name Bn p1) "__init__" p2 p5 env ov ([Expr.Name self p3,Expr.Constant (.str t) j p4].length + ([]:List Keyword).length) (backTo p5 (starEach [.Name self p3,.Constant (.str t) j p4] env)) (backToKw p5 (keywordEach [] env))=(do
     let (f,first) ←holding [ov] (getMethod ov "__init__" (do return (←importBound (.Name Bn p1) env).getD true))
     callWith p5 f first (backTo p5 (starEach [.Name self p3,.Constant (.str t) j p4] env)) (backToKw p5 (keywordEach [] env))):=fun ov=>by
   unfold methodCall;have few:methodCallForm ([Expr.Name self p3,Expr.Constant (.str t) j p4].length + ([]:List Keyword).length) (backTo p5 (starEach [.Name self p3,.Constant (.str t) j p4] env)) (backToKw p5 (keywordEach [] env))=true:=rfl;rw [few,e2];rfl
 simp only [e1]
section
variable {X:Cx} {C f:Addr} {Bn fld self arg:Str} {p1 p2 p3 p4 p5 p6:Pos} {j:Nat} {t:Str} {i i2:Nat}
theorem UJ (hline:(p2.endLine == p5.line)=true) (D:XIn X.K X.mg C f Bn fld) (hg:Gl X Bn) (hN:X.N[i]? =some self) (hv:Vis X.env.scope self) (hd:(self == ("__debug__":Str))=false) (hcd:(self == ("__classdict__":Str))=false) (hdb:(Bn == ("__debug__":Str))=false) :
   PE X (.Call (.Attribute (.Name Bn p1) "__init__" p2) [.Name self p3,.Constant (.str t) j p4] [] p5) (fun σ H Q=>∃ e,σ[i]? =some (some (.ref e))∧H e=some (.ext (XN e C))∧Q .non H):=by
 rintro pins s σ H Q I ⟨e,hs,hH,q⟩;obtain ⟨B,newId,initId,bmB,BC,F,ini,hm,hr,hf,hh,hsp⟩:=D.ex;obtain ⟨bm,N,nm,qn,bs,hdc,sn,sub,ab,col,dd,k0,k1,k2,k3,k5,S⟩:=LX.HD ini;refine W.methodCall_KW (eE I hg hm ?_ hdb) (WO hline);refine W.method_cls I.kIn hsp (W.cls_value I.kIn hr hf hh ?_);have pa:PA X [.Name self p3,.Constant (.str t) j p4] (NS (aI5 i) (NS (tC (.str t)) aF6)):=cF (rH hN hv hd hcd) (cF YF fL);refine callWith_builtin1 (thn (pa p5 pins _ σ H (fun vs H1=>vs=[.ref e,.str t]∧H1=H) (I.tok (s.toks + 1)) ⟨_,hs,rfl,rfl⟩) fun us s1 zz=>?_) rfl rfl;obtain ⟨vs,H1,I1,r,ev,eH⟩:=zz;subst ev eH;obtain ⟨u1,u2,rfl,r1,r3⟩:=DG r;cases r1;obtain ⟨x,_,_⟩:=I1.hok _ _ hH;obtain ⟨t0,he⟩:=x;obtain ⟨hp,g,dr,tk,os⟩:=s1;refine LX.SU F (W.tail_of_in I1.kIn S.tl) (I1.kIn _ _ S.lk) he (fun h' tt k hx=>?_) (by show 1≤sizeLine; decide);exact ⟨.non,H1,I1.xwrite (t':=tk) hH k ⟨tt,hx⟩,rfl,q⟩
theorem aDf (D:XIn X.K X.mg C f Bn fld) (hN:X.N[i]? =some self) (hv:Vis X.env.scope self) (hd:(self == ("__debug__":Str))=false) (hcd:(self == ("__classdict__":Str))=false)
   (hN2:X.N[i2]? =some arg) (hv2:Vis X.env.scope arg) (hd2:(arg == ("__debug__":Str))=false) (hcd2:(arg == ("__classdict__":Str))=false) :
   PS X (.Assign [.Attribute (.Name self p1) fld p2] (.Name arg p3) p4) (fun E σ H=>∃ e v,σ[i]? =some (some (.ref e))∧σ[i2]? =some (some v)∧H e=some (.ext (XN e C))∧∀ d,H d=none→E.nx σ (upd (upd H e (.ext (XD e C d))) d (.xd [(fld,v)]))):=by
 rintro pins s σ H E I ⟨e,v,hs,hs2,hH,q⟩;refine plainObj_wpAny_Assign_Attribute (thn (rH hN2 hv2 hd2 hcd2 pins s σ H (fun x H1=>x=v∧H1=H) I ⟨_,hs2,rfl,rfl⟩) fun u s1 ⟨y,H1,I1,ry,e1,e2⟩=>thn (rH hN hv hd hcd pins s1 σ H1 (fun x H1=>x= .ref e∧H1=H) I1 ⟨_,by rw [hs],rfl,e2⟩) fun ov s2 ⟨x,H2,I2,rx,e3,e4⟩=>?_) rfl;subst e1 e3 e4;obtain rfl:ov=Value.ref e:=rx;obtain ⟨x,_,_⟩:=I2.hok _ _ hH;obtain ⟨t0,he⟩:=x;refine LX.aCD I2.kIn he D.sa D.ov D.na D.hd fun h' d hd he' hn k=>?_;exact ⟨σ,_,I2.xdict (t':=s2.toks + 2) hH hd k ⟨t0,he'⟩ hn ry,q d (I2.hok.fresh hd)⟩
end
noncomputable def spI (C:Addr) (fld:Str):Sp:=fun vs H Q _=>∃ e v,vs=[.ref e,v]∧H e=some (.ext (XN e C))∧∀ d,H d=none→Q .non (upd (upd H e (.ext (XD e C d))) d (.xd [(fld,v)]))
theorem aDC {P:Program} {w:World} {K:W.Frag} {mg:Str→Option Value} {base:Heap} {k:Nat} {C f:Addr} {Bn fld self arg name qual:Str} {params:Arguments} {scope:Scope} {dV kV doc pm cdv ct oc:Value} {an od:Option Addr}
   {osl:Array (Option Value)} {p1 p2 p3 p4 p5 p6 q1 q2 q3 q4:Pos} {j:Nat} {t:Str} {body:List Stmt} (D:XIn K mg C f Bn fld) (hline:(p2.endLine == p5.line)=true)
   (lk:K.lookup f=some ⟨oc,od,.func (W.fnOf name qual params body scope dV kV doc pm an cdv ct),osl⟩) (hcd:W.codeIn K cdv qual=true) (S:fP [self,arg] [self,arg] scope)
   (hbd:body=[.Expr (.Call (.Attribute (.Name Bn p1) "__init__" p2) [.Name self p3,.Constant (.str t) j p4] [] p5) p6,.Assign [.Attribute (.Name self q1) fld q2] (.Name arg q3) q4])
   (hsc:scope.names.lookup self=some .local∧scope.names.lookup arg=some .local∧scope.names.lookup Bn=some .globalImplicit)
   (hnm:(self == ("__debug__":Str))=false∧(self == ("__classdict__":Str))=false∧(arg == ("__debug__":Str))=false∧(arg == ("__classdict__":Str))=false∧(Bn == ("__debug__":Str))=false) :
   bC P w K mg base CX0 (k + 1) f (W.fnOf name qual params body scope dV kV doc pm an cdv ct) [self,arg] (spI C fld):=by
 refine aAA lk hcd S (by rintro vs H Q E ⟨e,v,ev,_⟩;rw [ev]; rfl) fun A outer s H vs Q E hr ⟨e,v,ev,hH,q⟩=>?_;subst ev hbd;refine ⟨_,EZ (ME (UJ (i:=0) hline D hsc.2.2 rfl (.inl hsc.1) hnm.1 hnm.2.1 hnm.2.2.2.2)) (MS (aDf (i:=0) (i2:=1) D rfl (.inl hsc.1) hnm.1 hnm.2.1 rfl (.inl hsc.2.1) hnm.2.2.1 hnm.2.2.2.1)), ?_⟩;exact ⟨e,rfl,hH,e,v,rfl,rfl,hH,q⟩
section
variable {X:Cx} {C f:Addr} {Bn fld x:Str} {np cpos pos:Pos} {e:Expr} {te:TE} {k:Nat} {fd:FuncData} {ps:List Str} {EX:XK}
theorem Inv.xmade {pins:List (Addr×Obj)} {σ:St} {H:Hp} {s:Shared} {us:List Value} (I:Inv X pins σ H s):Inv X pins σ (upd H (s.heap.objs.size + 1) (.ext (XN (s.heap.objs.size + 1) C))) { s with heap:=LX.mdX s.heap C us }:=by
 have hx:(LX.mdX s.heap C us).get? (s.heap.objs.size + 1)=some (LX.exO (.ref C) none s.heap.objs.size):=by
   have:=wGq (s.heap.push { cls:=.type "tuple",data:=.seq us.toArray }) (o:=LX.exO (.ref C) none s.heap.objs.size) rfl
   rwa [Heap.size_push] at this
 exact I.laid (a:=s.heap.objs.size + 1) (o:=.ext (XN (s.heap.objs.size + 1) C)) (t':=s.toks) (fun b u q=>wEq _ (wEq _ q)) (Nat.le_succ _) (XN.ok ⟨_,hx⟩)
theorem QK (D:XIn X.K X.mg C f Bn fld) (hg:Gl X x) (hm:X.mg x=some (.ref C)) (hdb:(x == ("__debug__":Str))=false) (F:bC X.prog X.w X.K X.mg X.base CX0 k f fd ps (spI C fld)) (hh:X.A.handled=none) (hr:bK (k + 1) X.A) (hb:aJ X.K fd ps []) (ha:PE X e te)
   (hxe:∀ e s',xeO X EX e s'→X.xe e s') (hst:starEach [e] X.env=(false,eval e X.env) :: starEach [] X.env) :
   PS X (.Raise (some (.Call (.Name x np) [e] [] cpos)) none pos) (fun _ σ H=>te σ H fun v H1=>∀ d,H1 d=none→EX (.ref C) (some d) (upd H1 d (.xd [(fld,v)]))):=by
 intro pins s σ H E I h;obtain ⟨B,newId,initId,bmB,BC,Fb,ini,_⟩:=D.ex;obtain ⟨bm,N,nm,qn,bs,hdc,sn,sub,ab,col,dd,k0,k1,k2,k3,k5,S⟩:=LX.HD ini;have hbase:bm.contains (.type "BaseException")=true:=(W.tail_of_in I.kIn S.tl).hasType Fb.hasBase;have ev : wpAny (model X.prog X.w) X.A (eval (.Call (.Name x np) [e] [] cpos) X.env) (fun v s₁=>∃ e tt dx,v= .ref e∧s₁.heap.get? C=some (excClassObj nm qn C N bs bm hdc sn sub ab col dd k0 k1 k2 k3 k5 newId)∧
     s₁.heap.get? e=some (LX.exO (.ref C) dx tt)∧X.xe (.ref e) s₁) X.xe s:=by
   refine wpAny_Call_Name_kw (eE I hg hm ?_ hdb);refine W.callWith_K (h₀:=X.base) I.ok.mod.kin D.kp (thn (cF ha fL hst cpos pins s σ H (fun vs H1=>match vs with | [v]=>∀ d,H1 d=none→EX (.ref C) (some d) (upd H1 d (.xd [(fld,v)])) | _=>False) I h) fun us s1 ⟨vs,H1,I1,r,q⟩=>⟨I1.kIn, ?_⟩) hst rfl
   match vs,q,r with
   | [v],q,r =>
   obtain ⟨u,rfl,ru⟩:=mO r;have I2:=I1.xmade (C:=C) (us:=[u]);have hl0:=I1.lo_le;have hc0:=I1.kIn _ _ S.lk;have hfc:∃ oI,s1.heap.get? f=some oI∧oI.cls= .type "function":=by
     have hf:=D.fn
     replace hf:((X.K.lookup f).map (·.cls) == some (.type "function"))=true:=hf
     cases lk:X.K.lookup f with
     | none=>rw [lk] at hf; cases hf
     | some o =>
       rw [lk] at hf;exact ⟨o,I1.kIn _ _ lk,by simpa using hf⟩
   obtain ⟨oI,hoI,hfc⟩:=hfc;have fresh1:H1 (s1.heap.objs.size + 1)=none:=I1.hok.fresh (Nat.le_succ _);have run:=F.run (X.A.under (.builtin "type.__call__" ⟨.ref C :: [u],[]⟩)) X.stack { s1 with heap:=LX.mdX s1.heap C [u] } (upd H1 (s1.heap.objs.size + 1) (.ext (XN (s1.heap.objs.size + 1) C))) ⟨[.ref (s1.heap.objs.size + 1),u],[]⟩ [.ref (s1.heap.objs.size + 1),u] [.ref (s1.heap.objs.size + 1),v]
     (fun r H2=>r= .non∧∃ d,H1 d=none∧d≠s1.heap.objs.size + 1∧H2=upd (upd (upd H1 (s1.heap.objs.size + 1) (.ext (XN (s1.heap.objs.size + 1) C))) (s1.heap.objs.size + 1) (.ext (XD (s1.heap.objs.size + 1) C d))) d (.xd [(fld,v)])) E0 (hr.make C [u] []) (I2.env0.make C [u] [])
   obtain ⟨hp,g,dr,tk,os⟩:=s1;refine LX.QH Fb (W.tail_of_in I1.kIn S.tl) hc0 (.of_isNs (W.isNs_of_in I1.kIn S.ok)) (LX.aMl I1.kIn S.ok S.ini) hoI hfc ?_ (by show 1≤sizeLine; decide);refine wpAny_call (codeAny_mono (run (hb _ [.ref (hp.objs.size + 1),u] I2.kIn ?_) (.cons rfl (.cons ru .nil)) ⟨_,v,rfl,aI,fun d hd=>⟨rfl,d, ?_⟩⟩) fun r s' hq'=>?_)
   · exact F.len [.ref (hp.objs.size + 1),v] _ (fun _ _=>True) E0 ⟨_,v,rfl,aI (H:=H1),fun _ _=>trivial⟩
   · have dn:d≠hp.objs.size + 1:=fun z=>by subst z; rw [aI] at hd; cases hd
     rw [aD dn] at hd;exact ⟨hd,dn,rfl⟩
   · cases r with
     | error e=>exact False.elim hq'
     | ok fl =>
       cases fl with
       | ret u' =>
         obtain ⟨v',H',I3,rv,ev,d,hd,dn,eH⟩:=I2.after hq';subst ev eH;cases rv;refine ⟨rfl, ?_⟩;have hx:upd (upd (upd H1 (hp.objs.size + 1) (.ext (XN (hp.objs.size + 1) C))) (hp.objs.size + 1) (.ext (XD (hp.objs.size + 1) C d))) d (.xd [(fld,v)]) (hp.objs.size + 1)=some (.ext (XD (hp.objs.size + 1) C d)):=by rw [aD (Ne.symm dn),aI]
         obtain ⟨⟨tt,he⟩,_,_⟩:=I3.hok _ _ hx;have I4:=I3.untrack hx;have eH:del (upd (upd (upd H1 (hp.objs.size + 1) (.ext (XN (hp.objs.size + 1) C))) (hp.objs.size + 1) (.ext (XD (hp.objs.size + 1) C d))) d (.xd [(fld,v)])) (hp.objs.size + 1)=upd H1 d (.xd [(fld,v)]):=by
           funext b
           by_cases z:b=hp.objs.size + 1
           · subst z; rw [vO,aD (Ne.symm dn)]; exact fresh1.symm
           · rw [CB z];by_cases z2:b=d
             · subst z2; rw [aI,aI]
             · rw [aD z2,aD z2,aD z,aD z]
         rw [eH] at I4;refine ⟨_,tt,some d,rfl,I3.kIn _ _ S.lk,he,hxe _ _ ⟨hp.objs.size + 1,.ref C,some d,σ,_,rfl,I4.nopins,.inl ⟨Nat.le_trans hl0 (Nat.le_succ _),by rw [aD (Ne.symm dn)]; exact fresh1,_,_,he,rfl,rfl,rfl,by show 1 < 6; decide,rfl⟩,q d hd⟩⟩
       | next=>exact False.elim hq'
       | brk=>exact False.elim hq'
       | cont=>exact False.elim hq'
 rw [arm_exec_Raise];refine wAq (wpAny_standAt (LX.aBS (C:=C) (nm:=nm) (q:=qn) (N:=N) (bs:=bs) (bm:=bm) (hdct:=hdc) (sn:=sn) (sub:=sub) (ab:=ab) (col:=col) (dd:=dd) (k0:=k0) (k1:=k1) (k2:=k2) (k3:=k3) (k5:=k5) (newId:=newId) hbase hh ?_));refine wAq (wpAny_mono ev (fun v s₃ h₃=>wAq (wpAny_standAt (wBq h₃))) fun _ _ x=>x)
end
noncomputable def Cx.mk2 (X:Cx) (e:Value):Cx:={ X with A:=X.A.mark (some e),calm:=false,xe:=fun _ _=>False }
noncomputable def Cx.pin (X:Cx) (pins:List (Addr×Obj)):Cx:={ X with pn:=X.pn ++ pins }
section
variable {X:Cx} {pins:List (Addr×Obj)} {σ:St} {H:Hp} {s:Shared} {e:Value}
theorem Inv.marked (I:Inv X pins σ H s):Inv (X.mk2 e) pins σ H s :=
 ⟨⟨I.ok.mod,I.ok.kind,I.ok.glob,I.ok.blt,I.ok.above,I.ok.inj,I.ok.has,I.ok.cab,(fun z=>by cases z),I.ok.frames,I.ok.stk,I.ok.exf,I.ok.bs,I.ok.bsz,I.ok.noex,I.ok.exfs,I.ok.funs,I.ok.frf⟩,I.os,I.bare,I.base,I.loc,I.cell,I.free,I.freeC,I.pin,I.hok,I.len⟩
theorem Inv.unmarked (ok:X.Ok) (I:Inv (X.mk2 e) pins σ H s):Inv X pins σ H s:=⟨ok,I.os,I.bare,I.base,I.loc,I.cell,I.free,I.freeC,I.pin,I.hok,I.len⟩
theorem Cx.Ok.pin (ok:X.Ok) (pins:List (Addr×Obj)):(X.pin pins).Ok :=
 ⟨ok.mod,ok.kind,ok.glob,ok.blt,ok.above,ok.inj,ok.has,ok.cab,ok.hd,ok.frames,ok.stk,ok.exf,ok.bs,ok.bsz,ok.noex,ok.exfs,ok.funs,ok.frf⟩
theorem Inv.pinX (I:Inv X pins σ H s):Inv (X.pin pins) [] σ H s :=
 ⟨I.ok.pin pins,I.os,I.bare,I.base,I.loc,I.cell,I.free,I.freeC,(fun p hp=>I.pin p (by
   have hp:p∈(X.pn ++ pins) ++ []:=hp;rw [List.append_nil] at hp; exact hp)),I.hok,I.len⟩
theorem Inv.unpinX (ok:X.Ok) (I:Inv (X.pin pins) [] σ H s):Inv X pins σ H s :=
 ⟨ok,I.os,I.bare,I.base,I.loc,I.cell,I.free,I.freeC,(fun p hp=>I.pin p (by
   show p∈(X.pn ++ pins) ++ [];rw [List.append_nil]; exact hp)),I.hok,I.len⟩
theorem Inv.track {a:Addr} {o:HO} (I:Inv X [] σ H s) (hl:X.lo≤a) (hn:H a=none) (ho:∀ H',bE X.prog X.w H' s.heap a o) (hr:∃ ob vs,s.heap.get? a=some ob∧ob.data= .fields vs):Inv X [] σ (upd H a o) s:=by
 obtain ⟨ob,vs,hob,hd⟩:=hr;have h0:∀ b ob',X.s₀.heap.get? b=some ob'→b≠a:=fun b ob' q=>Nat.ne_of_lt (wFq (Heap.lt_size q) (Nat.le_trans NN hl));have hL:X.env.locals≠a:=fun z=>by
   obtain ⟨m,⟨o',es,ep,ho',hd',_⟩,_⟩:=I.loc;rw [z,hob] at ho'; cases ho'; rw [hd] at hd'; cases hd'
 refine ⟨I.ok,I.os,I.bare,⟨I.base.keep,I.base.slot,fun b ob' q n hx=>?_,I.base.there,fun b xs q=>?_,fun b ob' u q=>?_,fun b ps q=>?_⟩,I.loc,I.cell, ?_,fun x c q=>?_,fun p hp=>?_,fun b u q=>?_,I.len⟩
 · rw [aD (h0 b ob' q)]; exact I.base.free b ob' q n hx
 · have:=I.base.tups b xs q;rw [aD (aH this hn)]; exact this
 · have:=I.base.frzs b ob' u q;rw [aD (aH this hn)]; exact this
 · obtain ⟨m,this⟩:=I.base.tbls b ps q;exact ⟨m,by rw [aD (aH this hn)]; exact this⟩
 · rw [aD hL]; exact I.free
 · have:c≠a:=fun z=>by
     obtain ⟨v,o',ho',hd'⟩:=I.cell x c q;rw [z,hob] at ho'; cases ho'; rw [hd] at hd'; cases hd'
   rw [aD this]; exact I.freeC x c q
 · obtain ⟨a1,a2,a3⟩:=I.pin p hp;have:p.1≠a:=fun z=>by
     have:=TB p (by simpa using hp);rw [z] at this;exact absurd hl (Nat.not_le.mpr this)
   exact ⟨a1,by rw [aD this]; exact a2,a3⟩
 · by_cases z:b=a
   · subst z; rw [aI] at q; cases q; exact ho _
   · rw [aD z] at q;exact (I.hok b u q).stay (fun _ _ _ r=>r) (fun c r=>by rw [aD (aH r hn)]; exact r) fun c xs r=>by rw [aD (aH r hn)]; exact r
theorem SV {M:Model} {A:Around} {E:Value→Shared→Prop} {i:Nat} {x:Str} {v:V} {Q:Unit→Shared→Prop} (I:Inv X pins σ H s) (hN:X.N.Nodup) (hi:X.N[i]? =some x) (hx:X.env.scope.names.lookup x=some .local) (hv:σ[i]? =some (some v))
   (h:∀ s',Inv X pins (σ.set i none) H s'→Q () s'):wpAny M A (unbindName X.env x) Q E s:=by
 obtain ⟨m,hn,hl⟩:=id I.loc;have hcls:(X.env.scope.kind == .class || (X.env.scope.kind == .module && X.env.locals != X.env.globals))=false:=by rw [I.ok.kind]; rfl
 have cne:=I.cne;obtain ⟨u0,_,lk⟩:=hl i x v hi hv (.inl hx);have hm:m x=some u0:=by
   rcases lk with ⟨_,q⟩ | ⟨k,_⟩
   · exact q
   · have k:X.env.scope.names.lookup x=some .cell∨X.env.scope.names.lookup x=some .free:=k;rw [hx] at k; rcases k with k | k <;> cases k
 refine wpAny_unbindName_local hx hn hm hcls fun h' u hn' hs=>h _ ?_;obtain ⟨oL,_,_,hoL,_⟩:=id hn;refine ⟨I.ok,I.os,I.bare,⟨fun b o e n hb hx=>?_,fun b o e n hb hx=>?_,I.base.free,fun b o e hx=>?_,I.base.tups,I.base.frzs,I.base.tbls⟩,⟨_,hn',fun j y v' e1 e2 e3=>?_⟩,fun y c e=>?_,I.free,I.freeC,fun p hp=>?_,fun b ob e=>?_,by simpa using I.len⟩
 · exact (hs.2 b (Nat.ne_of_lt (wFq (Heap.lt_size e) I.ok.above))).trans (I.base.keep b o e n hb hx)
 · obtain ⟨sl,e1⟩:=I.base.slot b o e n hb hx;exact ⟨sl,(hs.2 b (Nat.ne_of_lt (wFq (Heap.lt_size e) I.ok.above))).trans e1⟩
 · obtain ⟨o',e1⟩:=I.base.there b o e hx;exact ⟨o',(hs.2 b (Nat.ne_of_lt (wFq (Heap.lt_size e) I.ok.above))).trans e1⟩
 · by_cases hj:j=i
   · subst hj;have hlt:j < σ.length:=by rw [I.len]; exact (List.getElem?_eq_some_iff.mp hi).1
     rw [List.getElem?_set_self hlt] at e2;cases e2
   · rw [List.getElem?_set_ne (Ne.symm hj)] at e2;obtain ⟨u',r',q⟩:=hl j y v' e1 e2 e3;refine ⟨u',r', ?_⟩;rcases q with ⟨k,e⟩ | ⟨k,c,e,z⟩
     · refine .inl ⟨k, ?_⟩;have:y≠x:=fun e=>hj (vL hN e1 (e▸hi));simp [this,e]
     · exact .inr ⟨k,c,e,z.sameBut hs (cne y c e)⟩
 · obtain ⟨w',z⟩:=I.cell y c e;exact ⟨w',z.sameBut hs (cne y c e)⟩
 · obtain ⟨e,n,ne,nf,d⟩:=I.pin p hp;exact ⟨(hs.2 p.1 ne).trans e,n,ne,nf,d⟩
 · refine (I.hok b ob e).stay (fun c w' hc q=>(hs.2 c ?_).trans q) (fun _ q=>q) fun _ _ q=>q;intro z;have:H c=none:=by rw [z]; exact I.free
   rcases hc with rfl | hc
   · rw [this] at e; cases e
   · rw [this] at hc; cases hc
end
end L2
namespace LX
open PySem PySem.W PyProof.Rows
noncomputable def aG5 (K:Frag) (c:Addr):Bool:=(clsIn K c).isSome
noncomputable def nU (K:Frag) (c:Addr):Bool:=aG5 K c && subIn K (.ref c) (.type "BaseException") == some true
noncomputable def kB (K:Frag) (Ca:Addr):List Addr→Option Bool
 | []=>some false
 | c :: r=>match subIn K (.ref Ca) (.ref c) with
   | some true=>some true
   | some false=>kB K Ca r
   | none=>none
section
variable {M:Model} {A:Around} {E:Value→Shared→Prop} {s:Shared} {K:Frag}
theorem PN {h:Heap} {c:Addr} (X:K.In h) (hc:nU K c=true):Looks M h (isExcClass (.ref c)) true:=by
 obtain ⟨h1,h2⟩:=Bool.and_eq_true_iff.mp hc;obtain ⟨cd,hcd⟩:=Option.isSome_iff_exists.mp h1;have t:Looks M h (isType (.ref c)) true:=by
   unfold clsIn at hcd;split at hcd
   · rename_i o ho;cases hcd;exact (Looks.ld (X _ _ ho)).andThen .now
   · cases hcd
 exact t.andThen (looks_subIn X (beq_iff_eq.mp h2))
theorem WQ:∀ {cs:List Addr} {Q:PUnit→Shared→Prop},K.In s.heap→(∀ c∈cs,nU K c=true)→Q PUnit.unit s→wpAny M A (forIn (cs.map Value.ref) PUnit.unit fun c (__s:PUnit)=>do
     let __do_lift ←isExcClass c
     if (!__do_lift)=true then do
         rule "try.except-non-exception-class"
         raiseErrorWords "TypeError" "catching classes that do not inherit from BaseException is not allowed"
         pure (ForInStep.yield PUnit.unit)
       else pure (ForInStep.yield PUnit.unit)) Q E s
 | [],Q,X,_,q=>wBq q
 | c :: r,Q,X,h,q=>by
   rw [List.map_cons,List.forIn_cons];refine wAq (wAq ((PN X (h c (wDq ..))).here ?_));rw [if_neg (by decide)];exact wBq (WQ X (fun c' hc=>h c' (wCq _ hc)) q)
theorem TQ {Ca:Addr} {b:Bool}:∀ {cs:List Addr} {Q:Option Bool×Unit→Shared→Prop},K.In s.heap→kB K Ca cs=some b→Q ((if b=true then some true else none),()) s→wpAny M A (forIn (cs.map Value.ref) ((none,()):Option Bool×Unit) fun c __s=>do
     let __do_lift ←isSubtype (.ref Ca) c
     if __do_lift=true then pure (ForInStep.done (some true,())) else pure (ForInStep.yield (none,()))) Q E s
 | [],Q,X,h,q=>by cases h; exact wBq q
 | c :: r,Q,X,h,q=>by
   unfold kB at h;rw [List.map_cons,List.forIn_cons];split at h
   · rename_i e;cases h;refine wAq (wAq ((looks_subIn X e).here ?_));rw [if_pos rfl];exact wBq (wBq q)
   · rename_i e;refine wAq (wAq ((looks_subIn X e).here ?_));rw [if_neg (by decide)];exact wBq (TQ X h q)
   · cases h
theorem FF {e p Ca:Addr} {cs:List Addr} {b:Bool} {oe:Obj} {Q:Bool→Shared→Prop} (X:K.In s.heap) (hp:IsTup s.heap p (cs.map Value.ref).toArray) (he:s.heap.get? e=some oe) (hc:oe.cls= .ref Ca) (h1:∀ c∈cs,nU K c=true) (h2:kB K Ca cs=some b) (q:Q b s) :
   wpAny M A (excMatches (.ref e) (.ref p)) Q E s:=by
 obtain ⟨o,ho,hoc,n,hd⟩:=hp;have ht:Looks M s.heap (typeOf (.ref e)) (.ref Ca):=by
   rw [←hc];exact (Looks.ld he).andThen .now
 unfold excMatches;refine wAq (wpAny_isInstance ⟨o,ho,hoc⟩ isSubtype_tuple_tuple ?_);dsimp only;rw [if_pos rfl];refine wAq (wpAny_seqItems ho hd (wAq (wBq ?_)));dsimp only [Option.getD_some,Option.getD];refine wAq (WQ X h1 (wAq (ht.here (wAq (TQ X h2 ?_)))));cases b <;> exact wBq q
theorem ET {e c Ca:Addr} {b:Bool} {oe:Obj} {Q:Bool→Shared→Prop} (X:K.In s.heap) (he:s.heap.get? e=some oe) (hc:oe.cls= .ref Ca) (h1:nU K c=true) (ht0:subIn K (.type "type") (.type "tuple")=some false) (hty:typeIn K (.ref c)=some (.type "type")) (h2:kB K Ca [c]=some b) (q:Q b s) :
   wpAny M A (excMatches (.ref e) (.ref c)) Q E s:=by
 have ht:Looks M s.heap (typeOf (.ref e)) (.ref Ca):=by
   rw [←hc];exact (Looks.ld he).andThen .now
 have hi:Looks M s.heap (isInstance (.ref c) (.type "tuple")) false:=(looks_typeIn X hty).andThen (looks_subIn X ht0);unfold excMatches;refine wAq (hi.here ?_);dsimp only;rw [if_neg (by decide)];refine wAq (wBq ?_);refine wAq (WQ (cs:=[c]) X (fun c' hc'=>by rw [List.mem_singleton.mp hc']; exact h1) (wAq (ht.here (wAq (TQ (cs:=[c]) X h2 ?_)))));cases b <;> exact wBq q
end
end LX
namespace L2
open PySem PySem.Spec
open PyProof.Rows hiding St
noncomputable def XC (a:Addr) (C:Value) (d:Option Addr):Heap→Prop:=fun h=>∃ oe vs,h.get? a=some oe∧oe.cls=C∧oe.dict=d∧oe.data= .fields vs
theorem XC.ok {P:Program} {w:World} {H:Hp} {h:Heap} {a:Addr} {C:Value} {d:Option Addr} (x:XC a C d h):bE P w H h a (.ext (XC a C d)):=⟨x,let ⟨o,_,q,_⟩:=x; ⟨o,q⟩,by rintro h1 h2 ⟨o,vs,q,r⟩ k;exact ⟨o,vs,k _ q,r⟩⟩
noncomputable def aLy (D:uW) (j:Nat):uW:=⟨fun σ H=>D.nx (σ.set j none) H,D.rt,fun σ H=>D.bk (σ.set j none) H,fun σ H=>D.ct (σ.set j none) H⟩
theorem HC:∀ {l:List Addr} {us:List Value},aM (l.map V.ref) us→us=l.map Value.ref
 | [],_,r=>by cases r; rfl
 | a :: l,_,r=>by
   cases r with
   | cons r1 r2=>cases r1; rw [HC r2]; rfl
theorem IK {env:Env} {q:Str×Pos×Addr} {l:List (Str×Pos×Addr)}:starEach (.Name q.1 q.2.1 :: l.map fun q=>Expr.Name q.1 q.2.1) env=(false,eval (.Name q.1 q.2.1) env) :: starEach (l.map fun q=>Expr.Name q.1 q.2.1) env:=rfl
theorem EC {X:Cx}:∀ {l:List (Str×Pos×Addr)},(∀ q∈l,Gl X q.1∧X.mg q.1=some (.ref q.2.2)∧(q.1 == ("__debug__":Str))=false)→PA X (l.map fun q=>Expr.Name q.1 q.2.1) (fun σ H Q=>Q (l.map fun q=>V.ref q.2.2) H)
 | [],_=>fL
 | q :: l,h=>by
   have h1:=h q (wDq ..);exact cF (te:=tC (.ref q.2.2)) (fun pins s σ H Q I hq=>eE I h1.1 h1.2.1 ⟨.ref q.2.2,H,I,rfl,hq⟩ h1.2.2) (EC fun q' hq=>h q' (wCq _ hq)) IK
inductive jM (X:Cx):Expr→List Addr→Prop
 | tup {l:List (Str×Pos×Addr)} {k:Nat} {pos:Pos}:(∀ q∈l,Gl X q.1∧X.mg q.1=some (.ref q.2.2)∧(q.1 == ("__debug__":Str))=false)→l.length≤sizeLine→jM X (.Tuple (l.map fun q=>Expr.Name q.1 q.2.1) k pos) (l.map (·.2.2))
 | one {x:Str} {p:Pos} {c:Addr}:Gl X x→X.mg x=some (.ref c)→(x == ("__debug__":Str))=false→W.typeIn X.K (.ref c)=some (.type "type")→W.subIn X.K (.type "type") (.type "tuple")=some false→jM X (.Name x p) [c]
theorem jM.mk2 {X:Cx} {t:Expr} {cs:List Addr} {e:Value} {pins:List (Addr×Obj)} (c:jM X t cs):jM ((X.pin pins).mk2 e) t cs:=by
 cases c with
 | tup h z=>exact .tup h z
 | one a b c d e=>exact .one a b c d e
theorem RD {X:Cx} {t:Expr} {cs:List Addr} {pins:List (Addr×Obj)} {σ:St} {H:Hp} {s:Shared} {a Ca:Addr} {oe:Obj} {b:Bool} {Q:Bool→Shared→Prop} {E:Value→Shared→Prop} (c:jM X t cs) (I:Inv X pins σ H s) (hx:X.xe=fun _ _=>False) (hp:(a,oe)∈pins) (hc:oe.cls= .ref Ca)
   (h1:∀ c∈cs,LX.nU X.K c=true) (h2:LX.kB X.K Ca cs=some b) (q:∀ s',Inv X pins σ H s'→Q b s') :
   wpAny (model X.prog X.w) X.A (eval t X.env) (fun v s₁=>wpAny (model X.prog X.w) X.A (excMatches (.ref a) v) Q E s₁) E s:=by
 have nx:∀ {α:Type} {f:Sem α} {Q1:α→Shared→Prop} {s:Shared},wpAny (model X.prog X.w) X.A f Q1 X.xe s→wpAny (model X.prog X.w) X.A f Q1 E s:=fun {α f Q1 s} h=>wpAny_mono h (fun _ _ z=>z) fun _ _ z=>by rw [hx] at z; exact z.elim
 cases c with
 | @tup l k pos h z =>
   refine wpAny_Tuple_spliced (nx (thn (EC h pos pins s σ H (fun vs H1=>vs=(l.map (·.2.2)).map V.ref∧H1=H) I ⟨by rw [List.map_map]; rfl,rfl⟩) fun us s1 zz=>?_));obtain ⟨vs,H1,I1,r,ev,eH⟩:=zz;subst ev eH;have eu:=HC r;subst eu;refine ⟨by simpa using z, ?_⟩;have I2:=I1.kept (t':=s1.toks) (h':=s1.heap.push { cls:=.type "tuple",data:=.seq ((l.map (·.2.2)).map Value.ref).toArray }) fun b o e=>wEq _ e;exact LX.FF I2.kIn (IsTup.new s1.heap _) (I2.pin _ (List.mem_append_right _ hp)).1 hc h1 h2 (q _ I2)
 | one g m d ty ht =>
   exact eE I g m (LX.ET I.kIn (I.pin _ (List.mem_append_right _ hp)).1 hc (h1 _ (wDq ..)) ht ty h2 (q _ I)) d
theorem iF.pins {X:Cx} {σ:St} {H:Hp} {s:Shared} {a:Addr} {C:Value} {d:Option Addr} (I:Inv X [] σ H s) (x:iF s.heap X.lo H a C d):∃ oe oT T,Inv X [(a,oe),(T,oT)] σ H s∧oe.cls=C∧
   ∀ h',h'.get? a=some oe→h'.get? T=some oT→iF h' X.lo H a C d:=by
 obtain ⟨le,he0,oe,vs,he,hc,hdd,hd,hsz,T,oT,ts,fl,h1,lT,hT0,hTe,hT,hdT,h3⟩:=x;refine ⟨oe,oT,T,I.pins_of fun p hp=>?_,hc,fun h' e1 e2=>⟨le,he0,oe,vs,e1,hc,hdd,hd,hsz,T,oT,ts,fl,h1,lT,hT0,hTe,e2,hdT,h3⟩⟩;have key:∀ b ob ws,s.heap.get? b=some ob→ob.data= .fields ws→H b=none→s.heap.get? b=some ob∧H b=none∧b≠X.env.locals∧b∉ X.fs∧∀ v,ob.data≠.cell v:=fun b ob ws e1 e2 e3=>by
   refine ⟨e1,e3,fun z=>?_,fun z=>?_,fun v z=>by rw [e2] at z; cases z⟩
   · obtain ⟨m,⟨o',es,ep,ho',hd',_⟩,_⟩:=I.loc;rw [←z,e1] at ho'; cases ho'; rw [e2] at hd'; cases hd'
   · obtain ⟨_,o,ho,hnf⟩:=I.funs.mem z;rw [e1] at ho; cases ho; exact hnf ws e2
 rcases List.mem_cons.mp hp with e | hp
 · subst e; exact key a oe vs he hd he0
 · rw [List.mem_singleton.mp hp]; exact key T oT ts hT hdT hT0
theorem aLm {X:Cx} (ow:Own X) {pins:List (Addr×Obj)} {s:Shared} {σ:St} {H:Hp} {D:uW} (I:Inv X pins σ H s) {EX:XK} {tb:TS} {body suite:List Stmt} {b0:Stmt} {t:Expr} {n:Str} {j:Nat} {hpos pos:Pos} {cs:List Addr}
   (nd:X.N.Nodup) (hj:X.N[j]? =some n) (hloc:X.env.scope.names.lookup n=some .local) (cl:jM X t cs) (hcs:∀ c∈cs,LX.nU X.K c=true)
   (hb:PSs ((X.pin pins).wish (xeO (X.pin pins) EX)) body tb) (h:tb D σ H)
   (hx:∀ C d H1,EX C d H1→∃ Ca,C= .ref Ca∧LX.kB X.K Ca cs=some true∧∀ a,H1 a=none→∃ th,PSs ((X.pin pins).mk2 (.ref a)) (b0 :: suite) th∧th (aLy D j) ((List.replicate X.N.length none).set j (some (.ref a))) (upd H1 a (.ext (XC a C d)))) :
   wpAny (model X.prog X.w) X.A (exec (.Try body [.ExceptHandler (some t) (some n) (b0 :: suite) hpos] [] [] pos) X.env) (SP X pins D) X.xe s:=by
 have ow':Own (X.pin pins):=⟨ow.st,ow.fr⟩;refine wpAny_Try_except (wpAny_mono (hb [] s σ H D (I.pinX.wish _) h) (fun f s₁ q=>?_) fun e s₁ hxe=>?_)
 · have q:=q.unwish;cases f with
   | next=>obtain ⟨σ',H',J,q⟩:=q; exact wpAny_execs_nil ⟨σ',H',J.unpinX I.ok,q⟩
   | brk=>obtain ⟨σ',H',J,q⟩:=q; exact ⟨σ',H',J.unpinX I.ok,q⟩
   | cont=>obtain ⟨σ',H',J,q⟩:=q; exact ⟨σ',H',J.unpinX I.ok,q⟩
   | ret u=>obtain ⟨v,σ',H',J,r,q⟩:=q; exact ⟨v,σ',H',J.unpinX I.ok,r,q⟩
 · obtain ⟨a,C,d,σ1,H1,rfl,I1,x,q⟩:=hxe;obtain ⟨Ca,rfl,hit,hh⟩:=hx C d H1 q;refine IY (X:=X.pin pins) ow' I1 x fun h2 I2 x2=>?_;refine nW (X:=X.pin pins) ow' I2 (.inr x2) fun h3 I3 _ x3=>?_
   replace x3:=x3 x2
   obtain ⟨oe,oT,T,I4,hcl,back⟩:=x3.pins I3;refine wpAny_handleBy_cons (codeAny_handlers_test ?_) (by intro q; cases q);refine RD (X:=(X.pin pins).mk2 (.ref a)) (a:=a) (Ca:=Ca) (b:=true) cl.mk2 I4.marked rfl (wDq ..) hcl hcs hit fun s5 I5=>?_;have I6:=I5.unmarked (I.ok.pin pins);have x6:iF s5.heap (X.pin pins).lo H1 a (.ref Ca) d:=back _ (I6.pin (a,oe) (List.mem_append_right _ (by simp))).1 (I6.pin (T,oT) (List.mem_append_right _ (by simp))).1;show codeAny _ _ _ _ _;refine codeAny_handlers_suite_as ?_;refine nW (X:=X.pin pins) ow' I6.nopins (.inr x6) fun h7 I7 _ x7=>?_
   replace x7:=x7 x6
   obtain ⟨le,he0,oe7,vs7,he7,hc7,hdd7,hd7,_⟩:=x7;have I8:=I7.track (o:=.ext (XC a (.ref Ca) d)) le he0 (fun _=>XC.ok ⟨oe7,vs7,he7,hc7,hdd7,hd7⟩) ⟨oe7,vs7,he7,hd7⟩;have I9:Inv (X.pin pins) [] (List.replicate X.N.length none) (upd H1 a (.ext (XC a (.ref Ca) d))) _:=I8.weak (by rw [List.length_replicate]; exact I8.len.symm) fun i v e=>by
     rw [List.getElem?_replicate] at e;split at e <;> cases e
   obtain ⟨th,hth,hq⟩:=hh a he0;refine lD (X:=X.pin pins) I9 nd hj (.inl hloc) (v:=.ref a) rfl (fun s10 I10=>?_) (.inr hloc);refine wpAny_mono (hth [] s10 _ _ _ I10.marked hq) (fun f s11 q11=>?_) fun _ _ z=>z.elim;show wpAny _ _ (do bindName X.env n .none; unbindBehindTheSuite X.env n hpos) _ _ s11;have fin:∀ {σ':St} {H':Hp} {Q:Unit→Shared→Prop},Inv ((X.pin pins).mk2 (.ref a)) [] σ' H' s11→(∀ s',Inv X pins (σ'.set j none) H' s'→Q () s')→wpAny (model X.prog X.w) X.A (do bindName X.env n .none; unbindBehindTheSuite X.env n hpos) Q X.xe s11:=fun {σ' H' Q} J k=>by
     have J1:=(J.unmarked (I.ok.pin pins)).unpinX I.ok;refine wAq (wpAny_bindName (lD J1 nd hj (.inl hloc) (v:=.non) rfl (fun s12 J2=>?_) (.inr hloc)));unfold unbindBehindTheSuite;refine wpAny_onRaise (SV J2 nd hj hloc (v:=.non) (by
       have hlt:j < σ'.length:=by rw [J.len]; exact (List.getElem?_eq_some_iff.mp hj).1
       rw [List.getElem?_set_self hlt]) fun s13 J3=>?_)
     rw [List.set_set] at J3;exact k s13 J3
   cases f with
   | next=>obtain ⟨σ',H',J,q⟩:=q11; exact fin J fun s' K=>⟨_,H',K,q⟩
   | brk=>obtain ⟨σ',H',J,q⟩:=q11; exact fin J fun s' K=>⟨_,H',K,q⟩
   | cont=>obtain ⟨σ',H',J,q⟩:=q11; exact fin J fun s' K=>⟨_,H',K,q⟩
   | ret u=>obtain ⟨v,σ',H',J,r,q⟩:=q11; exact fin J fun s' K=>⟨v,_,H',K,r,q⟩
end L2
namespace LX
open PySem PySem.W PyProof.Rows
open PySem.Builtin PySem.Builtin.ObjectAttr
section
variable {prog:Program} {w:World} {A:Around} {E:Value→Shared→Prop} {s:Shared} {K:Frag} {x C:Addr}
theorem PF {ox:Obj} {od:Option Obj} {Q:Option Value→Shared→Prop} (hga:findIn K (.ref C) "__getattribute__"=some (some (.builtin "BaseException.__getattribute__"))) (hk:findIn K (.ref C) "__getattr__"=some none) (hp:iW K C=true)
   (hf:findObj K C od "__class__"=some (.bind (.builtin "getset_descriptor.__get__") (.builtin "object.__class__"))) (hm:mroIn K C (.type "object")=some true) (X:K.In s.heap) (I:InstAt s.heap x ox C od) (h:Q (some (.ref C)) { s with toks:=s.toks + 1 }) :
   wpAny (model prog w) A (getAttr? (.ref x) "__class__") Q E s:=by
 obtain ⟨cd,hc,ho⟩:=any_some hp;have ne:cd.mro.isEmpty=false:=by cases q:cd.mro with | nil=>rw [q] at ho; cases ho | cons _ _=>rfl
 have sub:Looks (model prog w) s.heap (isInstance (.ref x) (.type "BaseException")) true:=I.type.andThen (looks_mroIn X (by unfold mroIn; rw [hc,Option.bind_some,if_neg (by rw [ne]; decide),wP ho]));have L0:=I.type (M:=model prog w);have L1:=looks_findIn (M:=model prog w) X hga;have L2:=looks_findIn (M:=model prog w) X hk;have L3:=looks_find (M:=model prog w) X I hf;obtain ⟨hh',g,d,t,os⟩:=s;unfold getAttr? getAttrBy? getAttrBy;refine wAq (wpAny_mkText (wAq (wpAny_attempt (wpAny_holding (wAq (L0.at (wAq (L1.at ?_))))))));dsimp only;rw [if_neg (by simp [onTheHeap])];unfold getAttrByItsOwn hookBefore;rw [if_pos (show onTheHeap (Value.ref C)=true from rfl)];refine wAq (L2.at (wAq (wpAny_attempt (wpAny_holding ?_))));unfold callGetattribute;rw [if_neg (by simp [onTheHeap])];unfold boundAndCalled;rw [tJ.bind];refine wAq (wBq (wpAny_call ?_));refine codeAny_call_builtin tJ.plain PySem.F.entry_bexc_ga (@check_slot (model prog w) _ _ _ "BaseException.__getattribute__" "BaseException" "__getattribute__" (.ref x) [.str "__class__" _] [] _ (by decide +kernel) (by decide +kernel) sub (PySem.F.args_bexc_ga (.ref x) _) ?_);refine wAq (wBq (wAq (wBq (a:=("__class__":Str)) (wAq (L0.at (wAq (L3.at ?_)))))));show wpAny _ _ (holding [Value.builtin "object.__class__"] (call (.builtin "getset_descriptor.__get__") [.builtin "object.__class__",.ref x,.ref C]) >>= ret) _ _ _;refine wAq (wpAny_holding (wpAny_call (class_get (s:=⟨hh',g,d,t + 1,os⟩) (ox:=ox) (od:=od) X I hm (wBq ?_))));show wpAny _ _ (handedOut (.ref C)) _ _ _;exact handed_on rfl (wBq h)
theorem aAS {ox:Obj} {od:Option Obj} (hd:hasDictIn K C=true) (hga:findIn K (.ref C) "__getattribute__"=some (some (.builtin "BaseException.__getattribute__"))) (hk:findIn K (.ref C) "__getattr__"=some none) (hp:iW K C=true)
   (hf:findObj K C od "__class__"=some (.bind (.builtin "getset_descriptor.__get__") (.builtin "object.__class__"))) (hm:mroIn K C (.type "object")=some true) :
   KitX K (.ref x) (.ref C) (fun h=>InstAt h x ox C od) where
 ty:=fun _ _ _ I=>I.type
 it :=fun _ _ X _=>by
   obtain ⟨cdD,hcD,_⟩:=any_some hd;unfold clsIn at hcD;split at hcD
   · rename_i c' d' cd' sl' ho;intro A' Q' E' s' k q;unfold isType loadHead;exact wAq (wpAny_loadPart (k _ _ (X _ _ ho)) (wBq q))
   · cases hcD
 ne :=fun h tp dd its n sl X htp=>by
   obtain ⟨cdD,hcD,_⟩:=any_some hd;refine Bool.eq_false_iff.mpr fun q=>?_;have e:C=tp:=Value.ref.inj (beq_iff_eq.mp q);subst e;unfold clsIn at hcD;split at hcD
   · rename_i c' d' cd' sl' ho;have z:=(X _ _ ho).symm.trans htp;cases z
   · cases hcD
 ca:=fun X I k=>PF hga hk hp hf hm X I k
theorem xW {name:Str} {a g:Value} (hc:(clsIn K C).isSome=true) (ha:findIn K (.ref C) name=some (some a)) (hg:specialIn K a "__get__"=some (some g)) (ht:takesIn K a=some true):findObj K C none name=some (.bind g a):=by
 obtain ⟨cd,hc⟩:=Option.isSome_iff_exists.mp hc;unfold findObj;rw [hc,Option.bind_some,ha,Option.bind_some];simp only [hg,ht,Option.bind_some]
end
end LX
namespace L2
open PySem PySem.Spec
open PyProof.Rows hiding St
structure XAt (K:W.Frag) (C:Addr):Prop where
 ga:W.findIn K (.ref C) "__getattribute__"=some (some (.builtin "BaseException.__getattribute__"))
 gh:W.findIn K (.ref C) "__getattr__"=some none
 ov:LX.iW K C=true
 hd:W.hasDictIn K C=true
 ha:W.findIn K (.ref C) "__class__"=some (some (.builtin "object.__class__"))
 hn:W.specialIn K (.builtin "object.__class__") "__get__"=some (some (.builtin "getset_descriptor.__get__"))
 ht:W.takesIn K (.builtin "object.__class__")=some true
 hm:W.mroIn K C (.type "object")=some true
section
variable {X:Cx} {pins:List (Addr×Obj)} {σ:St} {H:Hp} {s:Shared} {a C:Addr} {A:Around} {E:Value→Shared→Prop}
theorem aEV {d:Option Addr} {fs:List (Str×V)} (I:Inv X pins σ H s) (h1:H a=some (.ext (XC a (.ref C) d))) (h2:∀ dd,d=some dd→H dd=some (.xd fs)) :
   ∃ ox od,W.InstAt s.heap a ox C od∧(∀ dd,d=some dd→∃ (o:Obj) (mA:Str→Option Value),od=some o∧(∀ name,W.lookIn name o=some (mA name))∧∀ f,pB (fs.lookup f) (mA f))∧(d=none→od=none):=by
 obtain ⟨⟨oe,vs,he,hc,hdd,hd⟩,_,_⟩:=I.hok _ _ h1;have no:W.notCls oe=true:=by unfold W.notCls; rw [hd]
 cases d with
 | none=>exact ⟨oe,none,⟨he,hc,no,by rw [hdd]; trivial⟩,(fun dd z=>by cases z),fun _=>rfl⟩
 | some dd =>
   obtain ⟨mA,hn,hr⟩:=I.hok _ _ (h2 dd rfl);obtain ⟨od,ho,hl⟩:=yU hn;exact ⟨oe,some od,⟨he,hc,no,by rw [hdd]; exact ho⟩,(fun dd' z=>⟨od,mA,rfl,hl,hr⟩),fun z=>by cases z⟩
theorem aN5 {d:Addr} {fs:List (Str×V)} {f:Str} {v:V} {expr:Bool} {Q:Value→Shared→Prop} (D:XAt X.K C) (hf:W.findIn X.K (.ref C) f=some none) (I:Inv X pins σ H s) (h1:H a=some (.ext (XC a (.ref C) (some d)))) (h2:H d=some (.xd fs)) (hl:fs.lookup f=some v)
   (h:∀ u s',Inv X pins σ H s'→aO v u→Q u s'):wpAny (model X.prog X.w) A (getAttr (.ref a) f expr) Q E s:=by
 obtain ⟨ox,od,J,hx,_⟩:=aEV (fs:=fs) I h1 fun dd z=>by cases z; exact h2
 obtain ⟨o,mA,rfl,hlk,hr⟩:=hx d rfl;have r:=hr f;rw [hl] at r;cases em:mA f with
 | none=>rw [em] at r; exact r.elim
 | some u =>
   rw [em] at r;exact LX.aBP I.kIn J D.ga D.gh D.ov (W.findObj_own D.hd hf rfl (by rw [hlk,em])) (yJ r) (h u _ (I.tok _) r)
theorem aNN {d:Option Addr} {fs:List (Str×V)} {c:Value} {b:Bool} {Q:Value→Shared→Prop} (D:XAt X.K C) (I:Inv X pins σ H s) (h1:H a=some (.ext (XC a (.ref C) d))) (h2:∀ dd,d=some dd→H dd=some (.xd fs)) (e:W.kitOne X.K (.ref C) c=some b)
   (h:∀ tk,Q (.bool b) { s with toks:=tk }):wpAny (model X.prog X.w) A (call (.builtin "isinstance") [.ref a,c]) Q E s:=by
 obtain ⟨ox,od,J,hx,hn⟩:=aEV (fs:=fs) I h1 h2;have hc:(W.clsIn X.K C).isSome=true:=by obtain ⟨cd,hc,_⟩:=W.any_some D.hd; rw [hc]; rfl
 have hf:W.findObj X.K C od "__class__"=some (.bind (.builtin "getset_descriptor.__get__") (.builtin "object.__class__")):=by
   cases od with
   | none=>exact LX.xW hc D.ha D.hn D.ht
   | some o=>exact W.findObj_data hc D.ha D.hn D.ht
 exact W.kia_one (LX.aAS D.hd D.ga D.gh D.ov hf D.hm) I.kIn J e (fun z=>nomatch z) h
end
end L2
namespace L3
open PySem PySem.Spec
open PyProof.Rows hiding St
open L2
inductive PV where
 | non | bl (b:Bool) | int (i:Int) | str (x:Str) | tup (xs:List PV) | lst (xs:List PV) | scr (ns:List Int)
 | ob (c:String) (ns:List Str) (xs:List PV) | ref (a:Addr) | ty (n:String) | cl (c:String) | fn (f:Str) | emp | dct (ks:List Key) (xs:List PV) | exc (c:String) (ns:List Str) (xs:List PV)
structure Ev where
 K:W.Frag
 cls:String→Addr
 fna:Str→Addr:=fun _=>0
 f0:Hp:=fun _=>none
 z0:Hp:=fun _=>none
mutual
noncomputable def RP (E:Ev) (Z:Hp):PV→V→Prop
 | .non=>fun v=>v= .non
 | .bl b=>fun v=>v= .bl b
 | .int i=>fun v=>v= .int i
 | .str x=>fun v=>v= .str x
 | .ty n=>fun v=>v= .ty n
 | .ref a=>fun v=>v= .ref a
 | .cl c=>fun v=>v= .ref (E.cls c)
 | .fn f=>fun v=>v= .ref (E.fna f)
 | .emp=>fun v=>∃ a,v= .ref a∧Z a=some (.dK [])
 | .scr ns=>fun v=>∃ a,v= .ref a∧SqL E.K Z a (ns.map V.int)
 | .tup xs=>fun v=>∃ a vs,v= .ref a∧SqT E.K Z a vs∧RPs E Z xs vs
 | .lst xs=>fun v=>∃ a vs,v= .ref a∧Z a=some (.lst vs)∧RPs E Z xs vs
 | .dct ks xs=>fun v=>∃ a vs,v= .ref a∧Z a=some (.dK (ks.zip vs))∧ks.length=vs.length∧RPs E Z xs vs
 | .ob c ns xs=>fun v=>∃ a dx vs,v= .ref a∧Z a=some (.ins (E.cls c) dx (ns.zip vs))∧ns.length=vs.length∧RPs E Z xs vs
 | .exc c ns xs=>fun v=>∃ a d vs,v= .ref a∧Z a=some (.ext (XC a (.ref (E.cls c)) d))∧ns.length=vs.length∧(∀ dd,d=some dd→Z dd=some (.xd (ns.zip vs)))∧(d=none→ns=[])∧RPs E Z xs vs
noncomputable def RPs (E:Ev) (Z:Hp):List PV→List V→Prop
 | []=>fun vs=>vs=[]
 | x :: xs=>fun vs=>∃ v r,vs=v :: r∧RP E Z x v∧RPs E Z xs r
end
theorem dN {K:W.Frag} {Z Z':Hp} {a:Addr} {xs:List V} (e:aN Z Z') (h:SqT K Z a xs):SqT K Z' a xs:=by
 rcases h with (h | ⟨o,h⟩) | h
 · exact .inl (.inl (e _ _ h))
 · exact .inl (.inr ⟨o,e _ _ h⟩)
 · exact .inr h
section
variable {E:Ev} {Z Z' Z1 Z2 H H':Hp}
mutual
theorem RP.mono (e:aN Z Z'):∀ {x:PV} {v:V},RP E Z x v→RP E Z' x v
 | .non,_,h=>h
 | .bl _,_,h=>h
 | .int _,_,h=>h
 | .str _,_,h=>h
 | .ty _,_,h=>h
 | .ref _,_,h=>h
 | .cl _,_,h=>h
 | .fn _,_,h=>h
 | .emp,_,⟨a,e1,h⟩=>⟨a,e1,e _ _ h⟩
 | .scr _,_,⟨a,e1,h⟩=>⟨a,e1,e.seq h⟩
 | .tup _,_,⟨a,vs,e1,h,r⟩=>⟨a,vs,e1,dN e h,RPs.mono e r⟩
 | .lst _,_,⟨a,vs,e1,h,r⟩=>⟨a,vs,e1,e _ _ h,RPs.mono e r⟩
 | .dct _ _,_,⟨a,vs,e1,h,l,r⟩=>⟨a,vs,e1,e _ _ h,l,RPs.mono e r⟩
 | .ob _ _ _,_,⟨a,dx,vs,e1,h,l,r⟩=>⟨a,dx,vs,e1,e _ _ h,l,RPs.mono e r⟩
 | .exc _ _ _,_,⟨a,d,vs,e1,h,l,hd,hn,r⟩=>⟨a,d,vs,e1,e _ _ h,l,fun dd q=>e _ _ (hd dd q),hn,RPs.mono e r⟩
theorem RPs.mono (e:aN Z Z'):∀ {xs:List PV} {vs:List V},RPs E Z xs vs→RPs E Z' xs vs
 | [],_,h=>h
 | _ :: _,_,⟨v,r,e1,h,t⟩=>⟨v,r,e1,RP.mono e h,RPs.mono e t⟩
end
theorem RPs.length:∀ {xs:List PV} {vs:List V},RPs E Z xs vs→xs.length=vs.length
 | [],_,h=>by cases h; rfl
 | _ :: _,_,⟨v,r,e1,_,t⟩=>by subst e1; rw [List.length_cons,List.length_cons,RPs.length t]
theorem RPs.get:∀ {xs:List PV} {vs:List V} {i:Nat} {x:PV},RPs E Z xs vs→xs[i]? =some x→∃ v,vs[i]? =some v∧RP E Z x v
 | [],_,_,_,_,e=>by simp at e
 | y :: _,_,0,x,⟨v,r,e1,h,t⟩,e=>by
   subst e1;have:y=x:=by simpa using e
   subst this;exact ⟨v,rfl,h⟩
 | _ :: _,_,i + 1,x,⟨v,r,e1,h,t⟩,e=>by
   subst e1;obtain ⟨u,a,b⟩:=RPs.get (i:=i) t (by simpa using e);exact ⟨u,by simpa using a,b⟩
theorem RPs.append:∀ {xs ys:List PV} {vs us:List V},RPs E Z xs vs→RPs E Z ys us→RPs E Z (xs ++ ys) (vs ++ us)
 | [],_,_,_,h,q=>by cases h; exact q
 | _ :: _,_,_,us,⟨v,r,e1,h,t⟩,q=>by subst e1; exact ⟨v,r ++ us,rfl,h,RPs.append t q⟩
theorem RPs.set {y:PV} {u:V} (q:RP E Z y u):∀ {xs:List PV} {vs:List V} (i:Nat),RPs E Z xs vs→RPs E Z (xs.set i y) (vs.set i u)
 | [],_,_,h=>by cases h; exact rfl
 | _ :: _,_,0,⟨v,r,e1,h,t⟩=>by subst e1; exact ⟨u,r,rfl,q,t⟩
 | _ :: _,_,i + 1,⟨v,r,e1,h,t⟩=>by subst e1; exact ⟨v,r.set i u,rfl,h,RPs.set q i t⟩
theorem RPs.take:∀ {xs:List PV} {vs:List V} (n:Nat),RPs E Z xs vs→RPs E Z (xs.take n) (vs.take n)
 | _,_,0,_=>rfl
 | [],_,_ + 1,h=>by cases h; exact rfl
 | _ :: _,_,n + 1,⟨v,r,e1,h,t⟩=>by subst e1; exact ⟨v,r.take n,rfl,h,RPs.take n t⟩
theorem RPs.drop:∀ {xs:List PV} {vs:List V} (n:Nat),RPs E Z xs vs→RPs E Z (xs.drop n) (vs.drop n)
 | _,_,0,h=>h
 | [],_,_ + 1,h=>by cases h; exact rfl
 | _ :: _,_,n + 1,⟨v,r,e1,h,t⟩=>by subst e1; exact RPs.drop n t
theorem RPs.ofInts:∀ (ns:List Int),RPs E Z (ns.map PV.int) (ns.map V.int)
 | []=>rfl
 | n :: r=>⟨.int n,r.map V.int,rfl,rfl,RPs.ofInts r⟩
end
inductive GO where
 | lst (xs:List PV) | ins (c:String) (ns:List Str) (xs:List PV)
noncomputable abbrev Gh:=Addr→Option GO
noncomputable def gup (G:Gh) (a:Addr) (o:GO):Gh:=fun b=>if b=a then some o else G b
noncomputable def SO (G:Gh) (a:Addr):Gh:=fun b=>if b=a then none else G b
theorem aS {G:Gh} {a:Addr} {o:GO}:gup G a o a=some o:=if_pos rfl
theorem fG {G:Gh} {a b:Addr} {o:GO} (h:b≠a):gup G a o b=G b:=if_neg h
theorem tN {G:Gh} {a:Addr} {o u:GO}:gup (gup G a o) a u=gup G a u:=by funext b; unfold gup; split <;> rfl
theorem AS {G:Gh} {a b:Addr} (h:b≠a):SO G a b=G b:=if_neg h
theorem PR {G:Gh} {a:Addr}:SO G a a=none:=if_pos rfl
theorem YS {G:Gh} {a:Addr} {o:GO} (h:G a=none):SO (gup G a o) a=G:=by
 funext b; unfold SO gup
 split
 · rename_i e; rw [e]; exact h.symm
 · rfl
noncomputable def RO (E:Ev) (Z:Hp):GO→HO→Prop
 | .lst xs,o=>∃ vs,o= .lst vs∧RPs E Z xs vs
 | .ins c ns xs,o=>∃ dx vs,o= .ins (E.cls c) dx (ns.zip vs)∧ns.length=vs.length∧RPs E Z xs vs
theorem RO.mono {E:Ev} {Z Z':Hp} (e:aN Z Z'):∀ {o:GO} {o':HO},RO E Z o o'→RO E Z' o o'
 | .lst _,_,⟨vs,a,b⟩=>⟨vs,a,b.mono e⟩
 | .ins _ _ _,_,⟨dx,vs,a,l,b⟩=>⟨dx,vs,a,l,b.mono e⟩
structure Sim (E:Ev) (F H Z:Hp) (G:Gh):Prop where
 z:aN Z H
 f:∀ a o,F a=some o→H a=some o∧Z a=none∧G a=none
 g:∀ a o,G a=some o→Z a=none∧∃ o',H a=some o'∧RO E Z o o'
 z0:aN E.z0 Z
 ff:aN E.f0 F
section
variable {E:Ev} {F H Z:Hp} {G G':Gh} {p:Addr} {o:HO} {go:GO}
theorem Sim.zn (S:Sim E F H Z G) (n:H p=none):Z p=none:=by
 cases e:Z p with
 | none=>rfl
 | some u=>rw [S.z _ _ e] at n; cases n
theorem Sim.gn (S:Sim E F H Z G) (n:H p=none):G p=none:=by
 cases e:G p with
 | none=>rfl
 | some u=>obtain ⟨_,o',e',_⟩:=S.g _ _ e; rw [e'] at n; cases n
theorem Sim.fn (S:Sim E F H Z G) (n:H p=none):F p=none:=by
 cases e:F p with
 | none=>rfl
 | some u=>rw [(S.f _ _ e).1] at n; cases n
theorem Sim.fz (S:Sim E F H Z G) (n:H p=none):Sim E F (upd H p o) (upd Z p o) G:=by
 have zn:=S.zn n;have sub:aN Z (upd Z p o):=aT zn o;refine ⟨fun a u q=>?_,fun a u q=>?_,fun a u q=>?_,S.z0.trans sub,S.ff⟩
 · by_cases e:a=p
   · subst e; rw [aI] at q ⊢; exact q
   · rw [aD e] at q ⊢; exact S.z _ _ q
 · obtain ⟨h1,h2,h3⟩:=S.f a u q;have e:a≠p:=aH h1 n;exact ⟨by rw [aD e]; exact h1,by rw [aD e]; exact h2,h3⟩
 · obtain ⟨a1,o',a2,r⟩:=S.g a u q;have e:a≠p:=aH a2 n;exact ⟨by rw [aD e]; exact a1,o',by rw [aD e]; exact a2,r.mono sub⟩
theorem Sim.new (S:Sim E F H Z G) (n:H p=none) (r:RO E Z go o):Sim E F (upd H p o) Z (gup G p go):=by
 refine ⟨fun a u q=>gK (S.z _ _ q) n,fun a u q=>?_,fun a u q=>?_,S.z0,S.ff⟩
 · obtain ⟨h1,h2,h3⟩:=S.f a u q;have e:a≠p:=aH h1 n;exact ⟨by rw [aD e]; exact h1,h2,by rw [fG e]; exact h3⟩
 by_cases e:a=p
 · subst e; rw [aS] at q; cases q; exact ⟨S.zn n,o,aI,r⟩
 · rw [fG e] at q;obtain ⟨a1,o',a2,r'⟩:=S.g a u q;exact ⟨a1,o',by rw [aD e]; exact a2,r'⟩
theorem Sim.other (S:Sim E F H Z G) (n:H p=none):Sim E F (upd H p o) Z G:=by
 refine ⟨fun a u q=>gK (S.z _ _ q) n,fun a u q=>⟨gK (S.f a u q).1 n,(S.f a u q).2⟩,fun a u q=>?_,S.z0,S.ff⟩;obtain ⟨a1,o',a2,r'⟩:=S.g a u q;exact ⟨a1,o',gK a2 n,r'⟩
theorem Sim.set {u:GO} (S:Sim E F H Z G) (n:G p=some u) (r:RO E Z go o):Sim E F (upd H p o) Z (gup G p go):=by
 obtain ⟨z,_,_,_⟩:=S.g _ _ n;refine ⟨fun a u q=>?_,fun a u' q=>?_,fun a u q=>?_,S.z0,S.ff⟩
 · have e:a≠p:=aH q z;rw [aD e]; exact S.z _ _ q
 · obtain ⟨h1,h2,h3⟩:=S.f a u' q;have e:a≠p:=fun e=>by subst e; rw [n] at h3; cases h3
   exact ⟨by rw [aD e]; exact h1,h2,by rw [fG e]; exact h3⟩
 · by_cases e:a=p
   · subst e; rw [aS] at q; cases q; exact ⟨z,o,aI,r⟩
   · rw [fG e] at q;obtain ⟨a1,o',a2,r'⟩:=S.g a u q;exact ⟨a1,o',by rw [aD e]; exact a2,r'⟩
theorem Sim.frz {u:GO} (S:Sim E F H Z G) (n:G p=some u) (h:H p=some o):Sim E F H (upd Z p o) (SO G p):=by
 obtain ⟨z,_,_,_⟩:=S.g _ _ n;refine ⟨fun a u q=>?_,fun a u' q=>?_,fun a u q=>?_,S.z0.trans (aT z o),S.ff⟩
 · by_cases e:a=p
   · subst e; rw [aI] at q; rw [←q]; exact h
   · rw [aD e] at q; exact S.z _ _ q
 · obtain ⟨h1,h2,h3⟩:=S.f a u' q;have e:a≠p:=fun e=>by subst e; rw [n] at h3; cases h3
   exact ⟨h1,by rw [aD e]; exact h2,by rw [AS e]; exact h3⟩
 · by_cases e:a=p
   · subst e; rw [PR] at q; cases q
   · rw [AS e] at q;obtain ⟨a1,o',a2,r'⟩:=S.g a u q;exact ⟨by rw [aD e]; exact a1,o',a2,r'.mono (aT z o)⟩
theorem Sim.weak (S:Sim E F H Z G) (h:∀ a o,G' a=some o→G a=some o):Sim E F H Z G':=⟨S.z,fun a o q=>⟨(S.f a o q).1,(S.f a o q).2.1,by
 cases e:G' a with
 | none=>rfl
 | some u=>exact absurd (h _ _ e) (by rw [(S.f a o q).2.2]; intro z; cases z)⟩,fun a o q=>S.g a o (h a o q),S.z0,S.ff⟩
theorem Sim.mine (S:Sim E F H Z G) (n:H p=none):Sim E (upd F p o) (upd H p o) Z G:=by
 refine ⟨fun a u q=>gK (S.z _ _ q) n,fun a u q=>?_,fun a u q=>?_,S.z0,S.ff.trans (aT (S.fn n) o)⟩
 · by_cases e:a=p
   · subst e; rw [aI] at q ⊢; exact ⟨q,S.zn n,S.gn n⟩
   · rw [aD e] at q ⊢; exact S.f a u q
 · obtain ⟨a1,o',a2,r'⟩:=S.g a u q;exact ⟨a1,o',gK a2 n,r'⟩
theorem Sim.f0n (S:Sim E F H Z G) (n:H p=none):E.f0 p=none:=by
 cases e:E.f0 p with
 | none=>rfl
 | some u=>exact absurd (S.ff _ _ e) (by rw [S.fn n]; intro z; cases z)
theorem ZR {F':Hp} (h:aN E.f0 (upd F p o)) (n:E.f0 p=none):aN E.f0 F:=fun a u q=>by
 have e:a≠p:=aH q n;have:=h a u q
 rwa [aD e] at this
theorem Sim.turn {u:HO} (S:Sim E (upd F p u) H Z G) (nf:E.f0 p=none):Sim E (upd F p o) (upd H p o) Z G:=by
 obtain ⟨h1,h2,h3⟩:=S.f p u aI;refine ⟨fun a v q=>?_,fun a v q=>?_,fun a v q=>?_,S.z0,fun a v q=>by
   have e:a≠p:=aH q nf;have:=S.ff a v q;rw [aD e] at this ⊢; exact this⟩
 · have e:a≠p:=aH q h2;rw [aD e]; exact S.z _ _ q
 · by_cases e:a=p
   · subst e; rw [aI] at q ⊢; exact ⟨q,h2,h3⟩
   · rw [aD e] at q ⊢;exact S.f a v (by rw [aD e]; exact q)
 · obtain ⟨a1,o',a2,r'⟩:=S.g a v q;have e:a≠p:=fun e=>by subst e; rw [h3] at q; cases q
   exact ⟨a1,o',by rw [aD e]; exact a2,r'⟩
theorem Sim.mineZ (S:Sim E (upd F p o) H Z G) (n:F p=none) (nf:E.f0 p=none):Sim E F H (upd Z p o) G:=by
 obtain ⟨h1,h2,h3⟩:=S.f p o aI;have sub:aN Z (upd Z p o):=aT h2 o;refine ⟨fun a v q=>?_,fun a v q=>?_,fun a v q=>?_,S.z0.trans sub,ZR (F':=F) S.ff nf⟩
 · by_cases e:a=p
   · subst e; rw [aI] at q; rw [←q]; exact h1
   · rw [aD e] at q; exact S.z _ _ q
 · have e:a≠p:=aH q n;obtain ⟨b1,b2,b3⟩:=S.f a v (by rw [aD e]; exact q);exact ⟨b1,by rw [aD e]; exact b2,b3⟩
 · obtain ⟨a1,o',a2,r'⟩:=S.g a v q;have e:a≠p:=fun e=>by subst e; rw [h3] at q; cases q
   exact ⟨by rw [aD e]; exact a1,o',a2,r'.mono sub⟩
theorem Sim.mineG (S:Sim E (upd F p o) H Z G) (n:F p=none) (nf:E.f0 p=none) (r:RO E Z go o):Sim E F H Z (gup G p go):=by
 obtain ⟨h1,h2,h3⟩:=S.f p o aI;refine ⟨S.z,fun a v q=>?_,fun a v q=>?_,S.z0,ZR (F':=F) S.ff nf⟩
 · have e:a≠p:=aH q n;obtain ⟨b1,b2,b3⟩:=S.f a v (by rw [aD e]; exact q);exact ⟨b1,b2,by rw [fG e]; exact b3⟩
 · by_cases e:a=p
   · subst e; rw [aS] at q; cases q; exact ⟨h2,o,h1,r⟩
   · rw [fG e] at q; exact S.g a v q
theorem Sim.weakF (S:Sim E F H Z G):Sim E E.f0 H Z G:=⟨S.z,fun a o q=>S.f a o (S.ff a o q),S.g,S.z0,aN.refl _⟩
end
noncomputable abbrev Ev.at (E:Ev) (f z:Hp):Ev:={ E with f0:=f,z0:=z }
section
variable {E:Ev} {f z Z:Hp}
mutual
theorem RP.at:∀ {x:PV} {v:V},RP E Z x v→RP (E.at f z) Z x v
 | .non,_,h=>h
 | .bl _,_,h=>h
 | .int _,_,h=>h
 | .str _,_,h=>h
 | .ty _,_,h=>h
 | .ref _,_,h=>h
 | .cl _,_,h=>h
 | .fn _,_,h=>h
 | .emp,_,h=>h
 | .scr _,_,h=>h
 | .tup _,_,⟨a,vs,e1,h,r⟩=>⟨a,vs,e1,h,RPs.at r⟩
 | .lst _,_,⟨a,vs,e1,h,r⟩=>⟨a,vs,e1,h,RPs.at r⟩
 | .dct _ _,_,⟨a,vs,e1,h,l,r⟩=>⟨a,vs,e1,h,l,RPs.at r⟩
 | .ob _ _ _,_,⟨a,dx,vs,e1,h,l,r⟩=>⟨a,dx,vs,e1,h,l,RPs.at r⟩
 | .exc _ _ _,_,⟨a,d,vs,e1,h,l,hd,hn,r⟩=>⟨a,d,vs,e1,h,l,hd,hn,RPs.at r⟩
theorem RPs.at:∀ {xs:List PV} {vs:List V},RPs E Z xs vs→RPs (E.at f z) Z xs vs
 | [],_,h=>h
 | _ :: _,_,⟨v,r,e1,h,t⟩=>⟨v,r,e1,RP.at h,RPs.at t⟩
end
mutual
theorem RP.un:∀ {x:PV} {v:V},RP (E.at f z) Z x v→RP E Z x v
 | .non,_,h=>h
 | .bl _,_,h=>h
 | .int _,_,h=>h
 | .str _,_,h=>h
 | .ty _,_,h=>h
 | .ref _,_,h=>h
 | .cl _,_,h=>h
 | .fn _,_,h=>h
 | .emp,_,h=>h
 | .scr _,_,h=>h
 | .tup _,_,⟨a,vs,e1,h,r⟩=>⟨a,vs,e1,h,RPs.un r⟩
 | .lst _,_,⟨a,vs,e1,h,r⟩=>⟨a,vs,e1,h,RPs.un r⟩
 | .dct _ _,_,⟨a,vs,e1,h,l,r⟩=>⟨a,vs,e1,h,l,RPs.un r⟩
 | .ob _ _ _,_,⟨a,dx,vs,e1,h,l,r⟩=>⟨a,dx,vs,e1,h,l,RPs.un r⟩
 | .exc _ _ _,_,⟨a,d,vs,e1,h,l,hd,hn,r⟩=>⟨a,d,vs,e1,h,l,hd,hn,RPs.un r⟩
theorem RPs.un:∀ {xs:List PV} {vs:List V},RPs (E.at f z) Z xs vs→RPs E Z xs vs
 | [],_,h=>h
 | _ :: _,_,⟨v,r,e1,h,t⟩=>⟨v,r,e1,RP.un h,RPs.un t⟩
end
theorem RO.at:∀ {o:GO} {o':HO},RO E Z o o'→RO (E.at f z) Z o o'
 | .lst _,_,⟨vs,a,b⟩=>⟨vs,a,b.at⟩
 | .ins _ _ _,_,⟨dx,vs,a,l,b⟩=>⟨dx,vs,a,l,b.at⟩
theorem RO.un:∀ {o:GO} {o':HO},RO (E.at f z) Z o o'→RO E Z o o'
 | .lst _,_,⟨vs,a,b⟩=>⟨vs,a,b.un⟩
 | .ins _ _ _,_,⟨dx,vs,a,l,b⟩=>⟨dx,vs,a,l,b.un⟩
variable {F H:Hp} {G:Gh}
theorem Sim.at (S:Sim E F H Z G):Sim (E.at F Z) F H Z G:=⟨S.z,S.f,fun a o q=>let ⟨h1,o',h2,r⟩:=S.g a o q; ⟨h1,o',h2,r.at⟩,aN.refl _,aN.refl _⟩
theorem Sim.un {F1 H1 Z1:Hp} {G1:Gh} (S:Sim E F H Z G) (S1:Sim (E.at F Z) F H1 Z1 G1):Sim E F H1 Z1 G1:=⟨S1.z,S1.f,fun a o q=>let ⟨h1,o',h2,r⟩:=S1.g a o q; ⟨h1,o',h2,r.un⟩,S.z0.trans S1.z0,S.ff⟩
end
noncomputable abbrev PX:=String→List Str→List PV→Gh→Prop
noncomputable def WkX (x:PX):PX:=fun c ns xs G=>∃ G2:Gh,(∀ a o,G2 a=some o→G a=some o)∧x c ns xs G2
theorem WkX.here {x:PX} {c:String} {ns:List Str} {xs:List PV} {G:Gh} (h:x c ns xs G):WkX x c ns xs G:=⟨G,fun _ _ z=>z,h⟩
def KX (E:Ev) (F Z:Hp) (x:PX) (EX:XK):Prop:= ∀ c ns xs d vs Z1 G1 H1,aN Z Z1→Sim E F H1 Z1 G1→ns.length=vs.length→RPs E Z1 xs vs→(∀ dd,d=some dd→Z1 dd=some (.xd (ns.zip vs)))→(d=none→ns=[])→x c ns xs G1→EX (.ref (E.cls c)) d H1
theorem KX.wk {E:Ev} {F Z:Hp} {x:PX} {EX:XK} (k:KX E F Z x EX):KX E F Z (WkX x) EX:=by rintro c ns xs d vs Z1 G1 H1 s S l r hd hn ⟨G2,hs,q⟩;exact k c ns xs d vs Z1 G2 H1 s (S.weak hs) l r hd hn q
theorem KX.no {E:Ev} {F Z:Hp} {EX:XK}:KX E F Z (fun _ _ _ _=>False) EX:=fun c ns xs d vs Z1 G1 H1 s S l r hd hn q=>q.elim
noncomputable abbrev PSt:=List (Option PV)
noncomputable def RSl (E:Ev) (Z:Hp):Option PV→Option V→Prop
 | none,_=>True
 | some x,o=>∃ v,o=some v∧RP E Z x v
inductive RSt (E:Ev) (Z:Hp):PSt→St→Prop
 | nil:RSt E Z [] []
 | cons {o:Option PV} {u:Option V} {σ':PSt} {σ:St}:RSl E Z o u→RSt E Z σ' σ→RSt E Z (o :: σ') (u :: σ)
section
variable {E:Ev} {Z Z':Hp}
theorem RSl.mono (e:aN Z Z'):∀ {o:Option PV} {u:Option V},RSl E Z o u→RSl E Z' o u
 | none,_,_=>trivial
 | some _,_,⟨v,a,r⟩=>⟨v,a,r.mono e⟩
theorem RSt.mono (e:aN Z Z'):∀ {σ':PSt} {σ:St},RSt E Z σ' σ→RSt E Z' σ' σ
 | _,_,.nil=>.nil
 | _,_,.cons a b=>.cons (a.mono e) (RSt.mono e b)
theorem RSt.get:∀ {σ':PSt} {σ:St} {i:Nat} {x:PV},RSt E Z σ' σ→σ'[i]? =some (some x)→∃ v,σ[i]? =some (some v)∧RP E Z x v
 | _,_,_,_,.nil,e=>by simp at e
 | _,_,0,x,.cons a _,e=>by
   simp at e; subst e
   obtain ⟨v,e1,r⟩:=a;subst e1;exact ⟨v,rfl,r⟩
 | _,_,i + 1,x,.cons _ b,e=>by
   obtain ⟨v,e1,r⟩:=RSt.get (i:=i) b (by simpa using e);exact ⟨v,by simpa using e1,r⟩
theorem RSt.set {x:PV} {v:V} (r:RP E Z x v):∀ {σ':PSt} {σ:St} (i:Nat),RSt E Z σ' σ→RSt E Z (σ'.set i (some x)) (σ.set i (some v))
 | _,_,_,.nil=>.nil
 | _,_,0,.cons _ b=>.cons ⟨v,rfl,r⟩ b
 | _,_,i + 1,.cons a b=>.cons a (RSt.set r i b)
theorem RSt.unset:∀ {σ':PSt} {σ:St} (i:Nat),RSt E Z σ' σ→RSt E Z (σ'.set i none) (σ.set i none)
 | _,_,_,.nil=>.nil
 | _,_,0,.cons _ b=>.cons trivial b
 | _,_,i + 1,.cons a b=>.cons a (RSt.unset i b)
theorem RSt.nones:∀ (n:Nat),RSt E Z (List.replicate n none) (List.replicate n none)
 | 0=>.nil
 | n + 1=>.cons trivial (RSt.nones n)
theorem RSt.append:∀ {a b:PSt} {c d:St},RSt E Z a c→RSt E Z b d→RSt E Z (a ++ b) (c ++ d)
 | _,_,_,_,.nil,h=>h
 | _,_,_,_,.cons r t,h=>.cons r (RSt.append t h)
theorem RSt.vals:∀ {xs:List PV} {vs:List V},RPs E Z xs vs→RSt E Z (xs.map some) (vs.map some)
 | [],_,h=>by cases h; exact .nil
 | _ :: _,_,⟨v,r,e,h,t⟩=>by subst e; exact .cons ⟨v,rfl,h⟩ (RSt.vals t)
theorem RSl.at {f z:Hp}:∀ {o:Option PV} {u:Option V},RSl E Z o u→RSl (E.at f z) Z o u
 | none,_,_=>trivial
 | some _,_,⟨v,a,r⟩=>⟨v,a,r.at⟩
theorem RSl.un {f z:Hp}:∀ {o:Option PV} {u:Option V},RSl (E.at f z) Z o u→RSl E Z o u
 | none,_,_=>trivial
 | some _,_,⟨v,a,r⟩=>⟨v,a,r.un⟩
theorem RSt.at {f z:Hp}:∀ {σ':PSt} {σ:St},RSt E Z σ' σ→RSt (E.at f z) Z σ' σ
 | _,_,.nil=>.nil
 | _,_,.cons a b=>.cons a.at (RSt.at b)
theorem RSt.un {f z:Hp}:∀ {σ':PSt} {σ:St},RSt (E.at f z) Z σ' σ→RSt E Z σ' σ
 | _,_,.nil=>.nil
 | _,_,.cons a b=>.cons a.un (RSt.un b)
theorem RSt.length:∀ {σ':PSt} {σ:St},RSt E Z σ' σ→σ'.length=σ.length
 | _,_,.nil=>rfl
 | _,_,.cons _ b=>by rw [List.length_cons,List.length_cons,RSt.length b]
noncomputable def aC (n:Nat) (xs:List PV):PSt:=xs.map some ++ List.replicate (n - xs.length) none
theorem RSt.start {N:List Str} {xs:List PV} {vs:List V} (r:RPs E Z xs vs):RSt E Z (aC N.length xs) (L2.start N vs):=by
 unfold aC L2.start;rw [r.length];exact RSt.append (RSt.vals r) (RSt.nones _)
end
noncomputable abbrev PK1:=PV→Gh→Prop
noncomputable abbrev PTE:=PSt→Gh→PK1→Prop
noncomputable abbrev PTT:=PSt→Gh→(Bool→Gh→Prop)→Prop
noncomputable abbrev PTA:=PSt→Gh→(List PV→Gh→Prop)→Prop
structure gO where
 nx:PSt→Gh→Prop
 rt:PK1
 bk:PSt→Gh→Prop
 ct:PSt→Gh→Prop
noncomputable abbrev PTS:=gO→PSt→Gh→Prop
def Kq (E:Ev) (F Z:Hp) (Q':PK1) (Q:VK):Prop:= ∀ x v Z1 G1 H1,aN Z Z1→Sim E F H1 Z1 G1→RP E Z1 x v→Q' x G1→Q v H1
def KA (E:Ev) (F:Hp) (n:Nat) (Z:Hp) (Q':List PV→Gh→Prop) (Q:List V→Hp→Prop):Prop:= ∀ xs vs Z1 G1 H1,xs.length=n→aN Z Z1→Sim E F H1 Z1 G1→RPs E Z1 xs vs→Q' xs G1→Q vs H1
def KT (E:Ev) (F Z:Hp) (Q':Bool→Gh→Prop) (Q:Bool→Hp→Prop):Prop:= ∀ b Z1 G1 H1,aN Z Z1→Sim E F H1 Z1 G1→Q' b G1→Q b H1
def KSt (E:Ev) (F Z:Hp) (Q':PSt→Gh→Prop) (Q:St→Hp→Prop):Prop:= ∀ σ' σ Z1 G1 H1,aN Z Z1→Sim E F H1 Z1 G1→RSt E Z1 σ' σ→Q' σ' G1→Q σ H1
structure KD (E:Ev) (F Z:Hp) (D':gO) (D:uW):Prop where
 nx:KSt E F Z D'.nx D.nx
 rt:Kq E F Z D'.rt D.rt
 bk:KSt E F Z D'.bk D.bk
 ct:KSt E F Z D'.ct D.ct
theorem Kq.mono {E:Ev} {F Z Z2:Hp} {Q':PK1} {Q:VK} (e:aN Z Z2) (k:Kq E F Z Q' Q):Kq E F Z2 Q' Q:=fun x v Z1 G1 H1 s=>k x v Z1 G1 H1 (e.trans s)
theorem KT.mono {E:Ev} {F Z Z2:Hp} {Q':Bool→Gh→Prop} {Q:Bool→Hp→Prop} (e:aN Z Z2) (k:KT E F Z Q' Q):KT E F Z2 Q' Q:=fun x Z1 G1 H1 s=>k x Z1 G1 H1 (e.trans s)
theorem KSt.mono {E:Ev} {F Z Z2:Hp} {Q':PSt→Gh→Prop} {Q:St→Hp→Prop} (e:aN Z Z2) (k:KSt E F Z Q' Q):KSt E F Z2 Q' Q:=fun x v Z1 G1 H1 s=>k x v Z1 G1 H1 (e.trans s)
theorem KD.mono {E:Ev} {F Z Z2:Hp} {D':gO} {D:uW} (e:aN Z Z2) (k:KD E F Z D' D):KD E F Z2 D' D:=⟨k.nx.mono e,k.rt.mono e,k.bk.mono e,k.ct.mono e⟩
def low (E:Ev) (F:Hp) (t:PTE):TE:=fun σ H Q=>∃ σ' Z G Q',RSt E Z σ' σ∧Sim E F H Z G∧t σ' G Q'∧Kq E F Z Q' Q
def AF (E:Ev) (F:Hp) (t:PTT):TT:=fun σ H Q=>∃ σ' Z G Q',RSt E Z σ' σ∧Sim E F H Z G∧t σ' G Q'∧KT E F Z Q' Q
def IH (E:Ev) (F:Hp) (n:Nat) (t:PTA):TA:=fun σ H Q=>∃ σ' Z G Q',RSt E Z σ' σ∧Sim E F H Z G∧t σ' G Q'∧KA E F n Z Q' Q
def aI6 (E:Ev) (F:Hp) (t:PTS):TS:=fun D σ H=>∃ σ' Z G D',RSt E Z σ' σ∧Sim E F H Z G∧t D' σ' G∧KD E F Z D' D
noncomputable def bQ (G:Gh):PV→Option (List PV)
 | .lst xs=>some xs
 | .ref a=>match G a with
   | some (.lst xs)=>some xs
   | _=>none
 | _=>none
section
variable {E:Ev} {F H Z:Hp} {G:Gh} {x:PV} {v:V} {xs:List PV}
theorem dL (S:Sim E F H Z G) (r:RP E Z x v) (h:bQ G x=some xs):∃ a vs,v= .ref a∧H a=some (.lst vs)∧RPs E Z xs vs:=by
 cases x with
 | lst ys =>
   cases h;obtain ⟨a,vs,e,q,t⟩:=r;exact ⟨a,vs,e,S.z _ _ q,t⟩
 | ref a =>
   have e:v= .ref a:=r;subst e;unfold bQ at h;dsimp only at h;split at h
   · rename_i ys e;cases h;obtain ⟨_,o',q,vs,e',t⟩:=S.g _ _ e;subst e';exact ⟨a,vs,rfl,q,t⟩
   · cases h
 | _=>cases h
theorem eN (S:Sim E F H Z G) (r:RP E Z (.tup xs) v):∃ a vs,v= .ref a∧SqT E.K H a vs∧RPs E Z xs vs:=by
 obtain ⟨a,vs,e,q,t⟩:=r;exact ⟨a,vs,e,dN S.z q,t⟩
theorem Kq.here {Q':PK1} {Q:VK} (k:Kq E F Z Q' Q) (S:Sim E F H Z G) (q:Q' x G) (r:RP E Z x v):Q v H:=k x v Z G H (aN.refl Z) S r q
theorem bD {i:Int}:RP E Z (.int i) (.int i):=rfl
theorem uP {i:Str}:RP E Z (.str i) (.str i):=rfl
theorem cH {i:Bool}:RP E Z (.bl i) (.bl i):=rfl
theorem rG:RP E Z .non .non:=rfl
theorem Kq.newZ {Q':PK1} {Q:VK} {p:Addr} {o:HO} (k:Kq E F Z Q' Q) (S:Sim E F H Z G) (n:H p=none) (r:RP E (upd Z p o) x (.ref p)) (q:Q' x G):Q (.ref p) (upd H p o) :=
 k x (.ref p) (upd Z p o) G _ (aT (S.zn n) o) (S.fz n) r q
theorem nM {vs:List V} {p:Addr} (n:Z p=none) (r:RPs E Z xs vs):RP E (upd Z p (.tup vs)) (.tup xs) (.ref p):=⟨p,vs,rfl,SqT.of aI,r.mono (aT n _)⟩
theorem hJ {vs:List V} {p:Addr} (n:Z p=none) (r:RPs E Z xs vs):RP E (upd Z p (.lst vs)) (.lst xs) (.ref p):=⟨p,vs,rfl,aI,r.mono (aT n _)⟩
end
noncomputable abbrev P2:=PV→PV→Gh→PK1→Prop
def gZ (E:Ev) (F:Hp) (p:P2):R2:=fun v u H Q=>∃ x y Z G Q',RP E Z x v∧RP E Z y u∧Sim E F H Z G∧p x y G Q'∧Kq E F Z Q' Q
def pI (C:Int→Int→Prop) (g:Int→Int→PV):P2:=fun x y G Q=>match x,y with
 | .int i,.int j=>C i j∧Q (g i j) G
 | _,_=>False
theorem jD {E:Ev} {F:Hp} {C:Int→Int→Prop} {g:Int→Int→V} {g':Int→Int→PV} (hg:∀ Z i j,RP E Z (g' i j) (g i j)) {v u:V} {H:Hp} {Q:VK} (h:gZ E F (pI C g') v u H Q):rI C g v u H Q:=by
 obtain ⟨x,y,Z,G,Q',r1,r2,S,q,k⟩:=h;unfold pI at q;split at q
 · obtain ⟨c,q⟩:=q;exact ⟨_,_,r1,r2,c,k.here S q (hg _ _ _)⟩
 · exact q.elim
def xB (x y:PV) (G:Gh) (Q:PK1):Prop:=match x,y with
 | .int i,.int j=>Q (.int (i + j)) G
 | .str i,.str j=>i.length + j.length≤sizeLine∧Q (.str (i ++ j)) G
 | .tup xs,.tup ys=>xs.length + ys.length≤sizeLine∧Q (.tup (xs ++ ys)) G
 | x,y=>∃ xs ys,bQ G x=some xs∧bQ G y=some ys∧xs.length + ys.length≤sizeLine∧Q (.lst (xs ++ ys)) G
theorem aDW {E:Ev} {x y:PV} {xs ys:List PV} {v u:V} {F H Z:Hp} {G:Gh} {Q':PK1} {Q:VK} (r1:RP E Z x v) (r2:RP E Z y u) (S:Sim E F H Z G) (hx:bQ G x=some xs) (hy:bQ G y=some ys) (hz:xs.length + ys.length≤sizeLine) (q:Q' (.lst (xs ++ ys)) G) (k:Kq E F Z Q' Q):aK5 v u H Q:=by
 obtain ⟨a,vs,rfl,ha,ta⟩:=dL S r1 hx;obtain ⟨b,us,rfl,hb,tb⟩:=dL S r2 hy;exact ⟨a,b,vs,us,rfl,rfl,ha,hb,by rw [←ta.length,←tb.length]; exact hz,fun p n=>k.newZ S n (hJ (S.zn n) (ta.append tb)) q⟩
def aJm (K:W.Frag):R2:=fun x y H Q=>∃ a b ys,x= .ref a∧y= .ref b∧SqT K H a []∧SqT K H b ys∧Q (.ref b) H
theorem aAM {X:Cx}:OpR X (binaryOp .Add) (aJm X.K):=by
 intro pins s σ H x y v u Q I rx ry h;obtain ⟨a,b,ys,rfl,rfl,ha,hb,q⟩:=h;cases rx;cases ry;obtain ⟨its,r1,p1,_⟩:=I.tuple ha;obtain ⟨its2,r2,p2,_⟩:=I.tuple hb;obtain ⟨⟨cls,dd,data,sl⟩,ho,hc,n,hd⟩:=id p1;obtain ⟨⟨cls2,dd2,data2,sl2⟩,ho2,hc2,n2,hd2⟩:=id p2;simp only at hc hd hc2 hd2;subst hc hd hc2 hd2;cases r1;exact concat_meets ⟨_,ho,rfl⟩ ⟨_,ho2,rfl⟩ noFill_tuple_add seq_tuple_add PySem.F.slot_tuple_add PySem.F.entry_tuple_add (PySem.F.args_tuple_add_2 _ _)
   (tuple_addW0 a b #[] its2.toArray n n2 dd dd2 sl sl2 rfl) ⟨ho,ho2,⟨.ref b,H,I,rfl,q⟩⟩
section
variable {X:Cx} {E:Ev} {F:Hp}
theorem aDy (hK:E.K=X.K):OpR X (binaryOp .Add) (gZ E F xB):=by
 refine (aIs.or (LF.or ((aCp.or aAM).or aJa))).imp fun v u H Q h=>?_;obtain ⟨x,y,Z,G,Q',r1,r2,S,q,k⟩:=h;unfold xB at q;split at q
 · exact .inl ⟨_,_,r1,r2,k.here S q bD⟩
 · exact .inr (.inl ⟨_,_,r1,r2,q.1,k.here S q.2 uP⟩)
 · rename_i xs ys;have r1':=r1;have r2':=r2;obtain ⟨a,vs,rfl,ha,ta⟩:=eN S r1;obtain ⟨b,us,rfl,hb,tb⟩:=eN S r2;obtain ⟨hz,q⟩:=q;by_cases ev:vs=[]
   · subst ev;have ex:xs=[]:=List.eq_nil_of_length_eq_zero ta.length;subst ex;exact .inr (.inr (.inl (.inr ⟨a,b,us,rfl,rfl,hK▸ha,hK▸hb,k.here S q r2'⟩)))
   · refine .inr (.inr (.inl (.inl ⟨a,b,vs,us,rfl,rfl,hK▸ha,hK▸hb,ev,by rw [←ta.length,←tb.length]; exact hz,fun e=>?_,fun _ p n=>k.newZ S n (nM (S.zn n) (ta.append tb)) q⟩)));subst e;have ey:ys=[]:=List.eq_nil_of_length_eq_zero tb.length;subst ey;rw [List.append_nil] at q;exact k.here S q r1'
 · obtain ⟨xs,ys,hx,hy,hz,q⟩:=q;exact .inr (.inr (.inr (aDW r1 r2 S hx hy hz q k)))
def XZ (_ j:Int):Prop:=0 < j
def aGi (x y:PV) (G:Gh) (Q:PK1):Prop:=match x,y with
 | .int i,.int j=>zB i j∧Q (.int (i * j)) G
 | _,_=>False
noncomputable def DO:Operator→P2
 | .Add=>xB
 | .Sub=>pI (fun _ _=>True) fun i j=>.int (i - j)
 | .Mult=>aGi
 | .FloorDiv=>pI mJ fun i j=>.int (i / j)
 | .Mod=>pI XZ fun i j=>.int (i % j)
 | .Pow=>pI VN fun i j=>.int (i ^ j.toNat)
 | .LShift=>pI VN fun i j=>.int (i * 2 ^ j.toNat)
 | _=>fun _ _ _ _=>False
theorem vJ {g:Int→Int→V} {v u:V} {H:Hp} {Q:VK} (h:rI (fun _ _=>True) g v u H Q):rI0 g v u H Q:=by
 obtain ⟨i,j,a,b,_,q⟩:=h;exact ⟨i,j,a,b,q⟩
theorem aD3 (hK:E.K=X.K):∀ (op:Operator),OpR X (binaryOp op) (gZ E F (DO op))
 | .Add=>aDy hK
 | .Sub=>aGh.imp fun _ _ _ _ h=>vJ (jD (fun _ _ _=>bD) h)
 | .Mult=>aCX.imp fun v u H Q h=>by
   obtain ⟨x,y,Z,G,Q',r1,r2,S,q,k⟩:=h
   replace q:aGi x y G Q':=q
   unfold aGi at q;split at q
   · exact ⟨_,_,r1,r2,q.1,k.here S q.2 bD⟩
   · exact q.elim
 | .FloorDiv=>VA.imp fun _ _ _ _ h=>jD (fun _ _ _=>bD) h
 | .Mod=>aIb.imp fun _ _ _ _ h=>jD (fun _ _ _=>bD) h
 | .Pow=>aGp.imp fun _ _ _ _ h=>jD (fun _ _ _=>bD) h
 | .LShift=>aGu.imp fun _ _ _ _ h=>jD (fun _ _ _=>bD) h
 | .Div=>fun _ _ _ _ _ _ _ _ _ _ _ _ h=>(by obtain ⟨_,_,_,_,_,_,_,_,q,_⟩:=h; exact q.elim)
 | .RShift=>fun _ _ _ _ _ _ _ _ _ _ _ _ h=>(by obtain ⟨_,_,_,_,_,_,_,_,q,_⟩:=h; exact q.elim)
 | .BitOr=>fun _ _ _ _ _ _ _ _ _ _ _ _ h=>(by obtain ⟨_,_,_,_,_,_,_,_,q,_⟩:=h; exact q.elim)
 | .BitXor=>fun _ _ _ _ _ _ _ _ _ _ _ _ h=>(by obtain ⟨_,_,_,_,_,_,_,_,q,_⟩:=h; exact q.elim)
 | .BitAnd=>fun _ _ _ _ _ _ _ _ _ _ _ _ h=>(by obtain ⟨_,_,_,_,_,_,_,_,q,_⟩:=h; exact q.elim)
 | .MatMult=>fun _ _ _ _ _ _ _ _ _ _ _ _ h=>(by obtain ⟨_,_,_,_,_,_,_,_,q,_⟩:=h; exact q.elim)
end
mutual
noncomputable def peq:PV→PV→Bool
 | .non,y=>match y with | .non=>true | _=>false
 | .bl a,y=>match y with | .bl b=>a == b | .int j=>(if a then 1 else 0) == j | _=>false
 | .int i,y=>match y with | .int j=>i == j | .bl b=>i == (if b then 1 else 0) | _=>false
 | .str a,y=>match y with | .str b=>a == b | _=>false
 | .tup xs,y=>match y with | .tup ys=>oZ xs ys | _=>false
 | .lst xs,y=>match y with | .lst ys=>oZ xs ys | _=>false
 | _,_=>false
noncomputable def oZ:List PV→List PV→Bool
 | [],ys=>match ys with | []=>true | _=>false
 | x :: xs,ys=>match ys with | y :: r=>peq x y && oZ xs r | []=>false
end
mutual
noncomputable def dat:PV→Option PyData
 | .non=>some .none
 | .bl b=>some (.bool b)
 | .int i=>some (.int i)
 | .str x=>some (.str x)
 | .tup xs=>match mT xs with | some ds=>some (.tuple ds) | none=>none
 | .lst xs=>match mT xs with | some ds=>some (.list ds) | none=>none
 | _=>none
noncomputable def mT:List PV→Option (List PyData)
 | []=>some []
 | x :: xs=>match dat x,mT xs with | some d,some ds=>some (d :: ds) | _,_=>none
end
mutual
theorem AG:∀ {x y:PV} {d e:PyData},dat x=some d→dat y=some e→PyData.eqv d e=peq x y
 | .non,y,d,e,h,q=>by
   simp only [dat] at h; cases h;cases y <;> simp only [dat] at q <;> (try split at q) <;> cases q <;> simp only [PyData.eqv,peq]
 | .bl _,y,d,e,h,q=>by
   simp only [dat] at h; cases h;cases y <;> simp only [dat] at q <;> (try split at q) <;> cases q <;> simp only [PyData.eqv,peq]
 | .int _,y,d,e,h,q=>by
   simp only [dat] at h; cases h;cases y <;> simp only [dat] at q <;> (try split at q) <;> cases q <;> simp only [PyData.eqv,peq]
 | .str _,y,d,e,h,q=>by
   simp only [dat] at h; cases h;cases y <;> simp only [dat] at q <;> (try split at q) <;> cases q <;> simp only [PyData.eqv,peq]
 | .tup xs,y,d,e,h,q=>by
   simp only [dat] at h;split at h
   · rename_i ds hd;cases h;cases y with
     | tup ys =>
       simp only [dat] at q;split at q
       · rename_i es he;cases q;simp only [PyData.eqv,peq]; exact peqs_ok hd he
       · cases q
     | _=>simp only [dat] at q <;> (try split at q) <;> cases q <;> simp only [PyData.eqv,peq]
   · cases h
 | .lst xs,y,d,e,h,q=>by
   simp only [dat] at h;split at h
   · rename_i ds hd;cases h;cases y with
     | lst ys =>
       simp only [dat] at q;split at q
       · rename_i es he;cases q;simp only [PyData.eqv,peq]; exact peqs_ok hd he
       · cases q
     | _=>simp only [dat] at q <;> (try split at q) <;> cases q <;> simp only [PyData.eqv,peq]
   · cases h
 | .scr _,y,d,e,h,q=>by simp [dat] at h
 | .ob _ _ _,y,d,e,h,q=>by simp [dat] at h
 | .ref _,y,d,e,h,q=>by simp [dat] at h
 | .ty _,y,d,e,h,q=>by simp [dat] at h
 | .cl _,y,d,e,h,q=>by simp [dat] at h
 | .fn _,y,d,e,h,q=>by simp [dat] at h
 | .emp,y,d,e,h,q=>by simp [dat] at h
 | .dct _ _,y,d,e,h,q=>by simp [dat] at h
 | .exc _ _ _,y,d,e,h,q=>by simp [dat] at h
theorem peqs_ok:∀ {xs ys:List PV} {ds es:List PyData},mT xs=some ds→mT ys=some es→PyData.eqvAll ds es=oZ xs ys
 | [],[],_,_,h,q=>by simp only [mT] at h q; cases h; cases q; simp only [PyData.eqvAll,oZ]
 | [],y :: ys,_,_,h,q=>by
   simp only [mT] at h q; cases h;split at q <;> cases q
   simp only [PyData.eqvAll,oZ]
 | x :: xs,[],_,_,h,q=>by
   simp only [mT] at h q; cases q;split at h <;> cases h
   simp only [PyData.eqvAll,oZ]
 | x :: xs,y :: ys,_,_,h,q=>by
   simp only [mT] at h q;split at h <;> cases h
   rename_i hd hds;split at q <;> cases q
   rename_i he hes;simp only [PyData.eqvAll,oZ];rw [AG hd he,peqs_ok hds hes]
end
section
variable {X:Cx} {E:Ev} {pins:List (Addr×Obj)} {σ:L2.St} {F H Z:Hp} {s:Shared}
mutual
theorem iS (I:Inv X pins σ H s) (hK:E.K=X.K) (hz:aN Z H):∀ {x:PV} {v:V} {u:Value} {d:PyData},RP E Z x v→aO v u→dat x=some d→∃ as,Reads s.heap u d as
 | .non,v,u,d,r,rv,h=>by
   simp only [dat] at h; cases h;cases (show v= .non from r); cases rv; exact ⟨[],.none⟩
 | .bl b,v,u,d,r,rv,h=>by
   simp only [dat] at h; cases h;cases (show v= .bl b from r); cases rv; exact ⟨[],.bool b⟩
 | .int i,v,u,d,r,rv,h=>by
   simp only [dat] at h; cases h;cases (show v= .int i from r); obtain ⟨t,rfl⟩:=rv; exact ⟨[],.int i t⟩
 | .str x,v,u,d,r,rv,h=>by
   simp only [dat] at h; cases h;cases (show v= .str x from r); obtain ⟨t,rfl⟩:=rv; exact ⟨[],.str x t⟩
 | .tup xs,v,u,d,r,rv,h=>by
   simp only [dat] at h;split at h <;> cases h
   rename_i ds hd;obtain ⟨a,vs,rfl,q,t⟩:=r;cases rv;obtain ⟨its,rv,ht,_⟩:=I.tuple (hK▸dN hz q);obtain ⟨o,ho,hc,n,hd'⟩:=ht;obtain ⟨as,q'⟩:=dats_reads I hK hz t rv hd;exact ⟨as,.tuple ho hc hd' (by simpa using q')⟩
 | .lst xs,v,u,d,r,rv,h=>by
   simp only [dat] at h;split at h <;> cases h
   rename_i ds hd;obtain ⟨a,vs,rfl,q,t⟩:=r;cases rv;obtain ⟨_,its,n,rv,ho⟩:=I.hok _ _ (hz _ _ q);obtain ⟨as,q'⟩:=dats_reads I hK hz t rv hd;exact ⟨_ :: as,.list ho rfl rfl (by simpa using q')⟩
 | .scr _,v,u,d,r,rv,h=>by simp [dat] at h
 | .ob _ _ _,v,u,d,r,rv,h=>by simp [dat] at h
 | .ref _,v,u,d,r,rv,h=>by simp [dat] at h
 | .ty _,v,u,d,r,rv,h=>by simp [dat] at h
 | .cl _,v,u,d,r,rv,h=>by simp [dat] at h
 | .fn _,v,u,d,r,rv,h=>by simp [dat] at h
 | .emp,v,u,d,r,rv,h=>by simp [dat] at h
 | .dct _ _,v,u,d,r,rv,h=>by simp [dat] at h
 | .exc _ _ _,v,u,d,r,rv,h=>by simp [dat] at h
theorem dats_reads (I:Inv X pins σ H s) (hK:E.K=X.K) (hz:aN Z H):∀ {xs:List PV} {vs:List V} {us:List Value} {ds:List PyData},RPs E Z xs vs→aM vs us→mT xs=some ds→∃ as,ReadsAll s.heap us ds as
 | [],_,_,_,r,rv,h=>by
   simp only [mT] at h; cases h;cases r; cases rv; exact ⟨[],.nil⟩
 | x :: xs,_,_,_,r,rv,h=>by
   simp only [mT] at h;split at h <;> cases h
   rename_i hd hds;obtain ⟨v,r',rfl,r1,r2⟩:=r;cases rv with
   | cons q1 q2 =>
     obtain ⟨as,a⟩:=iS I hK hz r1 q1 hd;obtain ⟨bs,b⟩:=dats_reads I hK hz r2 q2 hds;exact ⟨as ++ bs,.cons a b⟩
end
mutual
noncomputable def dte:PV→Option PyData
 | .non=>some .none
 | .bl b=>some (.bool b)
 | .int i=>some (.int i)
 | .str x=>some (.str x)
 | .tup xs=>match XF xs with | some ds=>some (.tuple ds) | none=>none
 | .emp=>some (.dict [])
 | _=>none
noncomputable def XF:List PV→Option (List PyData)
 | []=>some []
 | x :: xs=>match dte x,XF xs with | some d,some ds=>some (d :: ds) | _,_=>none
end
mutual
theorem yT (I:Inv X pins σ H s) (hK:E.K=X.K) (hz:aN Z H):∀ {x:PV} {v:V} {u:Value} {d:PyData},RP E Z x v→aO v u→dte x=some d→∃ as,Reads s.heap u d as∧sysModules∉ as
 | .non,v,u,d,r,rv,h=>by
   simp only [dte] at h; cases h;cases (show v= .non from r); cases rv; exact ⟨[],.none,by simp⟩
 | .bl b,v,u,d,r,rv,h=>by
   simp only [dte] at h; cases h;cases (show v= .bl b from r); cases rv; exact ⟨[],.bool b,by simp⟩
 | .int i,v,u,d,r,rv,h=>by
   simp only [dte] at h; cases h;cases (show v= .int i from r); obtain ⟨t,rfl⟩:=rv; exact ⟨[],.int i t,by simp⟩
 | .str x,v,u,d,r,rv,h=>by
   simp only [dte] at h; cases h;cases (show v= .str x from r); obtain ⟨t,rfl⟩:=rv; exact ⟨[],.str x t,by simp⟩
 | .tup xs,v,u,d,r,rv,h=>by
   simp only [dte] at h;split at h <;> cases h
   rename_i ds hd;obtain ⟨a,vs,rfl,q,t⟩:=r;cases rv;obtain ⟨its,rv,ht,_⟩:=I.tuple (hK▸dN hz q);obtain ⟨o,ho,hc,n,hd'⟩:=ht;obtain ⟨as,q',na⟩:=dtes_reads I hK hz t rv hd;exact ⟨as,.tuple ho hc hd' (by simpa using q'),na⟩
 | .emp,v,u,d,r,rv,h=>by
   simp only [dte] at h; cases h;obtain ⟨a,rfl,q⟩:=r;cases rv;obtain ⟨_,hs,vs,rel,o,es,ep,ho,⟨hc,hd⟩,hl⟩:=I.hok _ _ (hz _ _ q);have ev:vs=[]:=by cases vs with
     | nil=>rfl
     | cons _ _=>cases rel
   subst ev;obtain ⟨hd1,_,hp,_⟩:=hl;have ee:es.toList=[]:=by cases hh:es.toList with
     | nil=>rfl
     | cons _ _=>rw [hh] at hp; cases hp
   exact ⟨a :: [] ++ [],.dict ho hc hd1 (kvs:=[]) (by rw [ee]; exact .nil) (by rw [ee]; exact .nil),by
     simp only [List.append_nil,List.mem_singleton];intro z; subst z; rw [beq_self_eq_true] at hs; cases hs⟩
 | .lst _,v,u,d,r,rv,h=>by simp [dte] at h
 | .scr _,v,u,d,r,rv,h=>by simp [dte] at h
 | .ob _ _ _,v,u,d,r,rv,h=>by simp [dte] at h
 | .ref _,v,u,d,r,rv,h=>by simp [dte] at h
 | .ty _,v,u,d,r,rv,h=>by simp [dte] at h
 | .cl _,v,u,d,r,rv,h=>by simp [dte] at h
 | .fn _,v,u,d,r,rv,h=>by simp [dte] at h
 | .dct _ _,v,u,d,r,rv,h=>by simp [dte] at h
 | .exc _ _ _,v,u,d,r,rv,h=>by simp [dte] at h
theorem dtes_reads (I:Inv X pins σ H s) (hK:E.K=X.K) (hz:aN Z H):∀ {xs:List PV} {vs:List V} {us:List Value} {ds:List PyData},RPs E Z xs vs→aM vs us→XF xs=some ds→∃ as,ReadsAll s.heap us ds as∧sysModules∉ as
 | [],_,_,_,r,rv,h=>by
   simp only [XF] at h; cases h;cases r; cases rv; exact ⟨[],.nil,by simp⟩
 | x :: xs,_,_,_,r,rv,h=>by
   simp only [XF] at h;split at h <;> cases h
   rename_i hd hds;obtain ⟨v,r',rfl,r1,r2⟩:=r;cases rv with
   | cons q1 q2 =>
     obtain ⟨as,a,na⟩:=yT I hK hz r1 q1 hd;obtain ⟨bs,b,nb⟩:=dtes_reads I hK hz r2 q2 hds;exact ⟨as ++ bs,.cons a b,fun z=>(List.mem_append.mp z).elim na nb⟩
end
noncomputable def pur (G:Gh):PV→PV
 | .ref a=>match G a with
   | some (.lst xs)=>.lst xs
   | _=>.ref a
 | x=>x
noncomputable def shp (x:PV):Bool:=match dat x with | some d=>SeqAt.shaped d | none=>false
theorem lZ {G:Gh} (I:Inv X pins σ H s) (hK:E.K=X.K) (S:Sim E F H Z G) {x:PV} {v:V} {u:Value} {d:PyData} (r:RP E Z x v) (rv:aO v u) (h:dat (pur G x)=some d):∃ as,Reads s.heap u d as:=by
 by_cases hx:∃ a,x= .ref a
 · obtain ⟨a,rfl⟩:=hx;have e:v= .ref a:=r;subst e;cases rv;unfold pur at h;dsimp only at h;split at h
   · rename_i xs e;obtain ⟨_,o',q,vs,e',t⟩:=S.g _ _ e;subst e';simp only [dat] at h;split at h <;> cases h
     rename_i ds hd;obtain ⟨_,its,n,rv,ho⟩:=I.hok _ _ q;obtain ⟨as,q'⟩:=dats_reads I hK S.z t rv hd;exact ⟨_ :: as,.list ho rfl rfl (by simpa using q')⟩
   · simp [dat] at h
 · have e:pur G x=x:=by
     unfold pur;split
     · rename_i a; exact absurd ⟨a,rfl⟩ hx
     · rfl
   rw [e] at h;exact iS I hK S.z r rv h
def pEq (neg:Bool) (x y:PV) (G:Gh) (Q:PK1):Prop:=shp (pur G x)=true∧shp (pur G y)=true∧Q (.bl (if neg then !peq (pur G x) (pur G y) else peq (pur G x) (pur G y))) G
theorem rZ {x:PV} (h:shp x=true):∃ d,dat x=some d∧SeqAt.shaped d=true:=by
 unfold shp at h;split at h
 · rename_i d e; exact ⟨d,e,h⟩
 · cases h
theorem aHK {k:Nat} (hr:bK k X.A) (hK:E.K=X.K):OpR X (compareOp .Eq) (gZ E F (pEq false)):=by
 rintro pins s σ H v w u u' Q I rx ry ⟨x,y,Z,G,Q',r1,r2,S,⟨hx,hy,q⟩,kq⟩;obtain ⟨d,e1,a1⟩:=rZ hx;obtain ⟨e,e2,a2⟩:=rZ hy;obtain ⟨as,q1⟩:=lZ I hK S r1 rx e1;obtain ⟨bs,q2⟩:=lZ I hK S r2 ry e2;refine eq_dataH q1 q2 a1 a2 hr.units ⟨.bl _,H,I,rfl, ?_⟩;rw [AG e1 e2];exact kq.here S q cH
theorem aAX {k:Nat} (hr:bK k X.A) (hK:E.K=X.K):OpR X (compareOp .NotEq) (gZ E F (pEq true)):=by
 rintro pins s σ H v w u u' Q I rx ry ⟨x,y,Z,G,Q',r1,r2,S,⟨hx,hy,q⟩,kq⟩;obtain ⟨d,e1,a1⟩:=rZ hx;obtain ⟨e,e2,a2⟩:=rZ hy;obtain ⟨as,q1⟩:=lZ I hK S r1 rx e1;obtain ⟨bs,q2⟩:=lZ I hK S r2 ry e2;refine ne_dataH q1 q2 a1 a2 hr.units ⟨.bl _,H,I,rfl, ?_⟩;rw [AG e1 e2];exact kq.here S q cH
def aIS (x y:PV) (G:Gh) (Q:PK1):Prop:= ∃ xs i,(x= .tup xs∨bQ G x=some xs)∧(∀ z∈xs,shp z=true)∧shp y=true∧xs.findIdx? (fun z=>peq z y)=some i∧Q (.int i) G
theorem FY {k:Nat} (hr:bK k X.A) (hK:E.K=X.K) (I:Inv X pins σ H s) (hz:aN Z H) {xs:List PV} {vs:List V} {its:List Value} {y:PV} {v:V} {u:Value} {i:Nat} (t:RPs E Z xs vs) (rv:aM vs its) (r:RP E Z y v) (ru:aO v u) (hx:∀ z∈xs,shp z=true) (hy:shp y=true) (hi:xs.findIdx? (fun z=>peq z y)=some i) :
   ∃ e:Nat→Bool,i < its.toArray.size∧e i=true∧(∀ m,m < i→e m=false)∧∀ m (hm:m < its.toArray.size),m≤i→SeqAt.EqAt X.A.in1 s its.toArray[m] u (e m):=by
 have l1:=t.length;have l2:=rv.length;obtain ⟨h1,h2,h3⟩:=List.findIdx?_eq_some_iff_getElem.mp hi;refine ⟨fun m=>match xs[m]? with | some z=>peq z y | none=>false,by rw [wIq]; omega, ?_,fun m hm=>?_,fun m hm _=>?_⟩
 · simp only [wHq h1]; exact h2
 · have hm':m < xs.length:=by omega
   simp only [wHq hm'];simpa using h3 m hm
 · have hm1:m < its.length:=by simpa using hm
   have hm':m < xs.length:=by omega
   simp only [wHq hm'];obtain ⟨w,ew,rw1⟩:=t.get (i:=m) (wHq hm');obtain ⟨u',eu,ru'⟩:=rv.get ew;have e3:its.toArray[m]=u':=by
     have:its[m]? =some its[m]:=wHq hm1;rw [this] at eu;simpa using Option.some.inj eu
   rw [e3];obtain ⟨d,e1,a1⟩:=rZ (hx _ (List.getElem_mem hm'));obtain ⟨d2,e2,a2⟩:=rZ hy;obtain ⟨as,q1⟩:=iS I hK hz rw1 ru' e1;obtain ⟨bs,q2⟩:=iS I hK hz r ru e2;rw [←AG e1 e2];exact SeqAt.eqAt_reads _ _ _ _ _ _ _ _ q1 q2 (SeqAt.canLay_of_shaped a1) (SeqAt.canLay_of_shaped a2) (SeqAt.room_of_shaped a1 (by have:=hr.un; first | (show X.A.units + 64 < cLine; omega) | (show X.A.units + 1 + 64 < cLine; omega)))
theorem aCZ {k:Nat} (hr:bK k X.A) (hK:E.K=X.K):IxM X "list.index" (fun v u H Q=>∃ x y Z G Q' xs,RP E Z x v∧RP E Z y u∧Sim E F H Z G∧bQ G x=some xs∧aIS x y G Q'∧Kq E F Z Q' Q):=by
 rintro pins s σ H v w u u' Q I rx ry ⟨x,y,Z,G,Q',xs0,r1,r2,S,hx,⟨xs,i,hor,hall,hy,hi,q⟩,kq⟩;have hx':bQ G x=some xs:=by
   rcases hor with rfl | h
   · cases hx
   · exact h
 obtain ⟨a,vs,rfl,ha,ta⟩:=dL S r1 hx';cases rx;obtain ⟨hz,its,n,rv,ho⟩:=I.hok _ _ ha;obtain ⟨e,h1,h2,h3,h4⟩:=FY hr hK I S.z ta rv r2 ry hall hy hi;have hl:=rv.length;have hs:=sizeLine_eq;rw [wIq] at h1;refine call_meets PySem.F.slot_list_index ⟨_,ho,rfl⟩ PySem.F.entry_list_index (PySem.F.args_list_index_2 _ _) (LE.EN a its.toArray n none #[] u' e i (by rw [wIq]; exact h1) (by omega) h2 h3) ⟨ho,h4,⟨.int i,H,I.tok _,⟨_,rfl⟩,kq.here S q bD⟩⟩
noncomputable def aMH:V→List V→Hp→VK→Prop:=fun x vs H Q=>∃ (l:Addr) (bs:List Bool) (b:Bool),x= .ref l∧vs=[.bl b]∧H l=some (.lst (bs.map V.bl))∧Q (.int ((bs.count b:Nat):Int)) H
noncomputable def aLD (b:Bool):Value→Bool
 | .bool c=>c == b
 | _=>false
theorem OA {b:Bool}:∀ {bs:List Bool} {its:List Value},aM (bs.map V.bl) its→its.countP (aLD b)=bs.count b
 | [],_,r=>by cases r; rfl
 | c :: bs,_,r=>by
   cases r with
   | cons r1 r2 =>
     cases r1;rw [List.countP_cons,OA r2,List.count_cons];rfl
theorem aAC:∀ {bs:List Bool} {its:List Value},aM (bs.map V.bl) its→∀ u∈its,∃ c,u= .bool c
 | [],_,r=>by cases r; intro u h; cases h
 | c :: bs,_,r=>by
   cases r with
   | cons r1 r2 =>
     cases r1;intro u h;rcases List.mem_cons.mp h with e | h
     · exact ⟨c,e⟩
     · exact aAC r2 u h
theorem aGg:MtR X "list.count" aMH:=by
 intro pins s σ H x vs v us Q I rx rv h;obtain ⟨l,bs,b,rfl,rfl,hH,q⟩:=h;cases rx;obtain ⟨u,rfl,ru⟩:=rv.one;cases ru;obtain ⟨hz,its,n,r,ho⟩:=I.hok _ _ hH;refine call_meets PySem.F.slot_list_count ⟨_,ho,rfl⟩ PySem.F.entry_list_count (PySem.F.args_list_count_2 _ _) (SeqAt.list_countAt l its.toArray n none #[] (.bool b) (aLD b)) ⟨ho,fun y hy=>?_,⟨.int _,H,I.tok _,⟨_,by rw [OA r]⟩,q⟩⟩;obtain ⟨c,rfl⟩:=aAC r y (by simpa using hy);exact SeqAt.EqAt.bool_bool c b
theorem aD4 {k:Nat} (hr:bK k X.A) (hK:E.K=X.K):IxM X "tuple.index" (fun v u H Q=>∃ x y Z G Q' xs,RP E Z x v∧RP E Z y u∧Sim E F H Z G∧x= .tup xs∧aIS x y G Q'∧Kq E F Z Q' Q):=by
 rintro pins s σ H v w u u' Q I rx ry ⟨x,y,Z,G,Q',xs0,r1,r2,S,hx,⟨xs,i,hor,hall,hy,hi,q⟩,kq⟩;have hx':x= .tup xs:=by
   rcases hor with h | h
   · exact h
   · subst hx; cases h
 subst hx';obtain ⟨a,vs,rfl,ha,ta⟩:=eN S r1;cases rx;obtain ⟨its,rv,⟨⟨o,ho,hc,n,hd⟩,hn⟩,hz⟩:=I.tupleN (hK▸ha);obtain ⟨e,h1,h2,h3,h4⟩:=FY hr hK I S.z ta rv r2 ry hall hy hi;have hn':=hn _ ho;obtain ⟨oc,od,odt,osl⟩:=o;cases hc; cases hn'; cases hd;refine call_meets PySem.F.slot_tuple_index ⟨_,ho,rfl⟩ PySem.F.entry_tuple_index (PySem.F.args_tuple_index_2 _ _) (LE.BT a its.toArray n none osl u' e i h1 h2 h3) ⟨ho,h4,⟨.int i,H,I.tok _,⟨_,rfl⟩,kq.here S q bD⟩⟩
end
section
variable {E:Ev} {F H Z:Hp} {G:Gh} {X:Cx}
theorem VS {xs:List PV} {vs:List V} {i:Int} {x:PV} (r:RPs E Z xs vs) (h:atI xs i=some x):∃ v,atI vs i=some v∧RP E Z x v:=by
 unfold atI at *;rw [←r.length];cases e:ixN xs.length i with
 | none=>rw [e] at h; cases h
 | some j=>rw [e] at h; exact r.get h
noncomputable def oU:List Key→List PV→Key→Option PV
 | j :: ks,x :: xs,k=>if j=k then some x else oU ks xs k
 | _,_,_=>none
def rY (x y:PV) (G:Gh) (Q:PK1):Prop:=match x,y with
 | .tup xs,.int i=>∃ v,atI xs i=some v∧Q v G
 | .scr ns,.int i=>∃ n,atI ns i=some n∧Q (.int n) G
 | .str z,.int i=>z.length≤sizeLine∧∃ c,atI z.cps.toList i=some c∧Q (.str ⟨#[c]⟩) G
 | .dct ks xs,.int i=>∃ v,oU ks xs (.inl i)=some v∧Q v G
 | .dct ks xs,.str z=>∃ v,oU ks xs (.inr z)=some v∧Q v G
 | x,.int i=>∃ xs v,bQ G x=some xs∧atI xs i=some v∧Q v G
 | _,_=>False
theorem vS {k:Key} {x:PV}:∀ {ks:List Key} {xs:List PV} {vs:List V},RPs E Z xs vs→oU ks xs k=some x→∃ v,valV (ks.zip vs) k=some v∧RP E Z x v
 | [],_,_,_,h=>by cases h
 | _ :: _,[],_,_,h=>by cases h
 | j :: ks,y :: ys,_,⟨v,r,e,r1,r2⟩,h=>by
   subst e;unfold oU at h;rw [List.zip_cons_cons];split at h
   · rename_i ej; cases h; exact ⟨v,vF ej,r1⟩
   · rename_i ej;rw [uQ ej];exact vS (ks:=ks) r2 h
theorem aBL {α β:Type} {f:α→β} {xs:List α} {i:Int} {x:α} (h:atI xs i=some x):atI (xs.map f) i=some (f x):=by
 unfold atI at *;rw [List.length_map];cases e:ixN xs.length i with
 | none=>rw [e] at h; cases h
 | some j =>
   rw [e] at h;have h':xs[j]? =some x:=h;show (xs.map f)[j]? =some (f x);rw [List.getElem?_map,h']; rfl
theorem aI0 {k:Nat} (hr:bK k X.A) (hK:E.K=X.K):IxR X (gZ E F rY):=by
 refine (aGE.or (aBu hr)).imp fun v u H Q h=>?_;obtain ⟨x,y,Z,G,Q',r1,r2,S,q,k⟩:=h;unfold rY at q;split at q
 · obtain ⟨y,e,q⟩:=q;obtain ⟨a,vs,rfl,ha,ta⟩:=eN S r1;obtain ⟨w,e',rw'⟩:=VS ta e;exact .inl (.inr (.inl ⟨a,vs,_,w,rfl,r2,hK▸ha,e',k.here S q rw'⟩))
 · obtain ⟨n,e,q⟩:=q;obtain ⟨a,rfl,ha⟩:=r1;exact .inl (.inl ⟨a,_,_,_,rfl,r2,hK▸S.z.seq ha,aBL e,k.here S q bD⟩)
 · obtain ⟨hz,c,e,q⟩:=q;exact .inl (.inr (.inr ⟨_,_,c,r1,r2,hz,e,k.here S q uP⟩))
 · obtain ⟨y,e,q⟩:=q;obtain ⟨a,vs,rfl,ha,_,ta⟩:=r1;obtain ⟨w,e',rw'⟩:=vS ta e;have r2:u=kV (.inl _):=r2;rw [r2];refine .inr ⟨a,w,rfl, ?_,k.here S q rw'⟩;rw [←e']; exact .k (S.z _ _ ha)
 · obtain ⟨y,e,q⟩:=q;obtain ⟨a,vs,rfl,ha,_,ta⟩:=r1;obtain ⟨w,e',rw'⟩:=vS ta e;have r2:u=kV (.inr _):=r2;rw [r2];refine .inr ⟨a,w,rfl, ?_,k.here S q rw'⟩;rw [←e']; exact .k (S.z _ _ ha)
 · obtain ⟨xs,y,e0,e,q⟩:=q;obtain ⟨a,vs,rfl,ha,ta⟩:=dL S r1 e0;obtain ⟨w,e',rw'⟩:=VS ta e;exact .inl (.inl ⟨a,vs,_,w,rfl,r2,SqL.of ha,e',k.here S q rw'⟩)
 · exact q.elim
def aBZ (o i v:PV) (G:Gh) (Q:Gh→Prop):Prop:= ∃ a xs k j,o= .ref a∧i= .int k∧G a=some (.lst xs)∧ixN xs.length k=some j∧Q (gup G a (.lst (xs.set j v)))
noncomputable def aGx (E:Ev) (F:Hp) (p:PV→PV→PV→Gh→(Gh→Prop)→Prop):aBv:=fun o i v H Q=>∃ o' i' v' Z G Q',RP E Z o' o∧RP E Z i' i∧RP E Z v' v∧Sim E F H Z G∧p o' i' v' G Q'∧∀ G1 H1,Sim E F H1 Z G1→Q' G1→Q H1
theorem aCA:aIt X (aGx E F aBZ):=by
 rintro pins s σ H o i v ov iv u Q I ro ri rv ⟨o',i',v',Z,G,Q',r1,r2,r3,S,⟨a,xs,k,j,e1,e2,hG,ix,q⟩,kq⟩;subst e1 e2;have e1:o= .ref a:=r1;have e2:i= .int k:=r2;subst e1 e2;obtain ⟨_,o',hH,vs,e,t⟩:=S.g _ _ hG;subst e;exact XM pins s σ H (.ref a) (.int k) v ov iv u Q I ro ri rv ⟨a,vs,k,j,rfl,rfl,hH,by rw [←t.length]; exact ix,kq _ _ (S.set (go:=.lst (xs.set j v')) hG ⟨_,rfl,t.set r3 j⟩) q⟩
noncomputable def sN (xs:List PV) (lo hi:Option Int):List PV:=(xs.drop (HT.sIx xs.length 0 lo)).take (HT.sIx xs.length xs.length hi - HT.sIx xs.length 0 lo)
theorem HV {xs:List PV} {vs:List V} {lo hi:Option Int} (r:RPs E Z xs vs):RPs E Z (sN xs lo hi) (FK vs lo hi):=by
 unfold sN FK;rw [r.length];exact (r.drop _).take _
def YA (x:PV) (lo hi:Option Int) (G:Gh) (Q:PK1):Prop:=match x with
 | .tup xs=>Q (.tup (sN xs lo hi)) G
 | .scr ns=>Q (.lst (sN (ns.map .int) lo hi)) G
 | x=>∃ xs,bQ G x=some xs∧Q (.lst (sN xs lo hi)) G
noncomputable def aKA (E:Ev) (F:Hp) (p:PV→Option Int→Option Int→Gh→PK1→Prop):V→Option Int→Option Int→Hp→VK→Prop:=fun v lo hi H Q=>∃ x Z G Q',RP E Z x v∧Sim E F H Z G∧p x lo hi G Q'∧Kq E F Z Q' Q
theorem SlR.imp {r r':V→Option Int→Option Int→Hp→VK→Prop} (h:SlR X r) (f:∀ x l u H Q,r' x l u H Q→r x l u H Q):SlR X r':=fun pins s σ H x v vl vu lo hi sl Q I rx hs pl pu q=>h pins s σ H x v vl vu lo hi sl Q I rx hs pl pu (f _ _ _ _ _ q)
theorem aGT (hK:E.K=X.K):SlR X (aKA E F YA):=by
 refine SlR.imp (SlR.or (SlR.or aHp aCx) aD8) fun v lo hi H Q h=>?_;obtain ⟨x,Z,G,Q',r1,S,q,k⟩:=h;unfold YA at q;split at q
 · rename_i xs;have r0:=r1;obtain ⟨a,vs,rfl,ha,ta⟩:=eN S r1;by_cases w:HT.sIx vs.length 0 lo=0∧HT.sIx vs.length vs.length hi=vs.length
   · refine .inl (.inr ⟨a,vs,rfl,hK▸ha,w, ?_⟩);have e:sN xs lo hi=xs:=by
       unfold sN;rw [ta.length,w.1,w.2,List.drop_zero,Nat.sub_zero,←ta.length,List.take_length]
     rw [e] at q;exact k _ _ _ _ _ (aN.refl _) S r0 q
   · exact .inl (.inl ⟨a,vs,rfl,hK▸ha,w,fun p n=>k.newZ S n (nM (S.zn n) (HV ta)) q⟩)
 · obtain ⟨a,rfl,ha⟩:=r1;exact .inr ⟨a,_,rfl,hK▸S.z.seq ha,fun p n=>k.newZ S n (hJ (S.zn n) (HV (RPs.ofInts _))) q⟩
 · obtain ⟨xs,e0,q⟩:=q;obtain ⟨a,vs,rfl,ha,ta⟩:=dL S r1 e0;exact .inr ⟨a,vs,rfl,SqL.of ha,fun p n=>k.newZ S n (hJ (S.zn n) (HV ta)) q⟩
def xU (x:PV) (G:Gh) (Q:Bool→Gh→Prop):Prop:=match x with
 | .non=>Q false G
 | .bl b=>Q b G
 | .int i=>Q (i != 0) G
 | .str y=>y.length≤sizeLine∧Q ((y.length:Int) != 0) G
 | .tup xs=>Q (!xs.isEmpty) G
 | x=>∃ xs,bQ G x=some xs∧Q (!xs.isEmpty) G
theorem AA {xs:List PV} {vs:List V} (r:RPs E Z xs vs):xs.isEmpty=vs.isEmpty:=by
 cases xs with
 | nil=>cases r; rfl
 | cons x xs=>obtain ⟨_,_,e,_,_⟩:=r; subst e; rfl
theorem tP {x:PV} {v:V} {Q':Bool→Gh→Prop} (hK:E.K=X.K) (S:Sim E F H Z G) (r:RP E Z x v) (q:xU x G Q'):∃ b,SJ X.K v H b∧Q' b G:=by
 unfold xU at q;split at q
 · cases (show v= .non from r); exact ⟨_,rfl,q⟩
 · cases (show v= .bl _ from r); exact ⟨_,rfl,q⟩
 · cases (show v= .int _ from r); exact ⟨_,rfl,q⟩
 · cases (show v= .str _ from r); exact ⟨_,⟨q.1,rfl⟩,q.2⟩
 · obtain ⟨a,vs,rfl,ha,ta⟩:=eN S r;exact ⟨_,.inr (.inl ⟨vs,hK▸ha,by rw [AA ta]⟩),q⟩
 · obtain ⟨xs,e0,q⟩:=q;obtain ⟨a,vs,rfl,ha,ta⟩:=dL S r e0;exact ⟨_,.inl ⟨vs,SqL.of ha,by rw [AA ta]⟩,q⟩
inductive Bn where
 | len | abs | max | min | int | str | isi | tuple | list | all | any | sum | bool | repr | divmod
 deriving DecidableEq
noncomputable abbrev Sp3:=List PV→Gh→PK1→Prop
noncomputable def aDp (E:Ev) (F:Hp) (p:List PV→Gh→PK1→Prop):List V→Hp→VK→Prop:=fun vs H Q=>∃ xs Z G Q',RPs E Z xs vs∧Sim E F H Z G∧p xs G Q'∧Kq E F Z Q' Q
noncomputable def nC:PV→Gh→Option String
 | .non,_=>some "NoneType"
 | .bl _,_=>some "bool"
 | .int _,_=>some "int"
 | .str _,_=>some "str"
 | .tup _,_=>some "tuple"
 | .lst _,_=>some "list"
 | .emp,_=>some "dict"
 | .dct _ _,_=>some "dict"
 | .ref a,G=>match G a with
   | some (.lst _)=>some "list"
   | _=>none
 | _,_=>none
noncomputable def KW:PV→Gh→Option String
 | .ob c _ _,_=>some c
 | .ref a,G=>match G a with
   | some (.ins c _ _)=>some c
   | _=>none
 | _,_=>none
structure aAl (E:Ev) (cs:List String):Prop where
 own:∀ c∈cs,aCI E.K (E.cls c)
 plain:∀ c∈cs,∀ n∈aAd,W.kitOne E.K (.type n) (.ref (E.cls c))=some false
 other:∀ c∈cs,∀ T∈nA,W.kitOne E.K (.ref (E.cls c)) (.type T)=some false
 apart:∀ c∈cs,∀ c'∈cs,c≠c'→W.kitOne E.K (.ref (E.cls c)) (.ref (E.cls c'))=some false
noncomputable def EL:List PV→Option Bool
 | []=>some true
 | .bl b :: r=>(EL r).map (b && ·)
 | _ :: _=>none
theorem OE:∀ {xs:List PV} {b:Bool},EL xs=some b→∃ bs:List Bool,xs=bs.map PV.bl∧b=bs.all id
 | [],b,h=>by cases h; exact ⟨[],rfl,rfl⟩
 | x :: r,b,h=>by
   cases x with
   | bl c =>
     unfold EL at h;cases e:EL r with
     | none=>rw [e] at h; cases h
     | some d =>
       rw [e] at h; cases h;obtain ⟨bs,e1,e2⟩:=OE e;exact ⟨c :: bs,by rw [e1]; rfl,by rw [e2]; rfl⟩
   | _=>cases h
theorem RPs.bools:∀ {bs:List Bool} {vs:List V},RPs E Z (bs.map PV.bl) vs→vs=bs.map V.bl
 | [],_,h=>h
 | _ :: _,_,⟨v,r,e1,h,t⟩=>by
   have h':v=V.bl _:=h;subst e1 h'; rw [RPs.bools t]; rfl
noncomputable def eD (cs:List String):Bn→List PV→Gh→PK1→Prop
 | .len,[x],G,Q=>(∃ xs,x= .tup xs∧Q (.int xs.length) G)∨(∃ ns,x= .scr ns∧Q (.int ns.length) G)∨(∃ z,x= .str z∧z.length≤sizeLine∧Q (.int z.length) G)∨∃ xs,bQ G x=some xs∧Q (.int xs.length) G
 | .abs,[.int i],G,Q=>Q (.int (i.natAbs:Int)) G
 | .max,[.int i,.int j],G,Q=>Q (.int (max i j)) G
 | .min,[.int i,.int j],G,Q=>Q (.int (min i j)) G
 | .int,[.int i],G,Q=>Q (.int i) G
 | .int,[.bl b],G,Q=>Q (.int (if b then 1 else 0)) G
 | .isi,[x,.ty T],G,Q=>T∈nA∧((∃ n,nC x G=some n∧Q (.bl (sV n T)) G)∨∃ c,KW x G=some c∧c∈cs∧Q (.bl false) G)
 | .isi,[x,.cl c],G,Q=>c∈cs∧((∃ n,nC x G=some n∧Q (.bl false) G)∨∃ c',KW x G=some c'∧c'∈cs∧Q (.bl (decide (c'=c))) G)
 | .tuple,[x],G,Q=>(∃ xs,x= .tup xs∧Q x G)∨∃ xs,bQ G x=some xs∧Q (.tup xs) G
 | .list,[x],G,Q=>(∃ xs,x= .tup xs∧Q (.lst xs) G)∨∃ xs,bQ G x=some xs∧Q (.lst xs) G
 | .all,[x],G,Q=>∃ xs b,bQ G x=some xs∧EL xs=some b∧Q (.bl b) G
 | _,_,_,_=>False
noncomputable def aGW:Bn→Value
 | .len=>.builtin "len"
 | .abs=>.builtin "abs"
 | .max=>.builtin "max"
 | .min=>.builtin "min"
 | .int=>.type "int"
 | .str=>.type "str"
 | .isi=>.builtin "isinstance"
 | .tuple=>.type "tuple"
 | .list=>.type "list"
 | .all=>.builtin "all"
 | .any=>.builtin "any"
 | .sum=>.builtin "sum"
 | .bool=>.type "bool"
 | .repr=>.builtin "repr"
 | .divmod=>.builtin "divmod"
theorem FS {x:PV} {vs:List V} (r:RPs E Z [x] vs):∃ v,vs=[v]∧RP E Z x v:=by
 obtain ⟨v,t,e,r1,r2⟩:=r;have e2:t=[]:=r2;subst e2;exact ⟨v,e,r1⟩
theorem aB1 {x y:PV} {vs:List V} (r:RPs E Z [x,y] vs):∃ v u,vs=[v,u]∧RP E Z x v∧RP E Z y u:=by
 obtain ⟨v,t,e,r1,u,t',e',r2,r3⟩:=r;have e2:t'=[]:=r3;subst e2 e';exact ⟨v,u,e,r1,r2⟩
theorem CT {x:PV} {v:V} {n:String} (S:Sim E F H Z G) (r:RP E Z x v) (h:nC x G=some n):n∈aAd∧(tyN H v=some n∨(n="tuple"∧∃ a vs,v= .ref a∧SqT E.K H a vs)):=by
 cases x with
 | non=>cases h; cases (show v= .non from r); exact ⟨by decide,.inl rfl⟩
 | bl b=>cases h; cases (show v= .bl b from r); exact ⟨by decide,.inl rfl⟩
 | int b=>cases h; cases (show v= .int b from r); exact ⟨by decide,.inl rfl⟩
 | str b=>cases h; cases (show v= .str b from r); exact ⟨by decide,.inl rfl⟩
 | tup xs =>
   cases h;obtain ⟨a,vs,rfl,ha,_⟩:=eN S r;exact ⟨by decide,.inr ⟨rfl,a,vs,rfl,ha⟩⟩
 | lst xs =>
   cases h;obtain ⟨a,vs,rfl,ha,_⟩:=dL (xs:=xs) S r rfl;exact ⟨by decide,.inl (by simp only [tyN,ha])⟩
 | emp =>
   cases h;obtain ⟨a,rfl,ha⟩:=r;exact ⟨by decide,.inl (by simp only [tyN,S.z _ _ ha])⟩
 | dct ks xs =>
   cases h;obtain ⟨a,vs,rfl,ha,_,_⟩:=r;exact ⟨by decide,.inl (by simp only [tyN,S.z _ _ ha])⟩
 | ref a =>
   unfold nC at h;dsimp only at h;split at h
   · rename_i xs e;cases h;obtain ⟨a',vs,rfl,ha,_⟩:=dL (xs:=xs) S r (by unfold bQ; dsimp only; rw [e]);exact ⟨by decide,.inl (by simp only [tyN,ha])⟩
   · cases h
 | _=>cases h
theorem MA {pins:List (Addr×Obj)} {σ:L2.St} {s:Shared} {x:PV} {v:V} {u c:Value} {n:String} {b:Bool} {Q:VK} (hK:E.K=X.K) (I:Inv X pins σ H s) (S:Sim E F H Z G) (r:RP E Z x v) (rv:aO v u) (h:nC x G=some n)
   (e:W.kitOne X.K (.type n) c=some b) (q:Q (.bl b) H):wpAny (model X.prog X.w) X.A (call (.builtin "isinstance") [u,c]) (EP X pins σ Q) X.xe s:=by
 obtain ⟨_,t | ⟨hn,a,vs,hv,ha⟩⟩:=CT S r h
 · exact zW I rv (aIx t) e fun tk=>⟨.bl b,H,I.tok tk,rfl,q⟩
 · subst hn hv;cases rv;obtain ⟨its,_,⟨o,h1,h2,_⟩,_⟩:=I.tuple (hK▸ha);exact W.kia_one W.kitx_tuple I.kIn ⟨o,h1,h2⟩ e (fun z=>nomatch z) fun tk=>⟨.bl b,H,I.tok tk,rfl,q⟩
theorem aC2 {x:PV} {v:V} {c:String} (S:Sim E F H Z G) (r:RP E Z x v) (h:KW x G=some c):∃ a dx fs,v= .ref a∧H a=some (.ins (E.cls c) dx fs):=by
 cases x with
 | ob c' ns xs =>
   cases h;obtain ⟨a,dx,vs,rfl,q,_,_⟩:=r;exact ⟨a,dx,_,rfl,S.z _ _ q⟩
 | ref a =>
   unfold KW at h;dsimp only at h;split at h
   · rename_i c' ns xs e;cases h;have e1:v= .ref a:=r;subst e1;obtain ⟨_,o',q,dx,vs,e',_,_⟩:=S.g _ _ e;subst e';exact ⟨a,dx,_,rfl,q⟩
   · cases h
 | _=>cases h
theorem AH {pins:List (Addr×Obj)} {σ:L2.St} {s:Shared} {x:PV} {v:V} {u t:Value} {c:String} {b:Bool} {Q:VK} (hK:E.K=X.K) (I:Inv X pins σ H s) (S:Sim E F H Z G) (r:RP E Z x v) (rv:aO v u) (h:KW x G=some c) (O:aCI E.K (E.cls c))
   (e:W.kitOne X.K (.ref (E.cls c)) t=some b) (q:Q (.bl b) H):wpAny (model X.prog X.w) X.A (call (.builtin "isinstance") [u,t]) (EP X pins σ Q) X.xe s:=by
 obtain ⟨a,dx,fs,rfl,ha⟩:=aC2 S r h;have O:aCI X.K (E.cls c):=hK▸O;exact zW I rv (.ins ha O.cl O.ha O.hn O.htk O.hm) e fun tk=>⟨.bl b,H,I.tok tk,rfl,q⟩
theorem bT.or {f:Value} {r r':List V→Hp→VK→Prop} (h:bT X f r) (h':bT X f r'):bT X f (fun xs H Q=>r xs H Q∨r' xs H Q):=by
 intro pins s σ H xs us Q I rs q;rcases q with q | q
 · exact h pins s σ H xs us Q I rs q
 · exact h' pins s σ H xs us Q I rs q
theorem noC {f:Value} {p:List PV→Gh→PK1→Prop} (h:∀ xs G Q,¬p xs G Q):bT X f (aDp E F p):=by rintro _ _ _ _ _ _ _ _ _ ⟨_,_,_,_,_,_,q,_⟩;exact absurd q (h _ _ _)
noncomputable def aCm:Bn→Bool
 | .max=>true
 | .min=>true
 | .all=>true
 | .any=>true
 | .sum=>true
 | .len=>false
 | .abs=>false
 | .int=>false
 | .str=>false
 | .isi=>false
 | .tuple=>false
 | .list=>false
 | .bool=>false
 | .repr=>false
 | .divmod=>false
theorem aCc {cs:List String} (hK:E.K=X.K) (C:aAl E cs):∀ b,(aCm b=true→X.calm=true)→bT X (aGW b) (aDp E F (eD cs b))
 | .len,hc=>by
   refine (bT.or CH AT).imp fun vs H Q h=>?_;obtain ⟨xs,Z,G,Q',r,S,q,k⟩:=h
   match xs,q with
   | [x],q =>
     obtain ⟨v,rfl,rr⟩:=FS r;rcases q with ⟨ys,rfl,q⟩ | ⟨ns,rfl,q⟩ | ⟨z,rfl,hz,q⟩ | ⟨ys,e,q⟩
     · obtain ⟨a,vs,rfl,ha,ta⟩:=eN S rr;exact .inl ⟨a,vs,rfl,.inr (hK▸ha),k.here S q (by rw [ta.length]; exact bD)⟩
     · obtain ⟨a,rfl,ha⟩:=rr;exact .inl ⟨a,_,rfl,.inl (hK▸S.z.seq ha),k.here S q (by rw [List.length_map]; exact bD)⟩
     · exact .inr ⟨z,by rw [show v= .str z from rr],hz,k.here S q bD⟩
     · obtain ⟨a,vs,rfl,ha,ta⟩:=dL S rr e;exact .inl ⟨a,vs,rfl,.inl (SqL.of ha),k.here S q (by rw [ta.length]; exact bD)⟩
 | .abs,hc=>by
   refine PL.imp fun vs H Q h=>?_;obtain ⟨xs,Z,G,Q',r,S,q,k⟩:=h
   match xs,q with
   | [.int i],q =>
     obtain ⟨v,rfl,rr⟩:=FS r;exact ⟨i,by rw [show v= .int i from rr],k.here S q bD⟩
 | .max,hc=>by
   refine (PY (hc rfl)).imp fun vs H Q h=>?_;obtain ⟨xs,Z,G,Q',r,S,q,k⟩:=h
   match xs,q with
   | [.int i,.int j],q =>
     obtain ⟨v,u,rfl,r1,r2⟩:=aB1 r;have e:max i j=if j > i then j else i:=by split <;> omega
     exact ⟨i,j,by rw [show v= .int i from r1,show u= .int j from r2],k.here S q (by rw [e]; exact bD)⟩
 | .min,hc=>by
   refine (SM (hc rfl)).imp fun vs H Q h=>?_;obtain ⟨xs,Z,G,Q',r,S,q,k⟩:=h
   match xs,q with
   | [.int i,.int j],q =>
     obtain ⟨v,u,rfl,r1,r2⟩:=aB1 r;have e:min i j=if j < i then j else i:=by split <;> omega
     exact ⟨i,j,by rw [show v= .int i from r1,show u= .int j from r2],k.here S q (by rw [e]; exact bD)⟩
 | .int,hc=>by
   refine SR.imp fun vs H Q h=>?_;obtain ⟨xs,Z,G,Q',r,S,q,k⟩:=h
   match xs,q with
   | [.int i],q =>
     obtain ⟨v,rfl,rr⟩:=FS r;exact .inl ⟨i,by rw [show v= .int i from rr],k.here S q bD⟩
   | [.bl i],q =>
     obtain ⟨v,rfl,rr⟩:=FS r;exact .inr ⟨i,by rw [show v= .bl i from rr],k.here S q bD⟩
 | .str,hc=>noC fun xs G Q q=>by unfold eD at q; exact q
 | .isi, hc=>by
   intro pins s σ H vs us Q I rv h;obtain ⟨xs,Z,G,Q',r,S,q,k⟩:=h
   match xs,q with
   | [x,.ty T],q =>
     obtain ⟨v,w',rfl,r1,r2⟩:=aB1 r;obtain ⟨u,u',rfl,rv1,rv2⟩:=DG rv;have e:w'= .ty T:=r2;subst e;have e2:u'= .type T:=rv2;subst e2;obtain ⟨hT,⟨n,hn,q⟩ | ⟨c,hcn,hcs,q⟩⟩:=q
     · exact MA hK I S r1 rv1 hn (aI4 X.K n (CT S r1 hn).1 T hT) (k.here S q cH)
     · exact AH hK I S r1 rv1 hcn (C.own c hcs) (hK▸C.other c hcs T hT) (k.here S q cH)
   | [x, .cl c],q =>
     obtain ⟨v,w',rfl,r1,r2⟩:=aB1 r;obtain ⟨u,u',rfl,rv1,rv2⟩:=DG rv;have e:w'= .ref (E.cls c):=r2;subst e;have e2:u'= .ref (E.cls c):=rv2;subst e2;obtain ⟨hcs,⟨n,hn,q⟩ | ⟨c',hcn,hcs',q⟩⟩:=q
     · exact MA hK I S r1 rv1 hn (hK▸C.plain c hcs n (CT S r1 hn).1) (k.here S q cH)
     · by_cases e:c'=c
       · subst e;rw [decide_eq_true rfl] at q;exact AH hK I S r1 rv1 hcn (C.own _ hcs') (by unfold W.kitOne; rw [if_pos (beq_self_eq_true _)]) (k.here S q cH)
       · rw [decide_eq_false e] at q;exact AH hK I S r1 rv1 hcn (C.own _ hcs') (hK▸C.apart c' hcs' c hcs e) (k.here S q cH)
 | .tuple,hc=>by
   refine wT.imp fun vs H Q h=>?_;obtain ⟨xs,Z,G,Q',r,S,q,k⟩:=h
   match xs,q with
   | [x],q =>
     obtain ⟨v,rfl,rr⟩:=FS r;rcases q with ⟨ys,rfl,q⟩ | ⟨ys,e,q⟩
     · obtain ⟨a,vs,e,ha,ta⟩:=eN S rr;subst e;exact ⟨a,vs,rfl,.inr ⟨hK▸ha,k.here S q rr⟩⟩
     · obtain ⟨a,vs,rfl,ha,ta⟩:=dL S rr e;exact ⟨a,vs,rfl,.inl ⟨SqL.of ha,fun l n=>k.newZ S n (nM (S.zn n) ta) q⟩⟩
 | .list,hc=>by
   refine CN.imp fun vs H Q h=>?_;obtain ⟨xs,Z,G,Q',r,S,q,k⟩:=h
   match xs,q with
   | [x],q =>
     obtain ⟨v,rfl,rr⟩:=FS r;rcases q with ⟨ys,rfl,q⟩ | ⟨ys,e,q⟩
     · obtain ⟨a,vs,rfl,ha,ta⟩:=eN S rr;exact ⟨a,vs,rfl,.inr (hK▸ha),fun l n=>k.newZ S n (hJ (S.zn n) ta) q⟩
     · obtain ⟨a,vs,rfl,ha,ta⟩:=dL S rr e;exact ⟨a,vs,rfl,.inl (SqL.of ha),fun l n=>k.newZ S n (hJ (S.zn n) ta) q⟩
 | .divmod,hc=>noC fun xs G Q q=>by unfold eD at q; exact q
 | .all,hc=>by
   refine (QS (hc rfl)).imp fun vs H Q h=>?_;obtain ⟨xs,Z,G,Q',r,S,q,k⟩:=h
   match xs,q with
   | [x],q =>
     obtain ⟨v,rfl,rr⟩:=FS r;obtain ⟨ys,b,e,eb,q⟩:=q;obtain ⟨bs,e1,e2⟩:=OE eb;subst e1 e2;obtain ⟨a,vs,rfl,ha,ta⟩:=dL S rr e;exact ⟨a,bs,rfl,by rw [←ta.bools]; exact ha,k.here S q cH⟩
 | .any,hc=>noC fun xs G Q q=>by unfold eD at q; exact q
 | .sum,hc=>noC fun xs G Q q=>by unfold eD at q; exact q
 | .bool,hc=>noC fun xs G Q q=>by unfold eD at q; exact q
 | .repr,hc=>noC fun xs G Q q=>by unfold eD at q; exact q
end
inductive Ar where
 | arg (i:Nat) | non | bl (b:Bool) | int (i:Int) | str (x:Str)
 deriving DecidableEq
noncomputable def Ar.val (xs:List PV):Ar→PV
 | .arg i=>xs.getD i .non
 | .non=>.non
 | .bl b=>.bl b
 | .int i=>.int i
 | .str x=>.str x
inductive CE where
 | var (i:Nat) | int (i:Int) | bl (b:Bool) | non | str (x:Str) | glo (x:Str)
 | bin (op:Operator) (a b:CE) | neg (a:CE) | no (a:CE)
 | cmp (op:CmpOp) (a b:CE) | chn (op op':CmpOp) (a b c:CE)
 | an (a b:CE) | oo (a b:CE) | tst (a:CE) | tsb (a:CE)
 | tup (es:CE) | lst (m:Bool) (es:CE) | nil | cons (a b:CE)
 | idx (a i:CE) | sli (a lo hi:CE) | att (a:CE) (f:Str)
 | cal (f:Str) (es:CE) | cak (f:Str) (es ks:CE) (ar:List Ar) | blt (b:Bn) (es:CE)
 | cmpr (m:Bool) (tg it ts el:CE) (js:List (Option Nat))
 | isq (e:CE) | irg (es:CE) | ien (e:CE) | izp (es:CE)
 | gn (i:Nat) | gt (n:Nat) (gs:CE)
 | ceq (eqs:List (String×Str)) (a b:CE) | emp | dct (es:CE) | ixo (a e:CE) | cne (eqs:List (String×Str)) (a b:CE) | gl (n:Nat) (gs:CE) | rpr (e:CE) | cex (op:CmpOp) (eqs:List (String×Str)) (a b:CE) | gix (ks:List (Str×Str)) (e:CE) | gin (neg:Bool) (ks:List (Str×Str)) (e:CE) | cav (fs:List (Str×Nat×List Ar)) (i:Nat) (es:CE) | isx (a:CE) (n:Str) | atx (a:CE) (f:Str) | cnt (a e:CE) | bln (a:CE) | met (m:Str) (ls:List (String×Str×List Ar)) (a es:CE)
inductive CS where
 | nil | seq (a b:CS) | ex (e:CE) | asg (g e:CE) | par (i j:Nat) (a b:CE) | par3 (i j l:Nat) (a b c:CE) | sub (o i e:CE) | fld (o:CE) (f:Str) (e:CE)
 | iff (c:CE) (a b:CS) | wh (c:CE) (b:CS) | fr (g it:CE) (b:CS) | ret (e:CE) | retN | nev
 | tri (b:CS) (i:Nat) (cs:List String) | trh (b:CS) (j:Nat) (h:CS) (cs:List String)
structure Tb where
 S:Str→Sp3
 gv:Str→PV
 cs:List String
 fl:List (String×Str)
 fam:PX→Str→Sp3:=fun _ _ _ _ _=>False
 xp:PX:=fun _ _ _ _=>False
 xi:List (String×Str×Bool):=[]
 fx:List (String×Str):=[]
noncomputable abbrev Tb.at (T:Tb) (x:PX):Tb:={ T with S:=T.fam x,xp:=x }
def aGL (x:PV) (G:Gh) (Q:PK1):Prop:=match x with
 | .int i=>Q (.int (-i)) G
 | _=>False
def pIs (neg:Bool) (x y:PV) (G:Gh) (Q:PK1):Prop:=match y with
 | .non=>(x= .non∧Q (.bl (!neg)) G)∨(x≠.non∧Q (.bl neg) G)
 | .bl b=>∃ c,x= .bl c∧Q (.bl (if neg then !(c == b) else c == b)) G
 | _=>False
noncomputable def flP:PV→Bool
 | .non=>true
 | .bl _=>true
 | .int _=>true
 | .str _=>true
 | _=>false
def pIn (neg:Bool) (x y:PV) (G:Gh) (Q:PK1):Prop:= ∃ xs,(y= .tup xs∨bQ G y=some xs)∧flP x=true∧xs.all flP=true∧Q (.bl (if neg=true then !(xs.any fun z=>peq z x) else xs.any fun z=>peq z x)) G
noncomputable def nK:CmpOp→P2
 | .Lt=>pI (fun _ _=>True) fun i j=>.bl (decide (i < j))
 | .LtE=>pI (fun _ _=>True) fun i j=>.bl (decide (i≤j))
 | .Gt=>pI (fun _ _=>True) fun i j=>.bl (decide (j < i))
 | .GtE=>pI (fun _ _=>True) fun i j=>.bl (decide (j≤i))
 | .Eq=>pEq false
 | .NotEq=>pEq true
 | .Is=>pIs false
 | .IsNot=>pIs true
 | .In=>pIn false
 | .NotIn=>pIn true
def aAL (T:Tb) (x:PV) (f:Str) (G:Gh) (Q:PK1):Prop:= ∃ c ns xs v,(x= .ob c ns xs∨∃ a,x= .ref a∧G a=some (.ins c ns xs))∧(c,f)∈T.fl∧(ns.zip xs).lookup f=some v∧Q v G
noncomputable abbrev PTG:=PV→PSt→Gh→(PSt→Gh→Prop)→Prop
noncomputable abbrev PTI:=PSt→Gh→((Gh→Prop)→List PV→Gh→Prop)→Prop
noncomputable def QE (js:List (Option Nat)) (σ:PSt):PSt:=js.map fun o=>match o with | none=>none | some j=>(σ[j]?).getD none
noncomputable def fZ (chk:Gh→Prop) (g:PTG) (ts:PTT) (te:PTE):List PV→List PV→PSt→Gh→(List PV→Gh→Prop)→Prop
 | [],acc,_,G,Q=>chk G∧Q acc G
 | x :: r,acc,σ,G,Q=>chk G∧g x σ G fun σ2 G2=>ts σ2 G2 fun ok G3=>if ok=true then te σ2 G3 fun y G4=>fZ chk g ts te r (acc ++ [y]) σ2 G4 Q else fZ chk g ts te r acc σ2 G3 Q
noncomputable def sY (chk:Gh→Prop) (g:PTG) (tb:PTS) (D:gO):List PV→PSt→Gh→Prop
 | [],σ,G=>chk G∧D.nx σ G
 | x :: r,σ,G=>chk G∧g x σ G fun σ2 G2=>tb { D with nx:=sY chk g tb D r,ct:=sY chk g tb D r,bk:=D.nx } σ2 G2
def vN (m:Bool) (G:Gh) (xs:List PV) (Q:PK1):Prop:=if m=true then ∀ p,G p=none→Q (.ref p) (gup G p (.lst xs)) else Q (.lst xs) G
noncomputable def sZ (lo:Int) (n:Nat):List PV:=(List.range n).map fun (k:Nat)=>PV.int (lo + (k:Int))
noncomputable def GH (xs:List PV):List PV:=xs.zipIdx.map fun p=>PV.tup [.int (p.2:Int),p.1]
noncomputable def aJO:PV→Option (List PV)
 | .tup ys=>some ys
 | .lst ys=>some ys
 | _=>none
noncomputable def aNY (n:Nat) (yss:List (List PV)):List PV:=(List.range n).map fun i=>PV.tup (yss.map fun ys=>ys.getD i .non)
def aBb (x:PV) (G:Gh) (R:(Gh→Prop)→List PV→Gh→Prop):Prop:=match x with
 | .tup xs=>R (fun _=>True) xs G
 | .lst xs=>R (fun _=>True) xs G
 | .scr ns=>R (fun _=>True) (ns.map .int) G
 | .ref a=>∃ xs,G a=some (.lst xs)∧R (fun G'=>G' a=some (.lst xs)) xs G
 | _=>False
noncomputable def aKQ (T:Tb) (eqs:List (String×Str)) (x y:PV) (G:Gh) (Q:PK1):Prop :=
 (∃ c m ns xs ns' ys,(c,m)∈eqs∧x= .ob c ns xs∧y= .ob c ns' ys∧T.S m [x,y] G fun v G'=>∃ b,v= .bl b∧Q (.bl b) G')∨pEq false x y G Q
noncomputable def aAs (T:Tb) (eqs:List (String×Str)) (x y:PV) (G:Gh) (Q:PK1):Prop :=
 (∃ c m ns xs ns' ys,(c,m)∈eqs∧x= .ob c ns xs∧y= .ob c ns' ys∧T.S m [x,y] G fun v G'=>∃ b,v= .bl b∧Q (.bl (!b)) G')∨pEq true x y G Q
def aJe (x:PV) (G:Gh) (Q:PK1):Prop:= ∃ d,(dat x=some d∨dte x=some d)∧d.showable=true∧d.depth≤64∧d.shown.length≤sizeLine∧(∀ i:Int,x= .int i→i.natAbs.log2 < 1920)∧Q (.str d.shown) G
noncomputable def buP:PV→Gh→Prop
 | .non,_=>True
 | .bl _,_=>True
 | .int _,_=>True
 | .str _,_=>True
 | .tup _,_=>True
 | .lst _,_=>True
 | .scr _,_=>True
 | .emp,_=>True
 | .dct _ _,_=>True
 | .ref p,G=>∃ xs,bQ G (.ref p)=some xs
 | _,_=>False
def anP (T:Tb) (c:String) (y:PV) (G:Gh):Prop:=buP y G∨∃ d ns ys,y= .ob d ns ys∧d∈T.cs∧d≠c
def aNk (T:Tb) (eqs:List (String×Str)) (x y:PV) (G:Gh) (Q:PK1):Prop:= ∃ c m ns xs,(c,m)∈eqs∧x= .ob c ns xs∧anP T c y G∧T.S m [x,y] G fun v G'=>∃ b,v= .bl b∧Q (.bl b) G'
def aNw (T:Tb) (eqs:List (String×Str)) (x y:PV) (G:Gh) (Q:PK1):Prop:= ∃ c m ns ys,(c,m)∈eqs∧y= .ob c ns ys∧anP T c x G∧T.S m [y,x] G fun v G'=>∃ b,v= .bl b∧Q (.bl b) G'
def aNz (T:Tb) (eqs:List (String×Str)) (x y:PV) (G:Gh) (Q:PK1):Prop:= ∃ c m ns xs,(c,m)∈eqs∧x= .ob c ns xs∧anP T c y G∧T.S m [x,y] G fun v G'=>∃ b,v= .bl b∧Q (.bl (!b)) G'
noncomputable def inP (T:Tb) (c:String) (m:Str) (x:PV) (Q:Bool→Gh→Prop):List PV→Gh→Prop
 | [],G=>Q false G
 | y :: r,G=>((∃ ns ys,y= .ob c ns ys)∧Q true G∧T.S m [y,x] G fun v G'=>∃ b,v= .bl b∧if b=true then Q true G' else inP T c m x Q r G')∨
     (anP T c y G∧T.S m [x,y] G fun v G'=>∃ b,v= .bl b∧if b=true then Q true G' else inP T c m x Q r G')
noncomputable def aLo (T:Tb) (eqs:List (String×Str)) (neg:Bool) (x y:PV) (G:Gh) (Q:PK1):Prop :=
 ∃ c m ns xs ys,(c,m)∈eqs∧x= .ob c ns xs∧(y= .lst ys∨(neg=false∧y= .tup ys))∧inP T c m x (fun b G'=>Q (.bl (if neg=true then !b else b)) G') ys G
def pX (T:Tb) (op:CmpOp) (eqs:List (String×Str)) (x y:PV) (G:Gh) (Q:PK1):Prop:=match op with
 | .Eq=>aKQ T eqs x y G Q∨aNk T eqs x y G Q∨aNw T eqs x y G Q
 | .NotEq=>aAs T eqs x y G Q∨aNz T eqs x y G Q
 | .In=>aLo T eqs false x y G Q
 | .NotIn=>aLo T eqs true x y G Q
 | _=>False
noncomputable def kP:Key→PV
 | .inl i=>.int i
 | .inr x=>.str x
noncomputable def flK:List (Key×PV)→List PV
 | []=>[]
 | p :: r=>kP p.1 :: p.2 :: flK r
mutual
noncomputable def wpE (T:Tb):CE→PTE
 | .var i=>fun σ G Q=>∃ v,σ[i]? =some (some v)∧Q v G
 | .int i=>fun _ G Q=>Q (.int i) G
 | .bl b=>fun _ G Q=>Q (.bl b) G
 | .non=>fun _ G Q=>Q .non G
 | .str x=>fun _ G Q=>Q (.str x) G
 | .glo x=>fun _ G Q=>Q (T.gv x) G
 | .bin op a b=>fun σ G Q=>wpE T a σ G fun x G1=>wpE T b σ G1 fun y G2=>DO op x y G2 Q
 | .neg a=>fun σ G Q=>wpE T a σ G fun x G1=>aGL x G1 Q
 | .no a=>fun σ G Q=>wpE T a σ G fun x G1=>xU x G1 fun b G2=>Q (.bl (!b)) G2
 | .cmp op a b=>fun σ G Q=>wpE T a σ G fun x G1=>wpE T b σ G1 fun y G2=>nK op x y G2 Q
 | .chn op op' a b c=>fun σ G Q=>wpE T a σ G fun x G1=>wpE T b σ G1 fun y G2=>nK op x y G2 fun z G3=>∃ k,z= .bl k∧if k=true then wpE T c σ G3 fun w G4=>nK op' y w G4 Q else Q (.bl false) G3
 | .emp=>fun _ G Q=>Q .emp G
 | .dct es=>fun σ G Q=>wpL T es σ G fun xs G1=>∃ kvs:List (Key×PV),xs=flK kvs∧(kvs.map (·.1)).Nodup∧kvs.length≤15∧Q (.dct (kvs.map (·.1)) (kvs.map (·.2))) G1
 | .ixo a b=>fun σ G Q=>wpE T a σ G fun x G1=>(∃ xs,x= .tup xs∨bQ G1 x=some xs)∧wpE T b σ G1 fun y G2=>aIS x y G2 Q
 | .cnt a b=>fun σ G Q=>wpE T a σ G fun x G1=>(∃ xs,bQ G1 x=some xs)∧wpE T b σ G1 fun y G2=>∃ (bs:List Bool) (b:Bool),bQ G2 x=some (bs.map PV.bl)∧y= .bl b∧Q (.int (bs.count b)) G2
 | .cne eqs a b=>fun σ G Q=>wpE T a σ G fun x G1=>wpE T b σ G1 fun y G2=>aAs T eqs x y G2 Q
 | .ceq eqs a b=>fun σ G Q=>wpE T a σ G fun x G1=>wpE T b σ G1 fun y G2=>aKQ T eqs x y G2 Q
 | .an a b=>fun σ G Q=>wpE T a σ G fun x G1=>xU x G1 fun c G2=>if c=true then wpE T b σ G2 Q else Q x G2
 | .oo a b=>fun σ G Q=>wpE T a σ G fun x G1=>xU x G1 fun c G2=>if c=true then Q x G2 else wpE T b σ G2 Q
 | .tup es=>fun σ G Q=>wpL T es σ G fun xs G1=>xs.length≤sizeLine∧Q (.tup xs) G1
 | .lst m es=>fun σ G Q=>wpL T es σ G fun xs G1=>xs.length≤sizeLine∧vN m G1 xs Q
 | .idx a i=>fun σ G Q=>wpE T a σ G fun x G1=>wpE T i σ G1 fun y G2=>rY x y G2 Q
 | .sli a lo hi=>fun σ G Q=>wpE T a σ G fun x G1=>wpO T lo σ G1 fun l G2=>wpO T hi σ G2 fun h G3=>YA x l h G3 Q
 | .att a f=>fun σ G Q=>wpE T a σ G fun x G1=>aAL T x f G1 Q
 | .cal f es=>fun σ G Q=>wpL T es σ G fun xs G1=>T.S f xs G1 Q
 | .cak f es ks ar=>fun σ G Q=>wpL T es σ G fun xs G1=>wpL T ks σ G1 fun zs G2=>T.S f (ar.map (Ar.val (xs ++ zs))) G2 Q
 | .blt b es=>fun σ G Q=>wpL T es σ G fun xs G1=>eD T.cs b xs G1 Q
 | .cmpr m tg it ts el js=>fun σ G Q=>wpI T it σ G fun chk xs G1=>xs.length≤sizeLine∧fZ chk (wpG T tg) (wpT T ts) (wpE T el) xs [] (QE js σ) G1 fun ys G2=>vN m G2 ys Q
 | .cex op eqs a b=>fun σ G Q=>wpE T a σ G fun x G1=>wpE T b σ G1 fun y G2=>pX T op eqs x y G2 Q
 | .rpr e=>fun σ G Q=>wpE T e σ G fun x G1=>aJe x G1 Q
 | .gix ks e=>fun σ G Q=>wpE T e σ G fun y G1=>∃ z f,y= .str z∧ks.lookup z=some f∧Q (.fn f) G1
 | .gin neg ks e=>fun σ G Q=>wpE T e σ G fun y G1=>∃ z,y= .str z∧Q (.bl (if neg=true then !(ks.lookup z).isSome else (ks.lookup z).isSome)) G1
 | .cav fs i es=>fun σ G Q=>∃ f n ar,σ[i]? =some (some (.fn f))∧(f,n,ar)∈fs∧wpL T es σ G fun xs G1=>T.S f (ar.map (Ar.val xs)) G1 Q
 | .isx a n=>fun σ G Q=>wpE T a σ G fun x G1=>∃ c ns xs r,x= .exc c ns xs∧(c,n,r)∈T.xi∧Q (.bl r) G1
 | .atx a f=>fun σ G Q=>wpE T a σ G fun x G1=>∃ c ns xs v,x= .exc c ns xs∧(c,f)∈T.fx∧(ns.zip xs).lookup f=some v∧Q v G1
 | .bln a=>fun σ G Q=>wpE T a σ G fun x G1=>∃ i:Int,x= .int i∧Q (.int ((Builtin.Int.intBits i:Nat):Int)) G1
 | .met m ls a es=>fun σ G Q=>wpE T a σ G fun x G1=>∃ c ky ar ns xs,(c,ky,ar)∈ls∧(x= .ob c ns xs∨∃ p,x= .ref p∧G1 p=some (.ins c ns xs))∧m∉ ns∧wpL T es σ G1 fun ys G2=>T.S ky (x :: ar.map (Ar.val ys)) G2 Q
 | .tst _=>fun _ _ _=>False
 | .tsb _=>fun _ _ _=>False
 | .nil=>fun _ _ _=>False
 | .cons _ _=>fun _ _ _=>False
 | .isq _=>fun _ _ _=>False
 | .irg _=>fun _ _ _=>False
 | .ien _=>fun _ _ _=>False
 | .izp _=>fun _ _ _=>False
 | .gn _=>fun _ _ _=>False
 | .gt _ _=>fun _ _ _=>False
 | .gl _ _=>fun _ _ _=>False
noncomputable def wpL (T:Tb):CE→PTA
 | .nil=>fun _ G Q=>Q [] G
 | .cons a b=>fun σ G Q=>wpE T a σ G fun x G1=>wpL T b σ G1 fun xs G2=>Q (x :: xs) G2
 | _=>fun _ _ _=>False
noncomputable def wpT (T:Tb):CE→PTT
 | .an a b=>fun σ G Q=>wpT T a σ G fun c G1=>if c=true then wpT T b σ G1 Q else Q false G1
 | .oo a b=>fun σ G Q=>wpT T a σ G fun c G1=>if c=true then Q true G1 else wpT T b σ G1 Q
 | .no a=>fun σ G Q=>wpT T a σ G fun c G1=>Q (!c) G1
 | .tst a=>fun σ G Q=>wpE T a σ G fun x G1=>xU x G1 Q
 | .tsb a=>fun σ G Q=>wpE T a σ G fun x G1=>∃ k,x= .bl k∧Q k G1
 | .nil=>fun _ G Q=>Q true G
 | _=>fun _ _ _=>False
noncomputable def wpO (T:Tb):CE→PSt→Gh→(Option Int→Gh→Prop)→Prop
 | .nil=>fun _ G Q=>Q none G
 | .tst e=>fun σ G Q=>wpE T e σ G fun x G1=>∃ i,x= .int i∧Q (some i) G1
 | _=>fun _ _ _=>False
noncomputable def wpI (T:Tb):CE→PTI
 | .isq e=>fun σ G R=>wpE T e σ G fun x G1=>aBb x G1 R
 | .irg es=>fun σ G R=>wpL T es σ G fun xs G1=>(∃ j,xs=[.int j]∧ -(2 ^ 62)≤j∧j < 2 ^ 62∧R (fun _=>True) (sZ 0 j.toNat) G1)∨(∃ i j,xs=[.int i,.int j]∧(-(2 ^ 62)≤i∧i < 2 ^ 62∧ -(2 ^ 62)≤j∧j < 2 ^ 62)∧R (fun _=>True) (sZ i (j - i).toNat) G1)
 | .ien e=>fun σ G R=>wpE T e σ G fun x G1=>∃ xs,x= .tup xs∧R (fun _=>True) (GH xs) G1
 | .izp es=>fun σ G R=>wpL T es σ G fun xs G1=>(xs.length=2∨xs.length=3)∧∃ n yss,xs.map aJO=yss.map some∧(∀ ys∈yss,ys.length=n)∧R (fun _=>True) (aNY n yss) G1
 | _=>fun _ _ _=>False
noncomputable def wpG (T:Tb):CE→PTG
 | .gn i=>fun x σ G Q=>Q (σ.set i (some x)) G
 | .gt n gs=>fun x σ G Q=>(∃ xs,x= .tup xs∧xs.length=n∧eW T gs xs σ G Q)
 | .gl n gs=>fun x σ G Q=>(∃ xs,bQ G x=some xs∧xs.length=n∧eW T gs xs σ G Q)
 | _=>fun _ _ _ _=>False
noncomputable def eW (T:Tb):CE→List PV→PSt→Gh→(PSt→Gh→Prop)→Prop
 | .nil=>fun xs σ G Q=>xs=[]∧Q σ G
 | .cons a b=>fun xs σ G Q=>∃ x r,xs=x :: r∧wpG T a x σ G fun σ1 G1=>eW T b r σ1 G1 Q
 | _=>fun _ _ _ _=>False
end
noncomputable def PQ (f:Str):List Str→List Str
 | []=>[f]
 | n :: r=>if n=f then n :: r else n :: PQ f r
noncomputable def xM {α:Type} (f:Str) (v:α):List Str→List α→List α
 | [],_=>[v]
 | n :: r,x :: xs=>if n=f then v :: xs else x :: xM f v r xs
 | _ :: _,[]=>[]
noncomputable def wpS:Tb→CS→PTS
 | T,.nil=>fun D σ G=>D.nx σ G
 | T,.seq a b=>fun D σ G=>wpS T a { D with nx:=wpS T b D } σ G
 | T,.ex e=>fun D σ G=>wpE T e σ G fun _ G1=>D.nx σ G1
 | T,.asg g e=>fun D σ G=>wpE T e σ G fun x G1=>wpG T g x σ G1 D.nx
 | T,.par i j a b=>fun D σ G=>wpE T a σ G fun x G1=>wpE T b σ G1 fun y G2=>D.nx ((σ.set i (some x)).set j (some y)) G2
 | T,.par3 i j l a b c=>fun D σ G=>wpE T a σ G fun x G1=>wpE T b σ G1 fun y G2=>wpE T c σ G2 fun z G3=>D.nx (((σ.set i (some x)).set j (some y)).set l (some z)) G3
 | T,.sub o i e=>fun D σ G=>wpE T e σ G fun v G1=>wpE T o σ G1 fun x G2=>wpE T i σ G2 fun y G3=>aBZ x y v G3 fun G4=>D.nx σ G4
 | T,.fld o f e=>fun D σ G=>wpE T e σ G fun v G1=>wpE T o σ G1 fun x G2=>∃ p c ns xs,x= .ref p∧G2 p=some (.ins c ns xs)∧(c,f)∈T.fl∧ns.length < 1000∧D.nx σ (gup G2 p (.ins c (PQ f ns) (xM f v ns xs)))
 | T,.iff c a b=>fun D σ G=>wpT T c σ G fun k G1=>if k=true then wpS T a D σ G1 else wpS T b D σ G1
 | T,.wh c b=>fun D σ G=>∃ W:Nat→PSt→Gh→Prop,(∃ m,W m σ G)∧∀ m σ G,W m σ G→wpT T c σ G fun k G1=>if k=true then wpS T b { D with nx:=fun σ' G'=>∃ m',m' < m∧W m' σ' G',ct:=fun σ' G'=>∃ m',m' < m∧W m' σ' G',bk:=D.nx } σ G1 else D.nx σ G1
 | T,.fr g it b=>fun D σ G=>wpI T it σ G fun chk xs G1=>sY chk (wpG T g) (wpS T b) D xs σ G1
 | T,.ret e=>fun D σ G=>wpE T e σ G D.rt
 | T,.retN=>fun D _ G=>D.rt .non G
 | T,.nev=>fun _ _ _=>False
 | T,.tri b i cs=>fun D σ G=>wpS (T.at (WkX fun c ns xs G1=>c∈cs∧D.nx ((List.replicate σ.length none).set i (some (.exc c ns xs))) G1)) b D σ G
 | T,.trh b j h cs=>fun D σ G=>wpS (T.at (WkX fun c ns xs G1=>c∈cs∧wpS T h ⟨fun σ2 G2=>D.nx (σ2.set j none) G2,D.rt,fun σ2 G2=>D.bk (σ2.set j none) G2,fun σ2 G2=>D.ct (σ2.set j none) G2⟩ ((List.replicate σ.length none).set j (some (.exc c ns xs))) G1)) b D σ G
def JE (X:Cx) (E:Ev) (e:Expr) (t:PTE):Prop:= ∀ F,PE X e (low E F t)
def JT (X:Cx) (E:Ev) (e:Expr) (t:PTT):Prop:= ∀ F,PT X e (AF E F t)
def JW (X:Cx) (E:Ev) (e:Expr) (t:PTT):Prop:= ∀ F,PW X e (AF E F t)
def JA (X:Cx) (E:Ev) (es:List Expr) (t:PTA):Prop:= ∀ F,PA X es (IH E F es.length t)
def JS (X:Cx) (E:Ev) (s:Stmt) (t:PTS):Prop:= ∀ F,PS X s (aI6 E F t)
def JSs (X:Cx) (E:Ev) (s:List Stmt) (t:PTS):Prop:= ∀ F,PSs X s (aI6 E F t)
def aIY (E:Ev) (F:Hp) (t:PTG):TG:=fun v σ H Q=>∃ x σ' Z G Q',RP E Z x v∧RSt E Z σ' σ∧Sim E F H Z G∧t x σ' G Q'∧KSt E F Z Q' Q
def JG (X:Cx) (E:Ev) (e:Expr) (t:PTG):Prop:= ∀ F,PG X e (aIY E F t)
noncomputable def aJZ (E:Ev) (F:Hp) (t:List PV→PSt→Gh→(PSt→Gh→Prop)→Prop):TGs:=fun vs σ H Q=>∃ xs σ' Z G Q',RPs E Z xs vs∧RSt E Z σ' σ∧Sim E F H Z G∧t xs σ' G Q'∧KSt E F Z Q' Q
def JGs (X:Cx) (E:Ev) (es:List Expr) (t:List PV→PSt→Gh→(PSt→Gh→Prop)→Prop):Prop:= ∀ F,PGs X es (aJZ E F t)
theorem PT.imp {X:Cx} {e:Expr} {t t':TT} (h:PT X e t) (g:∀ σ H Q,t' σ H Q→t σ H Q):PT X e t':=fun pins s σ H Q I q=>h pins s σ H Q I (g _ _ _ q)
theorem PW.imp {X:Cx} {e:Expr} {t t':TT} (h:PW X e t) (g:∀ σ H Q,t' σ H Q→t σ H Q):PW X e t':=fun wh pins s σ H Q I q=>h wh pins s σ H Q I (g _ _ _ q)
theorem PA.imp {X:Cx} {es:List Expr} {t t':TA} (h:PA X es t) (g:∀ σ H Q,t' σ H Q→t σ H Q):PA X es t':=fun pos pins s σ H Q I q=>h pos pins s σ H Q I (g _ _ _ q)
theorem PSs.imp {X:Cx} {st:List Stmt} {t t':TS} (h:PSs X st t) (g:∀ D σ H,t' D σ H→t D σ H):PSs X st t':=fun pins s σ H D I q=>h pins s σ H D I (g _ _ _ q)
theorem PGs.imp {X:Cx} {es:List Expr} {t t':TGs} (h:PGs X es t) (g:∀ vs σ H Q,t' vs σ H Q→t vs σ H Q):PGs X es t':=fun pins s σ H v u Q I r q=>h pins s σ H v u Q I r (g _ _ _ _ q)
section
variable {X:Cx} {E:Ev} {T:Tb} {k:Nat} {pos:Pos} {a b c:Expr} {ta tb tc:PTE}
structure Pl (X:Cx) (E:Ev) (T:Tb) (k:Nat):Prop where
 hK:E.K=X.K
 calm:40≤k→X.calm=true
 room:bK k X.A
 cls:aAl E T.cs
 fld:∀ c f,(c,f)∈T.fl→Cls X.K (E.cls c)∧eO X.K (E.cls c) f
theorem Kq.go {F Z Z1 H1:Hp} {G1:Gh} {Q':PK1} {Q:VK} (k:Kq E F Z Q' Q) {x:PV} {v:V} (s:aN Z Z1) (S:Sim E F H1 Z1 G1) (r:RP E Z1 x v) (q:Q' x G1):Q v H1:=k x v Z1 G1 H1 s S r q
theorem aFK {i:Nat} {x:Str} (hN:X.N[i]? =some x) (hv:Vis X.env.scope x) (hd:(x == ("__debug__":Str))=false) (hcd:(x == ("__classdict__":Str))=false):JE X E (.Name x pos) (wpE T (.var i)):=fun F =>
 (rH hN hv hd hcd).imp <|by
   rintro σ H Q ⟨σ',Z,G,Q',rs,S,h,kq⟩;rw [wpE] at h;obtain ⟨x,e,q⟩:=h;obtain ⟨v,e',r⟩:=rs.get e;exact ⟨v,e',kq.here S q r⟩
theorem aHB {i:Int} {j:Nat}:JE X E (.Constant (.int i) j pos) (wpE T (.int i)):=fun F=>aHE.imp <|by rintro σ H Q ⟨σ',Z,G,Q',rs,S,h,kq⟩;rw [wpE] at h; exact kq.here S h bD
theorem aLN {i:Bool} {j:Nat}:JE X E (.Constant (.bool i) j pos) (wpE T (.bl i)):=fun F=>aKB.imp <|by rintro σ H Q ⟨σ',Z,G,Q',rs,S,h,kq⟩;rw [wpE] at h; exact kq.here S h cH
theorem aHr {j:Nat}:JE X E (.Constant .none j pos) (wpE T .non):=fun F=>aHZ.imp <|by rintro σ H Q ⟨σ',Z,G,Q',rs,S,h,kq⟩;rw [wpE] at h; exact kq.here S h rG
theorem aFR {i:Str} {j:Nat}:JE X E (.Constant (.str i) j pos) (wpE T (.str i)):=fun F=>YF.imp <|by rintro σ H Q ⟨σ',Z,G,Q',rs,S,h,kq⟩;rw [wpE] at h; exact kq.here S h uP
theorem aHk {x:Str} {u:Value} {v:V} (hg:Gl X x) (hm:X.mg x=some u) (r:aO v u) (hr:RP E (fun _=>none) (T.gv x) v) (hd:(x == ("__debug__":Str))=false):JE X E (.Name x pos) (wpE T (.glo x)):=fun F =>
 (aBR hg hm r hd).imp <|by rintro σ H Q ⟨σ',Z,G,Q',rs,S,h,kq⟩;rw [wpE] at h; exact kq.here S h (hr.mono fun _ _ z=>by cases z)
theorem aLA {x:Str} {n:String} (hg:Gl X x) (hm:X.mg x=none) (hv:bootBuiltins x=some (.type n)) (hgv:T.gv x= .ty n) (hn:x≠"__name__") (hd:(x == ("__debug__":Str))=false):JE X E (.Name x pos) (wpE T (.glo x)):=fun F =>
 (aBM (v:=.ty n) hg hm hv rfl hn hd).imp <|by rintro σ H Q ⟨σ',Z,G,Q',rs,S,h,kq⟩;rw [wpE] at h; rw [hgv] at h; exact kq.here S h rfl
theorem RB {F:Hp} {p:P2} {σ:L2.St} {H:Hp} {Q:VK} (h:low E F (fun σ G Q=>ta σ G fun x G1=>tb σ G1 fun y G2=>p x y G2 Q) σ H Q):tOp (gZ E F p) (low E F ta) (low E F tb) σ H Q:=by
 obtain ⟨σ',Z,G,Q',rs,S,h,kq⟩:=h;refine ⟨σ',Z,G,_,rs,S,h,fun x v Z1 G1 H1 s1 S1 r1 q1=>⟨σ',Z1,G1,_,rs.mono s1,S1,q1,fun y u Z2 G2 H2 s2 S2 r2 q2=>?_⟩⟩;exact ⟨x,y,Z2,G2,Q',r1.mono s2,r2,S2,q2,kq.mono (s1.trans s2)⟩
theorem aF0 {op:Operator} {a' b':CE} (P:Pl X E T k) (ha:JE X E a (wpE T a')) (hb:JE X E b (wpE T b')):JE X E (.BinOp a op b pos) (wpE T (.bin op a' b')):=fun F =>
 (aKT (aD3 P.hK op) (ha F) (hb F)).imp fun σ H Q h=>RB (by rw [wpE] at h; exact h)
theorem aGz {a':CE} (ha:JE X E a (wpE T a')):JE X E (.UnaryOp .USub a pos) (wpE T (.neg a')):=fun F =>
 (aJz aIw (ha F)).imp <|by
   rintro σ H Q ⟨σ',Z,G,Q',rs,S,h,kq⟩;rw [wpE] at h;refine ⟨σ',Z,G,_,rs,S,h,fun x v Z1 G1 H1 s1 S1 r1 q1=>?_⟩;unfold aGL at q1;split at q1
   · exact ⟨_,r1,kq.go s1 S1 bD q1⟩
   · exact q1.elim
theorem aDA {te:TE} (he:PE X a te):PE X (.UnaryOp .Not a pos) (fun σ H Q=>te σ H fun x H1=>∃ b,SJ X.K x H1 b∧Q (.bl (!b)) H1):=by
 intro pins s σ H Q I h;refine UnaryOp_ (thn (he pins s σ H _ I h) fun v s1 zz=>?_);obtain ⟨x,H1,I1,r1,b,tv,q⟩:=zz;exact not_of (thn (BG pins s1 σ H1 x v (fun c H2=>Q (.bl (!c)) H2) I1 r1 ⟨b,tv,q⟩) <|by rintro c s2 ⟨H2,I2,q2⟩;exact ⟨.bl (!c),H2,I2,rfl,q2⟩)
theorem aJC {a':CE} (P:Pl X E T k) (ha:JE X E a (wpE T a')):JE X E (.UnaryOp .Not a pos) (wpE T (.no a')):=fun F =>
 (aDA (ha F)).imp <|by
   rintro σ H Q ⟨σ',Z,G,Q',rs,S,h,kq⟩;rw [wpE] at h;refine ⟨σ',Z,G,_,rs,S,h,fun x v Z1 G1 H1 s1 S1 r1 q1=>?_⟩;obtain ⟨c,tv,q⟩:=tP P.hK S1 r1 q1;exact ⟨c,tv,kq.go s1 S1 cH q⟩
theorem aBi {aV:List Expr} {te tf:TE} (ha:PE X a te) (hb:PE X (.BoolOp .And (b :: aV) pos) tf):PE X (.BoolOp .And (a :: b :: aV) pos) (fun σ H Q=>te σ H fun x H1=>∃ c,SJ X.K x H1 c∧if c=true then tf σ H1 Q else Q x H1):=by
 intro pins s σ H Q I h;refine BoolOp_and (thn (ha pins s σ H _ I h) fun v s1 zz=>?_);obtain ⟨x,H1,I1,r1,c,tv,q1⟩:=zz;refine thn (BG pins s1 σ H1 x v (fun d H2=>d=c∧H2=H1) I1 r1 ⟨c,tv,rfl,rfl⟩) fun d s2 zz=>?_;obtain ⟨H2,I2,e1,e2⟩:=zz;subst e1 e2;cases d with
 | true=>exact hb pins s2 σ H2 Q I2 q1
 | false=>exact ⟨x,H2,I2,r1,q1⟩
theorem aH3 {aV:List Expr} {te tf:TE} (ha:PE X a te) (hb:PE X (.BoolOp .Or (b :: aV) pos) tf):PE X (.BoolOp .Or (a :: b :: aV) pos) (fun σ H Q=>te σ H fun x H1=>∃ c,SJ X.K x H1 c∧if c=true then Q x H1 else tf σ H1 Q):=by
 intro pins s σ H Q I h;refine BoolOp_or (thn (ha pins s σ H _ I h) fun v s1 zz=>?_);obtain ⟨x,H1,I1,r1,c,tv,q1⟩:=zz;refine thn (BG pins s1 σ H1 x v (fun d H2=>d=c∧H2=H1) I1 r1 ⟨c,tv,rfl,rfl⟩) fun d s2 zz=>?_;obtain ⟨H2,I2,e1,e2⟩:=zz;subst e1 e2;cases d with
 | false=>exact hb pins s2 σ H2 Q I2 q1
 | true=>exact ⟨x,H2,I2,r1,q1⟩
theorem aLT {aV:List Expr} {a' b':CE} (P:Pl X E T k) (ha:JE X E a (wpE T a')) (hb:JE X E (.BoolOp .And (b :: aV) pos) (wpE T b')):JE X E (.BoolOp .And (a :: b :: aV) pos) (wpE T (.an a' b')):=fun F =>
 (aBi (ha F) (hb F)).imp <|by
   rintro σ H Q ⟨σ',Z,G,Q',rs,S,h,kq⟩;rw [wpE] at h;refine ⟨σ',Z,G,_,rs,S,h,fun x v Z1 G1 H1 s1 S1 r1 q1=>?_⟩;obtain ⟨c,tv,q⟩:=tP P.hK S1 r1 q1;refine ⟨c,tv, ?_⟩;cases c with
   | true=>rw [if_pos rfl] at q ⊢; exact ⟨σ',Z1,G1,Q',rs.mono s1,S1,q,kq.mono s1⟩
   | false=>rw [if_neg Bool.false_ne_true] at q ⊢; exact kq.go s1 S1 r1 q
theorem aL8 {aV:List Expr} {a' b':CE} (P:Pl X E T k) (ha:JE X E a (wpE T a')) (hb:JE X E (.BoolOp .Or (b :: aV) pos) (wpE T b')):JE X E (.BoolOp .Or (a :: b :: aV) pos) (wpE T (.oo a' b')):=fun F =>
 (aH3 (ha F) (hb F)).imp <|by
   rintro σ H Q ⟨σ',Z,G,Q',rs,S,h,kq⟩;rw [wpE] at h;refine ⟨σ',Z,G,_,rs,S,h,fun x v Z1 G1 H1 s1 S1 r1 q1=>?_⟩;obtain ⟨c,tv,q⟩:=tP P.hK S1 r1 q1;refine ⟨c,tv, ?_⟩;cases c with
   | false=>rw [if_neg Bool.false_ne_true] at q ⊢; exact ⟨σ',Z1,G1,Q',rs.mono s1,S1,q,kq.mono s1⟩
   | true=>rw [if_pos rfl] at q ⊢; exact kq.go s1 S1 r1 q
theorem aJq {op:BoolOp} {t:PTE} (ha:JE X E a t):JE X E (.BoolOp op [a] pos) t:=fun F=>aIj (ha F)
theorem jX {Z:Hp} {x:PV} {v:V} (r:RP E Z x v):(v= .non)↔x= .non:=by
 cases x with
 | non=>exact ⟨fun _=>rfl,fun _=>r⟩
 | bl b=>rw [show v= .bl b from r]; exact ⟨(fun z=>nomatch z),(fun z=>nomatch z)⟩
 | int b=>rw [show v= .int b from r]; exact ⟨(fun z=>nomatch z),(fun z=>nomatch z)⟩
 | str b=>rw [show v= .str b from r]; exact ⟨(fun z=>nomatch z),(fun z=>nomatch z)⟩
 | ty b=>rw [show v= .ty b from r]; exact ⟨(fun z=>nomatch z),(fun z=>nomatch z)⟩
 | ref b=>rw [show v= .ref b from r]; exact ⟨(fun z=>nomatch z),(fun z=>nomatch z)⟩
 | cl b=>rw [show v= .ref _ from r]; exact ⟨(fun z=>nomatch z),(fun z=>nomatch z)⟩
 | fn b=>rw [show v= .ref _ from r]; exact ⟨(fun z=>nomatch z),(fun z=>nomatch z)⟩
 | emp=>obtain ⟨a,rfl,_⟩:=r; exact ⟨(fun z=>nomatch z),(fun z=>nomatch z)⟩
 | dct ks xs=>obtain ⟨_,_,rfl,_⟩:=r; exact ⟨(fun z=>nomatch z),(fun z=>nomatch z)⟩
 | tup xs=>obtain ⟨_,_,rfl,_⟩:=r; exact ⟨(fun z=>nomatch z),(fun z=>nomatch z)⟩
 | lst xs=>obtain ⟨_,_,rfl,_⟩:=r; exact ⟨(fun z=>nomatch z),(fun z=>nomatch z)⟩
 | scr xs=>obtain ⟨_,rfl,_⟩:=r; exact ⟨(fun z=>nomatch z),(fun z=>nomatch z)⟩
 | ob _ _ xs=>obtain ⟨_,_,_,rfl,_⟩:=r; exact ⟨(fun z=>nomatch z),(fun z=>nomatch z)⟩
 | exc _ _ xs=>obtain ⟨_,_,_,rfl,_⟩:=r; exact ⟨(fun z=>nomatch z),(fun z=>nomatch z)⟩
theorem aJg:OpR X (compareOp .Is) (fun x y H Q=>∃ i j,x= .bl i∧y= .bl j∧Q (.bl (i == j)) H):=by
 rintro pins s σ H x y v u Q I rx ry ⟨i,j,e1,e2,q⟩;subst e1 e2; cases rx; cases ry;exact is_bool ⟨.bl _,H,I,rfl,q⟩
theorem aBw:OpR X (compareOp .IsNot) (fun x y H Q=>∃ i j,x= .bl i∧y= .bl j∧Q (.bl (!(i == j))) H):=by
 rintro pins s σ H x y v u Q I rx ry ⟨i,j,e1,e2,q⟩;subst e1 e2; cases rx; cases ry;exact isnot_bool ⟨.bl _,H,I,rfl,q⟩
theorem aHJ {F:Hp}:OpR X (compareOp .Is) (gZ E F (pIs false)):=by
 refine (aIo.or aJg).imp fun v u H Q h=>?_;obtain ⟨x,y,Z,G,Q',r1,r2,S,q,k⟩:=h;unfold pIs at q;split at q
 · refine .inl ⟨r2, ?_⟩;rcases q with ⟨e,q⟩ | ⟨e,q⟩
   · rw [decide_eq_true ((jX r1).mpr e)]; exact k.here S q cH
   · rw [decide_eq_false fun z=>e ((jX r1).mp z)]; exact k.here S q cH
 · obtain ⟨c,e,q⟩:=q;subst e;exact .inr ⟨_,_,r1,r2,k.here S q cH⟩
 · exact q.elim
theorem aDB {F:Hp}:OpR X (compareOp .IsNot) (gZ E F (pIs true)):=by
 refine (aBG.or aBw).imp fun v u H Q h=>?_;obtain ⟨x,y,Z,G,Q',r1,r2,S,q,k⟩:=h;unfold pIs at q;split at q
 · refine .inl ⟨r2, ?_⟩;rcases q with ⟨e,q⟩ | ⟨e,q⟩
   · rw [decide_eq_true ((jX r1).mpr e)]; exact k.here S q cH
   · rw [decide_eq_false fun z=>e ((jX r1).mp z)]; exact k.here S q cH
 · obtain ⟨c,e,q⟩:=q;subst e;exact .inr ⟨_,_,r1,r2,k.here S q cH⟩
 · exact q.elim
theorem aEG {Z:Hp} {x:PV} {v:V} (r:RP E Z x v) (h:flP x=true):mP v=true:=by
 cases x <;> first | (cases h; done) | skip
 · rw [show v= .non from r]; rfl
 · rw [show v= .bl _ from r]; rfl
 · rw [show v= .int _ from r]; rfl
 · rw [show v= .str _ from r]; rfl
theorem aJ0 {Z:Hp} {x y:PV} {v u:V} (r:RP E Z x v) (ry:RP E Z y u) (h:flP x=true) (hy:flP y=true):eqV v u=peq x y:=by
 cases x <;> first | (cases h; done) | skip
 all_goals (cases y <;> first | (cases hy; done) | skip)
 all_goals
   first
   | rw [show v= .non from r]
   | rw [show v= .bl _ from r]
   | rw [show v= .int _ from r]
   | rw [show v= .str _ from r]
 all_goals
   first
   | rw [show u= .non from ry]
   | rw [show u= .bl _ from ry]
   | rw [show u= .int _ from ry]
   | rw [show u= .str _ from ry]
 all_goals simp only [eqV,peq]
theorem aET {Z:Hp} {x:PV} {v:V} (r:RP E Z x v) (h:flP x=true):∀ {xs:List PV} {vs:List V},RPs E Z xs vs→xs.all flP=true→vs.all mP=true∧inV v vs=xs.any fun z=>peq z x
 | [],_,hr,_=>by cases hr; exact ⟨rfl,rfl⟩
 | y :: ys,_,⟨u,us,e,r1,r2⟩,ha=>by
   subst e;rw [List.all_cons,Bool.and_eq_true] at ha;obtain ⟨a,b⟩:=aET r h r2 ha.2;refine ⟨by rw [List.all_cons,aEG r1 ha.1,a]; rfl, ?_⟩;unfold inV at b ⊢;rw [List.any_cons,List.any_cons,b,aJ0 r1 r ha.1 h]
theorem VB {F:Hp} {neg:Bool} (hK:E.K=X.K) {v u:V} {H:Hp} {Q:VK} (h:gZ E F (pIn neg) v u H Q):rIn X.K neg v u H Q:=by
 obtain ⟨x,y,Z,G,Q',r1,r2,S,⟨xs,hx,h1,h2,q⟩,k⟩:=h;have key:∀ {a:Addr} {vs:List V},RPs E Z xs vs→(SqL X.K H a vs∨SqT X.K H a vs)→u= .ref a→rIn X.K neg v u H Q:=fun {a vs} t hs e=>by
   obtain ⟨a1,a2⟩:=aET r1 h1 t h2;refine ⟨a,vs,e,hs,aEG r1 h1,a1, ?_⟩;rw [a2];exact k.here S q cH
 rcases hx with rfl | hx
 · obtain ⟨a,vs,rfl,ha,ta⟩:=eN S r2;exact key ta (.inr (hK▸ha)) rfl
 · obtain ⟨a,vs,rfl,ha,ta⟩:=dL S r2 hx;exact key ta (.inl (SqL.of ha)) rfl
theorem lV {F:Hp} (P:Pl X E T k):∀ op,OpR X (compareOp op) (gZ E F (nK op))
 | .Lt=>aKe.imp fun _ _ _ _ h=>vJ (jD (fun _ _ _=>cH) h)
 | .LtE=>aKf.imp fun _ _ _ _ h=>vJ (jD (fun _ _ _=>cH) h)
 | .Gt=>aMb.imp fun _ _ _ _ h=>vJ (jD (fun _ _ _=>cH) h)
 | .GtE=>aLB.imp fun _ _ _ _ h=>vJ (jD (fun _ _ _=>cH) h)
 | .Eq=>aHK P.room P.hK
 | .NotEq=>aAX P.room P.hK
 | .Is=>aHJ
 | .IsNot=>aDB
 | .In=>QA.imp fun _ _ _ _ h=>VB P.hK h
 | .NotIn=>BP.imp fun _ _ _ _ h=>VB P.hK h
theorem aI7 {op:CmpOp} {a' b':CE} (P:Pl X E T k) (hm:behindInMarks op b=false) (ha:JE X E a (wpE T a')) (hb:JE X E b (wpE T b')):JE X E (.Compare a [op] [b] pos) (wpE T (.cmp op a' b')):=fun F =>
 (MU (lV P op) (ha F) (hb F) hm).imp fun σ H Q h=>RB (by rw [wpE] at h; exact h)
theorem aHl {op:CmpOp} {a' b':CE} (P:Pl X E T k) (hm:behindInMarks op b=false) (ha:JE X E a (wpE T a')) (hb:JE X E b (wpE T b')):JT X E (.Compare a [op] [b] pos) (wpT T (.tsb (.cmp op a' b'))):=fun F =>
 PT.imp (NY (lV P op) (ha F) (hb F) hm) fun σ H Q h=>RB (by
   obtain ⟨σ',Z,G,Q',rs,S,h,kq⟩:=h;rw [wpT,wpE] at h;exact ⟨σ',Z,G,_,rs,S,h,by rintro x v Z1 G1 H1 s1 S1 r1 ⟨kk,e,q⟩;subst e; exact ⟨kk,r1,kq _ Z1 G1 H1 s1 S1 q⟩⟩)
theorem NW {F:Hp} {op op':CmpOp} {a' b' c':CE} {σ:L2.St} {H:Hp} {Q:VK} (h:low E F (wpE T (.chn op op' a' b' c')) σ H Q):HS (gZ E F (nK op)) (gZ E F (nK op')) (low E F (wpE T a')) (low E F (wpE T b')) (low E F (wpE T c')) σ H Q:=by
 obtain ⟨σ',Z,G,Q',rs,S,h,kq⟩:=h;rw [wpE] at h;refine ⟨σ',Z,G,_,rs,S,h,fun x v Z1 G1 H1 s1 S1 r1 q1=>⟨σ',Z1,G1,_,rs.mono s1,S1,q1,fun y u Z2 G2 H2 s2 S2 r2 q2=>⟨x,y,Z2,G2,_,r1.mono s2,r2,S2,q2, ?_⟩⟩⟩;rintro z w Z3 G3 H3 s3 S3 r3 ⟨kk,e,q3⟩;subst e;refine ⟨kk,r3, ?_⟩;have sz:=(s1.trans s2).trans s3;cases kk with
 | true =>
   rw [if_pos rfl] at q3 ⊢;exact ⟨σ',Z3,G3,_,rs.mono sz,S3,q3,fun z' w' Z4 G4 H4 s4 S4 r4 q4=>⟨y,z',Z4,G4,Q',(r2.mono s3).mono s4,r4,S4,q4,kq.mono (sz.trans s4)⟩⟩
 | false =>
   rw [if_neg Bool.false_ne_true] at q3 ⊢;exact kq.go sz S3 cH q3
theorem aJd {op op':CmpOp} {a' b' c':CE} (P:Pl X E T k) (hm:lastMarks [op,op'] [b,c]=false) (ha:JE X E a (wpE T a')) (hb:JE X E b (wpE T b')) (hc:JE X E c (wpE T c')):JE X E (.Compare a [op,op'] [b,c] pos) (wpE T (.chn op op' a' b' c')):=fun F =>
 (UB (lV P op) (lV P op') (ha F) (hb F) (hc F) hm).imp fun σ H Q h=>NW h
theorem aGY {op op':CmpOp} {a' b' c':CE} (P:Pl X E T k) (hm:lastMarks [op,op'] [b,c]=false) (ha:JE X E a (wpE T a')) (hb:JE X E b (wpE T b')) (hc:JE X E c (wpE T c')):JT X E (.Compare a [op,op'] [b,c] pos) (wpT T (.tsb (.chn op op' a' b' c'))):=fun F =>
 PT.imp (WP (lV P op) (lV P op') (ha F) (hb F) (hc F) hm) fun σ H Q h=>NW (by
   obtain ⟨σ',Z,G,Q',rs,S,h,kq⟩:=h;rw [wpT] at h;exact ⟨σ',Z,G,_,rs,S,h,by rintro x v Z1 G1 H1 s1 S1 r1 ⟨kk,e,q⟩;subst e; exact ⟨kk,r1,kq _ Z1 G1 H1 s1 S1 q⟩⟩)
theorem CG {a':CE} (P:Pl X E T k) (ha:JE X E a (wpE T a')) (he:∀ whole,isTrue a X.env whole=(do let v ←whole; standAt a.pos; holding [v] (truthy v))):JT X E a (wpT T (.tst a')):=fun F =>
 PT.imp (aAg (ha F) he) <|by
   rintro σ H Q ⟨σ',Z,G,Q',rs,S,h,kq⟩;rw [wpT] at h;refine ⟨σ',Z,G,_,rs,S,h,fun x v Z1 G1 H1 s1 S1 r1 q1=>?_⟩;obtain ⟨c,tv,q⟩:=tP P.hK S1 r1 q1;exact ⟨c,tv,kq _ Z1 G1 H1 s1 S1 q⟩
theorem aGC {a':CE} (ha:JT X E a (wpT T a')):JW X E (.BoolOp .And [a] pos) (wpT T a'):=fun F=>aDP (ha F)
theorem aFW {a':CE} (ha:JT X E a (wpT T a')):JW X E (.BoolOp .Or [a] pos) (wpT T a'):=fun F=>aI1 (ha F)
theorem aK1 {F:Hp} {a' b':CE} {σ:L2.St} {H:Hp} {Q:Bool→Hp→Prop} (h:AF E F (wpT T (.an a' b')) σ H Q):aLJ (AF E F (wpT T a')) (AF E F (wpT T b')) σ H Q:=by
 obtain ⟨σ',Z,G,Q',rs,S,h,kq⟩:=h;rw [wpT] at h;refine ⟨σ',Z,G,_,rs,S,h,fun d Z1 G1 H1 s1 S1 q=>?_⟩;cases d with
 | true=>rw [if_pos rfl] at q ⊢; exact ⟨σ',Z1,G1,Q',rs.mono s1,S1,q,kq.mono s1⟩
 | false=>rw [if_neg Bool.false_ne_true] at q ⊢; exact kq _ _ _ _ s1 S1 q
theorem aLE {F:Hp} {a' b':CE} {σ:L2.St} {H:Hp} {Q:Bool→Hp→Prop} (h:AF E F (wpT T (.oo a' b')) σ H Q):tOr (AF E F (wpT T a')) (AF E F (wpT T b')) σ H Q:=by
 obtain ⟨σ',Z,G,Q',rs,S,h,kq⟩:=h;rw [wpT] at h;refine ⟨σ',Z,G,_,rs,S,h,fun d Z1 G1 H1 s1 S1 q=>?_⟩;cases d with
 | false=>rw [if_neg Bool.false_ne_true] at q ⊢; exact ⟨σ',Z1,G1,Q',rs.mono s1,S1,q,kq.mono s1⟩
 | true=>rw [if_pos rfl] at q ⊢; exact kq _ _ _ _ s1 S1 q
theorem aJ1 {aV:List Expr} {a' b':CE} (ha:JT X E a (wpT T a')) (hb:JW X E (.BoolOp .And (b :: aV) pos) (wpT T b')):JW X E (.BoolOp .And (a :: b :: aV) pos) (wpT T (.an a' b')):=fun F=>PW.imp (aF9 (ha F) (hb F)) fun _ _ _ h=>aK1 h
theorem aKz {aV:List Expr} {a' b':CE} (ha:JT X E a (wpT T a')) (hb:JW X E (.BoolOp .Or (b :: aV) pos) (wpT T b')):JW X E (.BoolOp .Or (a :: b :: aV) pos) (wpT T (.oo a' b')):=fun F=>PW.imp (aJ3 (ha F) (hb F)) fun _ _ _ h=>aLE h
theorem JW.jt {e:Expr} {t:PTT} (h:JW X E e t):JT X E e t:=fun F=>(h F).pt
theorem aKc {a':CE} (ha:JT X E a (wpT T a')):JT X E (.UnaryOp .Not a pos) (wpT T (.no a')):=fun F =>
 PT.imp (aJb (ha F)) <|by
   rintro σ H Q ⟨σ',Z,G,Q',rs,S,h,kq⟩;rw [wpT] at h;exact ⟨σ',Z,G,_,rs,S,h,fun d Z1 G1 H1 s1 S1 q=>kq _ _ _ _ s1 S1 q⟩
theorem aHv:JA X E [] (wpL T .nil):=fun F=>PA.imp fL <|by rintro σ H Q ⟨σ',Z,G,Q',rs,S,h,kq⟩;rw [wpL] at h; exact kq [] [] Z G H rfl (aN.refl Z) S rfl h
theorem aBH {e:Expr} {es:List Expr} {a' b':CE} (ha:JE X E e (wpE T a')) (hr:JA X E es (wpL T b')) (hs:starEach (e :: es) X.env=(false,eval e X.env) :: starEach es X.env):JA X E (e :: es) (wpL T (.cons a' b')):=fun F =>
 PA.imp (cF (ha F) (hr F) hs) <|by
   rintro σ H Q ⟨σ',Z,G,Q',rs,S,h,kq⟩;rw [wpL] at h;exact ⟨σ',Z,G,_,rs,S,h,fun x v Z1 G1 H1 s1 S1 r1 q1=>⟨σ',Z1,G1,_,rs.mono s1,S1,q1,fun xs vs Z2 G2 H2 l2 s2 S2 r2 q2=>kq (x :: xs) (v :: vs) _ _ _ (by rw [List.length_cons,l2]; rfl) (s1.trans s2) S2 ⟨v,vs,rfl,r1.mono s2,r2⟩ q2⟩⟩
theorem aHF {es:List Expr} {x1:Nat} {es':CE} (h:JA X E es (wpL T es')):JE X E (.Tuple es x1 pos) (wpE T (.tup es')):=fun F =>
 (aHx (h F)).imp <|by
   rintro σ H Q ⟨σ',Z,G,Q',rs,S,h,kq⟩;rw [wpE] at h;refine ⟨σ',Z,G,_,rs,S,h,fun xs vs Z1 G1 H1 l1 s1 S1 r1 q1=>⟨by rw [←r1.length]; exact q1.1,fun p n=>(kq.mono s1).newZ S1 n (nM (S1.zn n) r1) q1.2⟩⟩
theorem YM {F Z H:Hp} {G:Gh} {m:Bool} {xs:List PV} {vs:List V} {Q':PK1} {Q:VK} {p:Addr} (S:Sim E F H Z G) (n:H p=none) (r:RPs E Z xs vs) (q:vN m G xs Q') (kq:Kq E F Z Q' Q):Q (.ref p) (upd H p (.lst vs)):=by
 unfold vN at q;cases m with
 | true =>
   rw [if_pos rfl] at q;exact kq (.ref p) _ _ _ _ (aN.refl Z) (S.new (go:=.lst xs) n ⟨vs,rfl,r⟩) rfl (q p (S.gn n))
 | false =>
   rw [if_neg Bool.false_ne_true] at q;exact kq.newZ S n (hJ (S.zn n) r) q
theorem aGd {es:List Expr} {es':CE} {m:Bool} (h:JA X E es (wpL T es')):JE X E (.List es pos) (wpE T (.lst m es')):=fun F =>
 (aFP (h F)).imp <|by
   rintro σ H Q ⟨σ',Z,G,Q',rs,S,h,kq⟩;rw [wpE] at h;refine ⟨σ',Z,G,_,rs,S,h,fun xs vs Z1 G1 H1 l1 s1 S1 r1 q1=>⟨by rw [←r1.length]; exact q1.1,fun p n=>YM S1 n r1 q1.2 (kq.mono s1)⟩⟩
theorem aIQ {a' b':CE} (P:Pl X E T k) (ha:JE X E a (wpE T a')) (hb:JE X E b (wpE T b')) (hs:CK b):JE X E (.Subscript a b pos) (wpE T (.idx a' b')):=fun F =>
 (aL2 (aI0 P.room P.hK) (ha F) (hb F) hs).imp fun σ H Q h=>RB (by rw [wpE] at h; exact h)
noncomputable def aNu (E:Ev) (F:Hp) (t:PSt→Gh→(Option Int→Gh→Prop)→Prop):TO:=fun σ H Q=>∃ σ' Z G Q',RSt E Z σ' σ∧Sim E F H Z G∧t σ' G Q'∧∀ o Z1 G1 H1,aN Z Z1→Sim E F H1 Z1 G1→Q' o G1→Q o H1
def JO (X:Cx) (E:Ev) (e:Option Expr) (t:PSt→Gh→(Option Int→Gh→Prop)→Prop):Prop:= ∀ F,PO X e (aNu E F t)
theorem PO.imp {e:Option Expr} {t t':TO} (h:PO X e t) (g:∀ σ H Q,t' σ H Q→t σ H Q):PO X e t':=fun pins s σ H Q I q=>h pins s σ H Q I (g _ _ _ q)
theorem aGv:JO X E none (wpO T .nil):=fun F=>PO.imp aCY <|by rintro σ H Q ⟨σ',Z,G,Q',rs,S,h,kq⟩;rw [wpO] at h; exact kq _ _ _ _ (aN.refl Z) S h
theorem aBg {a':CE} (ha:JE X E a (wpE T a')):JO X E (some a) (wpO T (.tst a')):=fun F=>PO.imp (aCs (ha F)) <|by
 rintro σ H Q ⟨σ',Z,G,Q',rs,S,h,kq⟩;rw [wpO] at h;exact ⟨σ',Z,G,_,rs,S,h,by rintro x v Z1 G1 H1 s1 S1 r1 ⟨i,e,q⟩;subst e; exact ⟨i,r1,kq _ _ _ _ s1 S1 q⟩⟩
theorem aI8 {lo hi:Option Expr} {p2:Pos} {a' l' h':CE} (P:Pl X E T k) (ha:JE X E a (wpE T a')) (hl:JO X E lo (wpO T l')) (hu:JO X E hi (wpO T h')):JE X E (.Subscript a (.Slice lo hi none p2) pos) (wpE T (.sli a' l' h')):=fun F =>
 (XU (aGT P.hK) (ha F) (hl F) (hu F)).imp <|by
   rintro σ H Q ⟨σ',Z,G,Q',rs,S,h,kq⟩;rw [wpE] at h;refine ⟨σ',Z,G,_,rs,S,h,fun x v Z1 G1 H1 s1 S1 r1 q1=>⟨σ',Z1,G1,_,rs.mono s1,S1,q1,fun o Z2 G2 H2 s2 S2 q2=>⟨σ',Z2,G2,_,(rs.mono s1).mono s2,S2,q2,fun o' Z3 G3 H3 s3 S3 q3=>?_⟩⟩⟩;exact ⟨x,Z3,G3,Q',(r1.mono s2).mono s3,S3,q3,kq.mono ((s1.trans s2).trans s3)⟩
theorem jL {ns:List Str} {f:Str} {x:PV} {Z:Hp}:∀ {ns:List Str} {xs:List PV} {vs:List V},RPs E Z xs vs→(ns.zip xs).lookup f=some x→∃ v,(ns.zip vs).lookup f=some v∧RP E Z x v
 | [],_,_,_,h=>by cases h
 | _ :: _,[],_,_,h=>by cases h
 | n :: ns,y :: ys,_,⟨v,r,e,r1,r2⟩,h=>by
   subst e;rw [List.zip_cons_cons,List.lookup_cons] at h;rw [List.zip_cons_cons,List.lookup_cons];cases hb:f == n with
   | true=>rw [hb] at h; cases h; exact ⟨v,rfl,r1⟩
   | false=>rw [hb] at h; exact jL (ns:=ns) r2 h
theorem aIe {f:Str} {a':CE} (P:Pl X E T k) (ha:JE X E a (wpE T a')) (hb:attributeBase a f X.env (eval a X.env)=eval a X.env):JE X E (.Attribute a f pos) (wpE T (.att a' f)):=fun F =>
 (aIW (ha F) hb).imp <|by
   rintro σ H Q ⟨σ',Z,G,Q',rs,S,h,kq⟩;rw [wpE] at h;refine ⟨σ',Z,G,_,rs,S,h,fun x v Z1 G1 H1 s1 S1 r1 zz=>?_⟩;obtain ⟨c,ns,xs,y,hx,hf,hl,q⟩:=zz;obtain ⟨h1,h2⟩:=P.fld c f hf;rcases hx with e | ⟨a,e,hG⟩
   · subst e;obtain ⟨p,dx,vs,e,hp,_,t⟩:=r1;obtain ⟨w,e1,e2⟩:=jL (ns:=ns) t hl;exact ⟨p,_,dx,_,w,e,S1.z _ _ hp,h1,h2,e1,kq.go s1 S1 e2 q⟩
   · subst e;obtain ⟨_,o',hp,dx,vs,e',_,t⟩:=S1.g _ _ hG;subst e';obtain ⟨w,e1,e2⟩:=jL (ns:=ns) t hl;exact ⟨a,_,dx,_,w,r1,hp,h1,h2,e1,kq.go s1 S1 e2 q⟩
theorem aIU {x:Str} {p:Pos} {e:Expr} {es:List Expr} {bb:Bn} {es':CE} (P:Pl X E T k) (h40:aCm bb=true→40≤k) (hg:Gl X x) (hm:X.mg x=none) (hv:bootBuiltins x=some (aGW bb)) (hn:x≠"__name__") (hd:(x == ("__debug__":Str))=false)
   (ha:JA X E (e :: es) (wpL T es')) (he:starEach (e :: es) X.env=(false,eval e X.env) :: starEach es X.env) (hpl:(backTo pos (starEach es X.env)).any (·.1)=false):JE X E (.Call (.Name x p) (e :: es) [] pos) (wpE T (.blt bb es')):=fun F=>by
 have main:PE X (.Call (.Name x p) (e :: es) [] pos) (tCB (aDp E F (eD T.cs bb)) (IH E F (e :: es).length (wpL T es'))):=by
   have hc:=aCc (F:=F) (cs:=T.cs) P.hK P.cls bb fun z=>P.calm (h40 z);cases bb <;> first
     | exact EW hc hg hm hv (ha F) hn hd he hpl
     | exact QC hc hg hm hv (ha F) hn hd he hpl
 exact main.imp <|by
   rintro σ H Q ⟨σ',Z,G,Q',rs,S,h,kq⟩;rw [wpE] at h;exact ⟨σ',Z,G,_,rs,S,h,fun xs vs Z1 G1 H1 l1 s1 S1 r1 q1=>⟨xs,Z1,G1,Q',r1,S1,q1,kq.mono s1⟩⟩
noncomputable def gE (E:Ev) (sp:Sp3):Sp:=fun vs H Q _=>∃ xs Z G F Q',RPs E Z xs vs∧Sim E F H Z G∧sp xs G Q'∧Kq E F Z Q' Q
noncomputable abbrev SpX:=List PV→Gh→PX→Prop
noncomputable def sM (E:Ev) (sp:Sp3) (spx:SpX):Sp:=fun vs H Q EX=>∃ xs Z G F,RPs E Z xs vs∧Sim E F H Z G∧((∃ Q',sp xs G Q'∧Kq E F Z Q' Q)∨∃ x,spx xs G x∧KX E F Z x EX)
theorem fQ {P:Program} {w:World} {K:W.Frag} {mg:Str→Option Value} {base:Heap} {ad:Addr} {fd:FuncData} {ps:List Str} {sp:Sp3} {spx:SpX} (F:bC P w K mg base (CXo P w) k ad fd ps (sM E sp spx)):bC P w K mg base CX0 k ad fd ps (gE E sp):=by
 refine ⟨by rintro vs H Q EX ⟨xs,Z,G,F',Q',r,S,q,kq⟩;exact F.len vs H Q EX ⟨xs,Z,G,F',r,S,.inl ⟨Q',q,kq⟩⟩,fun A outer s H args us vs Q EX hr he hb hv zz=>?_⟩;obtain ⟨xs,Z,G,F',Q',r,S,q,kq⟩:=zz;refine codeAny_mono (F.run A outer s H args us vs Q E0 hr he hb hv ⟨xs,Z,G,F',r,S,.inl ⟨Q',q,kq⟩⟩) fun r s' hq=>?_;cases r with
 | ok fl=>cases fl <;> exact hq
 | error e=>obtain ⟨_,_,_,_,_,_,_,_,_,_,z⟩:=hq; exact z.elim
theorem aMg {X:Cx} {EX:XK} (h:∀ e s',xeO X EX e s'→X.xe e s'):jY (CXo X.prog X.w) X EX:=by
 rintro pins σ H s e s' I ⟨a,C,d,H',ee,ho,hb,un,hok,x,q⟩;have J:=I.call' ho un hok hb fun b z=>nomatch z;exact h _ _ ⟨a,C,d,σ,H',ee,J.nopins,.inr (x.mono I.lo_le),q⟩
def Co (X:Cx) (E:Ev) (sp3:Sp3) (k:Nat) (ad:Addr) (fd:FuncData) (ps:List Str):Prop:= ∃ (CX:CXT) (sp:Sp) (EX:XK),bC X.prog X.w X.K X.mg X.base CX k ad fd ps sp∧jY CX X EX∧∀ vs H Q,gE E sp3 vs H Q E0→sp vs H Q EX
theorem Co.of {sp3:Sp3} {ad:Addr} {fd:FuncData} {ps:List Str} (K:bC X.prog X.w X.K X.mg X.base CX0 k ad fd ps (gE E sp3)):Co X E sp3 k ad fd ps:=⟨CX0,_,E0,K,VZ,fun _ _ _ h=>h⟩
theorem Co.ofX {sp3 sp:Sp3} {spx:SpX} {ad:Addr} {fd:FuncData} {ps:List Str} {x:PX} {EX:XK} (K:bC X.prog X.w X.K X.mg X.base (CXo X.prog X.w) k ad fd ps (sM E sp spx)) (h:∀ xs G Q,sp3 xs G Q→sp xs G Q∨spx xs G x)
   (hx:∀ e s',xeO X EX e s'→X.xe e s') (kx:KX E E.f0 E.z0 x EX):Co X E sp3 k ad fd ps:=by
 refine ⟨_,_,EX,K,aMg hx,fun vs H Q ⟨xs,Z,G,F,Q',r,S,q,kq⟩=>⟨xs,Z,G,F,r,S, ?_⟩⟩;rcases h _ _ _ q with q | q
 · exact .inl ⟨Q',q,kq⟩
 · exact .inr ⟨x,q,fun c ns ys d vs Z1 G1 H1 s1 S1 l r hd hn q=>kx c ns ys d vs Z1 G1 H1 S1.z0 S1.weakF l r hd hn q⟩
theorem UY {f:Str} {x:Str} {p:Pos} {e:Expr} {es:List Expr} {es':CE} {ad:Addr} {fd:FuncData} {ps:List Str} (K:Co X E (T.S f) k ad fd ps) (hr:bK k X.A) (hg:Gl X x) (hm:X.mg x=some (.ref ad)) (hk:W.keepIn X.K (.ref ad)=true)
   (hb:aJ X.K fd ps []) (hd:(x == ("__debug__":Str))=false) (ha:JA X E (e :: es) (wpL T es')) (he:starEach (e :: es) X.env=(false,eval e X.env) :: starEach es X.env) (hpl:(backTo pos (starEach es X.env)).any (·.1)=false) :
   JE X E (.Call (.Name x p) (e :: es) [] pos) (wpE T (.cal f es')):=fun F=>by
 obtain ⟨CX,sp,EX,K,hp,hl⟩:=K;exact (aB0 K hr hg hm hk hb .nil hp (ha F) hd he hpl).imp <|by
   rintro σ H Q ⟨σ',Z,G,Q',rs,S,h,kq⟩;rw [wpE] at h;exact ⟨σ',Z,G,_,rs,S,h,fun xs vs Z1 G1 H1 l1 s1 S1 r1 q1=>by
     show sp (vs ++ []) H1 Q EX;rw [List.append_nil];exact hl _ _ _ ⟨xs,Z1,G1,F,Q',r1,S1,q1,kq.mono s1⟩⟩
structure aGo (X:Cx) (E:Ev) (T:Tb):Prop where
 xi:∀ c n r,(c,n,r)∈T.xi→XAt X.K (E.cls c)∧((∃ a,X.mg n=some (.ref a)∧W.kitOne X.K (.ref (E.cls c)) (.ref a)=some r)∨∃ t,X.mg n=none∧bootBuiltins n=some (.type t)∧n≠"__name__"∧W.kitOne X.K (.ref (E.cls c)) (.type t)=some r)
 fx:∀ c f,(c,f)∈T.fx→XAt X.K (E.cls c)∧W.findIn X.K (.ref (E.cls c)) f=some none
theorem aG8 {p p2:Pos} {n:Str} {a':CE} (D:aGo X E T) (ha:JE X E a (wpE T a')) (hg:Gl X "isinstance") (hm:X.mg "isinstance"=none) (hn:Gl X n) (hdn:(n == ("__debug__":Str))=false) (he:starEach [a,.Name n p2] X.env=(false,eval a X.env) :: starEach [.Name n p2] X.env) :
   JE X E (.Call (.Name "isinstance" p) [a,.Name n p2] [] pos) (wpE T (.isx a' n)):=by
 rintro F pins s σ H Q I ⟨σ',Z,G,Q',rs,S,h,kq⟩;rw [wpE] at h;have hs2:starEach [.Name n p2] X.env=(false,eval (.Name n p2) X.env) :: starEach [] X.env:=rfl;refine wpAny_Call_Name_kw (lJ I hg hm (by first | exact PyProof.Rows.boot_isinstance | (with_unfolding_all rfl)) ?_ (by decide) (by decide));refine callWith_builtin1 ?_ he (by rfl);rw [he];show wpAny _ _ (spliced ((false,eval a X.env) :: backTo pos (starEach [.Name n p2] X.env))) _ _ s;refine Calls.spliced_cons (thn (ha F pins s σ H (fun v H1=>∃ x Z1 G1,aN Z Z1∧Sim E F H1 Z1 G1∧RP E Z1 x v∧∃ c ns xs r,x= .exc c ns xs∧(c,n,r)∈T.xi∧Q' (.bl r) G1) I ⟨σ',Z,G,_,rs,S,h,fun x v Z1 G1 H1 s1 S1 r1 q=>⟨x,Z1,G1,s1,S1,r1,q⟩⟩) fun u s1 zz=>?_);obtain ⟨v,H1,I1,ru,x,Z1,G1,sz,S1,rx,c,ns,xs,r,ex,hi,q⟩:=zz;subst ex;obtain ⟨b,d,vs,e,hz,hl,hd,hn0,rr⟩:=rx;subst e;cases ru;obtain ⟨X1,kk⟩:=D.xi c n r hi;have fin:∀ (t:Value),W.kitOne X.K (.ref (E.cls c)) t=some r→wpAny (model X.prog X.w) X.A (call (.builtin "isinstance") [.ref b,t]) (EP X pins σ Q) X.xe s1:=fun t hk =>
   aNN (fs:=ns.zip vs) X1 I1 (S1.z _ _ hz) (fun dd z=>S1.z _ _ (hd dd z)) hk fun tk=>⟨.bl r,H1,I1.tok tk,rfl,kq _ _ Z1 G1 H1 sz S1 cH q⟩
 refine Calls.spliced_cons ?_;rcases kk with ⟨cc,hm1,hk⟩ | ⟨t,hm1,hb,hnn,hk⟩
 · exact eE I1 hn hm1 (Calls.spliced_nil (fin _ hk)) hdn
 · exact lJ I1 hn hm1 hb (Calls.spliced_nil (fin _ hk)) hnn hdn
theorem aH2 {f:Str} {a':CE} (D:aGo X E T) (ha:JE X E a (wpE T a')) (hb:attributeBase a f X.env (eval a X.env)=eval a X.env):JE X E (.Attribute a f pos) (wpE T (.atx a' f)):=by
 rintro F pins s σ H Q I ⟨σ',Z,G,Q',rs,S,h,kq⟩;rw [wpE] at h;refine LP hb (thn (ha F pins s σ H (fun v H1=>∃ x Z1 G1,aN Z Z1∧Sim E F H1 Z1 G1∧RP E Z1 x v∧∃ c ns xs w,x= .exc c ns xs∧(c,f)∈T.fx∧(ns.zip xs).lookup f=some w∧Q' w G1) I ⟨σ',Z,G,_,rs,S,h,fun x v Z1 G1 H1 s1 S1 r1 q=>⟨x,Z1,G1,s1,S1,r1,q⟩⟩) fun u s1 zz=>?_);obtain ⟨v,H1,I1,ru,x,Z1,G1,sz,S1,rx,c,ns,xs,w,ex,hi,hl,q⟩:=zz;subst ex;obtain ⟨b,d,vs,e,hz,hlen,hd,hn0,rr⟩:=rx;subst e;cases ru;obtain ⟨X1,hf⟩:=D.fx c f hi;obtain ⟨w',e1,e2⟩:=jL (ns:=ns) rr hl;cases d with
 | none=>rw [hn0 rfl] at hl; cases hl
 | some dd=>exact aN5 (fs:=ns.zip vs) X1 hf I1 (S1.z _ _ hz) (S1.z _ _ (hd dd rfl)) e1 fun u2 s2 I2 r2=>⟨w',H1,I2,r2,kq _ _ Z1 G1 H1 sz S1 e2 q⟩
structure NeM (X:Cx) (E:Ev) (T:Tb) (k:Nat) (c:String) (m:Str):Prop where
 ex:∃ ad fd,NeC X.K (E.cls c)∧xC X.K (E.cls c) "__eq__" ad∧bC X.prog X.w X.K X.mg X.base CX0 k ad fd ["self","other"] (gE E (T.S m))∧aJ X.K fd ["self","other"] []
theorem LN {F:Hp} {eqs:List (String×Str)} (P:Pl X E T (k + 1)) (he:∀ y∈eqs,NeM X E T k y.1 y.2):OpR X (compareOp .NotEq) (gZ E F (aAs T eqs)):=by
 rintro pins s σ H v w u1 u2 Q I rv rw' ⟨x,y,Z,G,Q',r1,r2,S,q,kq⟩;rcases q with ⟨c,m,ns,xs,ns',ys,hm,e1,e2,q⟩ | q
 · subst e1 e2;obtain ⟨ad,fd,N,M,Fn,hb⟩:=(he _ hm).ex;have r1':=r1;have r2':=r2;obtain ⟨a,dx,vs,ea,hz,_,_⟩:=r1';obtain ⟨a2,dx2,vs2,ea2,hz2,_,_⟩:=r2';subst ea ea2;refine aGw N M Fn P.room hb pins s σ H _ _ u1 u2 Q I rv rw' ⟨a,dx,_,a2,dx2,_,rfl,rfl,S.z _ _ hz,S.z _ _ hz2, ?_⟩;exact ⟨[.ob c ns xs,.ob c ns' ys],Z,G,F,_,⟨_,_,rfl,r1,_,_,rfl,r2,rfl⟩,S,q,by rintro x v Z1 G1 H1 s1 S1 r3 ⟨b,e,q3⟩;subst e; have e:v= .bl b:=r3; exact ⟨b,e,kq _ _ Z1 G1 H1 s1 S1 cH q3⟩⟩
 · exact aAX P.room P.hK pins s σ H v w u1 u2 Q I rv rw' ⟨x,y,Z,G,Q',r1,r2,S,q,kq⟩
theorem aFY {eqs:List (String×Str)} {a' b':CE} (P:Pl X E T (k + 1)) (he:∀ y∈eqs,NeM X E T k y.1 y.2) (hm:behindInMarks .NotEq b=false) (ha:JE X E a (wpE T a')) (hb:JE X E b (wpE T b')):JE X E (.Compare a [.NotEq] [b] pos) (wpE T (.cne eqs a' b')):=fun F =>
 (MU (LN P he) (ha F) (hb F) hm).imp fun σ H Q h=>RB (by rw [wpE] at h; exact h)
theorem aIl {eqs:List (String×Str)} {a' b':CE} (P:Pl X E T (k + 1)) (he:∀ y∈eqs,NeM X E T k y.1 y.2) (hm:behindInMarks .NotEq b=false) (ha:JE X E a (wpE T a')) (hb:JE X E b (wpE T b')):JT X E (.Compare a [.NotEq] [b] pos) (wpT T (.tsb (.cne eqs a' b'))):=fun F =>
 PT.imp (NY (LN P he) (ha F) (hb F) hm) fun σ H Q h=>RB (by
   obtain ⟨σ',Z,G,Q',rs,S,h,kq⟩:=h;rw [wpT,wpE] at h;exact ⟨σ',Z,G,_,rs,S,h,by rintro x v Z1 G1 H1 s1 S1 r1 ⟨kk,e,q⟩;subst e; exact ⟨kk,r1,kq _ Z1 G1 H1 s1 S1 q⟩⟩)
theorem aIJ:JE X E (.Dict [] [] pos) (wpE T .emp):=fun F=>aIq.imp <|by
 rintro σ H Q ⟨σ',Z,G,Q',rs,S,h,kq⟩;rw [wpE] at h;exact fun p n=>kq.newZ (x:=.emp) S n ⟨p,rfl,aI⟩ h
noncomputable def flV:List (V×V)→List V
 | []=>[]
 | p :: r=>p.1 :: p.2 :: flV r
def KDD (E:Ev) (F:Hp) (n:Nat) (Z:Hp) (Q':List PV→Gh→Prop) (Q:List (V×V)→Hp→Prop):Prop:= ∀ xs ps Z1 G1 H1,ps.length=n→aN Z Z1→Sim E F H1 Z1 G1→RPs E Z1 xs (flV ps)→Q' xs G1→Q ps H1
noncomputable def aLK (E:Ev) (F:Hp) (n:Nat) (t:PTA):TD:=fun σ H Q=>∃ σ' Z G Q',RSt E Z σ' σ∧Sim E F H Z G∧t σ' G Q'∧KDD E F n Z Q' Q
def JD (X:Cx) (E:Ev) (pos:Pos) (ks:List (Option Expr)) (vs:List Expr) (t:PTA):Prop:= ∀ F,PD X pos ks vs (aLK E F ks.length t)
theorem aGt:JD X E pos [] [] (wpL T .nil):=fun F=>aHg.imp <|by
 rintro σ H Q ⟨σ',Z,G,Q',rs,S,h,kq⟩;rw [wpL] at h;exact kq [] [] Z G H rfl (aN.refl Z) S rfl h
theorem aCu {e v:Expr} {ks:List (Option Expr)} {vs:List Expr} {k' v' r':CE} (hk:JE X E e (wpE T k')) (hv:JE X E v (wpE T v')) (hr:JD X E pos ks vs (wpL T r')):JD X E pos (some e :: ks) (v :: vs) (wpL T (.cons k' (.cons v' r'))):=fun F =>
 (aBp (hk F) (hv F) (hr F)).imp <|by
   rintro σ H Q ⟨σ',Z,G,Q',rs,S,h,kq⟩;rw [wpL] at h;refine ⟨σ',Z,G,_,rs,S,h,fun x u Z1 G1 H1 s1 S1 r1 q1=>?_⟩;unfold wpL at q1;refine ⟨σ',Z1,G1,_,rs.mono s1,S1,q1,fun y w Z2 G2 H2 s2 S2 r2 q2=>⟨σ',Z2,G2,_,(rs.mono s1).mono s2,S2,q2,fun xs ps Z3 G3 H3 l3 s3 S3 r3 q3=>?_⟩⟩;exact kq (x :: y :: xs) ((u,w) :: ps) Z3 G3 H3 (by rw [List.length_cons,l3]; rfl) ((s1.trans s2).trans s3) S3 ⟨u,_,rfl,(r1.mono s2).mono s3,w,_,rfl,r2.mono s3,r3⟩ q3
theorem aLs {Z:Hp} {k:Key} {v:V} (r:RP E Z (kP k) v):v=kV k:=by
 cases k <;> exact r
theorem aBc {Z:Hp}:∀ {kvs:List (Key×PV)} {ps:List (V×V)},RPs E Z (flK kvs) (flV ps)→∃ vs:List V,ps=((kvs.map (·.1)).zip vs).map (fun kv=>(kV kv.1,kv.2))∧(kvs.map (·.1)).length=vs.length∧RPs E Z (kvs.map (·.2)) vs
 | [],[],_=>⟨[],rfl,rfl,rfl⟩
 | [],p :: ps,h=>by cases (show flV (p :: ps)=[] from h)
 | kv :: kvs,[],h=>by obtain ⟨_,_,e,_⟩:=h; cases e
 | kv :: kvs,p :: ps,h=>by
   obtain ⟨a,r,e,r1,b,r',e',r2,r3⟩:=h;subst e';have e:p.1 :: p.2 :: flV ps=a :: b :: r':=e;injection e with e1 e;injection e with e2 e3;subst e1 e2 e3;obtain ⟨vs,h1,h2,h3⟩:=aBc r3;refine ⟨p.2 :: vs, ?_,by simp [h2],p.2,vs,rfl,r2,h3⟩;rw [List.map_cons,List.zip_cons_cons,List.map_cons,←h1,←aLs r1]
theorem aFG {keys:List (Option Expr)} {values:List Expr} {es':CE} (h:JD X E pos keys values (wpL T es')) (hall:keys.all (·.isSome)=true) (hl:keys.length=values.length) (h0:keys≠ []) (h15:keys.length≤15) :
   JE X E (.Dict keys values pos) (wpE T (.dct es')):=fun F pins s σ H Q I q=>by
 obtain ⟨σ',Z,G,Q',rs,S,hq,kq⟩:=q;unfold wpE at hq;have main:PE X (.Dict keys values pos) (aKG fun σ H Q=>∃ F,aLK E F keys.length (wpL T es') σ H Q):=aHX (by rintro pins s σ H Q I ⟨F,q⟩;exact h F pins s σ H Q I q) hall hl h0 h15;refine main pins s σ H Q I fun p n=>⟨upd F p (.dK []),σ',Z,G,_,rs,S.mine n,hq,fun xs ps Z1 G1 H1 l1 s1 S1 r1 zz=>?_⟩;obtain ⟨kvs,ex,nd,k15,q1⟩:=zz;subst ex;obtain ⟨vs,e1,e2,e3⟩:=aBc r1;have fD:F p=none:=S.fn n;refine ⟨(S1.f p _ aI).1,(kvs.map (·.1)).zip vs,e1,by rw [List.length_zip,List.length_map]; omega, ?_⟩;have hm:kW [] ((kvs.map (·.1)).zip vs)=(kvs.map (·.1)).zip vs:=vT (by rw [List.nil_append,List.map_fst_zip (by omega)]; exact nd);rw [hm];have zn:=(S1.f p _ aI).2.1;exact kq (.dct (kvs.map (·.1)) (kvs.map (·.2))) _ (upd Z1 p (.dK ((kvs.map (·.1)).zip vs))) _ _ (s1.trans (aT zn _)) ((S1.turn (S.f0n n)).mineZ fD (S.f0n n)) ⟨p,vs,rfl,aI,e2,e3.mono (aT zn _)⟩ q1
theorem aHe {e:Expr} {apos:Pos} {a' b':CE} (P:Pl X E T k) (ha:JE X E a (wpE T a')) (hb:JE X E e (wpE T b')) (hbase:attributeBase a "index" X.env (eval a X.env)=eval a X.env)
   (hs:starEach [e] X.env=[(false,eval e X.env)]) (hline:(apos.endLine == pos.line)=true):JE X E (.Call (.Attribute a "index" apos) [e] [] pos) (wpE T (.ixo a' b')):=fun F=>by
 refine (aA5 (aCZ (F:=F) P.room P.hK) (aD4 (F:=F) P.room P.hK) (ha F) (hb F) (by rintro σ H Q Q2 hm ⟨σ',Z,G,Q',rs,S,h,kq⟩;exact ⟨σ',Z,G,Q',rs,S,h,fun x v Z1 G1 H1 s1 S1 r1 q=>hm _ _ (kq x v Z1 G1 H1 s1 S1 r1 q)⟩) hbase hline hs).imp fun σ H Q ⟨σ',Z,G,Q',rs,S,h,kq⟩=>?_;rw [wpE] at h;refine ⟨σ',Z,G,_,rs,S,h,fun x v Z1 G1 H1 s1 S1 r1 zz=>?_⟩;obtain ⟨⟨xs,hx⟩,q1⟩:=zz;rcases hx with hx | hx
 · subst hx;obtain ⟨a1,vs,rfl,hH,ta⟩:=eN S1 r1;refine ⟨a1,rfl,.inr ⟨⟨vs,P.hK▸hH⟩,σ',Z1,G1,_,rs.mono s1,S1,q1,fun y u Z2 G2 H2 s2 S2 r2 q=>?_⟩⟩;exact ⟨_,y,Z2,G2,Q',xs,RP.mono s2 r1,r2,S2,rfl,q,kq.mono (s1.trans s2)⟩
 · obtain ⟨a1,vs,rfl,hH,ta⟩:=dL S1 r1 hx;refine ⟨a1,rfl,.inl ⟨⟨vs,SqL.of hH⟩,σ',Z1,G1,_,rs.mono s1,S1,q1,fun y u Z2 G2 H2 s2 S2 r2 q=>?_⟩⟩;have q0:=q;obtain ⟨xs',i,hor,_⟩:=q;rcases hor with e | e
   · subst e; cases hx
   · exact ⟨_,y,Z2,G2,Q',xs',RP.mono s2 r1,r2,S2,e,q0,kq.mono (s1.trans s2)⟩
theorem aI3 {e:Expr} {apos:Pos} {a' b':CE} (ha:JE X E a (wpE T a')) (hb:JE X E e (wpE T b')) (hbase:attributeBase a "count" X.env (eval a X.env)=eval a X.env)
   (hs:starEach [e] X.env=[(false,eval e X.env)]) (hline:(apos.endLine == pos.line)=true):JE X E (.Call (.Attribute a "count" apos) [e] [] pos) (wpE T (.cnt a' b')):=fun F=>by
 refine (aL5 PySem.F.plainAttrs_list PySem.F.slot_list_count PySem.F.type_list_count aGg (ha F) (cF (hb F) fL hs) hbase (by rw [hs]; rfl) hline hs rfl).imp fun σ H Q ⟨σ',Z,G,Q',rs,S,h,kq⟩=>?_;rw [wpE] at h;refine ⟨σ',Z,G,_,rs,S,h,fun x v Z1 G1 H1 s1 S1 r1 zz=>?_⟩;obtain ⟨⟨ys,hy⟩,q1⟩:=zz;obtain ⟨a1,vs,rfl,hH,ta⟩:=dL S1 r1 hy;refine ⟨.inl ⟨rfl,vs,SqL.of hH⟩,σ',Z1,G1,_,rs.mono s1,S1,q1,fun y u Z2 G2 H2 s2 S2 r2 zz=>?_⟩;obtain ⟨bs,b,hl,hb,q⟩:=zz;subst hb;have eu:u= .bl b:=r2;subst eu;obtain ⟨a2,vs2,ea,hH2,ta2⟩:=dL S2 (RP.mono s2 r1) hl;cases ea;rw [RPs.bools ta2] at hH2;exact ⟨a1,bs,b,rfl,rfl,hH2,kq.go (s1.trans s2) S2 bD q⟩
noncomputable def bwN:Bn→Option Str
 | .len=>some "__len__"
 | .bool=>some "__len__"
 | .str=>some "__str__"
 | .repr=>some "__repr__"
 | _=>none
mutual
theorem YQ:∀ {x:PV} {d:PyData},dat x=some d→d.hasDict=false
 | .non,d,h=>by simp only [dat] at h; cases h; rfl
 | .bl _,d,h=>by simp only [dat] at h; cases h; rfl
 | .int _,d,h=>by simp only [dat] at h; cases h; rfl
 | .str _,d,h=>by simp only [dat] at h; cases h; rfl
 | .tup xs,d,h=>by
   simp only [dat] at h;split at h
   · rename_i ds e; cases h; unfold PyData.hasDict; exact dats_nd e
   · cases h
 | .lst xs,d,h=>by
   simp only [dat] at h;split at h
   · rename_i ds e; cases h; unfold PyData.hasDict; exact dats_nd e
   · cases h
 | .scr _,d,h=>by simp [dat] at h
 | .ob _ _ _,d,h=>by simp [dat] at h
 | .ref _,d,h=>by simp [dat] at h
 | .ty _,d,h=>by simp [dat] at h
 | .cl _,d,h=>by simp [dat] at h
 | .fn _,d,h=>by simp [dat] at h
 | .emp,d,h=>by simp [dat] at h
 | .dct _ _,d,h=>by simp [dat] at h
theorem dats_nd:∀ {xs:List PV} {ds:List PyData},mT xs=some ds→PyData.hasDictAll ds=false
 | [],ds,h=>by simp only [mT] at h; cases h; rfl
 | x :: xs,ds,h=>by
   simp only [mT] at h;split at h
   · rename_i d ds' e1 e2;cases h;unfold PyData.hasDictAll;rw [YQ e1,dats_nd e2]; rfl
   · cases h
end
theorem aBV {F:Hp} (P:Pl X E T k) (hg:X.A.guards=some []):bT X (.builtin "repr") (aDp E F fun xs G Q=>∃ x,xs=[x]∧aJe x G Q):=by
 rintro pins s σ H vs us Q I rv ⟨xs,Z,G,Q',r,S,⟨x,ex,d,hd,h1,h2,h3,hi,q⟩,kq⟩;subst ex;obtain ⟨v,rfl,rp⟩:=FS r;have hu:=P.room.un;cases rv with
 | cons r1 r2 =>
   rename_i u us';cases r2;have rd:∃ as,Reads s.heap u d as∧(d.hasDict=true→sysModules∉ as):=by
     rcases hd with hd | hd
     · obtain ⟨as,rd⟩:=iS I P.hK S.z rp r1 hd;exact ⟨as,rd,fun z=>by rw [YQ hd] at z; cases z⟩
     · obtain ⟨as,rd,n⟩:=yT I P.hK S.z rp r1 hd;exact ⟨as,rd,fun _=>n⟩
   obtain ⟨as,rd,hs⟩:=rd;have fin:∀ h' u tk,(∀ b o,s.heap.get? b=some o→h'.get? b=some o)→EP X pins σ Q (.str d.shown u) { s with heap:=h',toks:=tk }:=fun h' u tk hk=>⟨.str d.shown,H,I.kept (h':=h') (t':=tk) hk,⟨_,rfl⟩,kq.here S q uP⟩;cases rd with
   | none=>exact PySem.P.repr_of_none (fin s.heap _ _ fun _ _ z=>z)
   | bool b=>cases b <;> exact PySem.P.repr_of_bool (fin s.heap _ _ fun _ _ z=>z)
   | int i t =>
     have ex:x= .int i:=by
       rcases hd with hd | hd
       · cases x <;> simp only [dat] at hd <;> (try split at hd) <;> cases hd <;> rfl
       · cases x <;> simp only [dte] at hd <;> (try split at hd) <;> cases hd <;> rfl
     exact PySem.P.repr_of_int (hi i ex) (fin s.heap _ _ fun _ _ z=>z)
   | str x t=>exact PySem.P.repr_of_str (fin s.heap _ _ fun _ _ z=>z) h3
   | list a1 a2 a3 a4=>exact repr_of_reads' (h₀:=s.heap) (.list a1 a2 a3 a4) h1 hs hg (by omega) (fun _ _ z=>z) fin h3
   | tuple a1 a2 a3 a4=>exact repr_of_reads' (h₀:=s.heap) (.tuple a1 a2 a3 a4) h1 hs hg (by omega) (fun _ _ z=>z) fin h3
   | dict a1 a2 a3 a4 a5=>exact repr_of_reads' (h₀:=s.heap) (.dict a1 a2 a3 a4 a5) h1 hs hg (by omega) (fun _ _ z=>z) fin h3
theorem QU:bootBuiltins "repr"=some (.builtin "repr"):=by with_unfolding_all rfl
theorem aHb {p:Pos} {e:Expr} {e':CE} (P:Pl X E T k) (hgd:X.A.guards=some []) (hg:Gl X "repr") (hm:X.mg "repr"=none) (ha:JE X E e (wpE T e')) (hs:starEach [e] X.env=[(false,eval e X.env)]):JE X E (.Call (.Name "repr" p) [e] [] pos) (wpE T (.rpr e')):=fun F =>
 (EW (aBV (F:=F) P hgd) hg hm (QU) (cF (ha F) fL hs) (by decide) (by decide) hs rfl).imp <|by
   rintro σ H Q ⟨σ',Z,G,Q',rs,S,h,kq⟩;rw [wpE] at h;exact ⟨σ',Z,G,_,rs,S,h,fun x v Z1 G1 H1 s1 S1 r1 q1=>⟨[x],Z1,G1,Q',⟨v,[],rfl,r1,rfl⟩,S1,⟨x,rfl,q1⟩,kq.mono s1⟩⟩
end
section
variable {X:Cx} {E:Ev} {T:Tb} {k:Nat} {F H Z:Hp} {G:Gh}
variable {a b:Expr} {pos:Pos}
end
section
variable {X:Cx} {E:Ev} {T:Tb} {k:Nat} {pos:Pos} {a b c e:Expr}
theorem CF {i:Nat} {x:Str} (hN:X.N.Nodup) (hi:X.N[i]? =some x) (hx:Loc X.env.scope x) (hf:X.fn x=true∨X.env.scope.names.lookup x=some .local):JG X E (.Name x pos) (wpG T (.gn i)):=fun F =>
 (MW hN hi hx hf).imp <|by
   rintro v σ H Q ⟨x,σ',Z,G,Q',r,rs,S,h,kq⟩;rw [wpG] at h;exact kq _ _ _ _ _ (aN.refl Z) S (rs.set r i) h
theorem aBU:JGs X E [] (eW T .nil):=fun F=>PGs.imp aDt <|by
 rintro vs σ H Q ⟨xs,σ',Z,G,Q',r,rs,S,h,kq⟩;rw [eW] at h;obtain ⟨e,h⟩:=h;subst e;exact ⟨r,kq _ _ _ _ _ (aN.refl Z) S rs h⟩
theorem YZ {e:Expr} {es:List Expr} {a' b':CE} (h1:JG X E e (wpG T a')) (h2:JGs X E es (eW T b')) (hs:(assignEach (e :: es) X.env).map (·.2)=assign e X.env :: (assignEach es X.env).map (·.2)):JGs X E (e :: es) (eW T (.cons a' b')):=fun F =>
 PGs.imp (WR (h1 F) (h2 F) hs) <|by
   rintro vs σ H Q ⟨xs,σ',Z,G,Q',r,rs,S,h,kq⟩;rw [eW] at h;obtain ⟨x,t,e,h⟩:=h;subst e;obtain ⟨v,u,e,r1,r2⟩:=r;exact ⟨v,u,e,x,σ',Z,G,_,r1,rs,S,h,fun σ1 σ2 Z1 G1 H1 s1 S1 rs1 q1=>⟨t,σ1,Z1,G1,Q',r2.mono s1,rs1,S1,q1,kq.mono s1⟩⟩
theorem aGs {es:List Expr} {x1 n:Nat} {gs:CE} (P:Pl X E T k) (h40:40≤k) (h:JGs X E es (eW T gs)) (hn:(assignEach es X.env).length=n) (hst:(assignEach es X.env).findIdx? (·.1)=none):JG X E (.Tuple es x1 pos) (wpG T (.gt n gs)):=fun F =>
 (aGI (P.calm h40) (h F) hn hst).imp <|by
   rintro v σ H Q ⟨x,σ',Z,G,Q',r,rs,S,h,kq⟩;rw [wpG] at h;obtain ⟨xs,e,hl,h⟩:=h;subst e;obtain ⟨a,vs,e,ha,t⟩:=eN S r;exact ⟨a,vs,e,P.hK▸ha,by rw [←t.length]; exact hl,xs,σ',Z,G,Q',t,rs,S,h,kq⟩
def yB (E:Ev) (J:It) (Z:Hp) (chk:Gh→Prop) (xs:List PV):Prop:= ∀ F (i:Nat) Z1 G1 H1,aN Z Z1→Sim E F H1 Z1 G1→chk G1→
 (∀ x,xs[i]? =some x→J.go i H1∧∀ v H2,J.yld i H1 v H2→∃ Z2,aN Z1 Z2∧Sim E F H2 Z2 G1∧RP E Z2 x v)∧(i=xs.length→J.stop i H1)
def aK7 (E:Ev) (F:Hp) (t:PTI):TI:=fun σ H R=>∃ σ' Z G R',RSt E Z σ' σ∧Sim E F H Z G∧t σ' G R'∧∀ J chk xs Z1 G1 H1,aN Z Z1→Sim E F H1 Z1 G1→yB E J Z1 chk xs→R' chk xs G1→R J H1
def JI (X:Cx) (E:Ev) (tg iter:Expr) (t:PTI):Prop:= ∀ F,PI X tg iter (aK7 E F t)
theorem aJj {tg l:Expr} {tl:TE} (hl:PE X l tl):PI X tg l (fun σ H R=>tl σ H fun x H1=>∃ a,x= .ref a∧(((∃ xs,SqL X.K H1 a xs)∧R (Itl X.K a) H1)∨((∃ xs,SqT X.K H1 a xs)∧R (Itt X.K a) H1))):=by
 intro pins s σ H R I h;have hw:=hl pins s σ H _ I h;refine thn hw fun v s1 zz=>?_;obtain ⟨x,H1,I1,r1,a,e,q1⟩:=zz;subst e;have r1':v= .ref a:=r1;subst r1';rcases q1 with ⟨⟨xs,hq⟩,q⟩ | ⟨⟨xs,hq⟩,q⟩
 · obtain ⟨its,rv,p,hz⟩:=I1.list hq;refine wpAny_pyIter_list p.isList ?_;refine ⟨s1.heap.objs.size,[s1.heap.objs.size],_,_,H1,rfl,I1.kept (t':=s1.toks) fun b o e=>wEq _ e,QG a _,⟨_,wGq _ rfl,rfl,rfl⟩,fun b hb=>?_,q⟩;have e:b=s1.heap.objs.size:=by simpa using hb
   subst e;exact I1.fpOk (Nat.le_refl _) (I1.hok.fresh (Nat.le_refl _))
 · obtain ⟨its,rv,p,hz⟩:=I1.tuple hq;refine wpAny_pyIter_tuple (show s1.heap.IsTuple a its.toArray from p) ?_;refine ⟨s1.heap.objs.size,[s1.heap.objs.size],_,_,H1,rfl,I1.kept (t':=s1.toks) fun b o e=>wEq _ e,KU a _,⟨_,wGq _ rfl,rfl,rfl⟩,fun b hb=>?_,q⟩;have e:b=s1.heap.objs.size:=by simpa using hb
   subst e;exact I1.fpOk (Nat.le_refl _) (I1.hok.fresh (Nat.le_refl _))
theorem AL {a:Addr} {Z:Hp} {chk:Gh→Prop} {xs:List PV} (h:∀ F Z1 G1 H1,aN Z Z1→Sim E F H1 Z1 G1→chk G1→∃ vs,SqL E.K H1 a vs∧RPs E Z1 xs vs):yB E (Itl E.K a) Z chk xs:=by
 intro F i Z1 G1 H1 s1 S1 c1;obtain ⟨vs,hs,t⟩:=h F Z1 G1 H1 s1 S1 c1;refine ⟨fun x ex=>?_,fun e=>⟨vs,hs,by rw [e,t.length]; exact Nat.le_refl _⟩⟩;obtain ⟨v,ev,rv⟩:=t.get ex;refine ⟨⟨vs,v,hs,ev⟩,fun w H2 zz=>?_⟩;obtain ⟨e,y⟩:=zz;subst e;have:=y vs hs;rw [ev] at this;cases this;exact ⟨Z1,aN.refl _,S1,rv⟩
theorem aGA {a:Addr} {Z:Hp} {chk:Gh→Prop} {xs:List PV} (h:∀ F Z1 G1 H1,aN Z Z1→Sim E F H1 Z1 G1→chk G1→∃ vs,SqT E.K H1 a vs∧RPs E Z1 xs vs):yB E (Itt E.K a) Z chk xs:=by
 intro F i Z1 G1 H1 s1 S1 c1;obtain ⟨vs,hs,t⟩:=h F Z1 G1 H1 s1 S1 c1;refine ⟨fun x ex=>?_,fun e=>⟨vs,hs,by rw [e,t.length]; exact Nat.le_refl _⟩⟩;obtain ⟨v,ev,rv⟩:=t.get ex;refine ⟨⟨vs,v,hs,ev⟩,fun w H2 zz=>?_⟩;obtain ⟨e,y⟩:=zz;subst e;have:=y vs hs;rw [ev] at this;cases this;exact ⟨Z1,aN.refl _,S1,rv⟩
theorem aGn {a:Addr} {Z:Hp} {vs:List V} {xs:List PV} (hz:SqT E.K Z a vs) (t:RPs E Z xs vs):yB E (Ite E.K a) Z (fun _=>True) (GH xs):=by
 intro F i Z1 G1 H1 s1 S1 _;have hs:=dN S1.z (dN s1 hz);have hl:(GH xs).length=xs.length:=by unfold GH; rw [List.length_map,List.length_zipIdx]
 refine ⟨fun x ex=>?_,fun e=>⟨vs,hs,by rw [e,hl,t.length]; exact Nat.le_refl _⟩⟩;unfold GH at ex;rw [List.getElem?_map,List.getElem?_zipIdx] at ex;cases ey:xs[i]? with
 | none=>rw [ey] at ex; cases ex
 | some y =>
   rw [ey] at ex;have ex':x= .tup [.int ((0 + i:Nat):Int),y]:=by
     have:=Option.some.inj ex;exact this.symm
   obtain ⟨v,ev,rv⟩:=t.get ey;refine ⟨⟨vs,v,hs,ev⟩,fun w H2 zz=>?_⟩;obtain ⟨p,u,e,n,e2,y'⟩:=zz;subst e e2;have:=y' vs hs;rw [ev] at this;cases this;refine ⟨upd Z1 p (.tup [.int i,v]),aT (S1.zn n) _,S1.fz n, ?_⟩;rw [ex',Nat.zero_add];exact nM (xs:=[.int (i:Int),y]) (S1.zn n) ⟨_,_,rfl,bD,_,_,rfl,rv.mono s1,rfl⟩
theorem WM {lo:Int} {n:Nat} {Z:Hp}:yB E (Itr lo n) Z (fun _=>True) (sZ lo n):=by
 intro F i Z1 G1 H1 s1 S1 _;have hl:(sZ lo n).length=n:=by unfold sZ; rw [List.length_map,List.length_range]
 refine ⟨fun x ex=>?_,fun e=>by rw [hl] at e; exact Nat.le_of_eq e.symm⟩;have hi:i < n:=by
   have:=(List.getElem?_eq_some_iff.mp ex).1;rw [hl] at this; exact this
 have ex':x= .int (lo + i):=by
   unfold sZ at ex;rw [List.getElem?_map,List.getElem?_range hi] at ex;exact (Option.some.inj ex).symm
 refine ⟨hi,fun w H2 zz=>?_⟩;obtain ⟨e,y⟩:=zz;subst e y;exact ⟨Z1,aN.refl _,S1,by rw [ex']; exact bD⟩
theorem BA {tg:Expr} {a':CE} (P:Pl X E T k) (ha:JE X E a (wpE T a')):JI X E tg a (wpI T (.isq a')):=fun F =>
 (aJj (ha F)).imp <|by
   rintro σ H R ⟨σ',Z,G,R',rs,S,h,kr⟩;rw [wpI] at h;refine ⟨σ',Z,G,_,rs,S,h,fun x v Z1 G1 H1 s1 S1 r1 q1=>?_⟩;unfold aBb at q1;split at q1
   · obtain ⟨a,vs,e,ha,t⟩:=r1;have ok:yB E (Itt E.K a) Z1 (fun _=>True) _:=aGA fun F2 Z2 G2 H2 s2 S2 _=>⟨vs,dN S2.z (dN s2 ha),t.mono s2⟩;exact ⟨a,e,.inr ⟨⟨vs,P.hK▸dN S1.z ha⟩,P.hK▸kr _ _ _ _ _ _ s1 S1 ok q1⟩⟩
   · obtain ⟨a,vs,e,ha,t⟩:=r1;have ok:yB E (Itl E.K a) Z1 (fun _=>True) _:=AL fun F2 Z2 G2 H2 s2 S2 _=>⟨vs,SqL.of (S2.z _ _ (s2 _ _ ha)),t.mono s2⟩;exact ⟨a,e,.inl ⟨⟨vs,SqL.of (S1.z _ _ ha)⟩,P.hK▸kr _ _ _ _ _ _ s1 S1 ok q1⟩⟩
   · obtain ⟨a,e,ha⟩:=r1;have ok:yB E (Itl E.K a) Z1 (fun _=>True) _:=AL fun F2 Z2 G2 H2 s2 S2 _=>⟨_,S2.z.seq (s2.seq ha),RPs.ofInts _⟩;exact ⟨a,e,.inl ⟨⟨_,P.hK▸S1.z.seq ha⟩,P.hK▸kr _ _ _ _ _ _ s1 S1 ok q1⟩⟩
   · rename_i a;obtain ⟨xs,hG,q1⟩:=q1;obtain ⟨_,o',hp,vs,e',t⟩:=S1.g _ _ hG;subst e';have ok:yB E (Itl E.K a) Z1 (fun G'=>G' a=some (.lst xs)) xs:=AL fun F2 Z2 G2 H2 s2 S2 c2=>by
       obtain ⟨_,o',hp,vs,e',t⟩:=S2.g _ _ c2;subst e';exact ⟨vs,SqL.of hp,t⟩
     exact ⟨a,r1,.inl ⟨⟨vs,SqL.of hp⟩,P.hK▸kr _ _ _ _ _ _ s1 S1 ok q1⟩⟩
   · exact q1.elim
theorem aBY {tg:Expr} {p:Pos} {a':CE} (hg:Gl X "range") (hm:X.mg "range"=none) (ha:JE X E a (wpE T a')) (hs:starEach [a] X.env=[(false,eval a X.env)]):JI X E tg (.Call (.Name "range" p) [a] [] pos) (wpI T (.irg (.cons a' .nil))):=fun F =>
 (PP hg hm (cF (ha F) fL hs) hs).imp <|by
   rintro σ H R ⟨σ',Z,G,R',rs,S,h,kr⟩;rw [wpI,wpL,wpL] at h;refine ⟨σ',Z,G,_,rs,S,h,fun x v Z1 G1 H1 s1 S1 r1 q1=>?_⟩;rcases q1 with ⟨j,e,h1,h2,q⟩ | ⟨i,j,e,_⟩
   · cases e;exact ⟨j,by rw [show v= .int j from r1],h1,h2,kr _ _ _ _ _ _ s1 S1 WM q⟩
   · cases e
theorem aCP {tg:Expr} {p:Pos} {a' b':CE} (hg:Gl X "range") (hm:X.mg "range"=none) (ha:JE X E a (wpE T a')) (hb:JE X E b (wpE T b')) (hs:starEach [a,b] X.env=[(false,eval a X.env),(false,eval b X.env)]) (hs2:starEach [b] X.env=[(false,eval b X.env)]) :
   JI X E tg (.Call (.Name "range" p) [a,b] [] pos) (wpI T (.irg (.cons a' (.cons b' .nil)))):=fun F =>
 (PM hg hm (cF (ha F) (cF (hb F) fL hs2) (by rw [hs,hs2])) hs hs2).imp <|by
   rintro σ H R ⟨σ',Z,G,R',rs,S,h,kr⟩;rw [wpI,wpL,wpL,wpL] at h;refine ⟨σ',Z,G,_,rs,S,h,fun x v Z1 G1 H1 s1 S1 r1 q1=>⟨σ',Z1,G1,_,rs.mono s1,S1,q1,fun y u Z2 G2 H2 s2 S2 r2 q2=>?_⟩⟩;rcases q2 with ⟨j,e,h1,h2,q⟩ | ⟨i,j,e,hb,q⟩
   · cases e
   · cases e;exact ⟨i,j,by rw [show v= .int i from r1,show u= .int j from r2],hb,kr _ _ _ _ _ _ (s1.trans s2) S2 WM q⟩
theorem aIM {es:List Expr} {x1:Nat} {tp p:Pos} {a':CE} (P:Pl X E T k) (hg:Gl X "enumerate") (hm:X.mg "enumerate"=none) (ha:JE X E a (wpE T a')) (hs:starEach [a] X.env=[(false,eval a X.env)]):JI X E (.Tuple es x1 tp) (.Call (.Name "enumerate" p) [a] [] pos) (wpI T (.ien a')):=fun F =>
 (aCz hg hm (cF (ha F) fL hs) hs).imp <|by
   rintro σ H R ⟨σ',Z,G,R',rs,S,h,kr⟩;rw [wpI] at h;refine ⟨σ',Z,G,_,rs,S,h,fun x v Z1 G1 H1 s1 S1 r1 zz=>?_⟩;obtain ⟨xs,e,q1⟩:=zz;subst e;obtain ⟨a,vs,e,ha,t⟩:=r1;exact ⟨a,by rw [e],⟨vs,P.hK▸dN S1.z ha⟩,P.hK▸kr _ _ _ _ _ _ s1 S1 (aGn ha t) q1⟩
theorem aHc {tg iter:Expr} {body:List Stmt} {g' i':CE} {b':CS} (P:Pl X E T k) (h40:40≤k) (hp:PassesOwn (model X.prog X.w) X.A X.env X.xe) (hi:JI X E tg iter (wpI T i')) (hg:JG X E tg (wpG T g')) (hb:JSs X E body (wpS T b'))
   (hs:∀ x,foldedSetIterable iter X.env x=pure x):JS X E (.For tg iter body [] pos) (wpS T (.fr g' i' b')):=fun F =>
 (aGM hp (P.calm h40) (hi F) (hg F) (hb F) hs).imp <|by
   rintro D σ H ⟨σ',Z,G,D',rs,S,h,kd⟩;rw [wpS] at h;refine ⟨σ',Z,G,_,rs,S,h,fun J chk xs Z1 G1 H1 s1 S1 ok q=>?_⟩;refine ⟨fun i m σ H=>m=xs.length - i∧i≤xs.length∧∃ σ' Z2 G2,aN Z1 Z2∧Sim E F H Z2 G2∧RSt E Z2 σ' σ∧sY chk (wpG T g') (wpS T b') D' (xs.drop i) σ' G2,⟨xs.length,by simp,Nat.zero_le _,σ',Z1,G1,aN.refl _,S1,rs.mono s1,q⟩, ?_⟩;rintro i m σ2 H2 ⟨rfl,hi,σ3,Z2,G2,s2,S2,rs2,q2⟩;have sz:=s1.trans s2;by_cases hlt:i < xs.length
   · have hd:xs.drop i=xs[i] :: xs.drop (i + 1):=List.drop_eq_getElem_cons hlt;rw [hd] at q2;unfold sY at q2;obtain ⟨c2,q2⟩:=q2;obtain ⟨go,yl⟩:=(ok F i Z2 G2 H2 s2 S2 c2).1 xs[i] (by simp [hlt]);refine .inr ⟨go,fun σ4 H4=>∃ σ5 Z4 G4,aN Z2 Z4∧Sim E F H4 Z4 G4∧RSt E Z4 σ5 σ4∧sY chk (wpG T g') (wpS T b') D' (xs.drop (i + 1)) σ5 G4,by rintro σ4 H4 ⟨σ5,Z4,G4,s4,S4,rs4,q4⟩;exact ⟨xs.length - (i + 1),by omega,rfl,hlt,σ5,Z4,G4,s2.trans s4,S4,rs4,q4⟩,fun v H3 y=>?_⟩;obtain ⟨Z3,s3,S3,r3⟩:=yl v H3 y;refine ⟨xs[i],σ3,Z3,G2,_,r3,rs2.mono s3,S3,q2,fun σ6 σ7 Z5 G5 H5 s5 S5 rs5 q5=>⟨σ6,Z5,G5,_,rs5,S5,q5, ?_⟩⟩;have s35:=s3.trans s5;exact ⟨fun σ8 σ9 Z6 G6 H6 s6 S6 rs6 q6=>⟨σ8,Z6,G6,s35.trans s6,S6,rs6,q6⟩,kd.rt.mono (sz.trans s35),kd.nx.mono (sz.trans s35),fun σ8 σ9 Z6 G6 H6 s6 S6 rs6 q6=>⟨σ8,Z6,G6,s35.trans s6,S6,rs6,q6⟩⟩
   · have e:i=xs.length:=by omega
     rw [e,List.drop_length] at q2;unfold sY at q2;obtain ⟨c2,q2⟩:=q2;exact .inl ⟨(ok F i Z2 G2 H2 s2 S2 c2).2 e,kd.nx _ _ _ _ _ sz S2 rs2 q2⟩
theorem aJx {body:List Stmt} {c':CE} {b':CS} (hp:PassesOwn (model X.prog X.w) X.A X.env X.xe) (hc:JT X E c (wpT T c')) (hb:JSs X E body (wpS T b')):JS X E (.While c body [] pos) (wpS T (.wh c' b')):=fun F =>
 (aAo hp (hc F) (hb F)).imp <|by
   rintro D σ H ⟨σ',Z,G,D',rs,S,h,kd⟩;rw [wpS] at h;obtain ⟨W,⟨m0,w0⟩,turn⟩:=h;refine ⟨fun m σ H=>∃ σ' Z2 G2,aN Z Z2∧Sim E F H Z2 G2∧RSt E Z2 σ' σ∧W m σ' G2,⟨m0,σ',Z,G,aN.refl _,S,rs,w0⟩, ?_⟩;rintro m σ2 H2 ⟨σ3,Z2,G2,s2,S2,rs2,w2⟩;refine ⟨σ3,Z2,G2,_,rs2,S2,turn m σ3 G2 w2,fun d Z3 G3 H3 s3 S3 q3=>?_⟩;have s23:=s2.trans s3;dsimp only;cases d with
   | true =>
     rw [if_pos rfl] at q3 ⊢;refine ⟨fun σ4 H4=>∃ σ5 Z4 G4 m',m' < m∧aN Z Z4∧Sim E F H4 Z4 G4∧RSt E Z4 σ5 σ4∧W m' σ5 G4,by rintro σ4 H4 ⟨σ5,Z4,G4,m',lt,s4,S4,rs4,w4⟩;exact ⟨m',lt,σ5,Z4,G4,s4,S4,rs4,w4⟩,σ3,Z3,G3,_,rs2.mono s3,S3,q3, ?_⟩;exact ⟨by rintro σ8 σ9 Z6 G6 H6 s6 S6 rs6 ⟨m',lt,w6⟩;exact ⟨σ8,Z6,G6,m',lt,s23.trans s6,S6,rs6,w6⟩,kd.rt.mono s23,kd.nx.mono s23,by rintro σ8 σ9 Z6 G6 H6 s6 S6 rs6 ⟨m',lt,w6⟩;exact ⟨σ8,Z6,G6,m',lt,s23.trans s6,S6,rs6,w6⟩⟩
   | false =>
     rw [if_neg Bool.false_ne_true] at q3 ⊢;exact kd.nx _ _ _ _ _ s23 S3 (rs2.mono s3) q3
theorem aG9 {st:Stmt} {aV:List Stmt} {a' b':CS} (h1:JS X E st (wpS T a')) (h2:JSs X E aV (wpS T b')):JSs X E (st :: aV) (wpS T (.seq a' b')):=fun F =>
 PSs.imp (EZ (h1 F) (h2 F)) <|by
   rintro D σ H ⟨σ',Z,G,D',rs,S,h,kd⟩;rw [wpS] at h;exact ⟨σ',Z,G,_,rs,S,h,⟨fun σ1 σ2 Z1 G1 H1 s1 S1 rs1 q1=>⟨σ1,Z1,G1,D',rs1,S1,q1,kd.mono s1⟩,kd.rt,kd.bk,kd.ct⟩⟩
theorem aFZ {st:Stmt} {a':CS} (h1:JS X E st (wpS T a')):JSs X E [st] (wpS T a'):=fun F=>MS (h1 F)
theorem aHq:JSs X E [] (wpS T .nil):=fun F=>PSs.imp aC0 <|by
 rintro D σ H ⟨σ',Z,G,D',rs,S,h,kd⟩;rw [wpS] at h;exact kd.nx _ _ _ _ _ (aN.refl Z) S rs h
theorem aDT:JS X E (.Pass pos) (wpS T .nil):=fun F=>aCQ.imp <|by
 rintro D σ H ⟨σ',Z,G,D',rs,S,h,kd⟩;rw [wpS] at h;exact kd.nx _ _ _ _ _ (aN.refl Z) S rs h
theorem aIH {x:Str} {j:Nat} {pos':Pos}:JS X E (.Expr (.Constant (.str x) j pos) pos') (wpS T .nil):=fun F=>aG0.imp <|by
 rintro D σ H ⟨σ',Z,G,D',rs,S,h,kd⟩;rw [wpS] at h;exact kd.nx _ _ _ _ _ (aN.refl Z) S rs h
theorem aMj {e':CE} (he:JE X E e (wpE T e')) (hs:swapsWith e none pos.line X.env=pure false):JS X E (.Expr e pos) (wpS T (.ex e')):=fun F =>
 (ME (he F) hs).imp <|by
   rintro D σ H ⟨σ',Z,G,D',rs,S,h,kd⟩;rw [wpS] at h;exact ⟨σ',Z,G,_,rs,S,h,fun x v Z1 G1 H1 s1 S1 r1 q1=>kd.nx _ _ _ _ _ s1 S1 (rs.mono s1) q1⟩
theorem aGj {e':CE} (he:JE X E e (wpE T e')):JS X E (.Return (some e) pos) (wpS T (.ret e')):=fun F =>
 (aIX (he F)).imp <|by
   rintro D σ H ⟨σ',Z,G,D',rs,S,h,kd⟩;rw [wpS] at h;exact ⟨σ',Z,G,_,rs,S,h,kd.rt⟩
theorem aBA:JS X E (.Return none pos) (wpS T .retN):=fun F=>aB7.imp <|by
 rintro D σ H ⟨σ',Z,G,D',rs,S,h,kd⟩;rw [wpS] at h;exact kd.rt _ _ _ _ _ (aN.refl Z) S rG h
theorem aH0 {st:Stmt}:JS X E st (wpS T .nev):=fun F=>UU.imp <|by
 rintro D σ H ⟨σ',Z,G,D',rs,S,h,kd⟩;rw [wpS] at h;exact h
theorem aDu {sts:List Stmt}:JSs X E sts (wpS T .nev):=fun F=>PSs.imp QD <|by
 rintro D σ H ⟨σ',Z,G,D',rs,S,h,kd⟩;rw [wpS] at h;exact h
theorem aJH {x y:List Stmt} {c':CE} {a' b':CS} (hc:JT X E c (wpT T c')) (ha:JSs X E x (wpS T a')) (hb:JSs X E y (wpS T b')):JS X E (.If c x y pos) (wpS T (.iff c' a' b')):=fun F =>
 (aJr (hc F) (ha F) (hb F)).imp <|by
   rintro D σ H ⟨σ',Z,G,D',rs,S,h,kd⟩;rw [wpS] at h;refine ⟨σ',Z,G,_,rs,S,h,fun d Z1 G1 H1 s1 S1 q=>?_⟩;cases d with
   | true=>rw [if_pos rfl] at q ⊢; exact ⟨σ',Z1,G1,D',rs.mono s1,S1,q,kd.mono s1⟩
   | false=>rw [if_neg Bool.false_ne_true] at q ⊢; exact ⟨σ',Z1,G1,D',rs.mono s1,S1,q,kd.mono s1⟩
theorem aDU {F:Hp} {g' e':CE} {D:uW} {σ:L2.St} {H:Hp} (h:aI6 E F (wpS T (.asg g' e')) D σ H):aIL (low E F (wpE T e')) (aIY E F (wpG T g')) D σ H:=by
 obtain ⟨σ',Z,G,D',rs,S,h,kd⟩:=h;rw [wpS] at h;exact ⟨σ',Z,G,_,rs,S,h,fun x v Z1 G1 H1 s1 S1 r1 q1=>⟨x,σ',Z1,G1,_,r1,rs.mono s1,S1,q1,kd.nx.mono s1⟩⟩
theorem HZ {tg:Expr} {g' e':CE} (he:JE X E e (wpE T e')) (hg:JG X E tg (wpG T g')) (hs:swapsWithSole [tg] e pos.line X.env=pure false) (hw:swappedStores [tg] e X.env=pure none) (h1:(assignEach [tg] X.env).map (·.2)=[assign tg X.env]) :
   JS X E (.Assign [tg] e pos) (wpS T (.asg g' e')):=fun F=>(aAD (he F) (hg F) hs hw h1).imp fun D σ H h=>aDU h
theorem aIE {i j:Nat} {x y:Str} {a' b':CE} {px py pt pt2:Pos} {kt k2:Nat} (P:Pl X E T k) (h40:40≤k) (hN:X.N.Nodup) (hi:X.N[i]? =some x) (hj:X.N[j]? =some y) (hij:i≠j) (hx:X.env.scope.names.lookup x=some .local) (hy:X.env.scope.names.lookup y=some .local)
   (ha:JE X E a (wpE T a')) (hb:JE X E b (wpE T b')) (s1:starEach [a,b] X.env=(false,eval a X.env) :: starEach [b] X.env) (s2:starEach [b] X.env=(false,eval b X.env) :: starEach [] X.env)
   (hw:swappedStores [.Tuple [.Name x px,.Name y py] kt pt] (.Tuple [a,b] k2 pt2) X.env=pure (some [x,y])) (hs:swapsWithSole [.Tuple [.Name x px,.Name y py] kt pt] (.Tuple [a,b] k2 pt2) pos.line X.env=pure false) :
   JS X E (.Assign [.Tuple [.Name x px,.Name y py] kt pt] (.Tuple [a,b] k2 pt2) pos) (wpS T (.par i j a' b')):=fun F =>
 (aIg (P.calm h40) hN hi hj hij hx hy (cF (ha F) (cF (hb F) fL s2) s1) hw hs).imp <|by
   rintro D σ H ⟨σ',Z,G,D',rs,S,h,kd⟩;rw [wpS] at h;refine ⟨σ',Z,G,_,rs,S,h,fun x v Z1 G1 H1 s1 S1 r1 q1=>⟨σ',Z1,G1,_,rs.mono s1,S1,q1,fun y u Z2 G2 H2 s2 S2 r2 q2=>?_⟩⟩;exact ⟨v,u,rfl,kd.nx _ _ _ _ _ (s1.trans s2) S2 ((((rs.mono s1).mono s2).set (r1.mono s2) i).set r2 j) q2⟩
theorem aGH {o i:Expr} {pos':Pos} {o' i' e':CE} (he:JE X E e (wpE T e')) (ho:JE X E o (wpE T o')) (hi:JE X E i (wpE T i'))
   (ha:∀ v,assign (.Subscript o i pos') X.env v=(do
     let ov ←holding [v] (eval o X.env)
     let iv ←holding [v,ov] (eval i X.env)
     standAt pos'
     holding [v,ov,iv] (setItem ov iv v)
     release [v,ov,iv] []))
   (hs:swapsWithSole [.Subscript o i pos'] e pos.line X.env=pure false) (hw:swappedStores [.Subscript o i pos'] e X.env=pure none):JS X E (.Assign [.Subscript o i pos'] e pos) (wpS T (.sub o' i' e')):=fun F =>
 (aAD (he F) (aH6 (ho F) (hi F) (aCA (E:=E) (F:=F)) ha) hs hw rfl).imp <|by
   rintro D σ H ⟨σ',Z,G,D',rs,S,h,kd⟩;rw [wpS] at h;refine ⟨σ',Z,G,_,rs,S,h,fun v v' Z1 G1 H1 s1 S1 r1 q1=>⟨σ',Z1,G1,_,rs.mono s1,S1,q1,fun x x' Z2 G2 H2 s2 S2 r2 q2=>⟨σ',Z2,G2,_,(rs.mono s1).mono s2,S2,q2,fun y y' Z3 G3 H3 s3 S3 r3 q3=>?_⟩⟩⟩;have s13:=(s1.trans s2).trans s3;exact ⟨x,y,v,Z3,G3,_,r2.mono s3,r3,(r1.mono s2).mono s3,S3,q3,fun G4 H4 S4 q4=>kd.nx _ _ _ _ _ s13 S4 (rs.mono s13) q4⟩
theorem DZ (f:Str) (v:V):∀ (ns:List Str) (vs:List V),ns.length=vs.length→kG f v (ns.zip vs)=(PQ f ns).zip (xM f v ns vs)∧(PQ f ns).length=(xM f v ns vs).length
 | [],[],_=>⟨rfl,rfl⟩
 | [],_ :: _,h=>by cases h
 | _ :: _,[],h=>by cases h
 | n :: ns,u :: us,h=>by
   obtain ⟨a,b⟩:=DZ f v ns us (by simpa using h);rw [List.zip_cons_cons];unfold kG PQ xM;split
   · exact ⟨by rw [List.zip_cons_cons],by simpa using h⟩
   · exact ⟨by rw [List.zip_cons_cons,a],by simpa using b⟩
theorem ML {Z:Hp} {f:Str} {y:PV} {u:V} (r:RP E Z y u):∀ {ns:List Str} {xs:List PV} {vs:List V},RPs E Z xs vs→RPs E Z (xM f y ns xs) (xM f u ns vs)
 | [],_,_,_=>⟨u,[],rfl,r,rfl⟩
 | _ :: _,[],_,h=>by cases h; exact rfl
 | n :: ns,x :: xs,_,⟨v,t,e,r1,r2⟩=>by
   subst e;unfold xM;split
   · exact ⟨u,t,rfl,r,r2⟩
   · exact ⟨v,_,rfl,r1,ML r r2⟩
theorem aG2 {o:Expr} {f:Str} {pos':Pos} {o' e':CE} (P:Pl X E T k) (ho:JE X E o (wpE T o')) (he:JE X E e (wpE T e')) (hs:swapsWith e (some (.Attribute o f pos')) pos.line X.env=pure false):JS X E (.Assign [.Attribute o f pos'] e pos) (wpS T (.fld o' f e')):=fun F =>
 (aFI (ho F) (he F) hs).imp <|by
   rintro D σ H ⟨σ',Z,G,D',rs,S,h,kd⟩;rw [wpS] at h;refine ⟨σ',Z,G,_,rs,S,h,fun v v' Z1 G1 H1 s1 S1 r1 q1=>⟨σ',Z1,G1,_,rs.mono s1,S1,q1,fun x x' Z2 G2 H2 s2 S2 r2 zz=>?_⟩⟩;obtain ⟨p,c,ns,xs,e,hG,hf,hl,q2⟩:=zz;subst e;have e:x'= .ref p:=r2;subst e;obtain ⟨_,o',hp,dx,vs,e',l,t⟩:=S2.g _ _ hG;subst e';obtain ⟨h1,h2⟩:=P.fld c f hf;obtain ⟨e1,e2⟩:=DZ f v' ns vs l;refine ⟨p,_,dx,_,rfl,hp,h1,h2,by rw [List.length_zip,←l,Nat.min_self]; exact hl,kd.nx _ _ _ _ _ (s1.trans s2) (S2.set (go:=.ins c (PQ f ns) (xM f v ns xs)) hG ⟨dx,xM f v' ns vs,by rw [e1],e2,ML (r1.mono s2) t⟩) ((rs.mono s1).mono s2) q2⟩
end
section
variable {X:Cx} {E:Ev} {T:Tb} {k:Nat} {pos:Pos} {a b c e:Expr}
theorem aHy {Z:Hp} {js:List (Option Nat)} {σ':PSt} {σ:L2.St} (rs:RSt E Z σ' σ):RSt E Z (QE js σ') (TZ js σ):=by
 induction js with
 | nil=>exact .nil
 | cons o r ih =>
   refine .cons ?_ ih;cases o with
   | none=>exact trivial
   | some j =>
     show RSl E Z ((σ'[j]?).getD none) ((σ[j]?).getD none);cases e:σ'[j]? with
     | none=>exact trivial
     | some u =>
       cases u with
       | none=>exact trivial
       | some x =>
         obtain ⟨v,e',r⟩:=rs.get e;rw [e'];exact ⟨v,rfl,r⟩
def aH5 (E:Ev) (t:PTE):TE:=fun σ H Q=>∃ F,low E F t σ H Q
def aDH (E:Ev) (t:PTT):TT:=fun σ H Q=>∃ F,AF E F t σ H Q
def aHP (E:Ev) (t:PTG):TG:=fun v σ H Q=>∃ F,aIY E F t v σ H Q
theorem JE.any {t:PTE} (h:JE X E e t):PE X e (aH5 E t):=by rintro pins s σ H Q I ⟨F,q⟩;exact h F pins s σ H Q I q
theorem JT.any {t:PTT} (h:JT X E e t):PT X e (aDH E t):=by rintro pins s σ H Q I ⟨F,q⟩;exact h F pins s σ H Q I q
theorem JG.any {t:PTG} (h:JG X E e t):PG X e (aHP E t):=by rintro pins s σ H v u Q I r ⟨F,q⟩;exact h F pins s σ H v u Q I r q
theorem aA6 {F:Hp} {J:It} {Z1 H1:Hp} {G1:Gh} {chk:Gh→Prop} {xs:List PV} {g':PTG} {ts':PTT} {te':PTE} {σ':PSt} {σ:L2.St} {m:Bool} {Q':PK1} {Q:VK} {D:Addr}
   (S1:Sim E F H1 Z1 G1) (ok:yB E J Z1 chk xs) (rs:RSt E Z1 σ' σ) (hz:xs.length≤sizeLine) (n:H1 D=none) (q:fZ chk g' ts' te' xs [] σ' G1 fun ys G2=>vN m G2 ys Q') (kq:Kq E F Z1 Q' Q) :
   TX J D (aHP E g') (aDH E ts') (aH5 E te') Q σ (upd H1 D (.lst [])):=by
 have fD:F D=none:=S1.fn n;refine ⟨fun i m' σ H=>m'=xs.length - i∧i≤xs.length∧∃ σ' Z2 G2 acc vs,aN Z1 Z2∧Sim E (upd F D (.lst vs)) H Z2 G2∧RPs E Z2 acc vs∧RSt E Z2 σ' σ∧acc.length≤i∧fZ chk g' ts' te' (xs.drop i) acc σ' G2 fun ys G2=>vN m G2 ys Q',
   ⟨xs.length,by simp,Nat.zero_le _,σ',Z1,G1,[],[],aN.refl _,S1.mine n,rfl,rs,Nat.le_refl _,q⟩, ?_⟩
 rintro i m' σ2 H2 ⟨rfl,hi,σ3,Z2,G2,acc,vs,s2,S2,ra,rs2,la,q2⟩;by_cases hlt:i < xs.length
 · have hd:xs.drop i=xs[i] :: xs.drop (i + 1):=List.drop_eq_getElem_cons hlt;rw [hd] at q2;unfold fZ at q2;obtain ⟨c2,q2⟩:=q2;obtain ⟨go,yl⟩:=(ok _ i Z2 G2 H2 s2 S2 c2).1 xs[i] (by simp [hlt]);refine .inr ⟨go,fun σ4 H4=>∃ σ5 Z4 G4 acc4 vs4,aN Z1 Z4∧Sim E (upd F D (.lst vs4)) H4 Z4 G4∧RPs E Z4 acc4 vs4∧RSt E Z4 σ5 σ4∧acc4.length≤i + 1∧fZ chk g' ts' te' (xs.drop (i + 1)) acc4 σ5 G4 fun ys G2=>vN m G2 ys Q',
     by rintro σ4 H4 ⟨σ5,Z4,G4,acc4,vs4,s4,S4,ra4,rs4,l4,q4⟩;exact ⟨xs.length - (i + 1),by omega,rfl,hlt,σ5,Z4,G4,acc4,vs4,s4,S4,ra4,rs4,l4,q4⟩,fun v H3 y=>?_⟩
   obtain ⟨Z3,s3,S3,r3⟩:=yl v H3 y;refine ⟨_,xs[i],σ3,Z3,G2,_,r3,rs2.mono s3,S3,q2,fun σ6 σ7 Z5 G5 H5 s5 S5 rs5 q5=>⟨_,σ6,Z5,G5,_,rs5,S5,q5,fun ok' Z6 G6 H6 s6 S6 q6=>?_⟩⟩;have s26:=(s3.trans s5).trans s6;dsimp only;cases ok' with
   | true =>
     rw [if_pos rfl] at q6 ⊢;refine ⟨_,σ6,Z6,G6,_,rs5.mono s6,S6,q6,fun y' u Z7 G7 H7 s7 S7 r7 q7=>?_⟩;refine ⟨vs,(S7.f D _ aI).1, ?_, ?_⟩
     · have:=ra.length; omega
     · have s27:=s26.trans s7;exact ⟨σ6,Z7,G7,acc ++ [y'],vs ++ [u],s2.trans s27,S7.turn (S1.f0n n),(ra.mono s27).append ⟨u,[],rfl,r7,rfl⟩,(rs5.mono s6).mono s7,by rw [List.length_append]; exact Nat.succ_le_succ la,q7⟩
   | false =>
     rw [if_neg Bool.false_ne_true] at q6 ⊢;exact ⟨σ6,Z6,G6,acc,vs,s2.trans s26,S6,ra.mono s26,rs5.mono s6,Nat.le_succ_of_le la,q6⟩
 · have e:i=xs.length:=by omega
   rw [e,List.drop_length] at q2;unfold fZ at q2;obtain ⟨c2,q2⟩:=q2;refine .inl ⟨(ok _ i Z2 G2 H2 s2 S2 c2).2 e, ?_⟩;unfold vN at q2;cases m with
   | true =>
     rw [if_pos rfl] at q2;exact kq (.ref D) _ Z2 _ _ s2 (S2.mineG fD (S1.f0n n) (go:=.lst acc) ⟨vs,rfl,ra⟩) rfl (q2 D (S2.f D _ aI).2.2)
   | false =>
     rw [if_neg Bool.false_ne_true] at q2;have zn:=(S2.f D _ aI).2.1;exact kq (.lst acc) _ (upd Z2 D (.lst vs)) _ _ (s2.trans (aT zn _)) (S2.mineZ fD (S1.f0n n)) (hJ zn ra) q2
theorem EI {F:Hp} {m:Bool} {tg' it' ts' el':CE} {js:List (Option Nat)} {σ:L2.St} {H:Hp} {Q:VK} (h:low E F (wpE T (.cmpr m tg' it' ts' el' js)) σ H Q):VW (aK7 E F (wpI T it')) (aHP E (wpG T tg')) (aDH E (wpT T ts')) (aH5 E (wpE T el')) js σ H Q:=by
 obtain ⟨σ',Z,G,Q',rs,S,h,kq⟩:=h;rw [wpE] at h;refine ⟨σ',Z,G,_,rs,S,h,fun J chk xs Z1 G1 H1 s1 S1 ok q D n=>?_⟩;exact aA6 S1 ok (aHy (rs.mono s1)) q.1 n q.2 (kq.mono s1)
def QZ (X:Cx) (E:Ev) (ifs:List Expr) (t:PTT):Prop:=PTs X ifs (aDH E t)
theorem aM1:QZ X E [] (wpT T .nil):=by
 rintro pins s σ H Q I ⟨F,σ',Z,G,Q',rs,S,h,kt⟩;rw [wpT] at h;exact aD2 pins s σ H Q I (kt _ _ _ _ (aN.refl Z) S h)
theorem aMS {t:PTT} (h:JT X E c t):QZ X E [c] t:=aDb h.any
section
variable {N:List Str} {scope:Scope} {cl:List (Str×Addr)} {js:List (Option Nat)} {tg iter elt:Expr} {ifs:List Expr} {m:Bool} {tg' it' ts' el':CE}
theorem aCF (S:jK X N scope cl js) (P:Pl X E T k) (h40:40≤k) (hi:JI X E tg iter (wpI T it')) (hg:∀ C s₀ H₀ ex,JG (cxC X N scope cl C s₀ H₀ ex) E tg (wpG T tg')) (ht:∀ C s₀ H₀ ex,QZ (cxC X N scope cl C s₀ H₀ ex) E ifs (wpT T ts'))
   (he:∀ C s₀ H₀ ex,JE (cxC X N scope cl C s₀ H₀ ex) E elt (wpE T el')) (hs:∀ x,foldedSetIterable iter X.env x=pure x):JE X E (.ListComp elt [⟨tg,iter,ifs,0⟩] scope pos) (wpE T (.cmpr m tg' it' ts' el' js)):=fun F =>
 (aDr S (P.calm h40) (hi F) (fun C s₀ H₀ ex=>(hg C s₀ H₀ ex).any) ht (fun C s₀ H₀ ex=>(he C s₀ H₀ ex).any) hs).imp fun σ H Q h=>EI h
theorem aCB {i:Nat} {y:Str} {py spos:Pos} (S:jK X N scope cl js) (P:Pl X E T k) (h40:40≤k) (hN:X.N.Nodup) (hi':X.N[i]? =some y) (hy:X.env.scope.names.lookup y=some .local) (hi:JI X E tg iter (wpI T it')) (hg:∀ C s₀ H₀ ex,JG (cxC X N scope cl C s₀ H₀ ex) E tg (wpG T tg'))
   (ht:∀ C s₀ H₀ ex,QZ (cxC X N scope cl C s₀ H₀ ex) E ifs (wpT T ts')) (he:∀ C s₀ H₀ ex,JE (cxC X N scope cl C s₀ H₀ ex) E elt (wpE T el'))
   (hsw:swapsWith (.ListComp elt [⟨tg,iter,ifs,0⟩] scope pos) (some (.Name y py)) spos.line X.env=pure true) (hs:∀ x,foldedSetIterable iter X.env x=pure x) :
   JS X E (.Assign [.Name y py] (.ListComp elt [⟨tg,iter,ifs,0⟩] scope pos) spos) (wpS T (.asg (.gn i) (.cmpr m tg' it' ts' el' js))):=fun F =>
 (aCK S (P.calm h40) hN hi' hy (hi F) (fun C s₀ H₀ ex=>(hg C s₀ H₀ ex).any) ht (fun C s₀ H₀ ex=>(he C s₀ H₀ ex).any) hsw hs).imp <|by
   rintro D σ H ⟨σ',Z,G,D',rs,S,h,kd⟩;rw [wpS] at h;refine EI (m:=m) ⟨σ',Z,G,_,rs,S,h,fun x v Z1 G1 H1 s1 S1 r1 q1=>?_⟩;unfold wpG at q1;exact kd.nx _ _ _ _ _ s1 S1 ((rs.mono s1).set r1 i) q1
end
def RY (T:Tb) (c:String) (x xi:Str):Prop:= ∀ xs G Q,T.S x xs G Q→∀ p,G p=none→T.S xi (.ref p :: xs) (gup G p (.ins c [] [])) fun r G1=>r= .non∧∃ ns ys,G1 p=some (.ins c ns ys)∧Q (.ob c ns ys) (SO G1 p)
theorem UN {F:Hp} {c:String} {x xi:Str} {Z1 H1:Hp} {G1:Gh} {xs:List PV} {vs:List V} {Q':PK1} {Q:VK} {p dx:Addr} {us:List V} (hu:us= .ref p :: vs) (M:RY T c x xi) (S1:Sim E F H1 Z1 G1) (r:RPs E Z1 xs vs) (q:T.S x xs G1 Q') (kq:Kq E F Z1 Q' Q) (n:H1 p=none) (nd:H1 dx=none) (ne:dx≠p) :
   gE E (T.S xi) us (upd (upd H1 dx (.own p)) p (.ins (E.cls c) dx [])) (fun v H2=>v= .non∧Q (.ref p) H2) E0:=by
 subst hu;have S2:Sim E F (upd H1 dx (.own p)) Z1 G1:=S1.other nd;have n2:upd H1 dx (.own p) p=none:=by rw [aD (Ne.symm ne)]; exact n
 have S3:Sim E F (upd (upd H1 dx (.own p)) p (.ins (E.cls c) dx [])) Z1 (gup G1 p (.ins c [] [])):=S2.new n2 ⟨dx,[],rfl,rfl,rfl⟩;refine ⟨.ref p :: xs,Z1,_,F,_,⟨.ref p,vs,rfl,rfl,r⟩,S3,M xs G1 Q' q p (S1.gn n), ?_⟩;rintro z v Z4 G4 H4 s4 S4 r4 ⟨e,ns,ys,hG,q4⟩;subst e;obtain ⟨zn,o',hp,dx',vs',e',l,t⟩:=S4.g _ _ hG;subst e';exact ⟨r4,kq (.ob c ns ys) _ (upd Z4 p _) _ _ (s4.trans (aT zn _)) (S4.frz hG hp) ⟨p,dx',vs',rfl,aI,l,t.mono (aT zn _)⟩ q4⟩
theorem UF {c:String} {y x xi:Str} {p:Pos} {e:Expr} {es:List Expr} {es':CE} {f:Addr} {fd:FuncData} {ps:List Str} (M:Mk X.K (E.cls c) f) (K:Co X E (T.S xi) k f fd ps) (hr:bK (k + 1) X.A) (hg:Gl X x) (hm:X.mg x=some (.ref (E.cls c)))
   (hb:aJ X.K fd ps []) (ms:RY T c y xi) (hd:(x == ("__debug__":Str))=false) (ha:JA X E (e :: es) (wpL T es')) (he:starEach (e :: es) X.env=(false,eval e X.env) :: starEach es X.env) (hpl:(backTo pos (starEach es X.env)).any (·.1)=false) :
   JE X E (.Call (.Name x p) (e :: es) [] pos) (wpE T (.cal y es')):=fun F=>by
 obtain ⟨CX,sp,EX,K,hp,hl⟩:=K;exact (aDM M K hr hg hm hb .nil hp (ha F) hd he hpl).imp <|by
   rintro σ H Q ⟨σ',Z,G,Q',rs,S,h,kq⟩;rw [wpE] at h;exact ⟨σ',Z,G,_,rs,S,h,fun xs vs Z1 G1 H1 l1 s1 S1 r1 q1 p dx n nd ne=>hl _ _ _ (UN (by rw [List.append_nil]) ms S1 r1 q1 (kq.mono s1) n nd ne)⟩
def JK (X:Cx) (E:Ev) (kws:List Keyword) (t:PTA):Prop:= ∀ F,PK X kws (IH E F kws.length t)
theorem PK.imp {kws:List Keyword} {t t':TA} (h:PK X kws t) (g:∀ σ H Q,t' σ H Q→t σ H Q):PK X kws t':=fun pos pins s σ H Q I q=>h pos pins s σ H Q I (g _ _ _ q)
theorem aAH:JK X E [] (wpL T .nil):=fun F=>PK.imp ZO <|by rintro σ H Q ⟨σ',Z,G,Q',rs,S,h,kq⟩;rw [wpL] at h; exact kq [] [] Z G H rfl (aN.refl Z) S rfl h
theorem aC6 {n:Option Str} {v:Expr} {p:Pos} {kws:List Keyword} {a' b':CE} (ha:JE X E v (wpE T a')) (hr:JK X E kws (wpL T b')):JK X E (⟨n,v,p⟩ :: kws) (wpL T (.cons a' b')):=fun F =>
 PK.imp (aC8 (ha F) (hr F)) <|by
   rintro σ H Q ⟨σ',Z,G,Q',rs,S,h,kq⟩;rw [wpL] at h;exact ⟨σ',Z,G,_,rs,S,h,fun x v Z1 G1 H1 s1 S1 r1 q1=>⟨σ',Z1,G1,_,rs.mono s1,S1,q1,fun xs vs Z2 G2 H2 l2 s2 S2 r2 q2=>kq (x :: xs) (v :: vs) _ _ _ (by rw [List.length_cons,l2]; rfl) (s1.trans s2) S2 ⟨v,vs,rfl,r1.mono s2,r2⟩ q2⟩⟩
noncomputable def Ar.valV (vs:List V):Ar→V
 | .arg i=>vs.getD i .non
 | .non=>.non
 | .bl b=>.bl b
 | .int i=>.int i
 | .str x=>.str x
theorem EO {Z:Hp} {xs:List PV} {vs:List V} (r:RPs E Z xs vs):∀ ar:List Ar,RPs E Z (ar.map (Ar.val xs)) (ar.map (Ar.valV vs))
 | []=>rfl
 | a :: l=>by
   refine ⟨_,_,rfl, ?_,EO r l⟩;cases a with
   | arg i =>
     show RP E Z (xs.getD i .non) (vs.getD i .non);rw [List.getD_eq_getElem?_getD,List.getD_eq_getElem?_getD];cases e:xs[i]? with
     | none =>
       have:vs[i]? =none:=List.getElem?_eq_none_iff.mpr (by rw [←r.length]; exact List.getElem?_eq_none_iff.mp e);rw [this]; exact rG
     | some x =>
       obtain ⟨v,e',rr⟩:=r.get e;rw [e']; exact rr
   | non=>exact rG
   | bl b=>exact cH
   | int i=>exact bD
   | str x=>exact uP
structure mE (K:W.Frag) (fd:FuncData) (ps:List Str) (n:Nat) (ks:List Str) (ar:List Ar):Prop where
 len:ar.length=ps.length
 to:∀ (s:Shared) (us ws:List Value),K.In s.heap→us.length=n→ws.length=ks.length→∃ bs,BindsTo s fd ⟨us,ks.zip ws⟩ (ps.zip bs)∧∀ vs zs,aM vs us→aM zs ws→aM (ar.map (Ar.valV (vs ++ zs))) bs
theorem JZ {pins:List (Addr×Obj)} {σ:L2.St} {H:Hp} {s:Shared} {Q:VK} {us ws:List Value} {vs zs:List V} {f:Addr} {fd:FuncData} {ps ks:List Str} {n:Nat} {ar:List Ar} {sp:Sp} {A':Around} {CX:CXT} {EX:XK}
   (K:bC X.prog X.w X.K X.mg X.base CX k f fd ps sp) (hx:jY CX X EX) (hr:bK k A') (e0:sW X.prog X.w X.K X.mg X.base A' X.stack s H) (hb:mE X.K fd ps n ks ar) (I:Inv X pins σ H s) (r:aM vs us) (rz:aM zs ws) (l1:vs.length=n) (l2:zs.length=ks.length) (h:sp (ar.map (Ar.valV (vs ++ zs))) H Q EX) :
   wpAny (model X.prog X.w) A' (call (.ref f) us (ks.zip ws)) (EP X pins σ Q) X.xe s:=by
 obtain ⟨bs,hbs,hv⟩:=hb.to s us ws I.kIn (by rw [←r.length]; exact l1) (by rw [←rz.length]; exact l2);refine wpAny_call (codeAny_mono (K.run A' X.stack s H ⟨us,ks.zip ws⟩ bs _ Q EX hr e0 hbs (hv vs zs r rz) h) fun r s' hq=>?_);cases r with
 | error e=>exact hx pins σ H s e s' I hq
 | ok fl =>
   cases fl with
   | ret u=>exact I.after hq
   | next=>exact False.elim hq
   | brk=>exact False.elim hq
   | cont=>exact False.elim hq
theorem US {y f:Str} {p:Pos} {e:Expr} {es:List Expr} {kws:List Keyword} {es' ks':CE} {ad:Addr} {fd:FuncData} {ps ks:List Str} {n:Nat} {ar:List Ar} (K:Co X E (T.S y) k ad fd ps) (hr:bK k X.A) (hg:Gl X f) (hm:X.mg f=some (.ref ad))
   (hk:W.keepIn X.K (.ref ad)=true) (hb:mE X.K fd ps n ks ar) (hd:(f == ("__debug__":Str))=false) (ha:JA X E (e :: es) (wpL T es')) (hkw:JK X E kws (wpL T ks')) (hn:(e :: es).length=n) (hkn:kws.length=ks.length)
   (hall:(backToKw pos (keywordEach kws X.env)).all (·.1.isSome)=true) (hks:(backToKw pos (keywordEach kws X.env)).filterMap (·.1)=ks) (he:starEach (e :: es) X.env=(false,eval e X.env) :: starEach es X.env)
   (hpl:((backTo pos (starEach (e :: es) X.env)).any (·.1) || (backToKw pos (keywordEach kws X.env)).any (·.1.isNone))=false) :
   JE X E (.Call (.Name f p) (e :: es) kws pos) (wpE T (.cak y es' ks' ar)):=fun F=>by
 obtain ⟨CX,sp,EX,K,hp,hl⟩:=K;have main:PE X (.Call (.Name f p) (e :: es) kws pos) (fun σ H Q=>IH E F (e :: es).length (wpL T es') σ H fun vs H1=>vs.length=n∧IH E F kws.length (wpL T ks') σ H1 fun zs H2=>zs.length=ks.length∧sp (ar.map (Ar.valV (vs ++ zs))) H2 Q EX):=by
   intro pins s σ H Q I h;refine wpAny_Call_Name_kw (eE I hg hm ?_ hd);refine W.callWith_KW (h₀:=X.base) I.ok.mod.kin hk hall (thn (ha F pos pins s σ H _ I h) fun us s1 zz=>?_) hpl he;obtain ⟨vs,H1,I1,r,l1,q⟩:=zz;refine thn (hkw F pos pins s1 σ H1 _ I1 q) fun ws s2 ⟨zs,H2,I2,rz,l2,q2⟩=>⟨I2.kIn, ?_⟩;rw [hks];exact JZ K hp hr I2.env0 hb I2 r rz l1 l2 q2
 refine main.imp fun σ H Q zz=>?_;obtain ⟨σ',Z,G,Q',rs,S,h,kq⟩:=zz;rw [wpE] at h;exact ⟨σ',Z,G,_,rs,S,h,fun xs vs Z1 G1 H1 l1 s1 S1 r1 q1=>⟨by rw [←r1.length,l1]; exact hn,σ',Z1,G1,_,rs.mono s1,S1,q1,fun zs us Z2 G2 H2 l2 s2 S2 r2 q2 =>
   ⟨by rw [←r2.length,l2]; exact hkn,hl _ _ _ ⟨_,Z2,G2,F,Q',EO ((r1.mono s2).append r2) ar,S2,q2,kq.mono (s1.trans s2)⟩⟩⟩⟩
theorem NZ {y f:Str} {p:Pos} {kws:List Keyword} {ks':CE} {ad:Addr} {fd:FuncData} {ps ks:List Str} {ar:List Ar} (K:Co X E (T.S y) k ad fd ps) (hr:bK k X.A) (hg:Gl X f) (hm:X.mg f=some (.ref ad))
   (hk:W.keepIn X.K (.ref ad)=true) (hb:mE X.K fd ps 0 ks ar) (hd:(f == ("__debug__":Str))=false) (hkw:JK X E kws (wpL T ks')) (hkn:kws.length=ks.length)
   (hall:(backToKw pos (keywordEach kws X.env)).all (·.1.isSome)=true) (hks:(backToKw pos (keywordEach kws X.env)).filterMap (·.1)=ks)
   (hpl:((backTo pos (starEach [] X.env)).any (·.1) || (backToKw pos (keywordEach kws X.env)).any (·.1.isNone))=false) :
   JE X E (.Call (.Name f p) [] kws pos) (wpE T (.cak y .nil ks' ar)):=fun F=>by
 obtain ⟨CX,sp,EX,K,hp,hl⟩:=K;have main:PE X (.Call (.Name f p) [] kws pos) (fun σ H Q=>IH E F kws.length (wpL T ks') σ H fun zs H2=>zs.length=ks.length∧sp (ar.map (Ar.valV ([] ++ zs))) H2 Q EX):=by
   intro pins s σ H Q I h;refine wpAny_Call_Name_kw (eE I hg hm ?_ hd);refine W.callWith_KW0 (h₀:=X.base) (first:=[]) I.ok.mod.kin hk hall ?_ hpl;refine thn (hkw F pos pins s σ H _ I h) fun ws s2 ⟨zs,H2,I2,rz,l2,q2⟩=>⟨I2.kIn, ?_⟩;rw [hks];exact JZ (us:=[]) (vs:=[]) K hp hr I2.env0 hb I2 .nil rz rfl l2 q2
 refine main.imp fun σ H Q zz=>?_;obtain ⟨σ',Z,G,Q',rs,S,h,kq⟩:=zz;rw [wpE,wpL] at h;exact ⟨σ',Z,G,_,rs,S,h,fun zs us Z2 G2 H2 l2 s2 S2 r2 q2=>⟨by rw [←r2.length,l2]; exact hkn,hl _ _ _ ⟨_,Z2,G2,F,Q',EO r2 ar,S2,q2,kq.mono s2⟩⟩⟩
theorem NF {c:String} {w x xi:Str} {p:Pos} {kws:List Keyword} {ks':CE} {f:Addr} {fd:FuncData} {ps ks:List Str} {ar:List Ar} (M:Mk X.K (E.cls c) f) (K:Co X E (T.S xi) k f fd ps) (hr:bK (k + 1) X.A) (hg:Gl X x) (hm:X.mg x=some (.ref (E.cls c)))
   (hb:mE X.K fd ps 1 ks (.arg 0 :: ar.map fun a=>match a with | .arg i=>.arg (i + 1) | a=>a)) (ms:RY T c w xi) (hd:(x == ("__debug__":Str))=false) (hkw:JK X E kws (wpL T ks')) (hkn:kws.length=ks.length)
   (hall:(backToKw pos (keywordEach kws X.env)).all (·.1.isSome)=true) (hks:(backToKw pos (keywordEach kws X.env)).filterMap (·.1)=ks)
   (hpl:((backTo pos (starEach [] X.env)).any (·.1) || (backToKw pos (keywordEach kws X.env)).any (·.1.isNone))=false) :
   JE X E (.Call (.Name x p) [] kws pos) (wpE T (.cak w .nil ks' ar)):=fun F=>by
 obtain ⟨CX,sp,EX,K,hp,hl⟩:=K;have main:PE X (.Call (.Name x p) [] kws pos) (fun σ H Q=>IH E F kws.length (wpL T ks') σ H fun zs H2=>zs.length=ks.length∧∀ y dx,H2 y=none→H2 dx=none→dx≠y→
     sp (.ref y :: ar.map (Ar.valV zs)) (upd (upd H2 dx (.own y)) y (.ins (E.cls c) dx [])) (fun v H3=>v= .non∧Q (.ref y) H3) EX):=by
   intro pins s σ H Q I h;refine wpAny_Call_Name_kw (eE I hg hm ?_ hd);refine W.callWith_KW0 (h₀:=X.base) (first:=[]) I.ok.mod.kin M.kp hall ?_ hpl;refine thn (hkw F pos pins s σ H _ I h) fun ws s2 ⟨zs,H2,I2,rz,l2,q2⟩=>⟨I2.kIn, ?_⟩;rw [hks];have hq:=q2 (s2.heap.objs.size + 1) s2.heap.objs.size (I2.hok.fresh (Nat.le_succ _)) (I2.hok.fresh (Nat.le_refl _)) (Nat.ne_of_lt (Nat.lt_succ_self _));have I3:=Inv.made (C:=E.cls c) I2;have e:V.ref (s2.heap.objs.size + 1) :: ar.map (Ar.valV zs)=(Ar.arg 0 :: ar.map fun a=>match a with | .arg i=>.arg (i + 1) | a=>a).map (Ar.valV ([V.ref (s2.heap.objs.size + 1)] ++ zs)):=by
     rw [List.map_cons,List.map_map];refine congr (congrArg List.cons rfl) (List.map_congr_left fun a _=>?_);cases a <;> rfl
   rw [e] at hq;obtain ⟨bs,hbs,hv⟩:=hb.to { s2 with heap:=(s2.heap.push _).push _ } [Value.ref (s2.heap.objs.size + 1)] ws I3.kIn rfl (by rw [←rz.length]; exact l2);refine wpAny_call (EQ (f:=f) (vs:=[]) (kw:=ks.zip ws) I2.kIn M.makes M.init (beq_iff_eq.mp M.fn) (codeAny_mono (K.run _ X.stack _ _ ⟨[Value.ref (s2.heap.objs.size + 1)],ks.zip ws⟩ bs _ _ EX (hr.make (E.cls c) [] (ks.zip ws))
     (I3.env0.make (E.cls c) [] (ks.zip ws)) hbs (hv [V.ref (s2.heap.objs.size + 1)] zs (.cons rfl .nil) rz) hq) fun r s' hq'=>?_))
   cases r with
   | error e=>exact hp pins σ _ _ e s' I3 hq'
   | ok fl =>
     cases fl with
     | ret u =>
       obtain ⟨v,H',I4,rv,ev,q3⟩:=I3.after hq';subst ev;exact ⟨rv,⟨V.ref (s2.heap.objs.size + 1),H',I4,rfl,q3⟩⟩
     | next=>exact False.elim hq'
     | brk=>exact False.elim hq'
     | cont=>exact False.elim hq'
 refine main.imp fun σ H Q zz=>?_;obtain ⟨σ',Z,G,Q',rs,S,h,kq⟩:=zz;rw [wpE,wpL] at h;exact ⟨σ',Z,G,_,rs,S,h,fun zs us Z2 G2 H2 l2 s2 S2 r2 q2=>⟨by rw [←r2.length,l2]; exact hkn,fun y dx n nd ne=>hl _ _ _ (UN rfl ms S2 (EO r2 ar) q2 (kq.mono s2) n nd ne)⟩⟩
structure aNU (X:Cx) (E:Ev) (T:Tb) (k:Nat) (y:Str×Nat×List Ar):Prop where
 ex:∃ fd ps,bC X.prog X.w X.K X.mg X.base CX0 k (E.fna y.1) fd ps (gE E (T.S y.1))∧W.keepIn X.K (.ref (E.fna y.1))=true∧mE X.K fd ps y.2.1 [] y.2.2
theorem aIK {i:Nat} {x:Str} {p:Pos} {fs:List (Str×Nat×List Ar)} {e:Expr} {es:List Expr} {es':CE} (hN:X.N[i]? =some x) (hv:Vis X.env.scope x) (hd:(x == ("__debug__":Str))=false) (hcd:(x == ("__classdict__":Str))=false) (hr:bK k X.A)
   (hF:∀ y∈fs,aNU X E T k y∧y.2.1=(e :: es).length) (ha:JA X E (e :: es) (wpL T es')) (he:starEach (e :: es) X.env=(false,eval e X.env) :: starEach es X.env)
   (hpl:((backTo pos (starEach (e :: es) X.env)).any (·.1) || (backToKw pos (keywordEach [] X.env)).any (·.1.isNone))=false) :
   JE X E (.Call (.Name x p) (e :: es) [] pos) (wpE T (.cav fs i es')):=fun F=>by
 rintro pins s σ H Q I ⟨σ',Z,G,Q',rs,S,h,kq⟩;rw [wpE] at h;obtain ⟨f,n,ar,ev,hm,h⟩:=h;obtain ⟨v,ev',r⟩:=rs.get ev;obtain ⟨⟨fd,ps,K,hk,hb⟩,hn⟩:=hF _ hm;have er:v= .ref (E.fna f):=r;subst er;refine wpAny_Call_Name_kw (thn (rH hN hv hd hcd pins s σ H (fun v' H'=>v'= .ref (E.fna f)∧H'=H) I ⟨_,ev',rfl,rfl⟩) fun u s1 zz=>?_);obtain ⟨v',H1,I1,r1,e1,e2⟩:=zz;subst e1 e2;cases r1;refine W.callWith_KW (h₀:=X.base) I1.ok.mod.kin hk rfl (thn (ha F pos pins s1 σ H1 (fun vs H2=>vs.length=n∧gE E (T.S f) (ar.map (Ar.valV (vs ++ []))) H2 Q E0) I1 ⟨σ',Z,G,_,rs,S,h,fun xs vs Z1 G1 H2 l1 s2 S1 r2 q1=>⟨by rw [←r2.length,l1]; exact hn.symm,_,Z1,G1,F,Q', ?_,S1,q1,kq.mono s2⟩⟩) fun us s2 ⟨vs,H2,I2,r,l1,q⟩=>?_) hpl he
 · rw [List.append_nil]; exact EO r2 ar
 · refine thn (ZO (X:=X) pos pins s2 σ H2 (fun zs H3=>zs=[]∧gE E (T.S f) (ar.map (Ar.valV (vs ++ zs))) H3 Q E0) I2 ⟨rfl,q⟩) fun ws s3 ⟨zs,H3,I3,rz,ez,q2⟩=>⟨I3.kIn, ?_⟩;subst ez;exact JZ K VZ hr I3.env0 hb I3 r rz l1 rfl q2
noncomputable def upA:Ar→Ar
 | .arg i=>.arg (i + 1)
 | a=>a
end
noncomputable def clos (cells:List (Str×Addr)):List (Str×NameKind)→List (Str×Addr)→List (Str×Addr)
 | [],acc=>acc
 | (n,k) :: r,acc=>clos cells r (if k= .free then (n,(cells.lookup n).getD 0) :: acc else acc)
theorem aBN {scope:Scope} {env:Env} (h:∀ y∈scope.names,y.2= .free→∃ c,env.cells.lookup y.1=some c):closureFor scope env=pure (clos env.cells scope.names []):=by
 unfold closureFor;have main:∀ (l:List (Str×NameKind)) (acc:List (Str×Addr)),(∀ y∈l,y.2= .free→∃ c,env.cells.lookup y.1=some c)→
     (forIn l acc (fun x r=>if (x.2 == NameKind.free)=true then do let c ←cellOf env x.1; pure (ForInStep.yield ((x.1,c) :: r)) else pure (ForInStep.yield r)):Sem (List (Str×Addr)))=pure (clos env.cells l acc):=by
   intro l;induction l with
   | nil=>intro acc _; rfl
   | cons y r ih =>
     intro acc hy;obtain ⟨n,k⟩:=y;rw [List.forIn_cons];have ihr:=fun acc=>ih acc fun z hz=>hy z (wCq _ hz);by_cases hk:k= .free
     · subst hk;obtain ⟨c,hc⟩:=hy (n,.free) (wDq ..) rfl;have e:cellOf env n=pure c:=by unfold cellOf; rw [hc]
       simp only [beq_self_eq_true,if_true,e];unfold clos;rw [if_pos rfl,hc];exact ihr _
     · have e:((n,k).2 == NameKind.free)=false:=beq_eq_false_iff_ne.mpr hk;simp only [e];unfold clos;rw [if_neg hk];exact ihr _
 have:=main scope.names [] h;have e:(forIn scope.names ([]:List (Str×Addr)) (fun x r=>match x with
     | (name,kind)=>if (kind == NameKind.free)=true then do let c ←cellOf env name; pure (ForInStep.yield ((name,c) :: r)) else pure (ForInStep.yield r)):Sem (List (Str×Addr)))=pure (clos env.cells scope.names []):=by
   rw [←this]
 show ((forIn scope.names ([]:List (Str×Addr)) (fun x r=>match x with
     | (name,kind)=>if (kind == NameKind.free)=true then do let c ←cellOf env name; pure (ForInStep.yield ((name,c) :: r)) else pure (ForInStep.yield r)):Sem (List (Str×Addr))) >>= pure)=_
 rw [e];rfl
theorem NK {cells:List (Str×Addr)}:∀ {l:List (Str×NameKind)} {acc:List (Str×Addr)},(∀ y∈l,y.2= .free→∃ c,cells.lookup y.1=some c)→wY cells acc→wY cells (clos cells l acc)
 | [],_,_,h=>h
 | (n,k) :: r,acc,hy,h=>by
   unfold clos;refine NK (fun z hz=>hy z (wCq _ hz)) ?_;split
   · rename_i hk;obtain ⟨c,hc⟩:=hy (n,k) (wDq ..) hk;exact ⟨by rw [hc]; rfl,h⟩
   · exact h
theorem wO {cells:List (Str×Addr)}:∀ {l:List (Str×NameKind)} {acc:List (Str×Addr)} {n:Str},((∃ c,(n,c)∈acc)∨(n,NameKind.free)∈l)→∃ c,(n,c)∈clos cells l acc
 | [],_,_,h=>by
   rcases h with h | h
   · exact h
   · cases h
 | (m, k) :: r,acc,n,h=>by
   unfold clos;refine wO ?_;rcases h with ⟨c,h⟩ | h
   · refine .inl ?_;split
     · exact ⟨c,wCq _ h⟩
     · exact ⟨c,h⟩
   · rcases List.mem_cons.mp h with e | h
     · cases e;exact .inl ⟨_,by rw [if_pos rfl]; exact wDq ..⟩
     · exact .inr h
theorem AC {cells:List (Str×Addr)}:∀ {cl:List (Str×Addr)} {n:Str},wY cells cl→(∃ c,(n,c)∈cl)→∃ c,cl.lookup n=some c∧cells.lookup n=some c
 | [],_,_,⟨_,h⟩=>by cases h
 | (m,d) :: r,n,ok,⟨c,h⟩=>by
   rw [List.lookup_cons];cases hb:n == m with
   | true =>
     rw [beq_iff_eq.mp hb];exact ⟨d,rfl,ok.1⟩
   | false =>
     rcases List.mem_cons.mp h with e | h
     · cases e; rw [beq_self_eq_true] at hb; cases hb
     · exact AC ok.2 ⟨c,h⟩
theorem NE {cl cells:List (Str×Addr)} (hcl:wY cells cl):∀ {l:List (Str×NameKind)},(∀ n,(n,NameKind.free)∈l→∃ c,(n,c)∈cl)→nL cl cells l
 | [],_=>trivial
 | (n,k) :: r,h=>⟨fun e=>by subst e; exact AC hcl (h n (wDq ..)),NE hcl fun m hm=>h m (wCq _ hm)⟩
structure Cfg where
 N:List Str
 names:List (Str×NameKind)
 blk:Bool:=false
 fns:List Str:=[]
 mks:List Str:=[]
 shs:List (Str×Nat×List Str×List Ar):=[]
 mkk:List (Str×List Str×List Ar):=[]
 gls:List Str:=[]
 tys:List Str:=[]
 blt:List Str:=[]
 M:List Str:=[]
 rm:Bool:=false
 eqs:List (String×Str):=[]
 own:List Str:=[]
 ls:List Str:=[]
 nes:List (String×Str):=[]
 lns:List (String×Str):=[]
 ows:List (Str×List (String×Str)):=[]
 gds:List (Str×List (Str×Str)):=[]
 fvs:List (Str×Nat×List Ar):=[]
 mkp:List (Str×Nat×List Str×List Ar):=[]
 rp:Bool:=false
 exs:List (String×Str):=[]
 ky:List (Str×Str):=[]
 rz:Bool:=false
 xcl:List (Str×Str):=[]
 xis:List Str:=[]
 xat:List Str:=[]
 tr:Bool:=false
 tky:List (Str×Str):=[]
 cat:List String:=[]
 cln:List Str:=[]
 cm:Bool:=true
 hs:Bool:=false
 hfn:List Str:=[]
 mts:List (Str×Nat×List (String×Str×List Ar)):=[]
 tmts:List (Str×Nat×List (String×Str×List Ar)):=[]
 bmts:List (Str×Nat×List (String×Str×List Ar)):=[]
noncomputable def Cfg.key (C:Cfg) (x:Str):Str:=(C.ky.lookup x).getD x
noncomputable def Cfg.inT (C:Cfg):Cfg:={ C with ky:=C.tky,rz:=true,tr:=false,mts:=C.tmts }
noncomputable def Cfg.inH (C:Cfg):Cfg:={ C with fns:=C.hfn,mks:=[],shs:=[],mkk:=[],mkp:=[],eqs:=[],nes:=[],lns:=[],ows:=[],fvs:=[],exs:=[],ky:=[],rz:=false,xcl:=[],tr:=false,cm:=false,mts:=[],bmts:=[] }
noncomputable def slot:List Str→Str→Option Nat
 | [],_=>none
 | y :: r,x=>if y=x then some 0 else (slot r x).map (· + 1)
theorem dH:∀ {N:List Str} {x:Str} {i:Nat},slot N x=some i→N[i]? =some x
 | [],_,_,h=>by cases h
 | y :: r,x,i,h=>by
   unfold slot at h;split at h
   · rename_i e; cases h; rw [e]; rfl
   · cases e:slot r x with
     | none=>rw [e] at h; cases h
     | some j =>
       rw [e] at h;cases h;rw [List.getElem?_cons_succ];exact dH e
noncomputable def aBj (C:Cfg) (x:Str):Bool:=match C.names.lookup x with
 | some .local=>true
 | some .cell=>true
 | some .free=>true
 | _=>false
noncomputable def aAn (C:Cfg) (x:Str):Bool:=match C.names.lookup x with
 | some .local=>true
 | some .cell=> !C.blk || C.own.contains x
 | _=>false
noncomputable def glB (C:Cfg) (x:Str):Bool:=C.names.lookup x == some .globalImplicit
noncomputable def iB (x:Str):Bool:= !(x == ("__debug__":Str)) && !(x == ("__classdict__":Str))
noncomputable def bV:Expr→Bool
 | .Starred .. =>true
 | _=>false
noncomputable def uY:Expr→Bool
 | .Call (.Name _ _) [] [] _=>true
 | _=>false
noncomputable def rL:Expr→Bool
 | .Set .. =>true
 | _=>false
noncomputable def aCH:Expr→Bool
 | .Slice .. =>true
 | _=>false
noncomputable def uJ:Expr→Bool
 | .ListComp .. | .SetComp .. | .DictComp .. =>true
 | _=>false
noncomputable def aDs:List (Str×Bn):=[("len",.len),("abs",.abs),("max",.max),("min",.min),("int",.int),("str",.str),("isinstance",.isi),("tuple",.tuple),("list",.list),("all",.all),("any",.any),("sum",.sum),("bool",.bool),("repr",.repr),("divmod",.divmod)]
noncomputable def kwN:List Keyword→Option (List Str)
 | []=>some []
 | ⟨some n,_,_⟩ :: r=>(kwN r).map (n :: ·)
 | ⟨none,_,_⟩ :: _=>none
noncomputable def iI (C:Cfg) (sc:Scope):List (Str×NameKind):=sc.names.map fun (n,k)=>if (k == .free && C.names.lookup n == some .cell) then (n,.cell) else (n,k)
noncomputable def mF (C:Cfg):List (Str×NameKind)→List (Str×Option Nat)
 | []=>[]
 | (n,k) :: r=>match k with
   | .local=>(n,none) :: mF C r
   | .cell=>(n,none) :: mF C r
   | .free=>match slot C.N n with
     | some j=>if C.names.lookup n=some .cell then (n,some j) :: mF C r else mF C r
     | none=>mF C r
   | _=>mF C r
noncomputable def zR (C:Cfg) (sc:Scope):Bool:=C.cm && sc.kind == .function && sc.names.all (fun y=>(y.2 != .cell || !sc.names.contains (y.1,.free)) && (y.2 != .local || sc.names.lookup y.1 == some .local) && (y.2 != .free || C.names.lookup y.1 == some .cell)) && decide (((mF C sc.names).map (·.1)).Nodup)
 && (mF C sc.names).all (fun p=>p.2.isNone || ((iI C sc).lookup p.1 == some .cell))
noncomputable def KK (C:Cfg) (sc:Scope):Cfg:={ C with N:=(mF C sc.names).map (·.1),names:=iI C sc,blk:=true,own:=(sc.names.filter (fun y=>y.2 == .cell)).map (·.1),ky:=[],rz:=false,xcl:=[],tr:=false,mts:=C.bmts }
mutual
noncomputable def xE:Nat→Cfg→Bool→Expr→Option CE
 | 0,_,_,_=>none
 | n + 1,C,m,e=>match e with
   | .Compare a [.NotEq] [b] _=>if rL b || C.nes.isEmpty then none else (cE n C false a).bind fun a'=>(cE n C false b).bind fun b'=>some (.cne C.nes a' b')
   | .Dict [] [] _=>some .emp
   | .Dict (k :: ks) vs _=>if (k :: ks).all (·.isSome) && (k :: ks).length == vs.length && decide ((k :: ks).length≤15) then (cD n C (k :: ks) vs).bind fun es'=>some (.dct es') else none
   | _=>none
noncomputable def vE:Nat→Cfg→Expr→Option CE
 | 0,_,_=>none
 | n + 1,C,e=>match e with
   | .Call (.Name x _) [a,.Name y _] [] _=>if x == ("isinstance":Str) && C.xis.contains y && glB C x && C.blt.contains x && glB C y && iB y && !bV a then (cE n C false a).bind fun a'=>some (.isx a' y) else none
   | .Attribute a f _=>if C.xat.contains f && !uY a then (cE n C false a).bind fun a'=>some (.atx a' f) else none
   | _=>none
noncomputable def zE:Nat→Cfg→Expr→Option CE
 | 0,_,_=>none
 | n + 1,C,e=>match e with
   | .Call (.Name x _) (e :: r) [] _=>if C.rp && x == ("repr":Str) && glB C x && C.blt.contains x && r.isEmpty && !bV e then (cE n C false e).bind fun e'=>some (.rpr e') else if !C.fvs.isEmpty && iB x && aBj C x then (slot C.N x).bind fun i=>(cL n C (e :: r)).bind fun es'=>some (.cav (C.fvs.filter fun s=>s.2.1 == (e :: r).length) i es') else none
   | _=>none
noncomputable def cE:Nat→Cfg→Bool→Expr→Option CE
 | 0,_,_,_=>none
 | n + 1,C,m,e=>match vE n C e with
 | some c=>some c
 | none=>match zE n C e with
 | some c=>some c
 | none=>match xE n C m e with
 | some c=>some c
 | none => match e with
   | .Name x _=>if iB x then (match slot C.N x with
     | some i=>if aBj C x then some (.var i) else none
     | none=>if glB C x && (C.gls.contains x || C.tys.contains x) then some (.glo x) else none) else none
   | .Constant v _ _=>(match v with
     | .int i=>some (.int i)
     | .bool b=>some (.bl b)
     | .none=>some .non
     | .str s=>some (.str s)
     | _=>none)
   | .BinOp a op b _=>(cE n C false a).bind fun a'=>(cE n C false b).bind fun b'=>some (.bin op a' b')
   | .UnaryOp op a _=>(match op with
     | .USub=>(cE n C false a).bind fun a'=>some (.neg a')
     | .Not=>(cE n C false a).bind fun a'=>some (.no a')
     | _=>none)
   | .BoolOp op vs _=>cB n C op vs
   | .Compare a ops bs _=>(match ops,bs with
     | [op],[b]=>if rL b then none else (cE n C false a).bind fun a'=>(cE n C false b).bind fun b'=>some (.cmp op a' b')
     | [op,op'],[b,c]=>if rL c then none else (cE n C false a).bind fun a'=>(cE n C false b).bind fun b'=>(cE n C false c).bind fun c'=>some (.chn op op' a' b' c')
     | _,_=>none)
   | .Tuple es _ _=>(cL n C es).bind fun es'=>some (.tup es')
   | .List es _=>(cL n C es).bind fun es'=>some (.lst m es')
   | .Subscript a s _=>(match s with
     | .Slice lo hi none _=>(cE n C false a).bind fun a'=>(cO n C lo).bind fun l'=>(cO n C hi).bind fun h'=>some (.sli a' l' h')
     | s=>if aCH s then none else (cE n C false a).bind fun a'=>(cE n C false s).bind fun i'=>some (.idx a' i'))
   | .Attribute a f _=>if uY a then none else (cE n C false a).bind fun a'=>some (.att a' f)
   | .Call f es kws pos=>(match f,es,kws with
     | .Name x _,e :: r,[]=>if glB C x then (match aDs.lookup x with
         | some b=>if C.blt.contains x && (C.cm || !aCm b) then (cL n C (e :: r)).bind fun es'=>some (.blt b es') else none
         | none=>(match C.shs.find? (fun s=>s.1 == x && s.2.1 == (e :: r).length && s.2.2.1 == []) with
           | some s=>(cL n C (e :: r)).bind fun es'=>some (.cak (C.key x) es' .nil s.2.2.2)
           | none=>if C.fns.contains x || C.mks.contains x then (cL n C (e :: r)).bind fun es'=>some (.cal (C.key x) es') else none)) else none
     | .Name x _,e :: r,kw :: kws=>if glB C x then (kwN (kw :: kws)).bind fun ks=>(match C.shs.find? (fun s=>s.1 == x && s.2.1 == (e :: r).length && s.2.2.1 == ks) with
         | some s=>(cL n C (e :: r)).bind fun es'=>(cK n C (kw :: kws)).bind fun ks'=>some (.cak (C.key x) es' ks' s.2.2.2)
         | none=>none) else none
     | .Name x _,[],kw :: kws=>if glB C x then (kwN (kw :: kws)).bind fun ks=>(match C.shs.find? (fun s=>s.1 == x && s.2.1 == 0 && s.2.2.1 == ks) with
         | some s=>(cK n C (kw :: kws)).bind fun ks'=>some (.cak (C.key x) .nil ks' s.2.2.2)
         | none=>(match C.mkk.find? (fun s=>s.1 == x && s.2.1 == ks) with
           | some s=>(cK n C (kw :: kws)).bind fun ks'=>some (.cak (C.key x) .nil ks' s.2.2)
           | none=>none)) else none
     | .Attribute o mth ap,[e],[]=>if mth="index" && !uY o && !bV e && ap.endLine == pos.line then (cE n C false o).bind fun o'=>(cE n C false e).bind fun e'=>some (.ixo o' e') else if mth="count" && !uY o && !bV e && ap.endLine == pos.line then (cE n C false o).bind fun o'=>(cE n C false e).bind fun e'=>some (.cnt o' e') else none
     | _,_,_=>none)
   | .ListComp elt gens sc _=>(match gens with
     | [⟨tg,iter,ifs,0⟩]=>if zR C sc && !rL iter then (cI n C tg iter).bind fun it'=>(cG n (KK C sc) tg).bind fun tg'=>(cTs n (KK C sc) ifs).bind fun ts'=>(cE n (KK C sc) false elt).bind fun el'=>some (.cmpr m tg' it' ts' el' ((mF C sc.names).map (·.2))) else none
     | _=>none)
   | _=>none
noncomputable def cL:Nat→Cfg→List Expr→Option CE
 | 0,_,_=>none
 | n + 1,C,es=>match es with
   | []=>some .nil
   | e :: r=>if bV e then none else (cE n C false e).bind fun e'=>(cL n C r).bind fun r'=>some (.cons e' r')
noncomputable def cD:Nat→Cfg→List (Option Expr)→List Expr→Option CE
 | 0,_,_,_=>none
 | n + 1,C,ks,vs=>match ks,vs with
   | [],[]=>some .nil
   | some k :: ks,v :: vs=>(cE n C false k).bind fun k'=>(cE n C false v).bind fun v'=>(cD n C ks vs).bind fun r'=>some (.cons k' (.cons v' r'))
   | _,_=>none
noncomputable def cK:Nat→Cfg→List Keyword→Option CE
 | 0,_,_=>none
 | n + 1,C,ks=>match ks with
   | []=>some .nil
   | ⟨_,v,_⟩ :: r=>(cE n C false v).bind fun e'=>(cK n C r).bind fun r'=>some (.cons e' r')
noncomputable def cB:Nat→Cfg→BoolOp→List Expr→Option CE
 | 0,_,_,_=>none
 | n + 1,C,op,vs=>match vs with
   | []=>none
   | [a]=>cE n C false a
   | a :: b :: r=>(cE n C false a).bind fun a'=>(cB n C op (b :: r)).bind fun b'=>some (match op with | .And=>.an a' b' | .Or=>.oo a' b')
noncomputable def xT:Nat→Cfg→Expr→Option CE
 | 0,_,_=>none
 | n + 1,C,e=>match e with
   | .Compare a [.NotEq] [b] _=>if rL b || C.nes.isEmpty then none else (cE n C false a).bind fun a'=>(cE n C false b).bind fun b'=>some (.tsb (.cne C.nes a' b'))
   | _=>none
noncomputable def cT:Nat→Cfg→Expr→Option CE
 | 0,_,_=>none
 | n + 1,C,e=>match xT n C e with
 | some c=>some c
 | none=>match e with
   | .BoolOp op vs _=>cW n C op vs
   | .UnaryOp .Not a _=>(cT n C a).bind fun a'=>some (.no a')
   | .Compare a ops bs _=>(match ops,bs with
     | [op],[b]=>if rL b then none else (cE n C false a).bind fun a'=>(cE n C false b).bind fun b'=>some (.tsb (.cmp op a' b'))
     | [op,op'],[b,c]=>if rL c then none else (cE n C false a).bind fun a'=>(cE n C false b).bind fun b'=>(cE n C false c).bind fun c'=>some (.tsb (.chn op op' a' b' c'))
     | _,_=>none)
   | .Name .. | .Call .. | .Subscript .. | .Attribute .. =>(cE n C false e).bind fun e'=>some (.tst e')
   | _=>none
noncomputable def cW:Nat→Cfg→BoolOp→List Expr→Option CE
 | 0,_,_,_=>none
 | n + 1,C,op,vs=>match vs with
   | []=>none
   | [a]=>cT n C a
   | a :: b :: r=>(cT n C a).bind fun a'=>(cW n C op (b :: r)).bind fun b'=>some (match op with | .And=>.an a' b' | .Or=>.oo a' b')
noncomputable def cO:Nat→Cfg→Option Expr→Option CE
 | 0,_,_=>none
 | n + 1,C,o=>match o with
   | none=>some .nil
   | some e=>(cE n C false e).bind fun e'=>some (.tst e')
noncomputable def cTs:Nat→Cfg→List Expr→Option CE
 | 0,_,_=>none
 | n + 1,C,l=>match l with
   | []=>some .nil
   | [c]=>cT n C c
   | _=>none
noncomputable def cG:Nat→Cfg→Expr→Option CE
 | 0,_,_=>none
 | n + 1,C,e=>match e with
   | .Name x _=>if aAn C x then (slot C.N x).bind fun i=>some (.gn i) else none
   | .Tuple es _ _=>if C.cm then (cGs n C es).bind fun g=>some (.gt es.length g) else none
   | _=>none
noncomputable def cGs:Nat→Cfg→List Expr→Option CE
 | 0,_,_=>none
 | n + 1,C,es=>match es with
   | []=>some .nil
   | e :: r=>if bV e then none else (cG n C e).bind fun g=>(cGs n C r).bind fun r'=>some (.cons g r')
noncomputable def cI:Nat→Cfg→Expr→Expr→Option CE
 | 0,_,_,_=>none
 | n + 1, C,tg,e=>match e with
   | .Call (.Name x p) es kws pos=>if x="zip" then none
     else (match kws,es with
     | [],[a]=>if bV a then none else if x="range" then (if glB C x && C.blt.contains x then (cE n C false a).bind fun a'=>some (.irg (.cons a' .nil)) else none)
       else if x="enumerate" then (match tg with
         | .Tuple .. =>if glB C x && C.blt.contains x then (cE n C false a).bind fun a'=>some (.ien a') else none
         | _=>none)
       else (cE n C false (.Call (.Name x p) es kws pos)).bind fun e'=>some (.isq e')
     | [],[a,b]=>if bV a || bV b then none else if x="range" then (if glB C x && C.blt.contains x then (cE n C false a).bind fun a'=>(cE n C false b).bind fun b'=>some (.irg (.cons a' (.cons b' .nil))) else none)
       else (cE n C false (.Call (.Name x p) es kws pos)).bind fun e'=>some (.isq e')
     | _,_=>(cE n C false (.Call (.Name x p) es kws pos)).bind fun e'=>some (.isq e'))
   | e=>if rL e then none else (cE n C false e).bind fun e'=>some (.isq e')
end
structure Fk (P:Program) (w:World) (K:W.Frag) (mg:Str→Option Value) (base:Heap) (E:Ev) (T:Tb) (k:Nat) (f:Str) (ad:Addr) (fd:FuncData) (ps:List Str):Prop where
 ok:bC P w K mg base CX0 k ad fd ps (gE E (T.S f))
 mg:mg f=some (.ref ad)
 kp:W.keepIn K (.ref ad)=true
 db:(f == ("__debug__":Str))=false
structure Mf (P:Program) (w:World) (K:W.Frag) (mg:Str→Option Value) (base:Heap) (E:Ev) (T:Tb) (k:Nat) (x:Str) (c:String) (xi:Str) (ad:Addr) (fd:FuncData) (ps:List Str):Prop where
 mkr:Mk K (E.cls c) ad
 ok:bC P w K mg base CX0 k ad fd ps (gE E (T.S xi))
 mg:mg x=some (.ref (E.cls c))
 ms:RY T c x xi
 db:(x == ("__debug__":Str))=false
noncomputable def up1:Ar→Ar
 | .arg i=>.arg (i + 1)
 | a=>a
structure FkX (P:Program) (w:World) (K:W.Frag) (mg:Str→Option Value) (base:Heap) (E:Ev) (T:Tb) (k:Nat) (f y:Str) (ad:Addr) (fd:FuncData) (ps:List Str):Prop where
 ok:∃ S0 X0,bC P w K mg base (CXo P w) k ad fd ps (sM E S0 X0)∧∀ xs G Q,T.S y xs G Q→S0 xs G Q∨X0 xs G T.xp
 mg:mg f=some (.ref ad)
 kp:W.keepIn K (.ref ad)=true
 db:(f == ("__debug__":Str))=false
structure MfX (P:Program) (w:World) (K:W.Frag) (mg:Str→Option Value) (base:Heap) (E:Ev) (T:Tb) (k:Nat) (x y:Str) (c:String) (xi:Str) (ad:Addr) (fd:FuncData) (ps:List Str):Prop where
 mkr:Mk K (E.cls c) ad
 ok:∃ S0 X0,bC P w K mg base (CXo P w) k ad fd ps (sM E S0 X0)∧∀ xs G Q,T.S xi xs G Q→S0 xs G Q∨X0 xs G T.xp
 mg:mg x=some (.ref (E.cls c))
 ms:RY T c y xi
 db:(x == ("__debug__":Str))=false
noncomputable def aLX (P:Program) (w:World) (K:W.Frag) (mg:Str→Option Value) (base:Heap) (E:Ev) (T:Tb) (k:Nat) (x y:Str):Prop :=
 (∃ c f fd ps Bn fld,XIn K mg (E.cls c) f Bn fld∧mg x=some (.ref (E.cls c))∧bC P w K mg base CX0 k f fd ps (spI (E.cls c) fld)∧L2.aJ K fd ps []∧∀ xs G Q,T.S y xs G Q→∃ v,xs=[v]∧T.xp c [fld] [v] G)∨False
structure Gf (P:Program) (w:World) (K:W.Frag) (mg:Str→Option Value) (base:Heap) (E:Ev) (T:Tb) (k:Nat) (C:Cfg):Prop where
 fns:∀ f∈C.fns,∃ ad fd ps,Fk P w K mg base E T k f ad fd ps∧L2.aJ K fd ps []
 mks:∀ x∈C.mks,∃ c xi ad fd ps,Mf P w K mg base E T k x c xi ad fd ps∧L2.aJ K fd ps []
 shs:∀ s∈C.shs,∃ ad fd ps,Fk P w K mg base E T k s.1 ad fd ps∧mE K fd ps s.2.1 s.2.2.1 s.2.2.2
 mkk:∀ s∈C.mkk,∃ c xi ad fd ps,Mf P w K mg base E T k s.1 c xi ad fd ps∧mE K fd ps 1 s.2.1 (.arg 0 :: s.2.2.map up1)
 gls:∀ x∈C.gls,∃ u v,mg x=some u∧aO v u∧RP E (fun _=>none) (T.gv x) v
 tys:∀ x∈C.tys,mg x=none∧(∃ n,bootBuiltins x=some (.type n)∧T.gv x= .ty n)∧x≠"__name__"
 blt:∀ x∈C.blt,mg x=none
 eqs:∀ y∈C.eqs,∃ ad fd,xC K (E.cls y.1) "__eq__" ad∧bC P w K mg base CX0 k ad fd ["self","other"] (gE E (T.S y.2))∧L2.aJ K fd ["self","other"] []
 nes:∀ y∈C.nes,∃ ad fd,NeC K (E.cls y.1)∧xC K (E.cls y.1) "__eq__" ad∧bC P w K mg base CX0 k ad fd ["self","other"] (gE E (T.S y.2))∧L2.aJ K fd ["self","other"] []
 lns:∀ y∈C.lns,∃ ad fd,NeC K (E.cls y.1)∧xC K (E.cls y.1) "__len__" ad∧bC P w K mg base CX0 k ad fd ["self"] (gE E (T.S y.2))∧L2.aJ K fd ["self"] []
 ows:∀ y∈C.ows,∀ b,aDs.lookup y.1=some b→∀ z∈y.2,∃ ad fd k0 nm,k0 + 2≤k∧bwN b=some nm∧NeC K (E.cls z.1)∧xC K (E.cls z.1) nm ad∧bC P w K mg base CX0 k0 ad fd ["self"] (gE E (T.S z.2))∧L2.aJ K fd ["self"] []
 gds:∀ y∈C.gds,∃ a es n,mg y.1=some (.ref a)∧K.lookup a=some ⟨.type "dict",none,.dict es n, #[]⟩∧W.KeysLit w.params es.toList∧(a == sysModules)=false∧∀ z,findBy Value.isStrOf es z=(y.2.lookup z).map fun f=>.ref (E.fna f)
 fvs:∀ y∈C.fvs,∃ fd ps,bC P w K mg base CX0 k (E.fna y.1) fd ps (gE E (T.S y.1))∧W.keepIn K (.ref (E.fna y.1))=true∧mE K fd ps y.2.1 [] y.2.2
 mkp:∀ s∈C.mkp,∃ c xi ad fd ps,Mf P w K mg base E T k s.1 c xi ad fd ps∧mE K fd ps (s.2.1 + 1) s.2.2.1 (.arg 0 :: s.2.2.2.map up1)
 exs:∀ y∈C.exs,∃ ad fd,NeC K (E.cls y.1)∧xC K (E.cls y.1) "__eq__" ad∧bC P w K mg base CX0 k ad fd ["self","other"] (gE E (T.S y.2))∧L2.aJ K fd ["self","other"] []∧EqL K (E.cls y.1)∧∀ d∈T.cs,d≠y.1→EqD K (E.cls y.1) (E.cls d)
 kr:∀ y∈C.ky,C.rz=true
 kf:∀ y∈C.ky,(y.1∈C.fns→∃ ad fd ps,FkX P w K mg base E T k y.1 y.2 ad fd ps∧L2.aJ K fd ps [])∧(y.1∈C.mks→∃ c xi ad fd ps,MfX P w K mg base E T k y.1 y.2 c xi ad fd ps∧L2.aJ K fd ps [])
 ks:∀ s∈C.shs,∀ y∈C.ky,y.1=s.1→∃ ad fd ps,FkX P w K mg base E T k s.1 y.2 ad fd ps∧mE K fd ps s.2.1 s.2.2.1 s.2.2.2
 km:∀ s∈C.mkk,∀ y∈C.ky,y.1=s.1→∃ c xi ad fd ps,MfX P w K mg base E T k s.1 y.2 c xi ad fd ps∧mE K fd ps 1 s.2.1 (.arg 0 :: s.2.2.map up1)
 kp:∀ s∈C.mkp,∀ y∈C.ky,y.1=s.1→∃ c xi ad fd ps,MfX P w K mg base E T k s.1 y.2 c xi ad fd ps∧mE K fd ps (s.2.1 + 1) s.2.2.1 (.arg 0 :: s.2.2.2.map up1)
 xc:∀ y∈C.xcl,aLX P w K mg base E T k y.1 y.2
 mts:∀ s∈C.mts,∀ y∈s.2.2,∃ ad fd ps,Cls K (E.cls y.1)∧xC K (E.cls y.1) s.1 ad∧mE K fd ps (s.2.1 + 1) [] (.arg 0 :: y.2.2.map upA)∧
   (bC P w K mg base CX0 k ad fd ps (gE E (T.S y.2.1))∨(C.rz=true∧∃ S0 X0,bC P w K mg base (CXo P w) k ad fd ps (sM E S0 X0)∧∀ xs G Q,T.S y.2.1 xs G Q→S0 xs G Q∨X0 xs G T.xp))
 bmts:∀ s∈C.bmts,∀ y∈s.2.2,∃ ad fd ps,Cls K (E.cls y.1)∧xC K (E.cls y.1) s.1 ad∧mE K fd ps (s.2.1 + 1) [] (.arg 0 :: y.2.2.map upA)∧bC P w K mg base CX0 k ad fd ps (gE E (T.S y.2.1))
def aAR (K:W.Frag) (mg:Str→Option Value) (E:Ev) (cat:List String) (ns:List Str):Prop:= ∃ cs:List Addr,(∀ p∈ns.zip cs,mg p.1=some (.ref p.2))∧ns.length=cs.length∧(∀ c∈cs,LX.nU K c=true∧W.typeIn K (.ref c)=some (.type "type"))∧W.subIn K (.type "type") (.type "tuple")=some false∧∀ c∈cat,LX.kB K (E.cls c) cs=some true
structure Tf (P:Program) (w:World) (K:W.Frag) (mg:Str→Option Value) (base:Heap) (E:Ev) (T:Tb) (k:Nat) (C:Cfg):Prop where
 tr:C.tr=true→∀ x f z,Gf P w K mg base (E.at f z) (T.at x) k C.inT
 ca:C.tr=true→aAR K mg E C.cat C.cln
 hh:C.tr=true→C.hs=true→∃ kh,kh + 1 < 40∧kh≤k∧Gf P w K mg base E T kh C.inH
structure Kn (X:Cx) (E:Ev) (T:Tb) (k:Nat) (C:Cfg):Prop where
 pl:Pl X E T (k + 1)
 N:X.N=C.N
 nd:C.N.Nodup
 nm:X.env.scope.names=C.names
 kd:X.env.scope.kind= .function
 fn:∀ x,(C.blk=false∨x∈C.own)→X.fn x=true
 ce:∀ x,C.names.lookup x=some .cell→∃ c,X.env.cells.lookup x=some c
 ps:PassesOwn (model X.prog X.w) X.A X.env X.xe
 gf:Gf X.prog X.w X.K X.mg X.base E T k C
 ow:(C.rz=true∨C.tr=true)→Own X
 xk:C.rz=true→∃ EX,(∀ e s',xeO X EX e s'→X.xe e s')∧KX E E.f0 E.z0 T.xp EX
 xi:aGo X E T
 cm:C.cm=true→40≤k
 gu:C.rp=true→X.A.guards=some []
 tf:Tf X.prog X.w X.K X.mg X.base E T k C
theorem aDZ:∀ y∈aDs,bootBuiltins y.1=some (aGW y.2)∧y.1≠"__name__"∧(y.1 == ("__debug__":Str))=false:=by
 intro y hy;simp only [aDs,List.mem_cons,List.not_mem_nil,or_false] at hy;rcases hy with rfl | rfl | rfl | rfl | rfl | rfl | rfl | rfl | rfl | rfl | rfl | rfl | rfl | rfl | rfl <;> exact ⟨by first | exact PySem.boot_len | (with_unfolding_all rfl),by decide,by decide⟩
theorem aZ {α β:Type} [BEq α] [LawfulBEq α]:∀ {l:List (α×β)} {x:α} {b:β},l.lookup x=some b→(x,b)∈l
 | [],_,_,h=>by cases h
 | (y,c) :: r,x,b,h=>by
   rw [List.lookup_cons] at h;cases e:x == y with
   | true=>rw [e] at h; cases h; rw [beq_iff_eq.mp e]; exact wDq ..
   | false=>rw [e] at h; exact wCq _ (aZ h)
section
variable {X:Cx} {E:Ev} {T:Tb} {k:Nat} {C:Cfg}
theorem Kn.vis (K:Kn X E T k C) {x:Str} (h:aBj C x=true):Vis X.env.scope x:=by
 unfold aBj at h;unfold Vis;rw [K.nm];split at h
 · rename_i e; exact .inl e
 · rename_i e; exact .inr (.inl e)
 · rename_i e; exact .inr (.inr e)
 · cases h
theorem Kn.loc (K:Kn X E T k C) {x:Str} (h:aAn C x=true):L2.Loc X.env.scope x∧(X.fn x=true∨X.env.scope.names.lookup x=some .local):=by
 unfold aAn at h;unfold L2.Loc;rw [K.nm];split at h
 · rename_i e; exact ⟨.inl e,.inr e⟩
 · rename_i e;exact ⟨.inr e,.inl (K.fn x (by
     rw [Bool.or_eq_true] at h;exact h.imp (fun z=>by simpa using z) fun z=>List.contains_iff_mem.mp z))⟩
 · cases h
theorem Kn.gl (K:Kn X E T k C) {x:Str} (h:glB C x=true):Gl X x:=by
 unfold glB at h;unfold Gl Env.kindOf;rw [K.nm];exact beq_iff_eq.mp h
theorem pK {x:Str} (h:C.ky.lookup x=none):C.key x=x:=by unfold Cfg.key; rw [h]; rfl
theorem nN {x y:Str} (h:C.ky.lookup x=some y):C.key x=y:=by unfold Cfg.key; rw [h]; rfl
theorem Kn.co (K:Kn X E T k C) (hz:C.rz=true) {y:Str} {ad:Addr} {fd:FuncData} {ps:List Str} {j:Nat} (F:∃ S0 X0,bC X.prog X.w X.K X.mg X.base (CXo X.prog X.w) j ad fd ps (sM E S0 X0)∧∀ xs G Q,T.S y xs G Q→S0 xs G Q∨X0 xs G T.xp):Co X E (T.S y) j ad fd ps:=by
 obtain ⟨S0,X0,F,h⟩:=F;obtain ⟨EX,hx,kx⟩:=K.xk hz;exact Co.ofX F h hx kx
theorem aQ {e:Expr} {es:List Expr} {env:Env} (h:bV e=false):starEach (e :: es) env=(false,eval e env) :: starEach es env:=by
 cases e <;> first | rfl | (cases h)
theorem FL {e:Expr} {es:List Expr} {env:Env} (h:bV e=false):assignEach (e :: es) env=(false,assign e env) :: assignEach es env:=by
 cases e <;> first | rfl | (cases h)
theorem lS {o:Expr} {f:Str} {env:Env} {w:Sem Value} (h:uY o=false):attributeBase o f env w=w:=by
 unfold attributeBase;split
 · cases h
 · rfl
theorem lI {op:CmpOp} {b:Expr} (h:rL b=false):behindInMarks op b=false:=by
 cases b <;> first | rfl | (cases h)
theorem rX {e:Expr} {env:Env} (h:rL e=false):∀ x,foldedSetIterable e env x=pure x:=by
 intro x;cases e <;> first | rfl | (cases h)
theorem JU {e:Expr} (h:aCH e=false):CK e:=by
 intro o i;cases e <;> first | rfl | (cases h)
theorem uB (K:Kn X E T k C) (sc:Scope):(relabel sc X.env).names=iI C sc:=by
 unfold relabel iI Env.kindOf;rw [K.nm,K.kd];simp
theorem HQ {cl:List (Str×Addr)} {sc:Scope} (K:Kn X E T k C):∀ {l:List (Str×Option Nat)},(∀ p∈l,∀ j,p.2=some j→X.N[j]? =some p.1∧X.env.kindOf p.1=some .cell∧(relabel sc X.env).names.lookup p.1=some .cell∧∃ c,cl.lookup p.1=some c∧X.env.cells.lookup p.1=some c)→gG X sc cl (l.map (·.1)) (l.map (·.2))
 | [],_=>trivial
 | (n,none) :: r,h=>by
   show gG X sc cl (r.map (·.1)) (r.map (·.2));exact HQ K fun p hp=>h p (wCq _ hp)
 | (n,some j) :: r,h=>⟨h _ (wDq ..) j rfl,HQ K fun p hp=>h p (wCq _ hp)⟩
theorem gH {C:Cfg}:∀ {l:List (Str×NameKind)} {p:Str×Option Nat} {j:Nat},p∈mF C l→p.2=some j→(p.1,NameKind.free)∈l∧slot C.N p.1=some j∧C.names.lookup p.1=some .cell
 | [],_,_,h,_=>by cases h
 | (n, kk) :: r,p,j,h,e=>by
   unfold mF at h;split at h
   · rcases List.mem_cons.mp h with z | z
     · subst z; cases e
     · obtain ⟨a,b⟩:=gH z e; exact ⟨wCq _ a,b⟩
   · rcases List.mem_cons.mp h with z | z
     · subst z; cases e
     · obtain ⟨a,b⟩:=gH z e; exact ⟨wCq _ a,b⟩
   · split at h
     · rename_i j' hs;split at h
       · rename_i hc;rcases List.mem_cons.mp h with z | z
         · subst z; cases e; exact ⟨wDq ..,hs,hc⟩
         · obtain ⟨a,b⟩:=gH z e; exact ⟨wCq _ a,b⟩
       · obtain ⟨a,b⟩:=gH h e; exact ⟨wCq _ a,b⟩
     · obtain ⟨a,b⟩:=gH h e; exact ⟨wCq _ a,b⟩
   · obtain ⟨a,b⟩:=gH h e; exact ⟨wCq _ a,b⟩
theorem NT {cells:List (Str×Addr)}:∀ {l:List (Str×NameKind)} {acc:List (Str×Addr)} {n:Str} {c:Addr},(n,c)∈clos cells l acc→(n,c)∈acc∨(n,NameKind.free)∈l
 | [],_,_,_,h=>.inl h
 | (m, k) :: r,acc,n,c,h=>by
   unfold clos at h;rcases NT h with z | z
   · split at z
     · rename_i hk;rcases List.mem_cons.mp z with e | z
       · cases e; subst hk; exact .inr (wDq ..)
       · exact .inl z
     · exact .inl z
   · exact .inr (wCq _ z)
theorem aAN {sc:Scope} (h:zR C sc=true):C.cm=true:=by
 unfold zR at h;simp only [Bool.and_eq_true] at h;exact h.1.1.1.1
theorem Kn.block (K:Kn X E T k C) {sc:Scope} (h:zR C sc=true):∃ cl,jK X ((mF C sc.names).map (·.1)) sc cl ((mF C sc.names).map (·.2))∧∀ C0 s₀ H₀ ex,Kn (cxC X ((mF C sc.names).map (·.1)) sc cl C0 s₀ H₀ ex) E T k (KK C sc):=by
 unfold zR at h;simp only [Bool.and_eq_true,List.all_eq_true,decide_eq_true_eq] at h;obtain ⟨⟨⟨⟨_,hk⟩,hn⟩,hd⟩,hc⟩:=h;have hk:sc.kind= .function:=beq_iff_eq.mp hk;have fr:∀ y∈sc.names,y.2= .free→C.names.lookup y.1=some .cell:=fun y hy e=>by
   have:=(hn y hy).2;rw [e] at this;simpa using this
 have ncell:∀ x,(x,NameKind.cell)∈sc.names→(x,NameKind.free)∉ sc.names:=fun x hx hf=>by
   have:=(hn _ hx).1.1;simp [hf] at this
 have hf:∀ y∈sc.names,y.2= .free→∃ c,X.env.cells.lookup y.1=some c:=fun y hy e=>K.ce y.1 (fr y hy e);have hcl:wY X.env.cells (clos X.env.cells sc.names []):=NK hf trivial;have look:∀ n,(n,NameKind.free)∈sc.names→∃ c,(clos X.env.cells sc.names []).lookup n=some c∧X.env.cells.lookup n=some c:=fun n hn=>AC hcl (wO (.inr hn));refine ⟨clos X.env.cells sc.names [],⟨aBN hf,(fun x hx=>by
   cases e:(clos X.env.cells sc.names []).lookup x with
   | none=>rfl
   | some c =>
     rcases NT (aZ e) with z | z
     · cases z
     · exact absurd z (ncell x hx)),hk,fun y hy e=>?_,NE hcl fun n hn=>wO (.inr hn),hcl,HQ K fun p hp j e=>?_⟩,fun C0 s₀ H₀ ex=>⟨⟨K.pl.hK,K.pl.calm,K.pl.room,K.pl.cls,K.pl.fld⟩,rfl,hd,uB K sc,hk,(fun x z=>by
   rcases z with z | z
   · cases z
   · obtain ⟨y,hy,e⟩:=List.mem_map.mp z;obtain ⟨h1,h2⟩:=List.mem_filter.mp hy;subst e;refine List.contains_iff_mem.mpr ?_;rw [show (y.1,NameKind.cell)=y from by rw [←beq_iff_eq.mp h2]];exact h1),fun x hx=>?_,PassesOwn.never,⟨K.gf.fns,K.gf.mks,K.gf.shs,K.gf.mkk,K.gf.gls,K.gf.tys,K.gf.blt,K.gf.eqs,K.gf.nes,K.gf.lns,K.gf.ows,K.gf.gds,K.gf.fvs,K.gf.mkp,K.gf.exs,(fun _ h=>nomatch h),(fun _ h=>nomatch h),(fun _ _ _ h=>nomatch h),(fun _ _ _ h=>nomatch h),(fun _ _ _ h=>nomatch h),(fun _ h=>nomatch h),(fun s hs y hy=>let ⟨ad,fd,ps,a,b,c,d⟩:=K.gf.bmts s hs y hy; ⟨ad,fd,ps,a,b,c,.inl d⟩),K.gf.bmts⟩,(fun h=>by rcases h with h | h <;> cases h),(fun h=>by cases h),⟨K.xi.xi,K.xi.fx⟩,K.cm,K.gu,⟨(fun h=>by cases h),(fun h=>by cases h),(fun h=>by cases h)⟩⟩⟩
 · have:=(hn y hy).1.2;rw [e] at this;simpa using this
 · obtain ⟨hm,hs,hcell⟩:=gH hp e;refine ⟨by rw [K.N]; exact dH hs,by unfold Env.kindOf; rw [K.nm]; exact hcell, ?_,look _ hm⟩;rw [uB K sc];have:=hc p hp;rw [e] at this;simpa using this
 · have hx:(iI C sc).lookup x=some .cell:=hx;have hm:=aZ hx;unfold iI at hm;obtain ⟨⟨n,kk⟩,hy,e⟩:=List.mem_map.mp hm;have e':(if (kk == NameKind.free && C.names.lookup n == some NameKind.cell)=true then (n,NameKind.cell) else (n,kk))=(x,NameKind.cell):=e;split at e'
   · rename_i hcond;cases e';have:kk= .free:=by
       rw [Bool.and_eq_true] at hcond;exact beq_iff_eq.mp hcond.1
     subst this;obtain ⟨c,h1,_⟩:=look x hy;exact ⟨c,rE (fun z=>ncell x z hy) h1⟩
   · cases e';obtain ⟨c,h1,_⟩:=zC (n:=C0 + 1) (cl:=clos X.env.cells sc.names []) hy;exact ⟨c,h1⟩
theorem vI {pos:Pos} {env:Env}:∀ {kws:List Keyword} {ks:List Str},kwN kws=some ks→(backToKw pos (keywordEach kws env)).all (·.1.isSome)=true∧(backToKw pos (keywordEach kws env)).filterMap (·.1)=ks∧(backToKw pos (keywordEach kws env)).any (·.1.isNone)=false∧kws.length=ks.length
 | [],ks,h=>by cases h; exact ⟨rfl,rfl,rfl,rfl⟩
 | ⟨some n,v,p⟩ :: r,ks,h=>by
   unfold kwN at h;cases e:kwN r with
   | none=>rw [e] at h; cases h
   | some l =>
     rw [e] at h;cases h;obtain ⟨a,b,c,d⟩:=vI (pos:=pos) (env:=env) e;refine ⟨?_, ?_, ?_,by rw [List.length_cons,List.length_cons,d]⟩
     · show (true && (backToKw pos (keywordEach r env)).all (·.1.isSome))=true;rw [a]; rfl
     · show n :: (backToKw pos (keywordEach r env)).filterMap (·.1)=n :: l;rw [b]
     · show (false || (backToKw pos (keywordEach r env)).any (·.1.isNone))=false;rw [c]; rfl
 | ⟨none,v,p⟩ :: r,ks,h=>by cases h
end
structure Snd (E:Ev) (T:Tb) (k:Nat) (n:Nat):Prop where
 e:∀ X C m e c,Kn X E T k C→cE n C m e=some c→JE X E e (wpE T c)
 xe:∀ X C m e c,Kn X E T k C→xE n C m e=some c→JE X E e (wpE T c)
 ve:∀ X C e c,Kn X E T k C→vE n C e=some c→JE X E e (wpE T c)
 ze:∀ X C e c,Kn X E T k C→zE n C e=some c→JE X E e (wpE T c)
 xt:∀ X C e c,Kn X E T k C→xT n C e=some c→JT X E e (wpT T c)
 l:∀ X C es c,Kn X E T k C→cL n C es=some c→JA X E es (wpL T c)∧∀ e∈es,bV e=false
 kk:∀ X C ks c,Kn X E T k C→cK n C ks=some c→JK X E ks (wpL T c)
 d:∀ X C ks vs c pos,Kn X E T k C→cD n C ks vs=some c→JD X E pos ks vs (wpL T c)
 b:∀ X C op vs c pos,Kn X E T k C→cB n C op vs=some c→JE X E (.BoolOp op vs pos) (wpE T c)
 t:∀ X C e c,Kn X E T k C→cT n C e=some c→JT X E e (wpT T c)
 w:∀ X C op vs c pos,Kn X E T k C→cW n C op vs=some c→JW X E (.BoolOp op vs pos) (wpT T c)
 o:∀ X C o c,Kn X E T k C→cO n C o=some c→JO X E o (wpO T c)
 ts:∀ X C l c,Kn X E T k C→cTs n C l=some c→QZ X E l (wpT T c)
 g:∀ X C e c,Kn X E T k C→cG n C e=some c→JG X E e (wpG T c)
 gs:∀ X C es c,Kn X E T k C→cGs n C es=some c→JGs X E es (eW T c)∧∀ e∈es,bV e=false
 i:∀ X C tg e c,Kn X E T k C→cI n C tg e=some c→JI X E tg e (wpI T c)
section
variable {E:Ev} {T:Tb} {k n:Nat}
theorem bnd {α β:Type} {o:Option α} {f:α→Option β} {b:β} (h:o.bind f=some b):∃ a,o=some a∧f a=some b:=Option.bind_eq_some_iff.mp h
theorem fV {pos:Pos} {env:Env}:∀ {es:List Expr},(∀ e∈es,bV e=false)→(backTo pos (starEach es env)).any (·.1)=false
 | [],_=>rfl
 | e :: r,h=>by
   rw [aQ (h e (wDq ..))];show (false || (backTo pos (starEach r env)).any (·.1))=false;rw [fV fun x hx=>h x (wCq _ hx)]; rfl
theorem NG {env:Env}:∀ {es:List Expr},(∀ e∈es,bV e=false)→(assignEach es env).length=es.length∧(assignEach es env).findIdx? (·.1)=none
 | [],_=>⟨rfl,rfl⟩
 | e :: r,h=>by
   obtain ⟨a,b⟩:=NG (env:=env) (es:=r) fun x hx=>h x (wCq _ hx);rw [FL (h e (wDq ..))];refine ⟨by rw [List.length_cons,List.length_cons,a], ?_⟩;rw [List.findIdx?_cons];simp only [b];rfl
theorem aEy {op op':CmpOp} {b c:Expr} (h:rL c=false):lastMarks [op,op'] [b,c]=false:=by
 show lastMarks [op'] [c]=false;exact lI h
theorem BM {α:Type} {l:List α} {p:α→Bool} {s:α} (h:l.find? p=some s):s∈l∧p s=true:=⟨List.mem_of_find?_eq_some h,List.find?_some h⟩
theorem fA {x:Str} (h:iB x=true):(x == ("__debug__":Str))=false∧(x == ("__classdict__":Str))=false:=by
 unfold iB at h;rw [Bool.and_eq_true,Bool.not_eq_true',Bool.not_eq_true'] at h;exact h
theorem or2 {a b:Bool} (h:¬(a || b)=true):a=false∧b=false:=by cases a <;> cases b <;> simp at h ⊢
theorem aOn:Snd E T k 0:=by
 constructor <;> (intros; rename_i h; first | (unfold vE at h; cases h) | (unfold zE at h; cases h) | (unfold cE at h; cases h) | (unfold cL at h; cases h) | (unfold cK at h; cases h) | (unfold cD at h; cases h) | (unfold cB at h; cases h) | (unfold cT at h; cases h) | (unfold cW at h; cases h) | (unfold cO at h; cases h) | (unfold cTs at h; cases h) | (unfold cG at h; cases h) | (unfold cGs at h; cases h) | (unfold cI at h; cases h))
theorem aMm (S:Snd E T k n):∀ X C es c,Kn X E T k C→cL (n + 1) C es=some c→JA X E es (wpL T c)∧∀ e∈es,bV e=false:=by
 intro X C es c K h;cases es with
 | nil=>unfold cL at h; cases h; exact ⟨aHv,fun e he=>nomatch he⟩
 | cons e r =>
   unfold cL at h;dsimp only at h;split at h
   · cases h
   · rename_i hs;obtain ⟨e',h1,h⟩:=bnd h;obtain ⟨r',h2,h⟩:=bnd h;cases h;have hs:bV e=false:=by simpa using hs
     obtain ⟨a,b⟩:=S.l X C r r' K h2;refine ⟨aBH (S.e X C false e e' K h1) a (aQ hs),fun x hx=>?_⟩;rcases List.mem_cons.mp hx with z | z
     · rw [z]; exact hs
     · exact b x z
theorem aK9 (S:Snd E T k n):∀ X C ks c,Kn X E T k C→cK (n + 1) C ks=some c→JK X E ks (wpL T c):=by
 intro X C ks c K h;cases ks with
 | nil=>unfold cK at h; cases h; exact aAH
 | cons e r =>
   obtain ⟨nm,v,p⟩:=e;unfold cK at h;dsimp only at h;obtain ⟨e',h1,h⟩:=bnd h;obtain ⟨r',h2,h⟩:=bnd h;cases h;exact aC6 (S.e X C false v e' K h1) (S.kk X C r r' K h2)
theorem aLw (S:Snd E T k n):∀ X C ks vs c pos,Kn X E T k C→cD (n + 1) C ks vs=some c→JD X E pos ks vs (wpL T c):=by
 intro X C ks vs c pos K h;unfold cD at h;split at h
 · cases h; exact aGt
 · obtain ⟨k',h1,h⟩:=bnd h;obtain ⟨v',h2,h⟩:=bnd h;obtain ⟨r',h3,h⟩:=bnd h;cases h;exact aCu (S.e X C false _ k' K h1) (S.e X C false _ v' K h2) (S.d X C _ _ r' pos K h3)
 · cases h
theorem aLq (S:Snd E T k n):∀ X C op vs c pos,Kn X E T k C→cB (n + 1) C op vs=some c→JE X E (.BoolOp op vs pos) (wpE T c):=by
 intro X C op vs c pos K h;unfold cB at h;split at h
 · cases h
 · exact aJq (S.e X C false _ c K h)
 · obtain ⟨a',h1,h⟩:=bnd h;obtain ⟨b',h2,h⟩:=bnd h;cases op with
   | And=>cases h; exact aLT K.pl (S.e X C false _ a' K h1) (S.b X C .And _ b' pos K h2)
   | Or=>cases h; exact aL8 K.pl (S.e X C false _ a' K h1) (S.b X C .Or _ b' pos K h2)
theorem aKi (S:Snd E T k n):∀ X C op vs c pos,Kn X E T k C→cW (n + 1) C op vs=some c→JW X E (.BoolOp op vs pos) (wpT T c):=by
 intro X C op vs c pos K h;unfold cW at h;split at h
 · cases h
 · cases op with
   | And=>exact aGC (S.t X C _ c K h)
   | Or=>exact aFW (S.t X C _ c K h)
 · obtain ⟨a',h1,h⟩:=bnd h;obtain ⟨b',h2,h⟩:=bnd h;cases op with
   | And=>cases h; exact aJ1 (S.t X C _ a' K h1) (S.w X C .And _ b' pos K h2)
   | Or=>cases h; exact aKz (S.t X C _ a' K h1) (S.w X C .Or _ b' pos K h2)
theorem aLe (S:Snd E T k n):∀ X C o c,Kn X E T k C→cO (n + 1) C o=some c→JO X E o (wpO T c):=by
 intro X C o c K h;unfold cO at h;split at h
 · cases h; exact aGv
 · obtain ⟨e',h1,h⟩:=bnd h;cases h;exact aBg (S.e X C false _ e' K h1)
theorem aIR (S:Snd E T k n):∀ X C l c,Kn X E T k C→cTs (n + 1) C l=some c→QZ X E l (wpT T c):=by
 intro X C l c K h;unfold cTs at h;split at h
 · cases h; exact aM1
 · exact aMS (S.t X C _ c K h)
 · cases h
theorem aKp (S:Snd E T k n):∀ X C e c,Kn X E T k C→cG (n + 1) C e=some c→JG X E e (wpG T c):=by
 intro X C e c K h;unfold cG at h;split at h
 · split at h
   · rename_i hl;obtain ⟨i,h1,h⟩:=bnd h;cases h;obtain ⟨a,b⟩:=K.loc hl;exact CF (by rw [K.N]; exact K.nd) (by rw [K.N]; exact dH h1) a b
   · cases h
 · split at h
   · rename_i hcm;obtain ⟨g,h1,h⟩:=bnd h;cases h;obtain ⟨a,b⟩:=S.gs X C _ g K h1;obtain ⟨l1,l2⟩:=NG (env:=X.env) b;exact aGs K.pl (Nat.le_succ_of_le (K.cm hcm)) a l1 l2
   · cases h
 · cases h
theorem aHd (S:Snd E T k n):∀ X C es c,Kn X E T k C→cGs (n + 1) C es=some c→JGs X E es (eW T c)∧∀ e∈es,bV e=false:=by
 intro X C es c K h;cases es with
 | nil=>unfold cGs at h; cases h; exact ⟨aBU,fun e he=>nomatch he⟩
 | cons e r =>
   unfold cGs at h;dsimp only at h;split at h
   · cases h
   · rename_i hs;obtain ⟨e',h1,h⟩:=bnd h;obtain ⟨r',h2,h⟩:=bnd h;cases h;have hs:bV e=false:=by simpa using hs
     obtain ⟨a,b⟩:=S.gs X C r r' K h2;refine ⟨YZ (S.g X C e e' K h1) a (by rw [FL hs]; rfl),fun x hx=>?_⟩;rcases List.mem_cons.mp hx with z | z
     · rw [z]; exact hs
     · exact b x z
theorem aLd (S:Snd E T k n):∀ X C e c,Kn X E T k C→cT (n + 1) C e=some c→JT X E e (wpT T c):=by
 intro X C e c K h;unfold cT at h;split at h
 · rename_i c2 hx;cases h;exact S.xt X C e _ K hx
 split at h
 · exact (S.w X C _ _ c _ K h).jt
 · obtain ⟨a',h1,h⟩:=bnd h;cases h;exact aKc (S.t X C _ a' K h1)
 · split at h
   · split at h
     · cases h
     · rename_i hs;obtain ⟨a',h1,h⟩:=bnd h;obtain ⟨b',h2,h⟩:=bnd h;cases h;exact aHl K.pl (lI (by simpa using hs)) (S.e X C false _ a' K h1) (S.e X C false _ b' K h2)
   · split at h
     · cases h
     · rename_i hs;obtain ⟨a',h1,h⟩:=bnd h;obtain ⟨b',h2,h⟩:=bnd h;obtain ⟨c',h3,h⟩:=bnd h;cases h;exact aGY K.pl (aEy (by simpa using hs)) (S.e X C false _ a' K h1) (S.e X C false _ b' K h2) (S.e X C false _ c' K h3)
   · cases h
 · obtain ⟨e',h1,h⟩:=bnd h;cases h;exact CG K.pl (S.e X C false _ e' K h1) fun _=>rfl
 · obtain ⟨e',h1,h⟩:=bnd h;cases h;exact CG K.pl (S.e X C false _ e' K h1) fun _=>rfl
 · obtain ⟨e',h1,h⟩:=bnd h;cases h;exact CG K.pl (S.e X C false _ e' K h1) fun _=>rfl
 · obtain ⟨e',h1,h⟩:=bnd h;cases h;exact CG K.pl (S.e X C false _ e' K h1) fun _=>rfl
 · cases h
theorem aKE (S : Snd E T k n):∀ X C tg e c,Kn X E T k C→cI (n + 1) C tg e=some c→JI X E tg e (wpI T c):=by
 intro X C tg e c K h;unfold cI at h;split at h
 · split at h
   · cases h
   · split at h
     · split at h
       · cases h
       · rename_i hs;split at h
         · rename_i hx;split at h
           · rename_i hb;rw [Bool.and_eq_true] at hb;obtain ⟨a',h1,h⟩:=bnd h;cases h;subst hx;exact aBY (K.gl hb.1) (K.gf.blt _ (by simpa using hb.2)) (S.e X C false _ a' K h1) (aQ (by simpa using hs))
           · cases h
         · split at h
           · rename_i hx;split at h
             · split at h
               · rename_i hb;rw [Bool.and_eq_true] at hb;obtain ⟨a',h1,h⟩:=bnd h;cases h;subst hx;exact aIM K.pl (K.gl hb.1) (K.gf.blt _ (by simpa using hb.2)) (S.e X C false _ a' K h1) (aQ (by simpa using hs))
               · cases h
             · cases h
           · obtain ⟨e',h1,h⟩:=bnd h;cases h;exact BA K.pl (S.e X C false _ e' K h1)
     · split at h
       · cases h
       · rename_i hs;have hs':=or2 hs;split at h
         · rename_i hx;split at h
           · rename_i hb;rw [Bool.and_eq_true] at hb;obtain ⟨a',h1,h⟩:=bnd h;obtain ⟨b',h2,h⟩:=bnd h;cases h;subst hx;exact aCP (K.gl hb.1) (K.gf.blt _ (by simpa using hb.2)) (S.e X C false _ a' K h1) (S.e X C false _ b' K h2) (by rw [aQ hs'.1,aQ hs'.2]; rfl) (aQ hs'.2)
           · cases h
         · obtain ⟨e',h1,h⟩:=bnd h;cases h;exact BA K.pl (S.e X C false _ e' K h1)
     · obtain ⟨e',h1,h⟩:=bnd h;cases h;exact BA K.pl (S.e X C false _ e' K h1)
 · split at h
   · cases h
   · obtain ⟨e',h1,h⟩:=bnd h;cases h;exact BA K.pl (S.e X C false _ e' K h1)
theorem YW (S:Snd E T k n) {X:Cx} {C:Cfg} {x:Str} {p pos:Pos} {e:Expr} {r:List Expr} {es':CE} (K:Kn X E T k C) (hg:glB C x=true) (hc:C.fns.contains x=true∨C.mks.contains x=true) (h:cL n C (e :: r)=some es'):JE X E (.Call (.Name x p) (e :: r) [] pos) (wpE T (.cal (C.key x) es')):=by
 obtain ⟨a,b⟩:=S.l X C _ es' K h;have s1:=aQ (env:=X.env) (es:=r) (b e (wDq ..));have s2:=fV (pos:=pos) (env:=X.env) fun y hy=>b y (wCq _ hy);cases hy:C.ky.lookup x with
 | none =>
   rw [pK hy];rcases hc with hc | hc
   · obtain ⟨ad,fd,ps,F,hb⟩:=K.gf.fns x (by simpa using hc);exact UY (.of F.ok) (K.pl.room.mono (Nat.le_succ _)) (K.gl hg) F.mg F.kp hb F.db a s1 s2
   · obtain ⟨c,xi,ad,fd,ps,F,hb⟩:=K.gf.mks x (by simpa using hc);exact UF F.mkr (.of F.ok) K.pl.room (K.gl hg) F.mg hb F.ms F.db a s1 s2
 | some y =>
   rw [nN hy];have hz:=K.gf.kr _ (aZ hy);obtain ⟨f1,f2⟩:=K.gf.kf _ (aZ hy);rcases hc with hc | hc
   · obtain ⟨ad,fd,ps,F,hb⟩:=f1 (by simpa using hc);exact UY (K.co hz F.ok) (K.pl.room.mono (Nat.le_succ _)) (K.gl hg) F.mg F.kp hb F.db a s1 s2
   · obtain ⟨c,xi,ad,fd,ps,F,hb⟩:=f2 (by simpa using hc);exact UF F.mkr (K.co hz F.ok) K.pl.room (K.gl hg) F.mg hb F.ms F.db a s1 s2
theorem ZE (S:Snd E T k n) {X:Cx} {C:Cfg} {x:Str} {p pos:Pos} {e:Expr} {r:List Expr} {kws:List Keyword} {ks:List Str} {s:Str×Nat×List Str×List Ar} {es' ks':CE} (K:Kn X E T k C) (hg:glB C x=true) (hk:kwN kws=some ks)
   (hf:C.shs.find? (fun s=>s.1 == x && s.2.1 == (e :: r).length && s.2.2.1 == ks)=some s) (h:cL n C (e :: r)=some es') (h2:JK X E kws (wpL T ks')):JE X E (.Call (.Name x p) (e :: r) kws pos) (wpE T (.cak (C.key x) es' ks' s.2.2.2)):=by
 obtain ⟨a,b⟩:=S.l X C _ es' K h;have s1:=aQ (env:=X.env) (es:=r) (b e (wDq ..));have s2:=fV (pos:=pos) (env:=X.env) (es:=e :: r) b;obtain ⟨hm,hp⟩:=BM hf;simp only [Bool.and_eq_true,beq_iff_eq] at hp;obtain ⟨⟨e1,e2⟩,e3⟩:=hp;obtain ⟨k1,k2,k3,k4⟩:=vI (pos:=pos) (env:=X.env) hk;cases hy:C.ky.lookup x with
 | none =>
   rw [pK hy];obtain ⟨ad,fd,ps,F,hb⟩:=K.gf.shs s hm;rw [e1] at F;exact US (.of F.ok) (K.pl.room.mono (Nat.le_succ _)) (K.gl hg) F.mg F.kp hb F.db a h2 e2.symm (by rw [e3]; exact k4) k1 (by rw [e3]; exact k2) s1 (by rw [s2,k3]; rfl)
 | some y =>
   rw [nN hy];obtain ⟨ad,fd,ps,F,hb⟩:=K.gf.ks s hm _ (aZ hy) e1.symm;rw [e1] at F;exact US (K.co (K.gf.kr _ (aZ hy)) F.ok) (K.pl.room.mono (Nat.le_succ _)) (K.gl hg) F.mg F.kp hb F.db a h2 e2.symm (by rw [e3]; exact k4) k1 (by rw [e3]; exact k2) s1 (by rw [s2,k3]; rfl)
theorem aE4 {X:Cx} {C:Cfg} (K:Kn X E T k C):∀ y∈C.nes,NeM X E T k y.1 y.2:=fun y hy=>⟨K.gf.nes y hy⟩
theorem aIi (S:Snd E T k n):∀ X C e c,Kn X E T k C→vE (n + 1) C e=some c→JE X E e (wpE T c):=by
 intro X C e c K h;unfold vE at h;split at h
 · split at h
   · rename_i hc;simp only [Bool.and_eq_true,beq_iff_eq,Bool.not_eq_true'] at hc;obtain ⟨⟨⟨⟨⟨⟨e1,_⟩,g1⟩,b1⟩,g2⟩,p2⟩,st⟩:=hc;obtain ⟨a',h1,h⟩:=bnd h;cases h;subst e1;exact aG8 K.xi (S.e X C false _ a' K h1) (K.gl g1) (K.gf.blt _ (by simpa using b1)) (K.gl g2) (fA p2).1 (aQ st)
   · cases h
 · split at h
   · rename_i hc;simp only [Bool.and_eq_true,Bool.not_eq_true'] at hc;obtain ⟨a',h1,h⟩:=bnd h;cases h;exact aH2 K.xi (S.e X C false _ a' K h1) (lS hc.2)
   · cases h
 · cases h
theorem aJn (S:Snd E T k n):∀ X C e c,Kn X E T k C→zE (n + 1) C e=some c→JE X E e (wpE T c):=by
 intro X C e c K h;unfold zE at h;split at h
 · split at h
   · rename_i hc;simp only [Bool.and_eq_true,Bool.not_eq_true',beq_iff_eq,List.isEmpty_iff] at hc;obtain ⟨⟨⟨⟨⟨c1,c2⟩,c3⟩,c4⟩,c5⟩,c6⟩:=hc;obtain ⟨e',h1,h⟩:=bnd h;cases h;subst c2 c5;exact aHb K.pl (K.gu c1) (K.gl c3) (K.gf.blt _ (by simpa using c4)) (S.e X C false _ e' K h1) (aQ c6)
   split at h
   · rename_i hc;simp only [Bool.and_eq_true,Bool.not_eq_true'] at hc;obtain ⟨i,h0,h⟩:=bnd h;obtain ⟨es',h1,h⟩:=bnd h;cases h;obtain ⟨a,b⟩:=S.l X C _ es' K h1;refine aIK (by rw [K.N]; exact dH h0) (K.vis hc.2) (fA hc.1.2).1 (fA hc.1.2).2 (K.pl.room.mono (Nat.le_succ _)) (fun y hy=>?_) a (aQ (b _ (wDq ..))) ?_
     · rw [List.mem_filter] at hy;exact ⟨⟨K.gf.fvs y hy.1⟩,beq_iff_eq.mp hy.2⟩
     · rw [fV (pos:=_) (env:=X.env) b]; rfl
   · cases h
 · cases h
theorem aHi (S:Snd E T k n):∀ X C m e c,Kn X E T k C→xE (n + 1) C m e=some c→JE X E e (wpE T c):=by
 intro X C m e c K h;unfold xE at h;split at h
 · split at h
   · cases h
   · rename_i hs;obtain ⟨a',h1,h⟩:=bnd h;obtain ⟨b',h2,h⟩:=bnd h;cases h;simp only [Bool.or_eq_true,not_or,Bool.not_eq_true] at hs;exact aFY K.pl (aE4 K) (lI hs.1) (S.e X C false _ a' K h1) (S.e X C false _ b' K h2)
 · cases h;exact aIJ
 · split at h
   · rename_i hh;rw [Bool.and_eq_true,Bool.and_eq_true] at hh;obtain ⟨⟨a1,a2⟩,a3⟩:=hh;obtain ⟨es',h1,h⟩:=bnd h;cases h;exact aFG (S.d X C _ _ es' _ K h1) a1 (beq_iff_eq.mp a2) (fun z=>nomatch z) (of_decide_eq_true a3)
   · cases h
 · cases h
theorem aJp (S:Snd E T k n):∀ X C e c,Kn X E T k C→xT (n + 1) C e=some c→JT X E e (wpT T c):=by
 intro X C e c K h;unfold xT at h;split at h
 · split at h
   · cases h
   · rename_i hs;obtain ⟨a',h1,h⟩:=bnd h;obtain ⟨b',h2,h⟩:=bnd h;cases h;simp only [Bool.or_eq_true,not_or,Bool.not_eq_true] at hs;exact aIl K.pl (aE4 K) (lI hs.1) (S.e X C false _ a' K h1) (S.e X C false _ b' K h2)
 · cases h
theorem aLG (S:Snd E T k n):∀ X C m e c,Kn X E T k C→cE (n + 1) C m e=some c→JE X E e (wpE T c):=by
 intro X C m e c K h;unfold cE at h;split at h
 · rename_i c2 hx;cases h;exact S.ve X C e _ K hx
 split at h
 · rename_i c2 hx;cases h;exact S.ze X C e _ K hx
 split at h
 · rename_i c2 hx;cases h;exact S.xe X C m e _ K hx
 split at h
 · -- a name
   split at h
   · rename_i hp;obtain ⟨d1,d2⟩:=fA hp;split at h
     · rename_i i hs;split at h
       · rename_i hv;cases h;exact aFK (by rw [K.N]; exact dH hs) (K.vis hv) d1 d2
       · cases h
     · split at h
       · rename_i hg;rw [Bool.and_eq_true,Bool.or_eq_true] at hg;cases h;rcases hg.2 with hh | hh
         · obtain ⟨u,v,h1,h2,h3⟩:=K.gf.gls _ (by simpa using hh);exact aHk (K.gl hg.1) h1 h2 h3 d1
         · obtain ⟨h1,⟨nn,h2,h3⟩,h4⟩:=K.gf.tys _ (by simpa using hh);exact aLA (K.gl hg.1) h1 h2 h3 h4 d1
       · cases h
   · cases h
 · split at h
   · cases h; exact aHB
   · cases h; exact aLN
   · cases h; exact aHr
   · cases h; exact aFR
   · cases h
 · obtain ⟨a',h1,h⟩:=bnd h;obtain ⟨b',h2,h⟩:=bnd h;cases h;exact aF0 K.pl (S.e X C false _ a' K h1) (S.e X C false _ b' K h2)
 · split at h
   · obtain ⟨a',h1,h⟩:=bnd h;cases h;exact aGz (S.e X C false _ a' K h1)
   · obtain ⟨a',h1,h⟩:=bnd h;cases h;exact aJC K.pl (S.e X C false _ a' K h1)
   · cases h
 · exact S.b X C _ _ c _ K h
 · split at h
   · split at h
     · cases h
     · rename_i hs;obtain ⟨a',h1,h⟩:=bnd h;obtain ⟨b',h2,h⟩:=bnd h;cases h;exact aI7 K.pl (lI (by simpa using hs)) (S.e X C false _ a' K h1) (S.e X C false _ b' K h2)
   · split at h
     · cases h
     · rename_i hs;obtain ⟨a',h1,h⟩:=bnd h;obtain ⟨b',h2,h⟩:=bnd h;obtain ⟨c',h3,h⟩:=bnd h;cases h;exact aJd K.pl (aEy (by simpa using hs)) (S.e X C false _ a' K h1) (S.e X C false _ b' K h2) (S.e X C false _ c' K h3)
   · cases h
 · obtain ⟨es',h1,h⟩:=bnd h;cases h;exact aHF (S.l X C _ es' K h1).1
 · obtain ⟨es',h1,h⟩:=bnd h;cases h;exact aGd (S.l X C _ es' K h1).1
 · split at h
   · obtain ⟨a',h1,h⟩:=bnd h;obtain ⟨l',h2,h⟩:=bnd h;obtain ⟨u',h3,h⟩:=bnd h;cases h;exact aI8 K.pl (S.e X C false _ a' K h1) (S.o X C _ l' K h2) (S.o X C _ u' K h3)
   · split at h
     · cases h
     · rename_i hs;obtain ⟨a',h1,h⟩:=bnd h;obtain ⟨i',h2,h⟩:=bnd h;cases h;exact aIQ K.pl (S.e X C false _ a' K h1) (S.e X C false _ i' K h2) (JU (by simpa using hs))
 · split at h
   · cases h
   · rename_i hs;obtain ⟨a',h1,h⟩:=bnd h;cases h;exact aIe K.pl (S.e X C false _ a' K h1) (lS (by simpa using hs))
 · split at h
   · split at h
     · rename_i hg;split at h
       · rename_i b hb;split at h
         · rename_i hc;obtain ⟨hc,hcm⟩:=Bool.and_eq_true_iff.mp hc;have h40:aCm b=true→40≤k:=fun z=>K.cm (by rw [z] at hcm; simpa using hcm);obtain ⟨es',h1,h⟩:=bnd h;cases h;obtain ⟨a,st⟩:=S.l X C _ es' K h1;obtain ⟨b1,b2,b3⟩:=aDZ _ (aZ hb);exact aIU K.pl (fun z=>Nat.le_succ_of_le (h40 z)) (K.gl hg) (K.gf.blt _ (by simpa using hc)) b1 b2 b3 a (aQ (st _ (wDq ..))) (fV fun y hy=>st y (wCq _ hy))
         · cases h
       · split at h
         · rename_i s hf;obtain ⟨es',h1,h⟩:=bnd h;cases h;exact ZE S K hg (ks:=[]) rfl hf h1 aAH
         · split at h
           · rename_i hc;obtain ⟨es',h1,h⟩:=bnd h;cases h;rw [Bool.or_eq_true] at hc;exact YW S K hg hc h1
           · cases h
     · cases h
   · split at h
     · rename_i hg;obtain ⟨ks,hk,h⟩:=bnd h;split at h
       · rename_i s hf;obtain ⟨es',h1,h⟩:=bnd h;obtain ⟨ks',h2,h⟩:=bnd h;cases h;exact ZE S K hg hk hf h1 (S.kk X C _ ks' K h2)
       · cases h
     · cases h
   · split at h
     · rename_i hg;obtain ⟨ks,hk,h⟩:=bnd h;obtain ⟨k1,k2,k3,k4⟩:=vI (pos:=_) (env:=X.env) hk;split at h
       · rename_i s hf;obtain ⟨ks',h2,h⟩:=bnd h;cases h;obtain ⟨hm,hp⟩:=BM hf;simp only [Bool.and_eq_true,beq_iff_eq] at hp;obtain ⟨⟨e1,e2⟩,e3⟩:=hp;cases hy:C.ky.lookup _ with
         | none =>
           rw [pK hy];obtain ⟨ad,fd,ps,F,hb⟩:=K.gf.shs s hm;rw [e1] at F;rw [e2] at hb;exact NZ (.of F.ok) (K.pl.room.mono (Nat.le_succ _)) (K.gl hg) F.mg F.kp hb F.db (S.kk X C _ ks' K h2) (by rw [e3]; exact k4) k1 (by rw [e3]; exact k2) (by rw [k3]; rfl)
         | some y =>
           rw [nN hy];obtain ⟨ad,fd,ps,F,hb⟩:=K.gf.ks s hm _ (aZ hy) e1.symm;rw [e1] at F;rw [e2] at hb;exact NZ (K.co (K.gf.kr _ (aZ hy)) F.ok) (K.pl.room.mono (Nat.le_succ _)) (K.gl hg) F.mg F.kp hb F.db (S.kk X C _ ks' K h2) (by rw [e3]; exact k4) k1 (by rw [e3]; exact k2) (by rw [k3]; rfl)
       · split at h
         · rename_i s hf;obtain ⟨ks',h2,h⟩:=bnd h;cases h;obtain ⟨hm,hp⟩:=BM hf;simp only [Bool.and_eq_true,beq_iff_eq] at hp;obtain ⟨e1,e3⟩:=hp;cases hy:C.ky.lookup _ with
           | none =>
             rw [pK hy];obtain ⟨c,xi,ad,fd,ps,F,hb⟩:=K.gf.mkk s hm;rw [e1] at F;exact NF F.mkr (.of F.ok) K.pl.room (K.gl hg) F.mg hb F.ms F.db (S.kk X C _ ks' K h2) (by rw [e3]; exact k4) k1 (by rw [e3]; exact k2) (by rw [k3]; rfl)
           | some y =>
             rw [nN hy];obtain ⟨c,xi,ad,fd,ps,F,hb⟩:=K.gf.km s hm _ (aZ hy) e1.symm;rw [e1] at F;exact NF F.mkr (K.co (K.gf.kr _ (aZ hy)) F.ok) K.pl.room (K.gl hg) F.mg hb F.ms F.db (S.kk X C _ ks' K h2) (by rw [e3]; exact k4) k1 (by rw [e3]; exact k2) (by rw [k3]; rfl)
         · cases h
     · cases h
   · split at h
     · rename_i hc;simp only [Bool.and_eq_true,decide_eq_true_eq,Bool.not_eq_true'] at hc;obtain ⟨⟨⟨e1,e2⟩,e3⟩,e4⟩:=hc;obtain ⟨o',h1,h⟩:=bnd h;obtain ⟨e',h2,h⟩:=bnd h;cases h;subst e1;exact aHe K.pl (S.e X C false _ o' K h1) (S.e X C false _ e' K h2) (lS e2) (aQ e3) e4
     · split at h
       · rename_i hc;simp only [Bool.and_eq_true,decide_eq_true_eq,Bool.not_eq_true'] at hc;obtain ⟨⟨⟨e1,e2⟩,e3⟩,e4⟩:=hc;obtain ⟨o',h1,h⟩:=bnd h;obtain ⟨e',h2,h⟩:=bnd h;cases h;subst e1;exact aI3 (S.e X C false _ o' K h1) (S.e X C false _ e' K h2) (lS e2) (aQ e3) e4
       · cases h
   · cases h
 · split at h
   · split at h
     · rename_i hb;rw [Bool.and_eq_true] at hb;obtain ⟨it',h1,h⟩:=bnd h;obtain ⟨tg',h2,h⟩:=bnd h;obtain ⟨ts',h3,h⟩:=bnd h;obtain ⟨el',h4,h⟩:=bnd h;cases h;obtain ⟨cl,B,KB⟩:=K.block hb.1;exact aCF B K.pl (Nat.le_succ_of_le (K.cm (aAN hb.1))) (S.i X C _ _ it' K h1) (fun C0 s₀ H₀ ex=>S.g _ _ _ tg' (KB C0 s₀ H₀ ex) h2) (fun C0 s₀ H₀ ex=>S.ts _ _ _ ts' (KB C0 s₀ H₀ ex) h3) (fun C0 s₀ H₀ ex=>S.e _ _ false _ el' (KB C0 s₀ H₀ ex) h4) (rX (by simpa using hb.2))
     · cases h
   · cases h
 · cases h
theorem snd:∀ n,Snd E T k n
 | 0=>aOn
 | n + 1=>⟨aLG (snd n),aHi (snd n),aIi (snd n),aJn (snd n),aJp (snd n),aMm (snd n),aK9 (snd n),aLw (snd n),aLq (snd n),aLd (snd n),aKi (snd n),aLe (snd n),aIR (snd n),aKp (snd n),aHd (snd n),aKE (snd n)⟩
end
section
variable {X:Cx} {E:Ev} {T:Tb} {k:Nat} {C:Cfg}
theorem BF (K:Kn X E T k C):X.env.blockKind= .function:=by
 unfold Env.blockKind;rw [K.kd]; rfl
noncomputable def aNR:Expr→Bool
 | .Tuple .. =>true
 | _=>false
noncomputable def aD9:Expr→Bool
 | .Tuple vs _ _=> !(vs.all (foldedForSure 8))
 | _=>false
theorem aFV {ts:List Expr} {kt:Nat} {pt:Pos} {value:Expr} {env:Env} (h:aNR value=false):swappedStores [.Tuple ts kt pt] value env=pure none:=by
 cases value <;> first | rfl | (cases h)
theorem aBf {ts vs:List Expr} {kt kv:Nat} {pt pv:Pos} {env:Env} (h:vs.all (foldedForSure 8)=true):swappedStores [.Tuple ts kt pt] (.Tuple vs kv pv) env=pure none:=by
 unfold swappedStores;dsimp only;split
 · rfl
 · split
   · rfl
   · split
     · rfl
     · first | rfl | rw [if_pos h]
theorem aIP {ts:List Expr} {kt:Nat} {pt:Pos} {v:Expr} {env:Env} (h:¬aD9 v=true):swappedStores [.Tuple ts kt pt] v env=pure none:=by
 cases v with
 | Tuple vs kv pv =>
   refine aBf ?_;cases e:vs.all (foldedForSure 8) with
   | true=>rfl
   | false=>exact absurd (show (!(vs.all (foldedForSure 8)))=true by rw [e]; rfl) h
 | _=>exact aFV rfl
theorem aID (K:Kn X E T k C) {x y:Str} {px py pt pt2:Pos} {kt k2:Nat} {a b:Expr} (hx:C.names.lookup x=some .local) (hy:C.names.lookup y=some .local) (hl:py.line=px.line) (hne:x≠y) (sa:bV a=false) (sb:bV b=false)
   (nf: [a,b].all (foldedForSure 8)=false) (nc: [a,b].all (constantsAlone 8)=false):swappedStores [.Tuple [.Name x px,.Name y py] kt pt] (.Tuple [a,b] k2 pt2) X.env=pure (some [x,y]):=by
 unfold swappedStores;dsimp only;have kx:(X.env.kindOf x == some .local)=true:=by unfold Env.kindOf; rw [K.nm,hx]; rfl
 have ky:(X.env.kindOf y == some .local)=true:=by unfold Env.kindOf; rw [K.nm,hy]; rfl
 have e:∀ e:Expr,bV e=false→(match e with | .Starred .. =>true | _=>false)=false:=fun e h=>by cases e <;> first | rfl | (cases h)
 have c1:(!([Expr.Name x px,Expr.Name y py].length == 2 || [Expr.Name x px,Expr.Name y py].length == 3) || [a,b].length != [Expr.Name x px,Expr.Name y py].length || X.env.blockKind != ScopeKind.function)=false:=by
   rw [BF K]; rfl
 rw [if_neg (by rw [c1]; exact Bool.false_ne_true)];have nm:([x,y]:List Str).eraseDups.length=2:=by
   have hb:(y == x)=false:=beq_eq_false_iff_ne.mpr (Ne.symm hne);simp [List.eraseDups_cons,hb]
 split
 · rename_i h2;exfalso
   simp only [List.any_cons,List.any_nil,Bool.or_false,Bool.or_eq_true] at h2;rcases h2 with h2 | h2
   · cases a <;> first | (cases h2; done) | (cases sa)
   · cases b <;> first | (cases h2; done) | (cases sb)
 · simp only [List.filterMap_cons,List.filterMap_nil,kx,ky,List.head?_cons,Option.map_some,Option.getD_some,Bool.true_and,Expr.pos,hl,beq_self_eq_true,if_true,List.length_cons,List.length_nil,nm,nf,nc];rfl
noncomputable def yS (n:Nat) (C:Cfg) (s:Stmt):Option CS:=match s with
 | .Assign [.Name x px] (.ListComp elt gens sc vp) pos=>if aAn C x && C.names.lookup x == some .cell then (slot C.N x).bind fun i=>(cE n C (C.M.contains x) (.ListComp elt gens sc vp)).bind fun v'=>some (.asg (.gn i) v') else none
 | .Raise (some (.Call (.Name x _) [e] [] _)) none _=>(match C.xcl.lookup x with
     | some y=>if C.rz && glB C x && iB x && !bV e && C.cm then (cE n C false e).bind fun e'=>some (.ex (.cal y (.cons e' .nil))) else none
     | none=>none)
 | _=>none
noncomputable def DF:List Expr→Option (List (Str×Pos))
 | []=>some []
 | .Name x p :: r=>(DF r).map ((x,p) :: ·)
 | _ :: _=>none
noncomputable def clB (C:Cfg):Expr→Bool
 | .Tuple es _ _=>(match DF es with
   | some l=>l.map (·.1) == C.cln && l.all (fun q=>glB C q.1 && iB q.1) && decide (l.length≤100)
   | none=>false)
 | .Name x _=>[x] == C.cln && glB C x && iB x
 | _=>false
noncomputable def aGb (C:Cfg) (x:Str):Bool:=C.names.lookup x == some .local && iB x
theorem HF {X:Cx} {E:Ev} {T:Tb} {k:Nat} {C:Cfg} (K:Kn X E T k C) {x:Str} {px vp:Pos} {l:Nat} {elt:Expr} {gens:List Comprehension} {sc:Scope} (c3:(C.names.lookup x == some .cell)=true) :
   swapsWithSole [.Name x px] (.ListComp elt gens sc vp) l X.env=pure false:=by
 unfold swapsWithSole swapsWith;dsimp only;have e1:X.env.kindOf x=C.names.lookup x:=by unfold Env.kindOf; rw [K.nm]
 rw [BF K,e1,beq_iff_eq.mp c3];rfl
mutual
noncomputable def cS:Nat→Cfg→Stmt→Option CS
 | 0,_,_=>none
 | n + 1,C,s=>match yS n C s with
 | some c=>some c
 | none => match s with
   | .Expr e _=>(match e with
     | .Constant (.str _) _ _=>some .nil
     | e=>if uJ e then none else (cE n C false e).bind fun e'=>some (.ex e'))
   | .Pass _=>some .nil
   | .Try b hs o f _=>(match hs,o,f with
     | [.ExceptHandler (some t) (some m) (s0 :: ss) _],[],[]=>if C.tr && C.hs && aGb C m && clB C t then
         (slot C.N m).bind fun j=>(cSs n C.inT b).bind fun b'=>(cSs n C.inH (s0 :: ss)).bind fun h'=>some (.trh b' j h' C.cat) else none
     | _,_,_=>none)
   | .Raise .. =>some .nev
   | .Return o _=>(match o with
     | none=>some .retN
     | some e=>(cE n C C.rm e).bind fun e'=>some (.ret e'))
   | .If c a b _=>(cT n C c).bind fun c'=>(cSs n C a).bind fun a'=>(cSs n C b).bind fun b'=>some (.iff c' a' b')
   | .While c b o _=>(match o with
     | []=>(cT n C c).bind fun c'=>some (.wh c' ((cSs n C b).getD .nev))
     | _=>none)
   | .For tg it b o _=>(match o with
     | []=>if rL it || !C.cm then none else (cI n C tg it).bind fun i'=>(cG n C tg).bind fun g'=>(cSs n C b).bind fun b'=>some (.fr g' i' b')
     | _=>none)
   | .Assign ts v pos=>(match ts with
     | [.Name x px]=>if aAn C x then (slot C.N x).bind fun i=>(match v with
         | .ListComp elt gens sc vp=>(match gens with
           | [⟨tg,iter,ifs,0⟩]=>if zR C sc && !rL iter && C.names.lookup x == some .local && px.line == vp.line && !(sc.names.any fun y=>y.1 == x && (y.2 == .local || y.2 == .cell)) then
               (cI n C tg iter).bind fun it'=>(cG n (KK C sc) tg).bind fun tg'=>(cTs n (KK C sc) ifs).bind fun ts'=>(cE n (KK C sc) false elt).bind fun el'=>some (.asg (.gn i) (.cmpr (C.M.contains x) tg' it' ts' el' ((mF C sc.names).map (·.2))))
             else none
           | _=>none)
         | v=>if uJ v then none else (cE n C (C.M.contains x) v).bind fun v'=>some (.asg (.gn i) v')) else none
     | [.Attribute o f _]=>if uJ v then none else (cE n C false o).bind fun o'=>(cE n C false v).bind fun v'=>some (.fld o' f v')
     | [.Subscript o i _]=>if uJ v || aCH i then none else (cE n C false o).bind fun o'=>(cE n C false i).bind fun i'=>(cE n C false v).bind fun v'=>some (.sub o' i' v')
     | [.Tuple gs kt pt]=>if aD9 v then (match gs,v with
         | [.Name x px,.Name y py],.Tuple [a,b] _ _=>if C.names.lookup x == some .local && C.names.lookup y == some .local && py.line == px.line && x != y && !bV a && !bV b && !([a,b].all (constantsAlone 8)) && C.cm then
             (slot C.N x).bind fun i=>(slot C.N y).bind fun j=>(cE n C false a).bind fun a'=>(cE n C false b).bind fun b'=>some (.par i j a' b') else none
         | _,_=>none)
       else if uJ v then none else (cE n C false v).bind fun v'=>(cG n C (.Tuple gs kt pt)).bind fun g'=>some (.asg g' v')
     | _=>none)
   | _=>none
noncomputable def cSs:Nat→Cfg→List Stmt→Option CS
 | 0,_,_=>none
 | n + 1,C,l=>match l with
   | []=>some .nil
   | [s]=>cS n C s
   | s :: t :: r=>(cS n C s).bind fun s'=>(cSs n C (t :: r)).bind fun r'=>some (.seq s' r')
end
theorem rR {e:Expr} {t:Option Expr} {l:Nat} {env:Env} (h:uJ e=false):swapsWith e t l env=pure false:=by
 cases e <;> first | rfl | (cases h)
theorem LB (K:Kn X E T k C) {x:Str} {px vp:Pos} {l:Nat} {elt:Expr} {gens:List Comprehension} {sc:Scope} (c3:(C.names.lookup x == some .local)=true) (c4:(px.line == vp.line)=true) (c5:(!(sc.names.any fun y=>y.1 == x && (y.2 == .local || y.2 == .cell)))=true) :
   swapsWith (.ListComp elt gens sc vp) (some (.Name x px)) l X.env=pure true:=by
 unfold swapsWith;dsimp only;have e1:X.env.kindOf x=C.names.lookup x:=by unfold Env.kindOf; rw [K.nm]
 rw [BF K,e1,c3];have e2:(!(sc.names.any fun (n,k)=>n == x && (k == .local || k == .cell)))=true:=by rw [←c5]
 show pure (true && true && (px.line == vp.line) && !(sc.names.any fun (n,k)=>n == x && (k == .local || k == .cell)))=pure true;rw [c4,e2]; rfl
theorem nG {e t:Expr} {l:Nat} {env:Env} (h:uJ e=false):swapsWithSole [t] e l env=pure false:=rR h
theorem aCC {o i:Expr} {pos':Pos} {env:Env} (h:aCH i=false) (v:Value):assign (.Subscript o i pos') env v=(do
     let ov ←holding [v] (eval o env)
     let iv ←holding [v,ov] (eval i env)
     standAt pos'
     holding [v,ov,iv] (setItem ov iv v)
     release [v,ov,iv] []):=by
 cases i <;> first | rfl | (cases h)
structure Sns (E:Ev) (T:Tb) (k:Nat) (n:Nat):Prop where
 s:∀ X C s c,Kn X E T k C→cS n C s=some c→JS X E s (wpS T c)
 ss:∀ X C s c,Kn X E T k C→cSs n C s=some c→JSs X E s (wpS T c)
theorem aHw {n:Nat} (S:Sns E T k n):∀ X C l c,Kn X E T k C→cSs (n + 1) C l=some c→JSs X E l (wpS T c):=by
 intro X C l c K h;unfold cSs at h;split at h
 · cases h; exact aHq
 · exact aFZ (S.s X C _ c K h)
 · obtain ⟨s',h1,h⟩:=bnd h;obtain ⟨r',h2,h⟩:=bnd h;cases h;exact aG9 (S.s X C _ s' K h1) (S.ss X C _ r' K h2)
theorem aHj (K:Kn X E T k C) (hz:C.rz=true) (h40:40≤k) {x y:Str} {np cpos pos:Pos} {e:Expr} {e':CE} (F0:aLX X.prog X.w X.K X.mg X.base E T k x y) (hg:glB C x=true) (hp:iB x=true) (hs:bV e=false) (he:JE X E e (wpE T e')) :
   JS X E (.Raise (some (.Call (.Name x np) [e] [] cpos)) none pos) (wpS T (.ex (.cal y (.cons e' .nil)))):=fun F=>by
 obtain ⟨EX,hx,kx⟩:=K.xk hz;rcases F0 with ⟨c,f,fd,ps,Bn,fld,D,hm,Fi,hb,hT⟩ | F0
 · refine PS.imp (QK D (K.gl hg) hm (fA hp).1 Fi (K.pl.room.hd (Nat.le_succ_of_le h40)) K.pl.room hb (he F) hx (aQ hs)) fun D0 σ H zz=>?_;obtain ⟨σ',Z,G,D',rs,S,h,kd⟩:=zz;rw [wpS,wpE,wpL] at h;refine ⟨σ',Z,G,_,rs,S,h,fun v u Z1 G1 H1 s1 S1 r1 q d hd=>?_⟩;rw [wpL] at q;obtain ⟨v',e1,q⟩:=hT _ _ _ q;cases e1;exact kx c [fld] [v] (some d) [u] (upd Z1 d (.xd [(fld,u)])) G1 _ (S1.z0.trans (aT (S1.zn hd) _)) (S1.fz hd).weakF rfl ⟨u,[],rfl,r1.mono (aT (S1.zn hd) _),rfl⟩ (fun dd z=>by cases z; exact aI) (fun z=>by cases z) q
 · exact F0.elim
theorem TY:∀ {es:List Expr} {l:List (Str×Pos)},DF es=some l→es=l.map fun q=>Expr.Name q.1 q.2
 | [],l,h=>by cases h; rfl
 | e :: r,l,h=>by
   unfold DF at h;split at h
   · rename_i e0; cases e0
   · rename_i x p r' e0;cases e0;cases hr:DF r with
     | none=>rw [hr] at h; cases h
     | some l' =>
       rw [hr] at h;cases h;rw [TY hr];rfl
   · cases h
theorem zQ:∀ {l:List (Str×Pos)} {cs:List Addr},l.length=cs.length→l=(l.zip cs).map (fun q=>(q.1.1,q.1.2))∧cs=(l.zip cs).map (·.2)
 | [],[],_=>⟨rfl,rfl⟩
 | a :: l,c :: cs,h=>by
   obtain ⟨h1,h2⟩:=zQ (l:=l) (cs:=cs) (by simpa using h);rw [List.zip_cons_cons,List.map_cons,List.map_cons,←h1,←h2];exact ⟨rfl,rfl⟩
theorem PH (K:Kn X E T k C) (h:C.tr=true) {t:Expr} (hc:clB C t=true):∃ cs,jM X t cs∧(∀ c∈cs,LX.nU X.K c=true)∧∀ c∈C.cat,LX.kB X.K (E.cls c) cs=some true:=by
 obtain ⟨cs,hm,hl,hcs,ht,hcat⟩:=K.tf.ca h;refine ⟨cs, ?_,fun c z=>(hcs c z).1,hcat⟩;unfold clB at hc;split at hc
 · rename_i es k0 p0;split at hc
   · rename_i l hn;simp only [Bool.and_eq_true,beq_iff_eq,List.all_eq_true,decide_eq_true_eq] at hc;obtain ⟨⟨h1,h2⟩,h3⟩:=hc;have hl2:l.length=cs.length:=by rw [←hl,←h1,List.length_map]
     obtain ⟨z1,z2⟩:=zQ hl2;have ee:es=((l.zip cs).map fun q=>((q.1.1,q.1.2,q.2):Str×Pos×Addr)).map fun q=>Expr.Name q.1 q.2.1:=by
       rw [TY hn,List.map_map];conv=>lhs; rw [z1]
       rw [List.map_map]; rfl
     have ec:cs=((l.zip cs).map fun q=>((q.1.1,q.1.2,q.2):Str×Pos×Addr)).map (·.2.2):=by
       rw [List.map_map]; exact z2
     have cl:jM X (.Tuple (((l.zip cs).map fun q=>((q.1.1,q.1.2,q.2):Str×Pos×Addr)).map fun q=>Expr.Name q.1 q.2.1) k0 p0) (((l.zip cs).map fun q=>((q.1.1,q.1.2,q.2):Str×Pos×Addr)).map (·.2.2)):=by
       refine .tup (fun q hq=>?_) ?_
       · obtain ⟨⟨⟨x,p⟩,c⟩,hq0,rfl⟩:=List.mem_map.mp hq;have h4:=h2 (x,p) (List.of_mem_zip hq0).1;refine ⟨K.gl h4.1,hm (x,c) ?_,(fA h4.2).1⟩;rw [←h1];have:=List.mem_map_of_mem (f:=fun q:(Str×Pos)×Addr=>(q.1.1,q.2)) hq0;have e:(l.zip cs).map (fun q=>(q.1.1,q.2))=(l.map (·.1)).zip cs:=by rw [List.zip_map_left]; rfl
         rw [←e]; exact this
       · rw [List.length_map,List.length_zip,←hl2,Nat.min_self];have:(100:Nat)≤sizeLine:=by rw [sizeLine_eq]; decide
         omega
     rw [←ee,←ec] at cl;exact cl
   · cases hc
 · rename_i x p0;simp only [Bool.and_eq_true,beq_iff_eq] at hc;obtain ⟨⟨h1,h2⟩,h3⟩:=hc;rw [←h1] at hm hl
   match cs,hl,hm,hcs with
   | [c],_,hm,hcs=>exact .one (K.gl h2) (hm (x,c) (wDq ..)) (fA h3).1 (hcs c (wDq ..)).2 ht
 · cases hc
theorem aHn {n:Nat} (S0:∀ k E T,Sns E T k n) (K:Kn X E T k C) (htr:C.tr=true) (hhs:C.hs=true) {t:Expr} {m:Str} {hp pos:Pos} {b ss:List Stmt} {s0:Stmt} {b' h':CS} {j:Nat} (hj:slot C.N m=some j) (hlm:aGb C m=true) (hc:clB C t=true) (hb:cSs n C.inT b=some b') (hh:cSs n C.inH (s0 :: ss)=some h') :
   JS X E (.Try b [.ExceptHandler (some t) (some m) (s0 :: ss) hp] [] [] pos) (wpS T (.trh b' j h' C.cat)):=by
 rintro F pins s σ H D I ⟨σ',Z,G,D',rs,S,h,kd⟩;rw [wpS] at h;have ow:=K.ow (.inr htr);obtain ⟨cs,cl,hcs,hcat⟩:=PH K htr hc;obtain ⟨kh,k1,k2,gh⟩:=K.tf.hh htr hhs;have hN:X.N=C.N:=K.N;have lm:X.env.scope.names.lookup m=some .local:=by rw [K.nm]; unfold aGb at hlm; exact beq_iff_eq.mp (Bool.and_eq_true_iff.mp hlm).1
 have pm:=fA (Bool.and_eq_true_iff.mp hlm).2;have hlen:σ'.length=X.N.length:=by rw [rs.length]; exact I.len
 generalize hx0:(fun c ns xs G1=>c∈C.cat∧wpS T h' ⟨fun σ2 G2=>D'.nx (σ2.set j none) G2,D'.rt,fun σ2 G2=>D'.bk (σ2.set j none) G2,fun σ2 G2=>D'.ct (σ2.set j none) G2⟩ ((List.replicate σ'.length none).set j (some (.exc c ns xs))) G1:PX)=x0 at h
 let EX:XK:=fun Cv d H1=>∃ c ns xs vs Z1 G1,Cv= .ref (E.cls c)∧aN Z Z1∧Sim (E.at F Z) F H1 Z1 G1∧ns.length=vs.length∧RPs E Z1 xs vs∧(∀ dd,d=some dd→Z1 dd=some (.xd (ns.zip vs)))∧(d=none→ns=[])∧WkX x0 c ns xs G1
 have ow':Own (X.pin pins):=⟨ow.st,ow.fr⟩;have K':Kn ((X.pin pins).wish (xeO (X.pin pins) EX)) (E.at F Z) (T.at (WkX x0)) k C.inT:=by
   refine ⟨⟨K.pl.hK,K.pl.calm,K.pl.room,⟨K.pl.cls.own,K.pl.cls.plain,K.pl.cls.other,K.pl.cls.apart⟩,K.pl.fld⟩,K.N,K.nd,K.nm,K.kd,K.fn,K.ce,aKs (X:=X.pin pins) ow',K.tf.tr htr _ _ _,(fun _=>⟨ow'.st,ow'.fr⟩),(fun _=>⟨EX,by rintro e s' ⟨a,C0,d,σ1,H1,ee,J,x1,q⟩;exact ⟨a,C0,d,σ1,H1,ee,J.unwish,x1,q⟩, ?_⟩),⟨K.xi.xi,K.xi.fx⟩,K.cm,K.gu,⟨(fun z=>by cases z),(fun z=>by cases z),(fun z=>by cases z)⟩⟩;intro c ns xs d vs Z1 G1 H1 s1 S1 l r hd hn q;exact ⟨c,ns,xs,vs,Z1,G1,rfl,s1,S1,l,r.un,hd,hn,q⟩
 have hbj:=(S0 k (E.at F Z) (T.at (WkX x0))).ss _ C.inT b b' K' hb F;refine aLm ow I (EX:=EX) (j:=j) (by rw [hN]; exact K.nd) (by rw [hN]; exact dH hj) lm cl hcs hbj ⟨σ',Z,G,D',rs.at,S.at,h, ?_⟩ ?_
 · exact ⟨fun a b Z1 G1 H1 s1 S1 r q=>kd.nx a b Z1 G1 H1 s1 (S.un (F1:=F) S1) r.un q,fun a b Z1 G1 H1 s1 S1 r q=>kd.rt a b Z1 G1 H1 s1 (S.un (F1:=F) S1) r.un q,fun a b Z1 G1 H1 s1 S1 r q=>kd.bk a b Z1 G1 H1 s1 (S.un (F1:=F) S1) r.un q,fun a b Z1 G1 H1 s1 S1 r q=>kd.ct a b Z1 G1 H1 s1 (S.un (F1:=F) S1) r.un q⟩
 · rintro Cv d H1 ⟨c,ns,xs,vs,Z1,G1,rfl,s1,S1,l,r,hd,hn,G2,hG,q⟩;rw [←hx0] at q;obtain ⟨hcc,q⟩:=q;refine ⟨_,rfl,hcat c hcc,fun a ha=>?_⟩;have KH:Kn ((X.pin pins).mk2 (.ref a)) E T kh C.inH:=by
     refine ⟨⟨K.pl.hK,(fun z=>absurd z (by omega)), ?_,⟨K.pl.cls.own,K.pl.cls.plain,K.pl.cls.other,K.pl.cls.apart⟩,K.pl.fld⟩,K.N,K.nd,K.nm,K.kd,K.fn,K.ce,PassesOwn.never,gh,(fun z=>by rcases z with z | z <;> cases z),(fun z=>by cases z),⟨K.xi.xi,K.xi.fx⟩,(fun z=>by cases z),K.gu,⟨(fun z=>by cases z),(fun z=>by cases z),(fun z=>by cases z)⟩⟩;have R0:=K.pl.room.mono (j:=kh + 1) (by omega);exact ⟨(fun z=>absurd z (by omega)),R0.dp,R0.un,R0.gd⟩
   have S2:=((S.un (F1:=F) S1).weak hG).fz (o:=.ext (XC a (.ref (E.cls c)) d)) ha;have zn:Z1 a=none:=(S.un (F1:=F) S1).zn ha;have rp:RP E (upd Z1 a (.ext (XC a (.ref (E.cls c)) d))) (.exc c ns xs) (.ref a):=⟨a,d,vs,rfl,aI,l,(fun dd z=>by rw [aD (aH (hd dd z) zn)]; exact hd dd z),hn,r.mono (aT zn _)⟩;refine ⟨_,(S0 kh E T).ss _ C.inH _ h' KH hh F, ?_⟩;refine ⟨(List.replicate σ'.length none).set j (some (.exc c ns xs)),_,_,_, ?_,S2,q, ?_⟩
   · rw [hlen]; exact (RSt.nones _).set rp j
   · have s2:=s1.trans (aT zn (.ext (XC a (.ref (E.cls c)) d)));exact ⟨fun a b Z2 G2 H2 s3 S3 r3 q3=>kd.nx _ _ Z2 G2 H2 (s2.trans s3) S3 (RSt.unset j r3) q3,fun a b Z2 G2 H2 s3 S3 r3 q3=>kd.rt a b Z2 G2 H2 (s2.trans s3) S3 r3 q3,fun a b Z2 G2 H2 s3 S3 r3 q3=>kd.bk _ _ Z2 G2 H2 (s2.trans s3) S3 (RSt.unset j r3) q3,fun a b Z2 G2 H2 s3 S3 r3 q3=>kd.ct _ _ Z2 G2 H2 (s2.trans s3) S3 (RSt.unset j r3) q3⟩
theorem aLx {n:Nat} (S0:∀ k E T,Sns E T k n) (S:Sns E T k n):∀ X C l c,Kn X E T k C→cS (n + 1) C l=some c→JS X E l (wpS T c):=by
 intro X C l c K h;have R:Snd E T k n:=snd n;unfold cS at h;split at h
 · rename_i c2 hx;cases h;unfold yS at hx;split at hx
   · split at hx
     · rename_i hc;obtain ⟨c1,c2⟩:=Bool.and_eq_true_iff.mp hc;obtain ⟨l1,l2⟩:=K.loc c1;obtain ⟨i,h1,hx⟩:=bnd hx;obtain ⟨v',h2,hx⟩:=bnd hx;cases hx;exact HZ (R.e X C _ _ v' K h2) (CF (by rw [K.N]; exact K.nd) (by rw [K.N]; exact dH h1) l1 l2) (HF K c2) rfl rfl
     · cases hx
   · split at hx
     · rename_i y hy;split at hx
       · rename_i hc;simp only [Bool.and_eq_true,Bool.not_eq_true'] at hc;obtain ⟨⟨⟨⟨hz,hg⟩,hp⟩,hs⟩,hcm⟩:=hc;obtain ⟨e',h1,hx⟩:=bnd hx;cases hx;exact aHj K hz (K.cm hcm) (K.gf.xc _ (aZ hy)) hg hp hs (R.e X C false _ e' K h1)
       · cases hx
     · cases hx
   · cases hx
 split at h
 · split at h
   · cases h; exact aIH
   · split at h
     · cases h
     · rename_i hc;obtain ⟨e',h1,h⟩:=bnd h;cases h;exact aMj (R.e X C false _ e' K h1) (rR (by simpa using hc))
 · cases h; exact aDT
 · split at h
   · split at h
     · rename_i hc;simp only [Bool.and_eq_true] at hc;obtain ⟨⟨⟨htr,hhs⟩,hlm⟩,hcl⟩:=hc;obtain ⟨j,h2,h⟩:=bnd h;obtain ⟨b',h3,h⟩:=bnd h;obtain ⟨h',h4,h⟩:=bnd h;cases h;exact aHn S0 K htr hhs h2 hlm hcl h3 h4
     · cases h
   · cases h
 · cases h; exact aH0
 · split at h
   · cases h; exact aBA
   · obtain ⟨e',h1,h⟩:=bnd h;cases h;exact aGj (R.e X C C.rm _ e' K h1)
 · obtain ⟨c',h1,h⟩:=bnd h;obtain ⟨a',h2,h⟩:=bnd h;obtain ⟨b',h3,h⟩:=bnd h;cases h;exact aJH (R.t X C _ c' K h1) (S.ss X C _ a' K h2) (S.ss X C _ b' K h3)
 · split at h
   · obtain ⟨c',h1,h⟩:=bnd h;cases h;refine aJx K.ps (R.t X C _ c' K h1) ?_;cases h2:cSs n C _ with
     | none=>exact aDu
     | some b'=>exact S.ss X C _ b' K h2
   · cases h
 · split at h
   · split at h
     · cases h
     · rename_i hs;obtain ⟨hs,hcm⟩:=or2 hs;have hcm:C.cm=true:=by simpa using hcm
       obtain ⟨i',h1,h⟩:=bnd h;obtain ⟨g',h2,h⟩:=bnd h;obtain ⟨b',h3,h⟩:=bnd h;cases h;exact aHc K.pl (Nat.le_succ_of_le (K.cm hcm)) K.ps (R.i X C _ _ i' K h1) (R.g X C _ g' K h2) (S.ss X C _ b' K h3) (rX (by simpa using hs))
   · cases h
 · split at h
   · split at h
     · rename_i hl;obtain ⟨i,h1,h⟩:=bnd h;obtain ⟨l1,l2⟩:=K.loc hl;split at h
       · split at h
         · split at h
           · rename_i hc;rw [Bool.and_eq_true,Bool.and_eq_true,Bool.and_eq_true,Bool.and_eq_true] at hc;obtain ⟨⟨⟨⟨c1,c2⟩,c3⟩,c4⟩,c5⟩:=hc;obtain ⟨it',g1,h⟩:=bnd h;obtain ⟨tg',g2,h⟩:=bnd h;obtain ⟨ts',g3,h⟩:=bnd h;obtain ⟨el',g4,h⟩:=bnd h;cases h;obtain ⟨cl,B,KB⟩:=K.block c1;refine aCB B K.pl (Nat.le_succ_of_le (K.cm (aAN c1))) (by rw [K.N]; exact K.nd) (by rw [K.N]; exact dH h1) (by rw [K.nm]; exact beq_iff_eq.mp c3) (R.i X C _ _ it' K g1) (fun C0 s₀ H₀ ex=>R.g _ _ _ tg' (KB C0 s₀ H₀ ex) g2) (fun C0 s₀ H₀ ex=>R.ts _ _ _ ts' (KB C0 s₀ H₀ ex) g3) (fun C0 s₀ H₀ ex=>R.e _ _ false _ el' (KB C0 s₀ H₀ ex) g4) ?_ (rX (by simpa using c2));exact LB K c3 c4 c5
           · cases h
         · cases h
       · split at h
         · cases h
         · rename_i hc;obtain ⟨v',h2,h⟩:=bnd h;cases h;exact HZ (R.e X C _ _ v' K h2) (CF (by rw [K.N]; exact K.nd) (by rw [K.N]; exact dH h1) l1 l2) (nG (by simpa using hc)) rfl rfl
     · cases h
   · split at h
     · cases h
     · rename_i hc;obtain ⟨o',h1,h⟩:=bnd h;obtain ⟨v',h2,h⟩:=bnd h;cases h;exact aG2 K.pl (R.e X C _ _ o' K h1) (R.e X C _ _ v' K h2) (rR (by simpa using hc))
   · split at h
     · cases h
     · rename_i hc;obtain ⟨hc1,hc2⟩:=or2 hc;obtain ⟨o',h1,h⟩:=bnd h;obtain ⟨i',h2,h⟩:=bnd h;obtain ⟨v',h3,h⟩:=bnd h;cases h;exact aGH (R.e X C _ _ v' K h3) (R.e X C _ _ o' K h1) (R.e X C _ _ i' K h2) (aCC hc2) (nG hc1) rfl
   · split at h
     · split at h
       · split at h
         · rename_i hc;simp only [Bool.and_eq_true,Bool.not_eq_true',beq_iff_eq,bne_iff_ne,ne_eq] at hc;obtain ⟨⟨⟨⟨⟨⟨⟨c1,c2⟩,c3⟩,c4⟩,c5⟩,c6⟩,c7⟩,hcm⟩:=hc;obtain ⟨i,g1,h⟩:=bnd h;obtain ⟨j,g2,h⟩:=bnd h;obtain ⟨a',g3,h⟩:=bnd h;obtain ⟨b',g4,h⟩:=bnd h;cases h;have ij:i≠j:=fun e=>by
             subst e;have a1:=dH g1;have a2:=dH g2;rw [a1] at a2;exact c4 (Option.some.inj a2)
           exact aIE K.pl (Nat.le_succ_of_le (K.cm hcm)) (by rw [K.N]; exact K.nd) (by rw [K.N]; exact dH g1) (by rw [K.N]; exact dH g2) ij (by rw [K.nm]; exact c1) (by rw [K.nm]; exact c2) (R.e X C _ _ a' K g3) (R.e X C _ _ b' K g4) (aQ c5) (aQ c6) (aID K c1 c2 c3 c4 c5 c6 (by have hf:= ‹aD9 _=true›; unfold aD9 at hf; exact Bool.not_eq_true' _▸hf) c7) rfl
         · cases h
       · cases h
     · rename_i hf;split at h
       · cases h
       · rename_i hc;obtain ⟨v',h1,h⟩:=bnd h;obtain ⟨g',h2,h⟩:=bnd h;cases h;exact HZ (R.e X C _ _ v' K h1) (R.g X C _ g' K h2) (nG (by simpa using hc)) (aIP hf) rfl
   · cases h
 · cases h
theorem sns:∀ n k E T,Sns E T k n
 | 0,_,_,_=>⟨(fun X C s c K h=>by unfold cS at h; cases h),(fun X C s c K h=>by unfold cSs at h; cases h)⟩
 | n + 1,k,E,T=>⟨aLx (sns n) (sns n k E T),aHw (sns n k E T)⟩
end
structure bB (K:W.Frag) (x qual:Str) (st:Stmt) (dV:Value) (f:Addr) (fd:FuncData):Prop where
 ex :∃ (oc:Value) (od:Option Addr) (kV doc pm:Value) (an:Option Addr) (cdv ct:Value) (osl:Array (Option Value)),
   fd=W.fnOf x qual (gX st) (aF st) (aB st) dV kV doc pm an cdv ct∧K.lookup f=some ⟨oc,od,.func fd,osl⟩∧W.codeIn K cdv qual=true
 kp:W.keepIn K (.ref f)=true
noncomputable def Wk (Q:PK1):PK1:=fun x G=>∃ G2:Gh,(∀ a o,G2 a=some o→G a=some o)∧(Q x G2∨∃ p xs,x= .ref p∧G2 p=none∧G p=some (.lst xs)∧Q (.lst xs) G2)
theorem Wk.here {Q:PK1} {x:PV} {G:Gh} (q:Q x G):Wk Q x G:=⟨G,fun _ _ z=>z,.inl q⟩
theorem Wk.of {Q:PK1} {x:PV} {G G2:Gh} (q:Q x G2) (h:∀ a o,G2 a=some o→G a=some o):Wk Q x G:=⟨G2,h,.inl q⟩
theorem AQ {E:Ev} {F Z Z1 H1:Hp} {G1:Gh} {Q':PK1} {Q:VK} {y:PV} {v:V} (kq:Kq E F Z Q' Q) (s1:aN Z Z1) (S1:Sim E F H1 Z1 G1) (r1:RP E Z1 y v) (w:Wk Q' y G1):Q v H1:=by
 obtain ⟨G2,hG,q1 | ⟨p,xs,e,n,hp,q1⟩⟩:=w
 · exact kq _ _ _ _ _ s1 (S1.weak hG) r1 q1
 · subst e;have e:v= .ref p:=r1;subst e;obtain ⟨z,o',ho,vs,e,t⟩:=S1.g _ _ hp;subst e;refine kq _ _ _ _ _ (s1.trans (aT z _)) ((S1.frz hp ho).weak fun a o q=>?_) (hJ z t) q1;by_cases ea:a=p
   · subst ea; rw [n] at q; cases q
   · rw [AS ea]; exact hG a o q
noncomputable def aP (Q:PK1):gO:=⟨fun _ G=>Wk Q .non G,Wk Q,fun _ _=>False,fun _ _=>False⟩
structure aR (st:Stmt) (ps:List Str) (C:Cfg):Prop where
 sc:fP C.N ps (aB st)
 nm:(aB st).names=C.names
 bk:C.blk=false
structure Ck (K:W.Frag) (E:Ev) (T:Tb):Prop where
 hK:E.K=K
 cls:aAl E T.cs
 fld:∀ c f,(c,f)∈T.fl→Cls K (E.cls c)∧eO K (E.cls c) f
structure Xo (K:W.Frag) (mg:Str→Option Value) (E:Ev) (T:Tb):Prop where
 xi:∀ c n r,(c,n,r)∈T.xi→XAt K (E.cls c)∧((∃ a,mg n=some (.ref a)∧W.kitOne K (.ref (E.cls c)) (.ref a)=some r)∨∃ t,mg n=none∧bootBuiltins n=some (.type t)∧n≠"__name__"∧W.kitOne K (.ref (E.cls c)) (.type t)=some r)
 fx:∀ c f,(c,f)∈T.fx→XAt K (E.cls c)∧W.findIn K (.ref (E.cls c)) f=some none
theorem Tf.no {P:Program} {w:World} {K:W.Frag} {mg:Str→Option Value} {base:Heap} {E:Ev} {T:Tb} {k:Nat} {C:Cfg} (h:C.tr=false):Tf P w K mg base E T k C:=⟨(fun z=>by rw [h] at z; cases z),(fun z=>by rw [h] at z; cases z),(fun z=>by rw [h] at z; cases z)⟩
theorem bG {P:Program} {w:World} {K:W.Frag} {mg:Str→Option Value} {base:Heap} {E:Ev} {T:Tb} {k n:Nat} {C:Cfg} {x qual:Str} {st:Stmt} {dV:Value} {f:Addr} {fd:FuncData} {ps:List Str} {sp:Sp3} {code:CS}
   (F:bB K x qual st dV f fd) (D:aR st ps C) (ck:Ck K E T) (gf:Gf P w K mg base E T k C) (hc:cSs n C (aF st)=some code) (xo:Xo K mg E T) (tf:Tf P w K mg base E T k C) (hz:C.rz=false) (hcm:C.cm=true→40≤k) (hrp:C.rp=true→79≤k)
   (len:∀ xs G Q,sp xs G Q→xs.length=ps.length) (hw:∀ xs G Q,sp xs G Q→wpS T code (aP Q) (aC C.N.length xs) G):bC P w K mg base CX0 (k + 2) f fd ps (gE E sp):=by
 obtain ⟨oc,od,kV,doc,pm,an,cdv,ct,osl,e,lk,hcd⟩:=F.ex;subst e;refine aAA lk hcd D.sc (by rintro vs H Q E' ⟨xs,Z,G,F',Q',r,S,q,kq⟩;rw [←r.length]; exact len xs G Q' q) fun A outer s H vs Q E' hr hsp=>?_;obtain ⟨xs,Z,G,F',Q',r,S,q,kq⟩:=hsp;have kn:Kn (sB CX0 P w K mg base C.N qual (aB st) f cdv A outer s H E').nox E T k C:=by
   refine ⟨⟨ck.hK,(fun z=>Option.isNone_iff_eq_none.mpr (hr.hd z)),hr,ck.cls,ck.fld⟩,rfl,D.sc.nd,D.nm,D.sc.kind,fun _ _=>rfl,fun y hy=>?_,PassesOwn.never,gf,fun _=>⟨rfl,rfl⟩,(fun z=>by rw [hz] at z; cases z),⟨xo.xi,xo.fx⟩,hcm,(fun z=>hr.gd (Nat.succ_le_succ (hrp z))),tf⟩;exact oK (n:=s.heap.objs.size + 1) (by rw [D.nm]; exact hy)
 have js:=(sns n k E T).ss _ C _ code kn hc F';refine ⟨_,js.nox,aC C.N.length xs,Z,G,aP Q',RSt.start r,S,hw xs G Q' q,⟨?_, ?_, ?_, ?_⟩⟩
 · rintro σ1 σ2 Z1 G1 H1 s1 S1 rs1 w;exact AQ kq s1 S1 rG w
 · rintro y v Z1 G1 H1 s1 S1 r1 w;exact AQ kq s1 S1 r1 w
 · rintro σ1 σ2 Z1 G1 H1 s1 S1 rs1 z; exact z
 · rintro σ1 σ2 Z1 G1 H1 s1 S1 rs1 z; exact z
theorem iZ {P:Program} {w:World} {K:W.Frag} {mg:Str→Option Value} {base:Heap} {E:Ev} {T:Tb} {k n:Nat} {C:Cfg} {x0 qual:Str} {st:Stmt} {dV:Value} {f:Addr} {fd:FuncData} {ps:List Str} {sp:Sp3} {spx:SpX} {code:CS}
   (F:bB K x0 qual st dV f fd) (D:aR st ps C) (ck:Ck K E T) (gf:∀ x f z,Gf P w K mg base (E.at f z) (T.at x) k C) (hc:cSs n C (aF st)=some code) (xo:Xo K mg E T) (tf:C.tr=false) (hcm:C.cm=true→40≤k) (hrp:C.rp=true→79≤k)
   (len:∀ xs G Q,sp xs G Q→xs.length=ps.length) (lenx:∀ xs G x,spx xs G x→xs.length=ps.length)
   (hw:∀ x xs G Q,sp xs G Q∨spx xs G x→wpS (T.at (WkX x)) code (aP Q) (aC C.N.length xs) G):bC P w K mg base (CXo P w) (k + 2) f fd ps (sM E sp spx):=by
 obtain ⟨oc,od,kV,doc,pm,an,cdv,ct,osl,e,lk,hcd⟩:=F.ex;subst e;refine aIp lk hcd D.sc (by
   rintro vs H Q E' ⟨xs,Z,G,F',r,S,q⟩;rw [←r.length];rcases q with ⟨Q',q,_⟩ | ⟨x,q,_⟩
   · exact len xs G Q' q
   · exact lenx xs G x q) fun A outer s H vs Q E' hr ⟨xs,Z,G,F',r,S,q⟩=>?_
 have q:∃ (x:PX) (Q':PK1),(sp xs G Q'∨spx xs G x)∧Kq E F' Z Q' Q∧KX E F' Z x E':=by
   rcases q with ⟨Q',q,kq⟩ | ⟨x,q,kx⟩
   · exact ⟨fun _ _ _ _=>False,Q',.inl q,kq,KX.no⟩
   · exact ⟨x,fun _ _=>False,.inr q,fun _ _ _ _ _ _ _ _ z=>z.elim,kx⟩
 obtain ⟨x,Q',q,kq,kx⟩:=q;have ow:Own (sB (CXo P w) P w K mg base C.N qual (aB st) f cdv A outer s H E'):=ZF;have kn:Kn ((sB (CXo P w) P w K mg base C.N qual (aB st) f cdv A outer s H E').wish (xeO (sB (CXo P w) P w K mg base C.N qual (aB st) f cdv A outer s H E') E')) (E.at F' Z) (T.at (WkX x)) k C:=by
   refine ⟨⟨ck.hK,(fun z=>Option.isNone_iff_eq_none.mpr (hr.hd z)),hr,⟨ck.cls.own,ck.cls.plain,ck.cls.other,ck.cls.apart⟩,ck.fld⟩,rfl,D.sc.nd,D.nm,D.sc.kind,fun _ _=>rfl,fun y hy=>?_,aKs ow,gf _ _ _,fun _=>⟨rfl,rfl⟩,(fun _=>⟨E',by rintro e s' ⟨a,C0,d,σ1,H1,ee,J,x1,q⟩;exact ⟨a,C0,d,σ1,H1,ee,J.unwish,x1,q⟩, ?_⟩),⟨xo.xi,xo.fx⟩,hcm,(fun z=>hr.gd (Nat.succ_le_succ (hrp z))),Tf.no tf⟩
   · exact oK (n:=s.heap.objs.size + 1) (by rw [D.nm]; exact hy)
   · intro c ns ys d us Z1 G1 H1 s1 S1 l r hd hn q;exact kx.wk c ns ys d us Z1 G1 H1 s1 (S.un (F1:=F') S1) l r.un hd hn q
 have js:=(sns n k (E.at F' Z) (T.at (WkX x))).ss _ C _ code kn hc F';refine ⟨_,js,aC C.N.length xs,Z,G,aP Q',RSt.start r.at,S.at,hw x xs G Q' q,⟨?_, ?_, ?_, ?_⟩⟩
 · rintro σ1 σ2 Z1 G1 H1 s1 S1 rs1 w;exact AQ kq s1 (S.un (F1:=F') S1) rG w
 · rintro y v Z1 G1 H1 s1 S1 r1 w;exact AQ kq s1 (S.un (F1:=F') S1) r1.un w
 · rintro σ1 σ2 Z1 G1 H1 s1 S1 rs1 z; exact z
 · rintro σ1 σ2 Z1 G1 H1 s1 S1 rs1 z; exact z
theorem pT {E:Ev} {sp sp':Sp3} (h:∀ xs G Q,sp xs G Q→sp' xs G Q) {vs:List V} {H:Hp} {Q:VK} {X:XK}:gE E sp vs H Q X→gE E sp' vs H Q X:=by rintro ⟨xs,Z,G,F,Q',r,S,q,kq⟩;exact ⟨xs,Z,G,F,Q',r,S,h _ _ _ q,kq⟩
def xNo:SpX:=fun _ _ _=>False
theorem vP {P:Program} {w:World} {K:W.Frag} {mg:Str→Option Value} {base:Heap} {k:Nat} {C f:Addr} {Bn fld self arg name qual:Str} {st:Stmt} {dV:Value} {fd:FuncData} {p1 p2 p3 p4 p5 p6 q1 q2 q3 q4:Pos} {j:Nat} {t:Str} (F:bB K name qual st dV f fd) (D:XIn K mg C f Bn fld)
   (S:fP [self,arg] [self,arg] (aB st)) (hbd:aF st=[.Expr (.Call (.Attribute (.Name Bn p1) "__init__" p2) [.Name self p3,.Constant (.str t) j p4] [] p5) p6,.Assign [.Attribute (.Name self q1) fld q2] (.Name arg q3) q4]) (hline:(p2.endLine == p5.line)=true)
   (hsc:(aB st).names.lookup self=some .local∧(aB st).names.lookup arg=some .local∧(aB st).names.lookup Bn=some .globalImplicit)
   (hnm:(self == ("__debug__":Str))=false∧(self == ("__classdict__":Str))=false∧(arg == ("__debug__":Str))=false∧(arg == ("__classdict__":Str))=false∧(Bn == ("__debug__":Str))=false) :
   bC P w K mg base CX0 (k + 1) f fd [self,arg] (spI C fld):=by
 obtain ⟨oc,od,kV,doc,pm,an,cdv,ct,osl,e,lk,hcd⟩:=F.ex;subst e;exact aDC D hline lk hcd S hbd hsc hnm
def BB:Sp3:=fun xs G Q=>∃ ns:List Int,xs=[.scr ns]∧ns.length≤63∧∀ G',Q (.bl true) G'
noncomputable def NX (K:W.Frag):Sp:=fun vs H Q _=>∃ (p:Addr) (ns:List Int),vs=[.ref p]∧SqL K H p (ns.map V.int)∧ns.length≤63∧∀ H',Q (.bl true) H'
theorem aIk {E:Ev} {vs:List V} {H:Hp} {Q:VK} {X:XK} (h0:aN E.z0 H) (hf:aN E.f0 fun _=>none) (h:NX E.K vs H Q X):gE E BB vs H Q X:=by
 obtain ⟨p,ns,e,hS,hl,q⟩:=h;subst e;refine ⟨[.scr ns],H,fun _=>none,fun _=>none,fun x _=>x= .bl true,⟨.ref p,[],rfl,⟨p,rfl,hS⟩,rfl⟩,⟨aN.refl H,(fun a o z=>nomatch z),(fun a o z=>nomatch z),h0,hf⟩,⟨ns,rfl,hl,fun _=>rfl⟩, ?_⟩;intro x v Z1 G1 H1 s1 S1 r1 e;subst e;have e:v= .bl true:=r1;subst e;exact q H1
theorem SX {K:W.Frag} {H:Hp} {a:Addr} {ns:List Int} (hl:ns.length≤63) (_:ZA H) (h:SqL K H a (ns.map V.int)):NX K [.ref a] H (fun v _=>v= .bl true) fun _ _ _=>False:=⟨a,ns,rfl,h,hl,fun _=>rfl⟩
theorem aBQ {K:W.Frag} {x qual:Str} {st:Stmt} {f:Addr} {oc:Value} {od an:Option Addr} {osl:Array (Option Value)} {dV kV doc pm cdv ct:Value} (l:K.lookup f=some ⟨oc,od,.func (W.fnOf x qual (gX st) (aF st) (aB st) dV kV doc pm an cdv ct),osl⟩)
   (c:W.codeIn K cdv qual=true) (k:W.keepIn K (.ref f)=true):bB K x qual st dV f (W.fnOf x qual (gX st) (aF st) (aB st) dV kV doc pm an cdv ct):=⟨⟨oc,od,kV,doc,pm,an,cdv,ct,osl,rfl,l,c⟩,k⟩
theorem bB.binds {K:W.Frag} {x qual:Str} {st:Stmt} {dV:Value} {f:Addr} {fd:FuncData} {ps:List Str} (F:bB K x qual st dV f fd)
   (h:∀ (kV doc pm:Value) (an:Option Addr) (cdv ct:Value) (s:Shared) (us:List Value),K.In s.heap→us.length=ps.length→BindsTo s (W.fnOf x qual (gX st) (aF st) (aB st) dV kV doc pm an cdv ct) ⟨us,[]⟩ (ps.zip us)):L2.aJ K fd ps []:=by
 obtain ⟨oc,od,kV,doc,pm,an,cdv,ct,osl,rfl,lk,hcd⟩:=F.ex;intro s us hK hl;rw [List.append_nil] at hl ⊢;exact h kV doc pm an cdv ct s us hK hl
theorem bB.sh {K:W.Frag} {x qual:Str} {st:Stmt} {dV:Value} {f:Addr} {fd:FuncData} {ps:List Str} {n:Nat} {ks:List Str} {ar:List Ar} (F:bB K x qual st dV f fd) (hl:ar.length=ps.length)
   (h:∀ (kV doc pm:Value) (an:Option Addr) (cdv ct:Value) (s:Shared) (us ws:List Value),K.In s.heap→us.length=n→ws.length=ks.length→∃ bs,BindsTo s (W.fnOf x qual (gX st) (aF st) (aB st) dV kV doc pm an cdv ct) ⟨us,ks.zip ws⟩ (ps.zip bs)∧∀ vs zs,aM vs us→aM zs ws→aM (ar.map (Ar.valV (vs ++ zs))) bs):mE K fd ps n ks ar:=by
 obtain ⟨oc,od,kV,doc,pm,an,cdv,ct,osl,rfl,lk,hcd⟩:=F.ex;exact ⟨hl,h kV doc pm an cdv ct⟩
theorem ac {α:Type} {P:α→Prop} {x:α} {l:List α} (h:P x) (t:∀ y∈l,P y):∀ y∈x :: l,P y:=List.forall_mem_cons.mpr ⟨h,t⟩
theorem an {α:Type} {P:α→Prop}:∀ y∈([]:List α),P y:=fun _ h=>nomatch h
theorem AI {E:Ev} {mg:Str→Option Value} {x:Str} {c:String} {a:Addr} (h:mg x=some (.ref a)) (e:E.cls c=a):∃ u v,mg x=some u∧aO v u∧RP E (fun _=>none) (.cl c) v:=⟨_,.ref a,h,rfl,by rw [←e]; rfl⟩
theorem CM {E:Ev} {K:W.Frag} {mg:Str→Option Value} {x:Str} {a:Addr} {i j:Int} {t u:Tok} {n:Nat} {sl:Array (Option Value)} (hK:E.K=K) (h:mg x=some (.ref a)) (l:K.lookup a=some ⟨.type "tuple",none,.seq #[.int i t,.int j u] n,sl⟩):∃ u v,mg x=some u∧aO v u∧RP E (fun _=>none) (.tup [.int i,.int j]) v :=
 ⟨_,.ref a,h,rfl,a,[.int i,.int j],rfl,.inr ⟨_,_,_,by rw [hK]; exact l,rfl,rfl,by show 2≤sizeLine; decide,.cons ⟨t,rfl⟩ (.cons ⟨u,rfl⟩ .nil),rfl⟩,_,_,rfl,rfl,_,_,rfl,rfl,rfl⟩
theorem CP {E:Ev} {mg:Str→Option Value} {x:Str} {y z:PV} (h:∃ u v,mg x=some u∧aO v u∧RP E (fun _=>none) y v) (e:z=y):∃ u v,mg x=some u∧aO v u∧RP E (fun _=>none) z v:=e▸h
def iO (K:W.Frag) (a:Addr) (ns:List Int):Prop:= ∃ us n sl,K.lookup a=some ⟨.type "tuple",none,.seq us.toArray n,sl⟩∧aM (ns.map V.int) us
theorem iO.rp {E:Ev} {K:W.Frag} {a:Addr} {ns:List Int} (hK:E.K=K) (h:iO K a ns) (hz:(ns.map V.int).length≤sizeLine):RP E (fun _=>none) (.tup (ns.map PV.int)) (.ref a):=by
 obtain ⟨us,n,sl,l,r⟩:=h;exact ⟨a,ns.map V.int,rfl,.inr ⟨_,_,_,by rw [hK]; exact l,rfl,rfl,by show us.length≤sizeLine; rw [←r.length]; exact hz,r,rfl⟩,RPs.ofInts ns⟩
theorem NO {E:Ev} {K:W.Frag} {mg:Str→Option Value} {x:Str} {a:Addr} {xs:List PV} {us:List Value} {vs:List V} {n:Nat} {sl:Array (Option Value)} (hK:E.K=K) (h:mg x=some (.ref a)) (l:K.lookup a=some ⟨.type "tuple",none,.seq us.toArray n,sl⟩) (r:aM vs us) (hz:vs.length≤sizeLine)
   (rp:RPs E (fun _=>none) xs vs):∃ u v,mg x=some u∧aO v u∧RP E (fun _=>none) (.tup xs) v:=⟨_,.ref a,h,rfl,a,vs,rfl,.inr ⟨_,_,_,by rw [hK]; exact l,rfl,rfl,by show us.length≤sizeLine; rw [←r.length]; exact hz,r,rfl⟩,rp⟩
end L3
namespace L3
open PySem PySem.W PyProof.Rows
theorem aKa {p q:Program} {loose:List Str} {Xt:Shared→Bool} {α:Type} {Yf:Shared→α} {Ya:World→α} {N:Nat} {g0:Bool} {H₀:Params→Heap} {gs₀:Array GenState} {d₀:Drawn} {k₀ m₀:Nat} {ann:Option Value} {M:Nat}
   (open_:∀ w:World,(fencedOpening treeTable p w N).map (fun s=>(s.heap,s.gens,s.drawn,s.toks))=some (H₀ w.params,gs₀,d₀,k₀))
   (size:∀ w:World,((H₀ w.params).isNs mainGlobals && gs₀.size == 0,(H₀ w.params).objs.size,(H₀ w.params).nsMap mainGlobals "__annotations__")=(true,m₀,ann)) (le:Nat.ble M N=true)
   (run:∀ (w:World) (os:OsState),∃ s₁,topRun treeTable p w m₀ ann M ⟨H₀ w.params,gs₀,d₀,k₀,os⟩ (topStub p)=some s₁∧
     (staticsOk (importedModules p.main.body) (H₀ w.params) s₁.heap && namesBound p s₁.heap && gensDone s₁ && laidKept (H₀ w.params) s₁.heap,openSeen q loose (importedModules p.main.body) Xt g0 s₁,Yf s₁)=(true,openGood q loose,Ya w)):LeftO p q loose Xt Yf Ya N g0:=fun w=>by
 obtain ⟨⟨h,gs,d,k,os⟩,e,e'⟩:=Option.map_eq_some_iff.mp (open_ w);obtain ⟨rfl,rfl,rfl,rfl⟩:h=H₀ w.params∧gs=gs₀∧d=d₀∧k=k₀:=by simpa using e'
 obtain ⟨z1,z2,z3⟩:_∧_∧_:=by simpa only [Prod.mk.injEq] using size w
 obtain ⟨s₁,r,l⟩:=run w os;obtain ⟨l1,l2,l3⟩:_∧_∧_:=by simpa only [Prod.mk.injEq] using l
 have r:=topRun_mono (N - M) _ _ _ _ r;rw [show M + (N - M)=N by have:=Nat.le_of_ble_eq_true le; omega] at r;have t:topFrom treeTable p w N ⟨H₀ w.params,gs,d,k,os⟩=some s₁:=by
   unfold topFrom;dsimp only;rw [z1,z2,z3,r];show (match staticsOk (importedModules p.main.body) (H₀ w.params) s₁.heap && namesBound p s₁.heap && gensDone s₁ && laidKept (H₀ w.params) s₁.heap with | true=>_ | false=>_)=_;rw [l1]
 unfold openEnds;rw [e];show (topFrom treeTable p w N _).map _=_;rw [t];exact congrArg some (Prod.ext l2 l3)
noncomputable def aKv (o:Option (Shared×Thread)) (s:Shared):Shared:=match o with | some x=>x.1 | none=>s
noncomputable def aKH (o:Option (Flow×Shared×Code×Pos)) (s:Shared):Shared:=match o with | some x=>x.2.1 | none=>s
end L3
namespace L3
open PySem PySem.Spec
open PyProof.Rows hiding St
open L2
section
variable {G:Gh} {Q:PK1} {x y:PV} {i j:Int} {s:Str} {b c:Bool} {a:Addr}
theorem gB {C:Int→Int→Prop} {g:Int→Int→PV}:pI C g (.int i) (.int j) G Q=(C i j∧Q (g i j) G):=rfl
theorem gN:DO .Add=xB:=rfl
theorem pL:DO .Sub=pI (fun _ _=>True) fun i j=>.int (i - j):=rfl
theorem kX:DO .Mult (.int i) (.int j) G Q=(zB i j∧Q (.int (i * j)) G):=rfl
theorem iQ:DO .FloorDiv=pI mJ fun i j=>.int (i / j):=rfl
theorem iT:DO .Mod=pI XZ fun i j=>.int (i % j):=rfl
theorem FR:DO .Pow=pI VN fun i j=>.int (i ^ j.toNat):=rfl
theorem iH:xB (.int i) (.int j) G Q=Q (.int (i + j)) G:=rfl
theorem aKR {t:Str}:xB (.str s) (.str t) G Q=(s.length + t.length≤sizeLine∧Q (.str (s ++ t)) G):=rfl
theorem wK {xs ys:List PV}:xB (.lst xs) (.lst ys) G Q=(xs.length + ys.length≤sizeLine∧Q (.lst (xs ++ ys)) G):=by
 show (∃ xs' ys',some xs=some xs'∧some ys=some ys'∧_)=_;exact propext ⟨by rintro ⟨_,_,e1,e2,h⟩;cases e1; cases e2; exact h,fun h=>⟨_,_,rfl,rfl,h⟩⟩
theorem aKJ {xs ys:List PV}:xB (.tup xs) (.tup ys) G Q=(xs.length + ys.length≤sizeLine∧Q (.tup (xs ++ ys)) G):=rfl
theorem BY:nK .Lt=pI (fun _ _=>True) fun i j=>.bl (decide (i < j)):=rfl
theorem aBl:nK .LtE=pI (fun _ _=>True) fun i j=>.bl (decide (i≤j)):=rfl
theorem OD:nK .Gt=pI (fun _ _=>True) fun i j=>.bl (decide (j < i)):=rfl
theorem tK:nK .GtE=pI (fun _ _=>True) fun i j=>.bl (decide (j≤i)):=rfl
theorem cQ:nK .Eq=pEq false:=rfl
theorem AB:nK .NotEq=pEq true:=rfl
theorem tL:nK .Is=pIs false:=rfl
theorem aKk:nK .IsNot=pIs true:=rfl
theorem dM:pEq false (.int i) (.int j) G Q=Q (.bl (decide (i=j))) G:=by
 show (true=true∧true=true∧Q (.bl (i == j)) G)=_;simp only [true_and]; congr 2
theorem vR:pEq true (.int i) (.int j) G Q=Q (.bl (!decide (i=j))) G:=by
 show (true=true∧true=true∧Q (.bl (!(i == j))) G)=_;simp only [true_and]; congr 2
theorem eG {R:Bool→Gh→Prop}:xU (.bl b) G R=R b G:=rfl
theorem UE {R:Bool→Gh→Prop}:xU .non G R=R false G:=rfl
theorem aKN {R:Bool→Gh→Prop} {xs:List PV}:xU (.tup xs) G R=R (!xs.isEmpty) G:=rfl
theorem UL:aGL (.int i) G Q=Q (.int (-i)) G:=rfl
theorem wE:pIs false .non .non G Q=Q (.bl true) G:=propext ⟨fun h=>h.elim (fun z=>z.2) (fun z=>absurd rfl z.1),fun h=>.inl ⟨rfl,h⟩⟩
theorem tI (h:x≠.non):pIs false x .non G Q=Q (.bl false) G:=propext ⟨fun z=>z.elim (fun z=>absurd z.1 h) (fun z=>z.2),fun q=>.inr ⟨h,q⟩⟩
theorem dO {xs:List PV}:rY (.tup xs) (.int i) G Q=(∃ v,atI xs i=some v∧Q v G):=rfl
theorem XG {ns:List Int}:rY (.scr ns) (.int i) G Q=(∃ n,atI ns i=some n∧Q (.int n) G):=rfl
theorem fY {xs:List PV}:rY (.lst xs) (.int i) G Q=(∃ v,atI xs i=some v∧Q v G):=by
 show (∃ ys v,some xs=some ys∧_)=_;exact propext ⟨by rintro ⟨_,v,e1,h⟩;cases e1; exact ⟨v,h⟩,by rintro ⟨v,h⟩;exact ⟨_,v,rfl,h⟩⟩
theorem rV {xs:List PV} (h:G a=some (.lst xs)):bQ G (.ref a)=some xs:=by unfold bQ; dsimp only; rw [h]
theorem QL {xs:List PV}:bQ G (.lst xs)=some xs:=rfl
theorem uX {xs:List PV} (h:G a=some (.lst xs)):rY (.ref a) (.int i) G Q=(∃ v,atI xs i=some v∧Q v G):=by
 show (∃ ys v,bQ G (.ref a)=some ys∧_)=_;rw [rV h];exact propext ⟨by rintro ⟨_,v,e1,h⟩;cases e1; exact ⟨v,h⟩,by rintro ⟨v,h⟩;exact ⟨_,v,rfl,h⟩⟩
theorem nQ {xs:List PV}:rY (.ref a) (.int i) (gup G a (.lst xs)) Q=(∃ v,atI xs i=some v∧Q v (gup G a (.lst xs))):=uX aS
theorem gJ {xs:List PV} {v:PV} {R:Gh→Prop} (h:G a=some (.lst xs)):aBZ (.ref a) (.int i) v G R=(∃ j,ixN xs.length i=some j∧R (gup G a (.lst (xs.set j v)))):=propext
 ⟨by rintro ⟨_,_,_,j,e1,e2,e3,e4,r⟩;cases e1; cases e2; rw [h] at e3; cases e3; exact ⟨j,e4,r⟩,by rintro ⟨j,e4,r⟩;exact ⟨_,_,_,j,rfl,rfl,h,e4,r⟩⟩
theorem TR {xs:List PV} {v:PV} {R:Gh→Prop}:aBZ (.ref a) (.int i) v (gup G a (.lst xs)) R=(∃ j,ixN xs.length i=some j∧R (gup G a (.lst (xs.set j v)))):=by
 rw [gJ aS]; simp only [tN]
variable {cs:List String}
theorem GV {xs:List PV}:eD cs .len [.tup xs] G Q=Q (.int xs.length) G:=by
 refine propext ⟨fun h=>?_,fun q=>.inl ⟨_,rfl,q⟩⟩;rcases h with ⟨ys,e,q⟩ | ⟨ys,e,q⟩ | ⟨z,e,_⟩ | ⟨ys,e,q⟩
 · cases e; exact q
 · cases e
 · cases e
 · cases e
theorem EG {xs:List Int}:eD cs .len [.scr xs] G Q=Q (.int xs.length) G:=by
 refine propext ⟨fun h=>?_,fun q=>.inr (.inl ⟨_,rfl,q⟩)⟩;rcases h with ⟨ys,e,q⟩ | ⟨ys,e,q⟩ | ⟨z,e,_⟩ | ⟨ys,e,q⟩
 · cases e
 · cases e; exact q
 · cases e
 · cases e
theorem FP {xs:List PV}:eD cs .len [.lst xs] G Q=Q (.int xs.length) G:=by
 refine propext ⟨fun h=>?_,fun q=>.inr (.inr (.inr ⟨_,rfl,q⟩))⟩;rcases h with ⟨ys,e,q⟩ | ⟨ys,e,q⟩ | ⟨z,e,_⟩ | ⟨ys,e,q⟩
 · cases e
 · cases e
 · cases e
 · cases e; exact q
theorem uZ:eD cs .abs [.int i] G Q=Q (.int (i.natAbs:Int)) G:=rfl
theorem GL:eD cs .max [.int i,.int j] G Q=Q (.int (max i j)) G:=rfl
theorem ZN:eD cs .min [.int i,.int j] G Q=Q (.int (min i j)) G:=rfl
theorem aMe:eD cs .int [.int i] G Q=Q (.int i) G:=rfl
theorem NP:eD cs .int [.bl b] G Q=Q (.int (if b then 1 else 0)) G:=rfl
theorem gS {n T:String} (h:nC x G=some n):eD cs .isi [x,.ty T] G Q=(T∈nA∧Q (.bl (sV n T)) G):=propext
 ⟨by rintro ⟨hT,h'⟩;exact ⟨hT,by
   rcases h' with ⟨m,e,q⟩ | ⟨c,e,_,q⟩
   · rw [h] at e; cases e; exact q
   · exfalso; cases x <;> first | (cases e; done) | skip
     · cases h
     · unfold nC at h; unfold KW at e; dsimp only at h e;split at h
       · rename_i q; rw [q] at e; cases e
       · cases h⟩,by rintro ⟨hT,q⟩;exact ⟨hT,.inl ⟨n,h,q⟩⟩⟩
theorem aL1:nC (.int i) G=some "int":=rfl
theorem aMo:nC (.bl b) G=some "bool":=rfl
theorem aJE:nC (.str s) G=some "str":=rfl
theorem aJu:nC .non G=some "NoneType":=rfl
theorem aKC {xs:List PV}:nC (.tup xs) G=some "tuple":=rfl
theorem aK6 {xs:List PV}:nC (.lst xs) G=some "list":=rfl
theorem FE {T:String} {xs:List PV}:eD cs .isi [.tup xs,.ty T] G Q=(T∈nA∧Q (.bl (sV "tuple" T)) G):=gS rfl
theorem NL {c:String} {ns:List Str} {xs:List PV}:eD cs .isi [.ob c ns xs,.cl c] G Q=(c∈cs∧Q (.bl true) G):=propext
 ⟨by rintro ⟨hc,h'⟩;exact ⟨hc,by
   rcases h' with ⟨m,e,q⟩ | ⟨c',e,_,q⟩
   · cases e
   · cases e; rw [decide_eq_true rfl] at q; exact q⟩,by rintro ⟨hc,q⟩;exact ⟨hc,.inr ⟨c,rfl,hc,by rw [decide_eq_true rfl]; exact q⟩⟩⟩
theorem TV {xs:List PV} (h:G a=some (.lst xs)):eD cs .tuple [.ref a] G Q=Q (.tup xs) G:=propext
 ⟨fun h'=>by
   rcases h' with ⟨ys,e,q⟩ | ⟨ys,e,q⟩
   · cases e
   · rw [rV h] at e; cases e; exact q,fun q=>.inr ⟨_,rV h,q⟩⟩
theorem lG {xs:List PV}:eD cs .tuple [.ref a] (gup G a (.lst xs)) Q=Q (.tup xs) (gup G a (.lst xs)):=TV aS
theorem ZL {xs:List PV}:eD cs .all [.lst xs] G Q=(∃ b,EL xs=some b∧Q (.bl b) G):=propext
 ⟨by rintro ⟨_,b,e,eb,q⟩;cases e; exact ⟨b,eb,q⟩,by rintro ⟨b,eb,q⟩;exact ⟨_,b,rfl,eb,q⟩⟩
theorem BV {xs:List PV}:vN true G xs Q= ∀ p,G p=none→Q (.ref p) (gup G p (.lst xs)):=rfl
theorem jR {xs:List PV}:vN false G xs Q=Q (.lst xs) G:=rfl
theorem lK {xs:List PV} {R:(Gh→Prop)→List PV→Gh→Prop}:aBb (.tup xs) G R=R (fun _=>True) xs G:=rfl
theorem uC {xs:List PV} {R:(Gh→Prop)→List PV→Gh→Prop}:aBb (.lst xs) G R=R (fun _=>True) xs G:=rfl
theorem aJG {xs:List Int} {R:(Gh→Prop)→List PV→Gh→Prop}:aBb (.scr xs) G R=R (fun _=>True) (xs.map .int) G:=rfl
theorem NQ {α:Type} {v:α} {R:α→Prop}:(∃ c,some v=some c∧R c)=R v:=propext ⟨by rintro ⟨_,e,r⟩;cases e; exact r,fun r=>⟨v,rfl,r⟩⟩
end
theorem at0 {α:Type} {x:α} {xs:List α}:atI (x :: xs) 0=some x:=dF (xs:=x :: xs) (j:=0) rfl
theorem at1 {α:Type} {x y:α} {xs:List α}:atI (x :: y :: xs) 1=some y:=dF (xs:=x :: y :: xs) (j:=1) rfl
theorem at2 {α:Type} {x y z:α} {xs:List α}:atI (x :: y :: z :: xs) 2=some z:=dF (xs:=x :: y :: z :: xs) (j:=2) rfl
theorem at3 {α:Type} {x y z u:α} {xs:List α}:atI (x :: y :: z :: u :: xs) 3=some u:=dF (xs:=x :: y :: z :: u :: xs) (j:=3) rfl
theorem at4 {α:Type} {x y z u v:α} {xs:List α}:atI (x :: y :: z :: u :: v :: xs) 4=some v:=dF (xs:=x :: y :: z :: u :: v :: xs) (j:=4) rfl
theorem aMn {Q:PK1}:(aP Q).rt=Wk Q:=rfl
theorem aMp {Q:PK1} {σ:PSt} {G:Gh}:(aP Q).nx σ G=Wk Q .non G:=rfl
theorem aL:("int"∈nA)=True∧("bool"∈nA)=True∧("tuple"∈nA)=True∧("str"∈nA)=True∧("list"∈nA)=True:=⟨eq_true (by decide),eq_true (by decide),eq_true (by decide),eq_true (by decide),eq_true (by decide)⟩
theorem KG:sV "tuple" "tuple"=true:=by decide
theorem sz2:(2:Nat)≤sizeLine:=by decide
theorem sz1:(1:Nat)≤sizeLine:=by decide
theorem sz3:(3:Nat)≤sizeLine:=by decide
noncomputable def FQ (q:Rat):PV:=.tup [.int q.num,.int (q.den:Int)]
def eI:Sp3:=fun xs G Q=>∃ i,xs=[.int i]∧Q (.bl true) G
def iR:Sp3:=fun xs G Q=>∃ i j:Int,xs=[.int i,.int j]∧0≤i∧0≤j∧Q (.int (Int.gcd i j)) G
def iG:Sp3:=fun xs G Q=>∃ q,xs=[FQ q]∧Q (.bl true) G
def bU:Sp3:=fun xs G Q=>∃ t b:Int,xs=[.int t,.int b]∧b≠0∧Sm 9000 b∧Q (FQ (Rat.divInt t b)) G
def Bd (n:Nat) (q:Rat):Prop:=Sm n q.num∧Sm n (q.den:Int)
theorem Bd.mono {n m:Nat} {q:Rat} (h:Bd n q) (e:n≤m):Bd m q:=⟨h.1.mono e,h.2.mono e⟩
theorem TM {t b:Int} (hb:b≠0):0 < b.gcd t:=Int.gcd_pos_of_ne_zero_left _ hb
theorem Bd.divInt {n:Nat} {t b:Int} (ht:Sm n t) (hb:Sm n b) (h0:b≠0):Bd n (Rat.divInt t b):=by
 have gp:(0:Int) < (b.gcd t:Int):=by have:=TM (t:=t) h0; omega
 constructor
 · rw [Rat.num_divInt];have e:Sm n (b.sign * t):=by
     rcases Int.lt_trichotomy b 0 with z | z | z
     · rw [Int.sign_eq_neg_one_of_neg z,Int.neg_one_mul]; exact ht.neg
     · exact absurd z h0
     · rw [Int.sign_eq_one_of_pos z,Int.one_mul]; exact ht
   exact e.div gp
 · rw [Rat.den_divInt,if_neg h0];have e:Sm n ((b.natAbs:Int)):=by unfold Sm at *; omega
   have:=e.div gp;rw [Int.natCast_ediv];exact this
theorem AD {t b:Int} (hb:0 < b):FQ (Rat.divInt t b)= .tup [.int (t / (Int.gcd t b:Int)),.int (b / (Int.gcd t b:Int))]:=by
 unfold FQ;rw [Rat.num_divInt,Rat.den_divInt,if_neg (by omega),Int.sign_eq_one_of_pos hb,Int.one_mul,Int.gcd_comm,Int.natCast_ediv];have:(b.natAbs:Int)=b:=by omega
 rw [this]
theorem aFn (a b:Rat):Rat.divInt (a.num * (b.den:Int) + b.num * (a.den:Int)) ((a.den:Int) * (b.den:Int))=a + b:=by
 rw [Rat.add_def',←Rat.divInt_ofNat,Int.natCast_mul]
theorem NI (a b:Rat):Rat.divInt (a.num * (b.den:Int) - b.num * (a.den:Int)) ((a.den:Int) * (b.den:Int))=a - b:=by
 rw [Rat.sub_def',←Rat.divInt_ofNat,Int.natCast_mul]
theorem SZ (a b:Rat):Rat.divInt (a.num * b.num) ((a.den:Int) * (b.den:Int))=a * b:=by
 rw [Rat.mul_def',←Rat.divInt_ofNat,Int.natCast_mul]
theorem aFd (a b:Rat):Rat.divInt (a.num * (b.den:Int)) ((a.den:Int) * b.num)=a / b:=by
 rw [Rat.div_def,Rat.inv_def];conv=>rhs; rw [←Rat.num_divInt_den a]
 rw [Rat.divInt_mul_divInt]
theorem cN {q:Rat}:(q.den:Int)≠0:=by have:=q.den_pos; omega
theorem tW {q:Rat}:(0:Int) < q.den:=by have:=q.den_pos; omega
theorem iD {a b:Int} (ha:a≠0) (hb:b≠0):a * b≠0:=Int.mul_ne_zero ha hb
theorem Bd.add {n m l:Nat} {a b:Rat} (ha:Bd n a) (hb:Bd m b) (e:n + m + 1≤l):Bd l (a + b):=by
 rw [←aFn];refine Bd.divInt ?_ ?_ (iD cN cN)
 · exact ((ha.1.mul hb.2)).add ((hb.1.mul ha.2).mono (by omega)) e
 · exact (ha.2.mul hb.2).mono (by omega)
theorem Bd.sub {n m l:Nat} {a b:Rat} (ha:Bd n a) (hb:Bd m b) (e:n + m + 1≤l):Bd l (a - b):=by
 rw [←NI];refine Bd.divInt ?_ ?_ (iD cN cN)
 · exact ((ha.1.mul hb.2)).sub ((hb.1.mul ha.2).mono (by omega)) e
 · exact (ha.2.mul hb.2).mono (by omega)
theorem Bd.mul {n m l:Nat} {a b:Rat} (ha:Bd n a) (hb:Bd m b) (e:n + m≤l):Bd l (a * b):=by
 rw [←SZ];exact Bd.divInt ((ha.1.mul hb.1).mono e) ((ha.2.mul hb.2).mono e) (iD cN cN)
theorem Bd.dv {n m l:Nat} {a b:Rat} (ha:Bd n a) (hb:Bd m b) (h0:b≠0) (e:n + m≤l):Bd l (a / b):=by
 rw [←aFd];exact Bd.divInt ((ha.1.mul hb.2).mono e) ((ha.2.mul hb.1).mono e) (iD cN (fun z=>h0 (Rat.num_eq_zero.mp z)))
theorem Bd.int {n:Nat} {i:Int} (h:Sm n i) (e:1≤n):Bd n (i:Rat):=⟨h,by
 show Sm n ((1:Nat):Int);unfold Sm;have:2 ^ 1≤2 ^ n:=Nat.pow_le_pow_right (by decide) e;show 1 < 2 ^ n;omega⟩
theorem jT {i:Int}:PV.tup [.int i,.int 1]=FQ (i:Rat):=rfl
theorem smK {x:Int} {n:Nat} (a: -1000000000000≤x) (b:x < 1000000000000) (e:41≤n):Sm n x:=by
 have:Sm 41 x:=by unfold Sm; omega
 exact this.mono e
def pV:Sp3:=fun xs G Q=>∃ qs:List Rat,xs=[.tup (qs.map FQ)]∧qs.length≤2∧Q .non G
def gM:Sp3:=fun xs G Q=>∃ a b,xs=[FQ a,FQ b]∧Bd 4000 a∧Bd 4000 b∧Q (FQ (a + b)) G
def dD:Sp3:=fun xs G Q=>∃ a b,xs=[FQ a,FQ b]∧Bd 4000 a∧Bd 4000 b∧Q (FQ (a - b)) G
def dE:Sp3:=fun xs G Q=>∃ a b,xs=[FQ a,FQ b]∧Bd 4000 a∧Bd 4000 b∧Q (FQ (a * b)) G
def jP:Sp3:=fun xs G Q=>∃ a b,xs=[FQ a,FQ b]∧Bd 4000 a∧Bd 4000 b∧b≠0∧Q (FQ (a / b)) G
def eY:Sp3:=fun xs G Q=>∃ a b,xs=[FQ a,FQ b]∧Bd 4000 a∧Bd 4000 b∧Q (.bl (decide (a < b))) G
noncomputable def nw (q:Rat):Int:=(2 * q.num + (q.den:Int)) / (2 * (q.den:Int))
def AR:Sp3:=fun xs G Q=>∃ a,xs=[FQ a]∧Bd 8900 a∧Q (.int (nw a)) G
def fS:Sp3:=fun xs G Q=>∃ a,xs=[FQ a]∧0≤a∧a≤1∧Q (.bl true) G
noncomputable def SH (a b c:Rat):PV:=.ob "Shade" ["ember","leaf","sky"] [FQ a,FQ b,FQ c]
def In1 (a:Rat):Prop:=0≤a∧a≤1
def hU:Sp3:=fun xs G Q=>∃ a b c,xs=[FQ a,FQ b,FQ c]∧In1 a∧In1 b∧In1 c∧Q (SH a b c) G
def oP:Sp3:=fun xs G Q=>∃ p a b c,xs=[.ref p,FQ a,FQ b,FQ c]∧G p=some (.ins "Shade" [] [])∧In1 a∧In1 b∧In1 c∧Q .non (gup G p (.ins "Shade" ["ember","leaf","sky"] [FQ a,FQ b,FQ c]))
def iU:Sp3:=fun xs G Q=>∃ a b c,xs=[SH a b c]∧Q (.bl true) G
def eF:Sp3:=fun xs G Q=>∃ a b c,xs=[SH a b c]∧Q .non G
def aX:Sp3:=fun xs G Q=>∃ a b c,xs=[SH a b c]∧Q (.tup [FQ a,FQ b,FQ c]) G
def lO:Sp3:=fun xs G Q=>∃ x a b c,xs=[x]∧bQ G x=some [FQ a,FQ b,FQ c]∧In1 a∧In1 b∧In1 c∧Q (SH a b c) G
def pD:Sp3:=fun xs G Q=>∃ g:Int,xs=[.int g]∧1≤g∧g≤1000∧Q .non G
def CD:Sp3:=fun xs G Q=>∃ g:Int,xs=[.int g]∧1≤g∧g≤1000∧Q (.bl true) G
def pP:Sp3:=fun xs G Q=>∃ s g:Int,xs=[.int s,.int g]∧0≤s∧s≤g∧Q (.bl true) G
def jC:Sp3:=fun xs G Q=>∃ s g:Int,xs=[.int s,.int g]∧0≤s∧s≤g∧Q .non G
noncomputable def stp (a:Rat) (g:Int):PV:=.int (nw (a * (g:Rat)))
def rD:Sp3:=fun xs G Q=>∃ a b c g,xs=[SH a b c,.int g]∧1≤g∧g≤1000∧Bd 3000 a∧Bd 3000 b∧Bd 3000 c∧Q (.tup [stp a g,stp b g,stp c g]) G
noncomputable def aJk (s g:Int):Rat:=Rat.divInt (max (2 * s - 1) 0) (2 * g)
noncomputable def aH8 (s g:Int):Rat:=if s=g then 1 else Rat.divInt (2 * s + 1) (2 * g)
def LJ:Sp3:=fun xs G Q=>∃ s g:Int,xs=[.int s,.int g]∧1≤g∧g≤1000∧0≤s∧s≤g∧Q (.tup [FQ (aJk s g),FQ (aH8 s g),.bl (decide (s=g))]) G
structure PT (T:Tb):Prop where
 is_whole:T.S "is_whole"=eI
 common:T.S "common"=iR
 is_fraction:T.S "is_fraction"=iG
 lowest:T.S "lowest"=bU
 need_fractions:T.S "need_fractions"=pV
 plus:T.S "plus"=gM
 minus:T.S "minus"=dD
 times:T.S "times"=dE
 over:T.S "over"=jP
 below:T.S "below"=eY
 nearest_whole:T.S "nearest_whole"=AR
 is_share:T.S "is_share"=fS
 shade:T.S "Shade"=hU
 shadeI:T.S "Shade.__init__"=oP
 is_shade:T.S "is_shade"=iU
 need_shade:T.S "need_shade"=eF
 shares_of:T.S "shares_of"=aX
 shade_of:T.S "shade_of"=lO
 is_grade:T.S "is_grade"=CD
 need_grade:T.S "need_grade"=pD
 is_step:T.S "is_step"=pP
 need_step:T.S "need_step"=jC
 printed:T.S "printed"=rD
 span_of:T.S "span_of"=LJ
 gv_ONE:T.gv "ONE"=FQ 1
 gv_ZERO:T.gv "ZERO"=FQ 0
 gv_MOST_GRADE:T.gv "MOST_GRADE"= .int 1000
 gv_Shade:T.gv "Shade"= .cl "Shade"
 cs: "Shade"∈T.cs
 fl_e:("Shade",("ember":Str))∈T.fl
 fl_l:("Shade",("leaf":Str))∈T.fl
 fl_s:("Shade",("sky":Str))∈T.fl
 ty_int:T.gv "int"= .ty "int"
 ty_bool:T.gv "bool"= .ty "bool"
 ty_tuple:T.gv "tuple"= .ty "tuple"
theorem OK {q:Rat} {G:Gh} {Q:PK1}:rY (FQ q) (.int 0) G Q=Q (.int q.num) G:=by unfold FQ; rw [dO,at0,NQ]
theorem UV {q:Rat} {G:Gh} {Q:PK1}:rY (FQ q) (.int 1) G Q=Q (.int q.den) G:=by unfold FQ; rw [dO,at1,NQ]
theorem gD {a b:Rat}:(FQ a=FQ b)=(a=b):=propext ⟨fun h=>by
 unfold FQ at h;injection h with h;injection h with h1 h;injection h with h2 _;injection h1 with h1;injection h2 with h2;exact Rat.ext h1 (by omega),fun h=>by rw [h]⟩
theorem IS {q:Rat}:(1:Int)≤q.den:=by have:=q.den_pos; omega
theorem ZH {G:Gh} {Q:PK1} {a b:Rat}:pV [.tup [FQ a,FQ b]] G Q=Q .non G:=propext ⟨by rintro ⟨_,e,_,q⟩;exact q,fun q=>⟨[a,b],rfl,by show 2≤2; decide,q⟩⟩
theorem uD {chk:Gh→Prop} {g:PTG} {tb:PTS} {D:gO} {σ:PSt} {G:Gh}:sY chk g tb D [] σ G=(chk G∧D.nx σ G):=rfl
theorem lN {chk:Gh→Prop} {g:PTG} {tb:PTS} {D:gO} {x:PV} {r:List PV} {σ:PSt} {G:Gh}:sY chk g tb D (x :: r) σ G=(chk G∧g x σ G fun σ2 G2=>tb { D with nx:=sY chk g tb D r,ct:=sY chk g tb D r,bk:=D.nx } σ2 G2):=rfl
theorem lQ {chk:Gh→Prop} {g:PTG} {ts:PTT} {te:PTE} {acc:List PV} {σ:PSt} {G:Gh} {Q:List PV→Gh→Prop}:fZ chk g ts te [] acc σ G Q=(chk G∧Q acc G):=rfl
theorem jB {chk:Gh→Prop} {g:PTG} {ts:PTT} {te:PTE} {x:PV} {r acc:List PV} {σ:PSt} {G:Gh} {Q:List PV→Gh→Prop}:fZ chk g ts te (x :: r) acc σ G Q=(chk G∧g x σ G fun σ2 G2=>ts σ2 G2 fun ok G3=>if ok=true then te σ2 G3 fun y G4=>fZ chk g ts te r (acc ++ [y]) σ2 G4 Q else fZ chk g ts te r acc σ2 G3 Q):=rfl
theorem aL7 {a:PV}:GH [a]=[.tup [.int 0,a]]:=rfl
theorem aLr {a b:PV}:GH [a,b]=[.tup [.int 0,a],.tup [.int 1,b]]:=rfl
theorem aKY {a b c:PV}:GH [a,b,c]=[.tup [.int 0,a],.tup [.int 1,b],.tup [.int 2,c]]:=rfl
theorem aOz:sZ 0 (3:Int).toNat=[.int 0,.int 1,.int 2]:=rfl
theorem IP:sZ 0 3=[.int 0,.int 1,.int 2]:=rfl
theorem BN {a b c a' b' c':Rat}:(SH a b c=SH a' b' c')=(a=a'∧b=b'∧c=c'):=propext ⟨fun h=>by
 unfold SH at h;injection h with _ _ h;injection h with h1 h;injection h with h2 h;injection h with h3 _;rw [gD] at h1 h2 h3;exact ⟨h1,h2,h3⟩,by rintro ⟨h1,h2,h3⟩;rw [h1,h2,h3]⟩
def mW0:=aL.1
def mW1:=aL.2.1
def mW2:=aL.2.2.1
def wk (s:String):Lean.MacroM Lean.Syntax:=do
 let n←(s.splitOn " ").filterMapM fun x=>do if (←Lean.Macro.resolveGlobalName x.toName).isEmpty then pure none else pure (some x.toName)
 let l←n.mapM fun x=>`(Lean.Parser.Tactic.simpLemma| $(Lean.mkIdent x):term)
 return (←`(tactic| simp only [$(l.toArray),*, *])).raw
def wB:="wpS wpE wpL wpT wpO wpI wpG eW aP aC List.length_cons List.length_nil List.cons_append List.nil_append List.append_nil List.replicate Nat.reduceAdd Nat.reduceSub Nat.zero_add List.getElem?_cons_zero List.getElem?_cons_succ List.set_cons_zero List.set_cons_succ Option.some.injEq exists_eq_left' true_and and_true ite_self gB cQ dM eG mW0 mW1 mW2 List.cons.injEq PV.int.injEq PV.bl.injEq PV.str.injEq PV.ref.injEq PV.tup.injEq and_assoc exists_and_left eq_self List.map Bool.not_true Bool.not_false Bool.and_self Bool.and_true Bool.true_and if_true if_false ite_true ite_false Bool.false_eq_true decide_eq_true_eq decide_true decide_false reduceCtorEq sz2 Wk.here jR gD sz3 at0 dO Int.reduceToNat Int.reducePow Int.reduceEq Int.reduceNe"
local macro_rules | `(tactic| walk_at "rd") => wk (wB++" iQ iT BY tK AB vR UL GV uZ FE KG aFy aAm eI iR")
section
variable {T:Tb}
theorem GE {x y:Int} (hx:0≤x) (hy:0 < y):Int.gcd y (x % y)=Int.gcd x y:=by
 rw [Int.gcd_comm x y];show y.natAbs.gcd (x % y).natAbs=y.natAbs.gcd x.natAbs;have e:(x % y).natAbs=x.natAbs % y.natAbs:=by rw [Int.natAbs_emod_of_nonneg hx]
 rw [e,Nat.gcd_rec y.natAbs x.natAbs,Nat.gcd_comm]
noncomputable def kR:CS:=(.seq (.wh (.tsb (.cmp .NotEq (.var 1) (.int 0))) (.par 0 1 (.var 1) (.bin .Mod (.var 0) (.var 1))))
 (.ret (.var 0)))
theorem WB (h:PT T):∀ xs G Q,iR xs G Q→wpS T kR (aP Q) (aC 2 xs) G:=by
 rintro xs G Q ⟨i,j,rfl,hi,hj,q⟩;unfold kR;walk_at "rd"
 refine ⟨fun m σ H=>∃ x y,σ=[some (.int x),some (.int y)]∧H=G∧0≤x∧0≤y∧Int.gcd x y=Int.gcd i j∧m=y.toNat,⟨_,i,j,rfl,rfl,hi,hj,rfl,rfl⟩, ?_⟩;rintro m σ H ⟨x,y,rfl,rfl,hx,hy,hg,rfl⟩;walk_at "rd"
 split
 · rename_i hy0;have hy0:y≠0:=by simpa using hy0
   have h2:=Int.emod_lt_of_pos x (show 0 < y by omega);have h3:=Int.emod_nonneg x (show y≠0 by omega);exact ⟨by show 0 < y; omega,(x % y).toNat,by omega,h3,(GE hx (by omega)).trans hg,rfl⟩
 · rename_i hy0;have e:y=0:=by simpa using hy0
   subst e;have g:((Int.gcd x 0:Nat):Int)=x:=by rw [Int.gcd_zero_right]; omega
   refine Wk.here ?_;rw [←g,hg]; exact q
noncomputable def kZ:CS:=(.seq (.iff (.tsb (.cmp .Lt (.var 1) (.int 0))) (.par 0 1 (.neg (.var 0)) (.neg (.var 1))) .nil)
 (.seq (.asg (.gn 2) (.cal "common" (.cons (.blt .abs (.cons (.var 0) .nil)) (.cons (.var 1) .nil))))
 (.ret (.tup (.cons (.bin .FloorDiv (.var 0) (.var 2)) (.cons (.bin .FloorDiv (.var 1) (.var 2)) .nil))))))
theorem tH (t b:Int):Int.gcd (t.natAbs:Int) b=Int.gcd t b:=by show (t.natAbs:Int).natAbs.gcd _=_; rw [Int.natAbs_natCast]; rfl
theorem BE {t b:Int} (hb:0 < b) (sb:Sm 9000 b):mJ t (Int.gcd t b:Int)∧mJ b (Int.gcd t b:Int):=by
 have gp:(0:Int) < (Int.gcd t b:Int):=by have:=Int.gcd_pos_of_ne_zero_right t (show b≠0 by omega); omega
 have gl:(Int.gcd t b:Int)≤b:=Int.le_of_dvd hb (Int.gcd_dvd_right _ _);have sg:Sm 9000 (Int.gcd t b:Int):=sb.le (by omega) gl;exact ⟨DD gp sg,DD gp sg⟩
theorem aAt (h:PT T):∀ xs G Q,bU xs G Q→wpS T kZ (aP Q) (aC 3 xs) G:=by
 rintro xs G Q ⟨t,b,rfl,h0,sb,hq⟩;unfold kZ;have:=h.common;walk_at "rd"
 split
 · rename_i hb;obtain ⟨d1,d2⟩:=BE (t:= -t) (b:= -b) (by omega) sb.neg;simp only [tH];refine ⟨by omega,by omega,d1,d2,Wk.here ?_⟩;rw [←AD (by omega),Rat.neg_divInt_neg]; exact hq
 · rename_i hb;obtain ⟨d1,d2⟩:=BE (t:=t) (b:=b) (by omega) sb;simp only [tH];refine ⟨by omega,by omega,d1,d2,Wk.here ?_⟩;rw [←AD (by omega)]; exact hq
end
local macro_rules | `(tactic| walk_at "rd") => wk (wB++" List.map_cons List.map_nil gN pL kX iQ iH aBl GL lK OK UV eI iG bU ZH exists_eq' uD lN lQ jB aL7 aLr aKY BN QE Option.getD_some dE AR fS iU eF aX pD CD pP jC sz1")
section
variable {T:Tb}
noncomputable def dJ:CS:=(.fr (.gt 2 (.cons (.gn 1) (.cons (.gn 2) .nil))) (.ien (.var 0)) (.iff (.no (.tst (.cal "is_fraction" (.cons (.var 2) .nil)))) .nev .nil))
theorem sA (h:PT T):∀ xs G Q,pV xs G Q→wpS T dJ (aP Q) (aC 3 xs) G:=by
 rintro xs G Q ⟨qs,rfl,hl,hq⟩;unfold dJ;have:=h.is_fraction
 match qs,hl with
 | [],_=>simp only [List.map_nil]; walk_at "rd"; exact ⟨trivial,Wk.here hq⟩
 | [a],_=>simp only [List.map_cons,List.map_nil]; walk_at "rd"
 | [a,b],_=>simp only [List.map_cons,List.map_nil]; walk_at "rd"
noncomputable def nI:CS:=(.seq (.ex (.cal "need_fractions" (.cons (.tup (.cons (.var 0) (.cons (.var 1) .nil))) .nil)))
 (.ret (.cal "lowest" (.cons (.bin .Mult (.idx (.var 0) (.int 0)) (.idx (.var 1) (.int 0))) (.cons (.bin .Mult (.idx (.var 0) (.int 1)) (.idx (.var 1) (.int 1))) .nil)))))
theorem TU {a b:Rat} (ha:Bd 4000 a) (hb:Bd 4000 b):Sm 9000 ((a.den:Int) * (b.den:Int)):=(ha.2.mul hb.2).mono (by decide)
theorem aDn (h:PT T):∀ xs G Q,dE xs G Q→wpS T nI (aP Q) (aC 2 xs) G:=by
 rintro xs G Q ⟨a,b,rfl,ha,hb,hq⟩;unfold nI;have:=h.need_fractions;have:=h.lowest;walk_at "rd"
 refine ⟨kY ha.1 hb.1,kY ha.2 hb.2,iD cN cN,TU ha hb,Wk.here ?_⟩;rw [SZ]; exact hq
noncomputable def rP:CS:=(.seq (.ex (.cal "need_fractions" (.cons (.tup (.cons (.var 0) (.cons (.var 1) .nil))) .nil)))
 (.ret (.cal "lowest" (.cons (.bin .Add (.bin .Mult (.idx (.var 0) (.int 0)) (.idx (.var 1) (.int 1))) (.bin .Mult (.idx (.var 1) (.int 0)) (.idx (.var 0) (.int 1)))) (.cons (.bin .Mult (.idx (.var 0) (.int 1)) (.idx (.var 1) (.int 1))) .nil)))))
theorem aGq (h:PT T):∀ xs G Q,gM xs G Q→wpS T rP (aP Q) (aC 2 xs) G:=by
 rintro xs G Q ⟨a,b,rfl,ha,hb,hq⟩;unfold rP;have:=h.need_fractions;have:=h.lowest;walk_at "rd"
 refine ⟨kY ha.1 hb.2,kY hb.1 ha.2,kY ha.2 hb.2,iD cN cN,TU ha hb,Wk.here ?_⟩;rw [aFn]; exact hq
noncomputable def nF:CS:=(.seq (.ex (.cal "need_fractions" (.cons (.tup (.cons (.var 0) (.cons (.var 1) .nil))) .nil)))
 (.ret (.cal "lowest" (.cons (.bin .Sub (.bin .Mult (.idx (.var 0) (.int 0)) (.idx (.var 1) (.int 1))) (.bin .Mult (.idx (.var 1) (.int 0)) (.idx (.var 0) (.int 1)))) (.cons (.bin .Mult (.idx (.var 0) (.int 1)) (.idx (.var 1) (.int 1))) .nil)))))
theorem aCM (h:PT T):∀ xs G Q,dD xs G Q→wpS T nF (aP Q) (aC 2 xs) G:=by
 rintro xs G Q ⟨a,b,rfl,ha,hb,hq⟩;unfold nF;have:=h.need_fractions;have:=h.lowest;walk_at "rd"
 refine ⟨kY ha.1 hb.2,kY hb.1 ha.2,kY ha.2 hb.2,iD cN cN,TU ha hb,Wk.here ?_⟩;rw [NI]; exact hq
noncomputable def hX:CS:=(.ret (.an (.cal "is_fraction" (.cons (.var 0) .nil)) (.chn .LtE .LtE (.int 0) (.idx (.var 0) (.int 0)) (.idx (.var 0) (.int 1)))))
theorem iA {a:Rat} (h:0≤a):0≤a.num:=Rat.num_nonneg.mpr h
theorem aGQ {a:Rat} (h:a≤1):a.num≤(a.den:Int):=by
 have:=(Rat.le_iff a 1).mp h;simpa using this
theorem IJ (h:PT T):∀ xs G Q,fS xs G Q→wpS T hX (aP Q) (aC 1 xs) G:=by
 rintro xs G Q ⟨a,rfl,h0,h1,hq⟩;unfold hX;have:=h.is_fraction;have:=iA h0;have:=aGQ h1;walk_at "rd"
theorem aGF {a b c:Rat} {G:Gh} {Q:PK1} {cs:List String}:eD cs .isi [SH a b c,.cl "Shade"] G Q=("Shade"∈cs∧Q (.bl true) G):=NL
theorem BS {c:String} {ns:List Str} {xs:List PV} {f:Str} {v:PV} {G:Gh} {Q:PK1} (hf:(c,f)∈T.fl) (hl:(ns.zip xs).lookup f=some v):aAL T (.ob c ns xs) f G Q=Q v G:=by
 refine propext ⟨fun h=>?_,fun q=>⟨_,_,_,_,.inl rfl,hf,hl,q⟩⟩;obtain ⟨c',ns',xs',v',e,_,l,q⟩:=h;rcases e with e | ⟨_,e,_⟩
 · cases e;rw [hl] at l;cases l;exact q
 · cases e
theorem aNW (h:PT T) {a b c:Rat} {G:Gh} {Q:PK1}:aAL T (SH a b c) "ember" G Q=Q (FQ a) G:=BS h.fl_e rfl
theorem aNB (h:PT T) {a b c:Rat} {G:Gh} {Q:PK1}:aAL T (SH a b c) "leaf" G Q=Q (FQ b) G:=BS h.fl_l rfl
theorem aNT (h:PT T) {a b c:Rat} {G:Gh} {Q:PK1}:aAL T (SH a b c) "sky" G Q=Q (FQ c) G:=BS h.fl_s rfl
noncomputable def dI:CS:=(.seq (.fr (.gt 2 (.cons (.gn 4) (.cons (.gn 5) .nil))) (.ien (.tup (.cons (.var 1) (.cons (.var 2) (.cons (.var 3) .nil))))) (.iff (.no (.tst (.cal "is_share" (.cons (.var 5) .nil)))) .nev .nil))
 (.seq (.fld (.var 0) "ember" (.var 1))
 (.seq (.fld (.var 0) "leaf" (.var 2))
 (.fld (.var 0) "sky" (.var 3)))))
theorem rO (h:PT T):∀ xs G Q,oP xs G Q→wpS T dI (aP Q) (aC 6 xs) G:=by
 rintro xs G Q ⟨p,a,b,c,rfl,hp,⟨a1,a2⟩,⟨b1,b2⟩,⟨c1,c2⟩,hq⟩;unfold dI;have:=h.is_share;walk_at "rd"
 refine ⟨"Shade",[],[],rfl,h.fl_e,by decide,"Shade",["ember"],[FQ a],aS,h.fl_l,by decide,"Shade",["ember","leaf"],[FQ a,FQ b],aS,h.fl_s,by decide, ?_⟩;simp only [tN];exact Wk.here hq
theorem DX (h:PT T):RY T "Shade" "Shade" "Shade.__init__":=by
 intro xs G Q q p hp;rw [h.shade] at q;rw [h.shadeI];obtain ⟨a,b,c,rfl,ha,hb,hc,q⟩:=q;refine ⟨p,a,b,c,rfl,aS,ha,hb,hc,rfl,_,_,aS, ?_⟩;rw [tN,YS hp];exact q
end
noncomputable def PU (x y z:Int):GO:=.lst [.int x,.int y,.int z]
def Pu (p:Addr) (G:Gh):Prop:= ∃ x y z,G p=some (PU x y z)
def Pn (p:Addr) (G G':Gh):Prop:= ∃ x y z,G'=gup G p (PU x y z)
theorem Pn.pu {p:Addr} {G G':Gh} (h:Pn p G G'):Pu p G':=let ⟨x,y,z,e⟩:=h; ⟨x,y,z,by rw [e]; exact aS⟩
theorem Pn.ne {p q:Addr} {G G':Gh} (h:Pn p G G') (n:q≠p):G' q=G q:=let ⟨x,y,z,e⟩:=h; by rw [e]; exact fG n
theorem Pn.trans {p:Addr} {G G1 G2:Gh} (a:Pn p G G1) (b:Pn p G1 G2):Pn p G G2:=let ⟨x,y,z,e⟩:=a; let ⟨x',y',z',e'⟩:=b; ⟨x',y',z',by rw [e',e,tN]⟩
theorem Pu.ne {p q:Addr} {G:Gh} (h:Pu p G) (n:G q=none):q≠p:=fun e=>by subst e; obtain ⟨_,_,_,e⟩:=h; rw [n] at e; cases e
theorem Pu.new {p q:Addr} {G:Gh} {o:GO} (h:Pu p G) (n:G q=none):Pu p (gup G q o):=let ⟨x,y,z,e⟩:=h; ⟨x,y,z,by rw [fG (Ne.symm (h.ne n))]; exact e⟩
def jH:Sp3:=fun xs G Q=>∃ p m,xs=[.ref p,.int m]∧Pu p G∧0 < m∧Sm 8000 m∧∀ r G',0≤r→r < m→Pn p G G'→Q (.int r) G'
def uK:Sp3:=fun xs G Q=>∃ (ns:List Int) (k:Int),xs=[.scr ns,.int k]∧0≤k∧k < 64∧∀ c,Q (.int c) G
def oA:Sp3:=fun xs G Q=>∃ c:Int,xs=[.int c]∧∀ p x y z,G p=none→Q (.ref p) (gup G p (PU x y z))
def gA:Sp3:=fun xs G Q=>∃ p,xs=[.ref p]∧Pu p G∧∀ q G',In1 q→Bd 12 q→Pn p G G'→Q (FQ q) G'
def iK:Sp3:=fun xs G Q=>∃ p,xs=[.ref p]∧Pu p G∧∀ a b c G',In1 a→In1 b→In1 c→Bd 12 a→Bd 12 b→Bd 12 c→Pn p G G'→Q (.tup [FQ a,FQ b,FQ c]) G'
def rN:Sp3:=fun xs G Q=>∃ q,xs=[FQ q]∧Bd 8900 q∧Q (.bl true) G
structure LT (T:Tb):Prop where
 cell:T.S "_law_cell"=uK
 purse:T.S "_law_purse"=oA
 pick:T.S "_law_pick"=jH
 whole:T.S "_law_whole"=eI
 low:T.S "_law_low"=bU
 plus:T.S "_law_plus"=gM
 minus:T.S "_law_minus"=dD
 times:T.S "_law_times"=dE
 over:T.S "_law_over"=jP
 below:T.S "_law_below"=eY
 is_fraction:T.S "_law_is_fraction"=rN
 share:T.S "_law_share"=gA
 shares:T.S "_law_shares"=iK
local macro_rules | `(tactic| walk_at "rd") => wk (wB++" gN pL kX iQ iT FR iH BY OD tK AB vR fY nQ TR uZ NP BV KG at1 at2 UQ VO aAp OK UV eI bU")
section
variable {T:Tb}
noncomputable def kN:CS:=(.seq (.sub (.var 0) (.int 2) (.bin .Add (.idx (.var 0) (.int 2)) (.int 1)))
 (.seq (.asg (.gn 2) (.bin .Mod (.idx (.var 0) (.int 0)) (.int 999999937)))
 (.seq (.sub (.var 0) (.int 0) (.bin .Add (.bin .Mult (.var 2) (.bin .Add (.bin .Mod (.var 2) (.int 50021)) (.int 20011))) (.bin .Mult (.int 90001) (.idx (.var 0) (.int 2)))))
 (.seq (.iff (.tsb (.cmp .Gt (.idx (.var 0) (.int 1)) (.int 0))) (.seq (.asg (.gn 3) (.bin .Mod (.idx (.var 0) (.int 1)) (.var 1)))
 (.seq (.sub (.var 0) (.int 1) (.bin .FloorDiv (.idx (.var 0) (.int 1)) (.var 1)))
 (.ret (.var 3)))) .nil)
 (.ret (.bin .Mod (.bin .FloorDiv (.bin .Mod (.idx (.var 0) (.int 0)) (.int 999999937)) (.int 16)) (.var 1)))))))
theorem TH {G:Gh} {p:Addr} {o:GO} (h:G p=some o):gup G p o=G:=by
 funext b; unfold gup; split
 · rename_i e; rw [e]; exact h.symm
 · rfl
theorem KC {x:Int} (a:0≤x) (b:x < 1000000000000):Sm 64 x:=by unfold Sm; omega
theorem WH:∀ xs G Q,jH xs G Q→wpS T kN (aP Q) (aC 4 xs) G:=by
 rintro xs G Q ⟨p,m,rfl,⟨x,y,z,hp⟩,h0,h1,hq⟩;unfold kN;have e:G=gup G p (.lst [.int x,.int y,.int z]):=(TH hp).symm;have fin:∀ r x' y' z',0≤r→r < m→Q (.int r) (gup G p (.lst [.int x',.int y',.int z'])):=fun r x' y' z' a b=>hq r _ a b ⟨x',y',z',rfl⟩;generalize hG:gup G p (.lst [.int x,.int y,.int z])=G1 at e;rw [←hG] at e;rw [e];clear e hG;walk_at "rd"
 refine ⟨by show (0:Int) < 999999937; decide,by show (0:Int) < 50021; decide,ON (KC (Int.emod_nonneg _ (by decide)) (Int.lt_trans (Int.emod_lt_of_pos _ (by decide)) (by decide))),ON (KC (by decide) (by decide)), ?_⟩;split
 · exact ⟨h0,DD (k:=8000) h0 h1,Wk.here (fin _ _ _ _ (Int.emod_nonneg _ (by omega)) (Int.emod_lt_of_pos _ h0))⟩
 · exact ⟨by show (0:Int) < 999999937; decide,DD (k:=64) (by decide) (KC (by decide) (by decide)),h0,Wk.here (fin _ _ _ _ (Int.emod_nonneg _ (by omega)) (Int.emod_lt_of_pos _ h0))⟩
noncomputable def jW:CS:=(.ret (.lst true (.cons (.bin .Add (.bin .Mult (.bin .Mod (.var 0) (.int 999999937)) (.int 7001)) (.int 3301)) (.cons (.idx (.lst false (.cons (.int 0) (.cons (.var 0) .nil))) (.blt .int (.cons (.cmp .GtE (.var 0) (.bin .Pow (.int 10) (.int 18))) .nil))) (.cons (.int 0) .nil)))))
theorem OL:∀ xs G Q,oA xs G Q→wpS T jW (aP Q) (aC 1 xs) G:=by
 rintro xs G Q ⟨c,rfl,hq⟩;unfold jW;walk_at "rd"
 refine ⟨by show (0:Int) < 999999937; decide,aKM (KC (by decide) (by decide)),⟨by decide,by decide,by decide⟩, ?_⟩;have e:∃ x,atI [PV.int 0,PV.int c] (if decide ((10:Int) ^ Int.toNat 18≤c)=true then 1 else 0)=some (.int x):=by
   split
   · exact ⟨_,at1⟩
   · exact ⟨_,at0⟩
 obtain ⟨x,e⟩:=e;simp only [decide_eq_true_eq] at e;refine ⟨_,e,fun p n=>Wk.here (hq p _ _ _ n)⟩
noncomputable def wM:CS:=(.seq (.par 2 3 (.blt .abs (.cons (.var 0) .nil)) (.var 1))
 (.seq (.wh (.tsb (.cmp .Gt (.var 3) (.int 0))) (.par 2 3 (.var 3) (.bin .Mod (.var 2) (.var 3))))
 (.ret (.tup (.cons (.bin .FloorDiv (.var 0) (.var 2)) (.cons (.bin .FloorDiv (.var 1) (.var 2)) .nil))))))
noncomputable def mV:CS:=(.seq (.iff (.tsb (.cmp .Lt (.var 1) (.int 0))) (.par 0 1 (.bin .Sub (.int 0) (.var 0)) (.bin .Sub (.int 0) (.var 1))) .nil) wM)
theorem FM {t b:Int} {G:Gh} {Q:PK1} (hb:0 < b) (sb:Sm 9000 b) (hq:Q (FQ (Rat.divInt t b)) G) :
   wpS T wM (aP Q) [some (.int t),some (.int b),none,none] G:=by
 unfold wM;walk_at "rd"
 refine ⟨fun m σ H=>∃ x y,σ=[some (.int t),some (.int b),some (.int x),some (.int y)]∧H=G∧0≤x∧0≤y∧Int.gcd x y=Int.gcd t b∧m=y.toNat,⟨_,_,_,rfl,rfl,by omega,by omega,tH t b,rfl⟩, ?_⟩;rintro m σ H ⟨x,y,rfl,rfl,hx,hy,hg,rfl⟩;walk_at "rd"
 split
 · rename_i hy0;have h2:=Int.emod_lt_of_pos x (show 0 < y by omega);have h3:=Int.emod_nonneg x (show y≠0 by omega);exact ⟨by show 0 < y; omega,(x % y).toNat,by omega,h3,(GE hx (by omega)).trans hg,rfl⟩
 · rename_i hy0;have e:y=0:=by omega
   subst e;have g:x=((Int.gcd t b:Nat):Int):=by rw [←hg,Int.gcd_zero_right]; omega
   obtain ⟨d1,d2⟩:=BE (t:=t) (b:=b) hb sb;subst g;refine ⟨d1,d2,Wk.here ?_⟩;rw [←AD hb]; exact hq
theorem aBq:∀ xs G Q,bU xs G Q→wpS T mV (aP Q) (aC 4 xs) G:=by
 rintro xs G Q ⟨t,b,rfl,h0,sb,hq⟩;unfold mV;have e0:∀ x:Int,0 - x= -x:=fun x=>by omega
 walk_at "rd"
 split
 · rename_i hb;refine FM (by omega) sb.neg ?_;rw [Rat.neg_divInt_neg]; exact hq
 · rename_i hb;exact FM (by omega) sb hq
noncomputable def iY:CS:=(.ret (.cal "_law_low" (.cons (.bin .Sub (.bin .Mult (.idx (.var 0) (.int 0)) (.idx (.var 1) (.int 1))) (.bin .Mult (.idx (.var 1) (.int 0)) (.idx (.var 0) (.int 1)))) (.cons (.bin .Mult (.idx (.var 0) (.int 1)) (.idx (.var 1) (.int 1))) .nil))))
theorem OP (h:LT T):∀ xs G Q,dD xs G Q→wpS T iY (aP Q) (aC 2 xs) G:=by
 rintro xs G Q ⟨a,b,rfl,ha,hb,hq⟩;unfold iY;have:=h.low;walk_at "rd"
 refine ⟨kY ha.1 hb.2,kY hb.1 ha.2,kY ha.2 hb.2,iD cN cN,TU ha hb,Wk.here ?_⟩;rw [NI]; exact hq
noncomputable def jG:CS:=(.ret (.cal "_law_low" (.cons (.bin .Mult (.idx (.var 0) (.int 0)) (.idx (.var 1) (.int 0))) (.cons (.bin .Mult (.idx (.var 0) (.int 1)) (.idx (.var 1) (.int 1))) .nil))))
theorem SN (h:LT T):∀ xs G Q,dE xs G Q→wpS T jG (aP Q) (aC 2 xs) G:=by
 rintro xs G Q ⟨a,b,rfl,ha,hb,hq⟩;unfold jG;have:=h.low;walk_at "rd"
 refine ⟨kY ha.1 hb.1,kY ha.2 hb.2,iD cN cN,TU ha hb,Wk.here ?_⟩;rw [SZ]; exact hq
noncomputable def kA:CS:=(.ret (.cmp .Lt (.bin .Mult (.idx (.var 0) (.int 0)) (.idx (.var 1) (.int 1))) (.bin .Mult (.idx (.var 1) (.int 0)) (.idx (.var 0) (.int 1)))))
theorem OU:∀ xs G Q,eY xs G Q→wpS T kA (aP Q) (aC 2 xs) G:=by
 rintro xs G Q ⟨a,b,rfl,ha,hb,hq⟩;unfold kA;walk_at "rd"
 refine ⟨kY ha.1 hb.2,kY hb.1 ha.2,Wk.here ?_⟩;rw [show decide (a.num * (b.den:Int) < b.num * (a.den:Int))=decide (a < b) from decide_eq_decide.mpr (Rat.lt_iff a b).symm];exact hq
theorem VD {q:Rat}:shp (FQ q)=true:=rfl
theorem YD {G:Gh} {q:Rat}:pur G (FQ q)=FQ q:=rfl
theorem aBa {a b:Rat}:peq (FQ a) (FQ b)=decide (a=b):=by
 have:peq (FQ a) (FQ b)=(a.num == b.num && ((a.den:Int) == (b.den:Int) && true)):=by unfold FQ; simp only [peq,oZ]
 rw [this,Bool.and_true,Bool.eq_iff_iff,Bool.and_eq_true,decide_eq_true_eq,beq_iff_eq,beq_iff_eq];exact ⟨by rintro ⟨x,y⟩;exact Rat.ext x (by omega),fun e=>by rw [e]; exact ⟨rfl,rfl⟩⟩
theorem AO {G:Gh} {Q:PK1} {a b:Rat}:pEq false (FQ a) (FQ b) G Q=Q (.bl (decide (a=b))) G:=by
 show (shp (pur G (FQ a))=true∧shp (pur G (FQ b))=true∧Q (.bl (peq (FQ a) (FQ b))) G)=_;rw [YD,YD,VD,VD,aBa]; simp
end
local macro_rules | `(tactic| walk_at "rd") => wk (wB++" exists_false false_and and_false or_false gN kX iT iH BY XG fY nQ EG lG BV uC at1 at2 bU lQ jB IP QE Option.getD_some jH gA hU")
section
variable {T:Tb}
noncomputable def lL:CS:=(.seq (.iff (.tsb (.cmp .Lt (.var 1) (.blt .len (.cons (.var 0) .nil)))) (.ret (.idx (.var 0) (.var 1))) .nil)
 (.seq (.asg (.gn 2) (.bin .Mod (.bin .Mult (.int 60013) (.bin .Add (.bin .Add (.bin .Mult (.var 1) (.var 1)) (.bin .Mult (.int 7) (.var 1))) (.int 3))) (.int 999999937)))
 (.seq (.fr (.gn 3) (.isq (.sli (.var 0) .nil (.tst (.int 4)))) (.asg (.gn 2) (.bin .Mod (.bin .Add (.bin .Mult (.var 2) (.int 30103)) (.var 3)) (.int 999999937))))
 (.ret (.var 2)))))
theorem oW {g:PTG} {tb:PTS} {D:gO} (I:PSt→Gh→Prop):∀ {xs:List PV} {σ:PSt} {G:Gh},I σ G→(∀ x∈xs,∀ σ G R,I σ G→(∀ σ' G',I σ' G'→R σ' G')→g x σ G fun σ2 G2=>tb { D with nx:=R,ct:=R,bk:=D.nx } σ2 G2)→(∀ σ G,I σ G→D.nx σ G)→sY (fun _=>True) g tb D xs σ G
 | [],σ,G,h,_,hd=>⟨trivial,hd σ G h⟩
 | x :: r,σ,G,h,hs,hd=>⟨trivial,hs x (wDq ..) σ G _ h fun σ' G' h'=>oW I h' (fun y hy=>hs y (wCq _ hy)) hd⟩
theorem aA7 {ns:List Int} {lo hi:Option Int} {G:Gh} {Q:PK1}:YA (.scr ns) lo hi G Q=Q (.lst (sN (ns.map .int) lo hi)) G:=rfl
theorem WL:∀ xs G Q,uK xs G Q→wpS T lL (aP Q) (aC 4 xs) G:=by
 rintro xs G Q ⟨ns,k,rfl,h0,h1,hq⟩;unfold lL;have:=@aA7;walk_at "rd"
 split
 · rename_i hk;obtain ⟨j,rfl⟩:=Int.eq_ofNat_of_zero_le h0;have hj:j < ns.length:=by omega
   exact ⟨ns[j],dF (by simp [hj])⟩
 · have sk:Sm 64 k:=KC h0 (by omega);refine ⟨ON sk,aKM sk,ON (KC (by decide) (by decide)),by show (0:Int) < 999999937; decide, ?_⟩;refine oW (fun σ G'=>G'=G∧∃ st u,σ=[some (.scr ns),some (.int k),some (.int st),u]∧0≤st∧st < 999999937) ⟨rfl,_,_,rfl,Int.emod_nonneg _ (by decide),Int.emod_lt_of_pos _ (by decide)⟩ ?_ ?_
   · rintro x hx σ G' R ⟨rfl,st,u,rfl,a1,a2⟩ hR;have hx':x∈ns.map PV.int:=by
       unfold sN at hx;exact List.mem_of_mem_drop (List.mem_of_mem_take hx)
     obtain ⟨c,_,rfl⟩:=List.mem_map.mp hx';walk_at "rd"
     exact ⟨ON (KC a1 (by omega)),by show (0:Int) < 999999937; decide,hR _ _ ⟨rfl,_,_,rfl,Int.emod_nonneg _ (by decide),Int.emod_lt_of_pos _ (by decide)⟩⟩
   · rintro σ G' ⟨rfl,st,u,rfl,a1,a2⟩;walk_at "rd"
theorem aGS {r k:Int} (a:0≤r) (b:r < 10) (c:0≤k) (d:k < 997):∃ v,atI [PV.int 1,PV.int 2,PV.int 3,PV.int 4,PV.int 6,PV.int 12,PV.int 60,PV.int 255,PV.int 510,PV.int (1 + k)] r=some (.int v)∧1≤v∧v≤997:=by
 have e:r=0∨r=1∨r=2∨r=3∨r=4∨r=5∨r=6∨r=7∨r=8∨r=9:=by omega
 rcases e with rfl | rfl | rfl | rfl | rfl | rfl | rfl | rfl | rfl | rfl
 · exact ⟨_,at0,by omega,by omega⟩
 · exact ⟨_,at1,by omega,by omega⟩
 · exact ⟨_,at2,by omega,by omega⟩
 · exact ⟨_,at3,by omega,by omega⟩
 · exact ⟨_,at4,by omega,by omega⟩
 · exact ⟨_,dF (j:=5) rfl,by omega,by omega⟩
 · exact ⟨_,dF (j:=6) rfl,by omega,by omega⟩
 · exact ⟨_,dF (j:=7) rfl,by omega,by omega⟩
 · exact ⟨_,dF (j:=8) rfl,by omega,by omega⟩
 · exact ⟨_,dF (j:=9) rfl,by omega,by omega⟩
noncomputable def jV:CS:=(.seq (.asg (.gn 1) (.cal "_law_pick" (.cons (.var 0) (.cons (.int 10) .nil))))
 (.seq (.asg (.gn 2) (.idx (.lst false (.cons (.int 1) (.cons (.int 2) (.cons (.int 3) (.cons (.int 4) (.cons (.int 6) (.cons (.int 12) (.cons (.int 60) (.cons (.int 255) (.cons (.int 510) (.cons (.bin .Add (.int 1) (.cal "_law_pick" (.cons (.var 0) (.cons (.int 997) .nil)))) .nil))))))))))) (.var 1)))
 (.ret (.cal "_law_low" (.cons (.cal "_law_pick" (.cons (.var 0) (.cons (.bin .Add (.var 2) (.int 1)) .nil))) (.cons (.var 2) .nil))))))
theorem smP {x:Int} (a:0≤x) (b:x < 1000000000000):Sm 8000 x:=smK (by omega) b (by decide)
theorem aCN {t b:Int} (h0:0≤t) (h1:t≤b) (hb:0 < b):In1 (Rat.divInt t b):=by
 constructor
 · exact Rat.divInt_nonneg h0 (by omega)
 · rw [Rat.divInt_eq_div];have hb':(0:Rat) < (b:Rat):=Rat.intCast_pos.mpr hb;have h2:(t:Rat)≤(b:Rat):=Rat.intCast_le_intCast.mpr h1;have h3:(t:Rat) / (b:Rat) * (b:Rat)=(t:Rat):=Rat.div_mul_cancel (by grind);refine Rat.le_of_mul_le_mul_right (c:=(b:Rat)) ?_ hb'
   grind
theorem AW {t b:Int} {n:Nat} (ht:Sm n t) (hb:Sm n b) (h0:b≠0):Bd n (Rat.divInt t b):=Bd.divInt ht hb h0
theorem OY (h:LT T):∀ xs G Q,gA xs G Q→wpS T jV (aP Q) (aC 3 xs) G:=by
 rintro xs G Q ⟨p,rfl,hp,hq⟩;unfold jV;have:=h.pick;have:=h.low;walk_at "rd"
 refine ⟨by decide,smP (by decide) (by decide),fun r1 G1 a1 b1 n1=>⟨n1.pu,by decide,smP (by decide) (by decide),fun r2 G2 a2 b2 n2=>?_⟩⟩;obtain ⟨v,e,c1,c2⟩:=aGS a1 b1 a2 b2;refine ⟨by decide,_,e, ?_⟩;walk_at "rd"
 refine ⟨n2.pu,by omega,smP (by omega) (by omega),fun r3 G3 a3 b3 n3=>?_⟩;refine ⟨by omega,smK (by omega) (by omega) (by decide),Wk.here (hq _ _ (aCN a3 (by omega) (by omega)) (AW ?_ ?_ (by omega)) ((n1.trans n2).trans n3))⟩
 · unfold Sm; omega
 · unfold Sm; omega
def Pk (p:Addr) (G K:Gh):Prop:= ∃ G',Pn p G G'∧∀ a u,G' a=some u→K a=some u
theorem Pk.of {p:Addr} {G G':Gh} (h:Pn p G G'):Pk p G G':=⟨G',h,fun _ _ z=>z⟩
theorem Pk.new {p l:Addr} {G K:Gh} {o:GO} (h:Pk p G K) (n:K l=none):Pk p G (gup K l o):=by
 obtain ⟨G',a,b⟩:=h;refine ⟨G',a,fun x u q=>?_⟩;have:=b x u q;rw [fG (fun e=>by rw [e,n] at this; cases this)]; exact this
theorem Pk.set {p l:Addr} {G K:Gh} {o:GO} (h:Pk p G K) (n:G l=none) (ne:l≠p):Pk p G (gup K l o):=by
 obtain ⟨G',a,b⟩:=h;refine ⟨G',a,fun x u q=>?_⟩;have e:x≠l:=fun e=>by rw [e,a.ne ne,n] at q; cases q
 rw [fG e]; exact b x u q
theorem Pk.pick {p:Addr} {G K K':Gh} (h:Pk p G K) (m:Pn p K K'):Pk p G K':=by
 obtain ⟨G',a,b⟩:=h;obtain ⟨x,y,z,e⟩:=m;refine ⟨gup G' p (PU x y z),a.trans ⟨x,y,z,rfl⟩,fun c u q=>?_⟩;rw [e];by_cases ec:c=p
 · subst ec; rw [aS] at q ⊢; exact q
 · rw [fG ec] at q ⊢; exact b c u q
theorem Pk.end_ {p:Addr} {G K:Gh} {Q:PK1} {x:PV} (h:Pk p G K) (q:∀ G',Pn p G G'→Q x G'):Wk Q x K:=let ⟨G',a,b⟩:=h; Wk.of (q G' a) b
theorem NV {j:Int} {R:Int→Prop} {A:Int→Int→Prop}:((∃ k,[PV.int j]=[PV.int k]∧R k)∨(∃ i k,[PV.int j]=[PV.int i,PV.int k]∧A i k))=R j:=propext
 ⟨fun h=>h.elim (by rintro ⟨_,e,r⟩;cases e; exact r) (by rintro ⟨_,_,e,_⟩;cases e),fun r=>.inl ⟨_,rfl,r⟩⟩
end
noncomputable abbrev R3:=Rat×Rat×Rat
noncomputable def shV (r:R3):PV:=SH r.1 r.2.1 r.2.2
theorem bd0:Bd 2 0:=⟨by unfold Sm; decide,by unfold Sm; decide⟩
def NU:Sp3:=fun xs G Q=>∃ a b c a' b' c',xs=[SH a b c,SH a' b' c']∧Q (.bl (decide (a=a') && (decide (b=b') && decide (c=c')))) G
theorem aKO {a b c:Rat}:shp (.tup [FQ a,FQ b,FQ c])=true:=rfl
theorem WW:oZ [] []=true:=by simp only [oZ]
theorem OO {x y:PV} {xs ys:List PV}:oZ (x :: xs) (y :: ys)=(peq x y && oZ xs ys):=by simp only [oZ]
theorem aGP {G:Gh} {Q:PK1} {a b c a' b' c':Rat}:pEq false (.tup [FQ a,FQ b,FQ c]) (.tup [FQ a',FQ b',FQ c']) G Q=Q (.bl (decide (a=a') && (decide (b=b') && decide (c=c')))) G:=by
 show (shp (.tup [FQ a,FQ b,FQ c])=true∧shp (.tup [FQ a',FQ b',FQ c'])=true∧Q (.bl (peq (.tup [FQ a,FQ b,FQ c]) (.tup [FQ a',FQ b',FQ c']))) G)=_;simp only [aKO,true_and,peq,OO,WW,aBa,Bool.and_true]
theorem av0 {xs:List PV} {x:PV}:Ar.val (x :: xs) (.arg 0)=x:=rfl
theorem av1 {xs:List PV} {x y:PV}:Ar.val (x :: y :: xs) (.arg 1)=y:=rfl
theorem av2 {xs:List PV} {x y z:PV}:Ar.val (x :: y :: z :: xs) (.arg 2)=z:=rfl
theorem avn {xs:List PV}:Ar.val xs .non= .non:=rfl
local macro_rules | `(tactic| walk_at "rd") => wk (wB++" aGF BN hU aX aGP")
section
variable {T:Tb}
noncomputable def eJ:CS:=(.ret (.an (.blt .isi (.cons (.var 1) (.cons (.glo "Shade") .nil))) (.cmp .Eq (.cal "shares_of" (.cons (.var 0) .nil)) (.cal "shares_of" (.cons (.var 1) .nil)))))
theorem wI (h:PT T):∀ xs G Q,NU xs G Q→wpS T eJ (aP Q) (aC 2 xs) G:=by
 rintro xs G Q ⟨a,b,c,a',b',c',rfl,hq⟩;unfold eJ;have:=h.shares_of;have:=h.gv_Shade;have:=h.cs;walk_at "rd"
end
noncomputable def sg:Nat→Nat | 0=>0 | 1=>1 | 2=>1 | 3=>2 | 4=>2 | _=>0
noncomputable def sl:Nat→Nat | 0=>2 | 1=>2 | 2=>0 | 3=>0 | 4=>1 | _=>1
noncomputable def sm:Nat→Nat | 0=>1 | 1=>0 | 2=>2 | 3=>1 | 4=>0 | _=>2
noncomputable def ss:Nat→Int | 0=>0 | 1=>2 | 2=>2 | 3=>4 | 4=>4 | _=>6
noncomputable def sw:Nat→Int | 0=>1 | 1=> -1 | 2=>1 | 3=> -1 | 4=>1 | _=> -1
noncomputable def p3 (i:Nat) (a b c:Rat):Rat:=match i with | 0=>a | 1=>b | _=>c
noncomputable def iP (k:Nat) (a b c:Rat):Bool:= !decide (p3 (sg k) a b c < p3 (sm k) a b c) && !decide (p3 (sm k) a b c < p3 (sl k) a b c)
noncomputable def kOf (a b c:Rat):Nat:=if iP 0 a b c=true then 0 else if iP 1 a b c=true then 1 else if iP 2 a b c=true then 2 else if iP 3 a b c=true then 3 else if iP 4 a b c=true then 4 else 5
noncomputable def lo (a b c:Rat):Rat:=p3 (sl (kOf a b c)) a b c
noncomputable def hi (a b c:Rat):Rat:=p3 (sg (kOf a b c)) a b c
noncomputable def mi (a b c:Rat):Rat:=p3 (sm (kOf a b c)) a b c
noncomputable def tn (a b c:Rat):Rat:=(ss (kOf a b c):Rat) + (sw (kOf a b c):Rat) * ((mi a b c - lo a b c) / (hi a b c - lo a b c))
noncomputable def tO (a b c:Rat):Option Rat:=if hi a b c=lo a b c then none else some (tn a b c)
noncomputable def c0 (t:Rat):Rat:=if t≤1 then 1 else if t≤2 then 2 - t else if t≤4 then 0 else if t≤5 then t - 4 else 1
noncomputable def c1 (t:Rat):Rat:=if t≤1 then t else if t≤3 then 1 else if t≤4 then 4 - t else 0
noncomputable def c2 (t:Rat):Rat:=if t≤2 then 0 else if t≤3 then t - 2 else if t≤5 then 1 else 6 - t
def At (w g t a b c:Rat):Prop:=a=w + c0 t * (g - w)∧b=w + c1 t * (g - w)∧c=w + c2 t * (g - w)
theorem aDv {t:Rat} (h0:0≤t) (h6:t < 6):(t≤1∧c0 t=1∧c1 t=t∧c2 t=0)∨(1 < t∧t≤2∧c0 t=2 - t∧c1 t=1∧c2 t=0)∨(2 < t∧t≤3∧c0 t=0∧c1 t=1∧c2 t=t - 2)∨(3 < t∧t≤4∧c0 t=0∧c1 t=4 - t∧c2 t=1)∨(4 < t∧t≤5∧c0 t=t - 4∧c1 t=0∧c2 t=1)∨(5 < t∧c0 t=1∧c1 t=0∧c2 t=6 - t):=by
 unfold c0 c1 c2;by_cases h1:t≤1
 · grind
 by_cases h2:t≤2
 · grind
 by_cases h3:t≤3
 · grind
 by_cases h4:t≤4
 · grind
 by_cases h5:t≤5
 · grind
 · grind
theorem cv0 {t:Rat} (h:0≤t) (h':t≤1):c0 t=1∧c1 t=t∧c2 t=0:=by unfold c0 c1 c2; grind
theorem cv1 {t:Rat} (h:1≤t) (h':t≤2):c0 t=2 - t∧c1 t=1∧c2 t=0:=by unfold c0 c1 c2; grind
theorem cv2 {t:Rat} (h:2≤t) (h':t≤3):c0 t=0∧c1 t=1∧c2 t=t - 2:=by unfold c0 c1 c2; grind
theorem cv3 {t:Rat} (h:3≤t) (h':t≤4):c0 t=0∧c1 t=4 - t∧c2 t=1:=by unfold c0 c1 c2; grind
theorem cv4 {t:Rat} (h:4≤t) (h':t≤5):c0 t=t - 4∧c1 t=0∧c2 t=1:=by unfold c0 c1 c2; grind
theorem cv5 {t:Rat} (h:5≤t):c0 t=1∧c1 t=0∧c2 t=6 - t:=by unfold c0 c1 c2; grind
noncomputable def r6 (q:Rat):Rat:=q - ((6 * (q.num / (6 * (q.den:Int))):Int):Rat)
theorem sub_int (q:Rat) (z:Int):(q - (z:Rat)).num=q.num - z * (q.den:Int)∧(q - (z:Rat)).den=q.den:=by
 have e:q - (z:Rat)=Rat.divInt (q.num - z * (q.den:Int)) (q.den:Int):=by
   have:=NI q (z:Rat);rw [←this];show Rat.divInt (q.num * ((1:Nat):Int) - z * (q.den:Int)) ((q.den:Int) * ((1:Nat):Int))=_
   congr 1 <;> omega
 have hd:=tW (q:=q);have g:Int.gcd (q.den:Int) (q.num - z * (q.den:Int))=1:=by
   rw [Int.gcd_sub_mul_right_right];have:=q.reduced;rw [Int.gcd_comm]; exact this
 constructor
 · rw [e,Rat.num_divInt,g,Int.sign_eq_one_of_pos hd]; simp
 · rw [e,Rat.den_divInt,if_neg (by omega),g]; simp
noncomputable def stV (k:Nat):PV:=.tup [.int (sg k:Int),.int (sl k:Int),.int (sm k:Int),.int (ss k),.int (sw k)]
noncomputable def tV:Option Rat→PV
 | none=>.non
 | some t=>FQ t
noncomputable def VH (a b c:Rat):PV:=.tup [tV (tO a b c),FQ (lo a b c),FQ (1 - hi a b c)]
noncomputable def TOk (w b:Rat):Option Rat→Prop
 | none=>w + b=1
 | some t=>(0≤t∧t < 6)∧w + b < 1
noncomputable def TBd (n:Nat):Option Rat→Prop
 | none=>True
 | some t=>Bd n t
def BW (w b:Rat) (o:Option Rat) (x y z:Rat):Prop:=match o with
 | none=>x=w∧y=w∧z=w
 | some t=>At w (1 - b) t x y z
noncomputable def rot (n:Int) (a b c:Rat):R3:=if n % 3=0 then (a,b,c) else if n % 3=1 then (c,a,b) else (b,c,a)
def vV:Sp3:=fun xs G Q=>∃ a b,xs=[FQ a,FQ b]∧Bd 4000 a∧Bd 4000 b∧Q (.bl (decide (a < b))) G
def pC:Sp3:=fun xs G Q=>∃ a b c k,xs=[.tup [FQ a,FQ b,FQ c],stV k]∧Bd 4000 a∧Bd 4000 b∧Bd 4000 c∧Q (.bl (iP k a b c)) G
def lY:Sp3:=fun xs G Q=>∃ a b c,xs=[.tup [FQ a,FQ b,FQ c]]∧Bd 4000 a∧Bd 4000 b∧Bd 4000 c∧Q (stV (kOf a b c)) G
def fN:Sp3:=fun xs G Q=>∃ a b c,xs=[SH a b c]∧Bd 600 a∧Bd 600 b∧Bd 600 c∧Q (VH a b c) G
def lP:Sp3:=fun xs G Q=>∃ a,xs=[FQ a]∧0≤a∧Q (.bl true) G
def fO:Sp3:=fun xs G Q=>∃ w b o,xs=[FQ w,FQ b,tV o]∧TOk w b o∧Bd 600 w∧Bd 600 b∧TBd 3000 o∧Q .non G
def nZ:Sp3:=fun xs G Q=>∃ w b o,xs=[FQ w,FQ b,tV o]∧0≤w∧0≤b∧TOk w b o∧Bd 300 w∧Bd 300 b∧TBd 1100 o∧∀ x y z,BW w b o x y z→Q (SH x y z) G
def pA:Sp3:=fun xs G Q=>∃ p,xs=[FQ p]∧In1 p∧Q (FQ p) G
def tT:Sp3:=fun xs G Q=>∃ a b c q p,xs=[SH a b c,FQ q,FQ p]∧(In1 a∧In1 b∧In1 c)∧In1 q∧In1 p∧(Bd 260 a∧Bd 260 b∧Bd 260 c)∧Bd 2 q∧Bd 12 p∧Q (SH (a + p * (q - a)) (b + p * (q - b)) (c + p * (q - c))) G
def rK (q:Rat):Sp3:=fun xs G Q=>∃ a b c p,xs=[SH a b c,FQ p]∧(In1 a∧In1 b∧In1 c)∧In1 p∧(Bd 260 a∧Bd 260 b∧Bd 260 c)∧Bd 12 p∧Q (SH (a + p * (q - a)) (b + p * (q - b)) (c + p * (q - c))) G
def YJ:Sp3:=fun xs G Q=>∃ a b c,xs=[SH a b c]∧(In1 a∧In1 b∧In1 c)∧(Bd 260 a∧Bd 260 b∧Bd 260 c)∧Q (SH (1 - a) (1 - b) (1 - c)) G
def uI:Sp3:=fun xs G Q=>∃ a b c n,xs=[SH a b c,.int n]∧(In1 a∧In1 b∧In1 c)∧Q (shV (rot n a b c)) G
def LM:Sp3:=fun xs G Q=>xs=[SH 0 0 0]∧Q (.int 0) G
def lW:Sp3:=fun xs G Q=>∃ p,xs=[.ref p]∧Pu p G∧∀ w b o G',0≤w→0≤b→TOk w b o→Bd 12 w→Bd 40 b→TBd 12 o→Pn p G G'→Q (.tup [FQ w,FQ b,tV o]) G'
def AZ:Sp3:=fun xs G Q=>∃ o n,xs=[tV o,.int n]∧TBd 1100 o∧Sm 80 n∧Q (tV (o.map fun t=>r6 (t + (n:Rat)))) G
def uH:Sp3:=fun xs G Q=>∃ w b p,xs=[FQ w,FQ b,FQ p]∧Bd 600 w∧Bd 600 b∧Bd 12 p∧Q (.tup [FQ (w + p * (1 - w)),FQ (b - p * b)]) G
def AX:Sp3:=fun xs G Q=>∃ x a b c n p,xs=[x,SH a b c,.int n,FQ p]∧(In1 a∧In1 b∧In1 c)∧(Bd 250 a∧Bd 250 b∧Bd 250 c)∧Sm 75 n∧In1 p∧Bd 12 p∧Q (.bl true) G
structure L17 (T:Tb):Prop where
 less:T.S "less"=vV
 falls:T.S "falls"=pC
 stretch_of:T.S "stretch_of"=lY
 wheel_of:T.S "wheel_of"=fN
 is_from_0:T.S "is_from_0"=lP
 need_turn:T.S "need_turn"=fO
 by_wheel:T.S "by_wheel"=nZ
 part_of:T.S "part_of"=pA
 toward:T.S "toward"=tT
 darker:T.S "darker"=rK 0
 lighter:T.S "lighter"=rK 1
 opposite:T.S "opposite"=YJ
 turned:T.S "turned"=uI
 eqS:T.S "Shade.__eq__"=NU
 lenS:T.S "Shade.__len__"=LM
 turn_row:T.S "_law_turn_row"=lW
 round:T.S "_law_round"=AZ
 lifted:T.S "_law_lifted"=uH
 right:T.S "_law_right"=AX
 gv_HALF:T.gv "HALF"= .tup [.int 1,.int 2]
 gv_ST:T.gv "STRETCHES"= .tup [stV 0,stV 1,stV 2,stV 3,stV 4,stV 5]
theorem ix3 {i:Nat} {a b c:Rat} (h:i < 3):atI [FQ a,FQ b,FQ c] (i:Int)=some (FQ (p3 i a b c)):=by
 have e:i=0∨i=1∨i=2:=by omega
 rcases e with rfl | rfl | rfl
 · exact at0
 · exact at1
 · exact at2
theorem aLZ {k:Nat}:sg k < 3:=by unfold sg; split <;> decide
theorem aKV {k:Nat}:sl k < 3:=by unfold sl; split <;> decide
theorem aKb {k:Nat}:sm k < 3:=by unfold sm; split <;> decide
theorem aES {k:Nat} {a b c:Rat}:atI [FQ a,FQ b,FQ c] (sg k:Int)=some (FQ (p3 (sg k) a b c)):=ix3 aLZ
theorem aEI {k:Nat} {a b c:Rat}:atI [FQ a,FQ b,FQ c] (sl k:Int)=some (FQ (p3 (sl k) a b c)):=ix3 aKV
theorem aFw {k:Nat} {a b c:Rat}:atI [FQ a,FQ b,FQ c] (sm k:Int)=some (FQ (p3 (sm k) a b c)):=ix3 aKb
theorem zD {n i:Nat} {a b c:Rat} (ha:Bd n a) (hb:Bd n b) (hc:Bd n c):Bd n (p3 i a b c):=by unfold p3; split <;> assumption
theorem aNK {a b c d e:PV} {G:Gh} {Q:PK1}:YA (.tup [a,b,c,d,e]) none (some 3) G Q=Q (.tup [a,b,c]) G:=by
 show Q (.tup (sN [a,b,c,d,e] none (some 3))) G=_;have h1:HT.sIx 5 0 none=0:=rfl;have h2:HT.sIx 5 5 (some 3)=3:=by decide
 have h3:sN [a,b,c,d,e] none (some 3)=[a,b,c]:=by
   unfold sN;show List.take (HT.sIx 5 5 (some 3) - HT.sIx 5 0 none) (List.drop (HT.sIx 5 0 none) [a,b,c,d,e])=_;rw [h1,h2]; rfl
 rw [h3]
theorem VU {chk:Gh→Prop} {ts:PTT} {te:PTE} {s:Option PV} {G:Gh} {Q:List PV→Gh→Prop} (p:PV→Bool) (hc:chk G) (hq:∀ (l acc:List PV),True) :
   ∀ (l acc:List PV) (u v:Option PV),(∀ x∈l,∀ u R,R (p x) G→ts [u,some x,s] G R)→(∀ x∈l,∀ u R,R x G→te [u,some x,s] G R)→Q (acc ++ l.filter p) G→fZ chk (fun x σ G Q=>Q (σ.set 1 (some x)) G) ts te l acc [u,v,s] G Q
 | [],acc,u,v,_,_,q=>⟨hc,by simpa using q⟩
 | x :: l,acc,u,v,h1,h2,q=>by
   refine ⟨hc, ?_⟩;show ts [u,some x,s] G _;refine h1 x (wDq ..) u _ ?_;cases hp:p x with
   | true =>
     rw [if_pos rfl];refine h2 x (wDq ..) u _ ?_;refine VU p hc hq l (acc ++ [x]) u (some x) (fun y hy=>h1 y (wCq _ hy)) (fun y hy=>h2 y (wCq _ hy)) ?_;rw [List.filter_cons,hp,if_pos rfl] at q;rw [List.append_assoc]; exact q
   | false =>
     rw [if_neg Bool.false_ne_true];refine VU p hc hq l acc u (some x) (fun y hy=>h1 y (wCq _ hy)) (fun y hy=>h2 y (wCq _ hy)) ?_;rw [List.filter_cons,hp,if_neg Bool.false_ne_true] at q;exact q
theorem aMd {a b c:Rat} (h0:iP 0 a b c=false) (h1:iP 1 a b c=false) (h2:iP 2 a b c=false) (h3:iP 3 a b c=false) (h4:iP 4 a b c=false):iP 5 a b c=true:=by
 unfold iP p3 sg sm sl at *;simp only [Bool.and_eq_true,Bool.and_eq_false_iff,Bool.not_eq_true',Bool.not_eq_false',decide_eq_false_iff_not,decide_eq_true_eq,Rat.not_lt] at *
 grind
noncomputable def WJ (a b c:Rat):PV→Bool
 | .tup [.int g,.int l,.int m,_,_]=> !decide (p3 g.toNat a b c < p3 m.toNat a b c) && !decide (p3 m.toNat a b c < p3 l.toNat a b c)
 | _=>false
theorem cJ {k:Nat} {a b c:Rat}:WJ a b c (stV k)=iP k a b c:=rfl
theorem WN {a b c:Rat}:∃ r,[stV 0,stV 1,stV 2,stV 3,stV 4,stV 5].filter (WJ a b c)=stV (kOf a b c) :: r:=by
 unfold kOf;by_cases h0:iP 0 a b c=true
 · rw [if_pos h0,List.filter_cons_of_pos (by rw [cJ]; exact h0)]; exact ⟨_,rfl⟩
 rw [if_neg h0,List.filter_cons_of_neg (by rw [cJ]; exact h0)];by_cases h1:iP 1 a b c=true
 · rw [if_pos h1,List.filter_cons_of_pos (by rw [cJ]; exact h1)]; exact ⟨_,rfl⟩
 rw [if_neg h1,List.filter_cons_of_neg (by rw [cJ]; exact h1)];by_cases h2:iP 2 a b c=true
 · rw [if_pos h2,List.filter_cons_of_pos (by rw [cJ]; exact h2)]; exact ⟨_,rfl⟩
 rw [if_neg h2,List.filter_cons_of_neg (by rw [cJ]; exact h2)];by_cases h3:iP 3 a b c=true
 · rw [if_pos h3,List.filter_cons_of_pos (by rw [cJ]; exact h3)]; exact ⟨_,rfl⟩
 rw [if_neg h3,List.filter_cons_of_neg (by rw [cJ]; exact h3)];by_cases h4:iP 4 a b c=true
 · rw [if_pos h4,List.filter_cons_of_pos (by rw [cJ]; exact h4)]; exact ⟨_,rfl⟩
 rw [if_neg h4,List.filter_cons_of_neg (by rw [cJ]; exact h4)];have f:∀ {x:Bool},¬x=true→x=false:=fun {x} h=>by simpa using h
 rw [List.filter_cons_of_pos (by rw [cJ]; exact aMd (f h0) (f h1) (f h2) (f h3) (f h4))];exact ⟨_,rfl⟩
theorem NM {o:Option Rat} {G:Gh} {Q:PK1}:pIs false (tV o) .non G Q=Q (.bl o.isNone) G:=by
 cases o with
 | none=>exact wE
 | some t=>exact tI (fun z=>by cases z)
local macro_rules | `(tactic| walk_at "rd") => wk (wB++" false_and or_false kX tK tL wE fY lK OK UV iG bU ZH AO exists_eq' BN Option.getD_some gM dD dE jP eY aX aES aEI aFw aNK vV pC lP")
section
variable {T:Tb}
noncomputable def yK:CS:=kA
theorem aGZ:∀ xs G Q,vV xs G Q→wpS T yK (aP Q) (aC 2 xs) G:=OU
noncomputable def mS:CS:=(.seq (.ex (.cal "need_fractions" (.cons (.tup (.cons (.var 0) (.cons (.var 1) .nil))) .nil)))
 (.ret (.cal "less" (.cons (.var 0) (.cons (.var 1) .nil)))))
theorem aBz (h:PT T) (k:L17 T):∀ xs G Q,eY xs G Q→wpS T mS (aP Q) (aC 2 xs) G:=by
 rintro xs G Q ⟨a,b,rfl,ha,hb,hq⟩;unfold mS;have:=h.need_fractions;have:=k.less;walk_at "rd"
noncomputable def rS:CS:=(.seq (.ex (.cal "need_fractions" (.cons (.tup (.cons (.var 0) (.cons (.var 1) .nil))) .nil)))
 (.seq (.iff (.tsb (.cmp .Eq (.idx (.var 1) (.int 0)) (.int 0))) .nev .nil)
 (.ret (.cal "lowest" (.cons (.bin .Mult (.idx (.var 0) (.int 0)) (.idx (.var 1) (.int 1))) (.cons (.bin .Mult (.idx (.var 0) (.int 1)) (.idx (.var 1) (.int 0))) .nil))))))
theorem aG7 (h:PT T):∀ xs G Q,jP xs G Q→wpS T rS (aP Q) (aC 2 xs) G:=by
 rintro xs G Q ⟨a,b,rfl,ha,hb,h0,hq⟩;unfold rS;have:=h.need_fractions;have:=h.lowest;have n0:¬b.num=0:=fun z=>h0 (Rat.num_eq_zero.mp z);walk_at "rd"
 refine ⟨kY ha.1 hb.2,kY ha.2 hb.1,iD cN n0,(ha.2.mul hb.1).mono (by decide),Wk.here ?_⟩;rw [aFd]; exact hq
noncomputable def nD:CS:=(.seq (.asg (.gt 3 (.cons (.gn 2) (.cons (.gn 3) (.cons (.gn 4) .nil)))) (.sli (.var 1) .nil (.tst (.int 3))))
 (.ret (.an (.no (.cal "below" (.cons (.idx (.var 0) (.var 2)) (.cons (.idx (.var 0) (.var 4)) .nil)))) (.no (.cal "below" (.cons (.idx (.var 0) (.var 4)) (.cons (.idx (.var 0) (.var 3)) .nil)))))))
theorem aBk (h:PT T):∀ xs G Q,pC xs G Q→wpS T nD (aP Q) (aC 5 xs) G:=by
 rintro xs G Q ⟨a,b,c,k,rfl,ha,hb,hc,hq⟩;unfold nD stV;have:=h.below;have b1:=zD (i:=sg k) ha hb hc;have b2:=zD (i:=sm k) ha hb hc;have b3:=zD (i:=sl k) ha hb hc;unfold iP at hq;walk_at "rd"
 by_cases e:p3 (sg k) a b c < p3 (sm k) a b c
 · rw [decide_eq_true e] at hq ⊢;simp only [Bool.not_true,Bool.false_and,Bool.false_eq_true,if_false] at hq ⊢;exact Wk.here hq
 · rw [decide_eq_false e] at hq ⊢;simp only [Bool.not_false,Bool.true_and,if_true] at hq ⊢;exact Wk.here hq
noncomputable def fM:CS:=(.seq (.asg (.gn 1) (.cmpr false (.gn 1) (.isq (.glo "STRETCHES")) (.tst (.cal "falls" (.cons (.var 2) (.cons (.var 1) .nil)))) (.var 1) [none,none,some 0]))
 (.ret (.idx (.var 1) (.int 0))))
theorem aIT {x:PV} (h:x∈ [stV 0,stV 1,stV 2,stV 3,stV 4,stV 5]):∃ k,x=stV k:=by
 simp only [List.mem_cons,List.not_mem_nil,or_false] at h;rcases h with h | h | h | h | h | h <;> exact ⟨_,h⟩
theorem CU (k:L17 T):∀ xs G Q,lY xs G Q→wpS T fM (aP Q) (aC 2 xs) G:=by
 rintro xs G Q ⟨a,b,c,rfl,ha,hb,hc,hq⟩;unfold fM;have e:=k.falls;have eg:=k.gv_ST;simp only [wpS,wpE,wpI,wpG,wpT,wpL,eg,lK];refine ⟨by decide, ?_⟩;refine VU (WJ a b c) trivial (fun _ _=>trivial) _ _ _ _ ?_ ?_ ?_
 · intro x hx u R hR;obtain ⟨n,rfl⟩:=aIT hx;rw [cJ] at hR;walk_at "rd"
   exact ⟨n,rfl,hR⟩
 · intro x hx u R hR;walk_at "rd"
 · obtain ⟨r,e⟩:=WN (a:=a) (b:=b) (c:=c);rw [List.nil_append,e];walk_at "rd"
theorem aEl {k:Nat}:Sm 3 (ss k):=by unfold ss Sm; split <;> decide
theorem aEm {k:Nat}:Sm 3 (sw k):=by unfold sw Sm; split <;> decide
theorem bd1:Bd 2 1:=⟨by unfold Sm; decide,by unfold Sm; decide⟩
end
theorem aIu {t:Rat} (h0:0≤t) (h6:t < 6):∃ n:Nat,n < 6∧t.num / (t.den:Int)=(n:Int)∧((n:Int):Rat)≤t∧t < ((n:Int):Rat) + 1:=by
 have hd:=tW (q:=t);have n0:=iA h0;have n6:=(Rat.lt_iff t 6).mp h6;have n6:t.num < 6 * (t.den:Int):=by simpa using n6
 have e1:=Int.ediv_nonneg n0 (Int.le_of_lt hd);have e2:=Int.mul_ediv_add_emod t.num (t.den:Int);have e3:=Int.emod_nonneg t.num (show (t.den:Int)≠0 by omega);have e4:=Int.emod_lt_of_pos t.num hd;obtain ⟨n,hn⟩:=Int.eq_ofNat_of_zero_le e1;rw [hn] at e2;refine ⟨n, ?_,hn, ?_, ?_⟩
 · refine Nat.lt_of_not_le fun z=>?_;have:(t.den:Int) * 6≤(t.den:Int) * (n:Int):=Int.mul_le_mul_of_nonneg_left (by omega) (by omega);omega
 · rw [Rat.le_iff];show (n:Int) * (t.den:Int)≤t.num * ((1:Nat):Int);rw [Int.mul_comm]; omega
 · have:((n:Int):Rat) + 1=(((n:Int) + 1:Int):Rat):=by rw [Rat.intCast_add]; rfl
   rw [this,Rat.lt_iff];show t.num * ((1:Nat):Int) < ((n:Int) + 1) * (t.den:Int);rw [Int.add_mul,Int.mul_comm (n:Int)]; omega
theorem aBK {n:Nat} (hn:n < 6) {t g w m:Rat} (h1:((n:Int):Rat)≤t) (h2:t < ((n:Int):Rat) + 1) (hm:m=w + (sw n:Rat) * (t - (ss n:Rat)) * (g - w)) :
   ∃ x y z,oU [.inl (sg n:Int),.inl (sm n:Int),.inl (sl n:Int)] [FQ g,FQ m,FQ w] (.inl 0)=some (FQ x)∧oU [.inl (sg n:Int),.inl (sm n:Int),.inl (sl n:Int)] [FQ g,FQ m,FQ w] (.inl 1)=some (FQ y)∧
     oU [.inl (sg n:Int),.inl (sm n:Int),.inl (sl n:Int)] [FQ g,FQ m,FQ w] (.inl 2)=some (FQ z)∧At w g t x y z:=by
 have i0:((0:Int):Rat)=0:=rfl;have i1:((1:Int):Rat)=1:=rfl;have i2:((2:Int):Rat)=2:=rfl;have i3:((3:Int):Rat)=3:=rfl;have i4:((4:Int):Rat)=4:=rfl;have i5:((5:Int):Rat)=5:=rfl;have i6:((6:Int):Rat)=6:=rfl;have im:((-1:Int):Rat)= -1:=rfl;have e:n=0∨n=1∨n=2∨n=3∨n=4∨n=5:=by omega
 rcases e with rfl | rfl | rfl | rfl | rfl | rfl
 · obtain ⟨x,y,z⟩:=cv0 (t:=t) h1 (by have:((0:Nat):Int)=0:=rfl; rw [this,i0] at h2; grind);simp only [sw,ss,i0,i1] at hm;exact ⟨g,m,w,rfl,rfl,rfl,by rw [x]; grind,by rw [y,hm]; grind,by rw [z]; grind⟩
 · obtain ⟨x,y,z⟩:=cv1 (t:=t) h1 (by have:((1:Nat):Int)=1:=rfl; rw [this,i1] at h2; grind);simp only [sw,ss,im,i2] at hm;exact ⟨m,g,w,rfl,rfl,rfl,by rw [x,hm]; grind,by rw [y]; grind,by rw [z]; grind⟩
 · obtain ⟨x,y,z⟩:=cv2 (t:=t) h1 (by have:((2:Nat):Int)=2:=rfl; rw [this,i2] at h2; grind);simp only [sw,ss,i1,i2] at hm;exact ⟨w,g,m,rfl,rfl,rfl,by rw [x]; grind,by rw [y]; grind,by rw [z,hm]; grind⟩
 · obtain ⟨x,y,z⟩:=cv3 (t:=t) h1 (by have:((3:Nat):Int)=3:=rfl; rw [this,i3] at h2; grind);simp only [sw,ss,im,i4] at hm;exact ⟨w,m,g,rfl,rfl,rfl,by rw [x]; grind,by rw [y,hm]; grind,by rw [z]; grind⟩
 · obtain ⟨x,y,z⟩:=cv4 (t:=t) h1 (by have:((4:Nat):Int)=4:=rfl; rw [this,i4] at h2; grind);simp only [sw,ss,i1,i4] at hm;exact ⟨m,w,g,rfl,rfl,rfl,by rw [x,hm]; grind,by rw [y]; grind,by rw [z]; grind⟩
 · obtain ⟨x,y,z⟩:=cv5 (t:=t) h1;simp only [sw,ss,im,i6] at hm;exact ⟨g,w,m,rfl,rfl,rfl,by rw [x]; grind,by rw [y]; grind,by rw [z,hm]; grind⟩
theorem aMu {t:Rat} (h0:0≤t) (h6:t < 6):In1 (c0 t)∧In1 (c1 t)∧In1 (c2 t):=by
 have:=aDv h0 h6;unfold In1;generalize c0 t=x at *; generalize c1 t=y at *; generalize c2 t=z at *;refine ⟨⟨?_, ?_⟩,⟨?_, ?_⟩, ?_, ?_⟩ <;> grind
theorem JJ {w g x:Rat} (hx:In1 x) (h0:0≤w) (h1:w≤g) (h2:g≤1):In1 (w + x * (g - w)):=by
 have a:0≤x * (g - w):=Rat.mul_nonneg hx.1 (by grind);have b:0≤(1 - x) * (g - w):=Rat.mul_nonneg (by have:=hx.2; grind) (by grind);exact ⟨by grind,by grind⟩
theorem aKK {w g t a b c:Rat} (h0:0≤t) (h6:t < 6) (hw:0≤w) (hg:w≤g) (h1:g≤1) (h:At w g t a b c):In1 a∧In1 b∧In1 c:=by
 obtain ⟨x,y,z⟩:=aMu h0 h6;obtain ⟨ea,eb,ec⟩:=h;rw [ea,eb,ec];exact ⟨JJ x hw hg h1,JJ y hw hg h1,JJ z hw hg h1⟩
theorem XI {ks:List Key} {xs:List PV} {i:Int} {G:Gh} {Q:PK1}:rY (.dct ks xs) (.int i) G Q=(∃ v,oU ks xs (.inl i)=some v∧Q v G):=rfl
theorem aLC {n:Nat}: [(Sum.inl (sg n:Int):Key),.inl (sm n:Int),.inl (sl n:Int)].Nodup:=by
 unfold sg sm sl;split <;> decide
local macro_rules | `(tactic| walk_at "rd") => wk (wB++" exists_false false_and and_false or_false pL iQ iT OD tL FP QL lK at1 at2 aLM aFy aAm aJ9 OK UV eI exists_eq' uD lN lQ jB IP BN QE Option.getD_some gM dD dE fS hU eF aX lO lP pA NM XI")
section
variable {T:Tb}
noncomputable def byB:CS:=(.seq (.asg (.gn 9) (.cal "minus" (.cons (.glo "ONE") (.cons (.var 1) .nil))))
 (.seq (.asg (.gn 10) (.cal "times" (.cons (.tup (.cons (.var 8) (.cons (.int 1) .nil))) (.cons (.cal "minus" (.cons (.var 2) (.cons (.tup (.cons (.var 7) (.cons (.int 1) .nil))) .nil))) .nil))))
 (.seq (.asg (.gn 11) (.dct (.cons (.var 4) (.cons (.var 9) (.cons (.var 6) (.cons (.cal "plus" (.cons (.var 0) (.cons (.cal "times" (.cons (.var 10) (.cons (.cal "minus" (.cons (.var 9) (.cons (.var 0) .nil))) .nil))) .nil))) (.cons (.var 5) (.cons (.var 0) .nil))))))))
 (.ret (.cal "Shade" (.cons (.idx (.var 11) (.int 0)) (.cons (.idx (.var 11) (.int 1)) (.cons (.idx (.var 11) (.int 2)) .nil))))))))
theorem aKU {n:Nat} (h:n < 6):atI [stV 0,stV 1,stV 2,stV 3,stV 4,stV 5] (n:Int)=some (stV n):=by
 have e:n=0∨n=1∨n=2∨n=3∨n=4∨n=5:=by omega
 rcases e with rfl | rfl | rfl | rfl | rfl | rfl <;> exact dF rfl
theorem aLF (h:PT T) {w b t:Rat} {u c e f:Option PV} {n:Nat} {G:Gh} {Q:PK1} (hn:n < 6) (h1:((n:Int):Rat)≤t) (h2:t < ((n:Int):Rat) + 1) (h0:0≤t) (h6:t < 6) (w0:0≤w) (b0:0≤b) (hs:w + b < 1) (bw:Bd 300 w) (bb:Bd 300 b) (bt:Bd 1100 t)
   (hq:∀ x y z,At w (1 - b) t x y z→Q (SH x y z) G) :
   wpS T byB (aP Q) [some (FQ w),some (FQ b),some (FQ t),u,some (.int (sg n:Int)),some (.int (sl n:Int)),some (.int (sm n:Int)),some (.int (ss n)),some (.int (sw n)),c,e,f] G:=by
 unfold byB;have:=h.minus;have:=h.plus;have:=h.times;have:=h.shade;have:=h.gv_ONE;have:=@jT;have g1:=bd1.sub bb (show 2 + 300 + 1≤303 by decide);have d4:Bd 3 (sw n:Rat):=Bd.int aEm (by decide);have d5:Bd 3 (ss n:Rat):=Bd.int aEl (by decide);have g2:=bt.sub d5 (show 1100 + 3 + 1≤1104 by decide);have g3:=d4.mul g2 (show 3 + 1104≤1107 by decide);have g4:=g1.sub bw (show 303 + 300 + 1≤604 by decide);have g5:=g3.mul g4 (show 1107 + 604≤1711 by decide);walk_at "rd"
 refine ⟨bd1.mono (by decide),bb.mono (by decide),bt.mono (by decide),d5.mono (by decide),d4.mono (by decide),g2.mono (by decide),g1.mono (by decide),bw.mono (by decide),g3.mono (by decide),g4.mono (by decide),bw.mono (by decide),g5.mono (by decide), ?_⟩;obtain ⟨x,y,z,l0,l1,l2,at_⟩:=aBK (g:=1 - b) (w:=w) hn h1 h2 rfl;obtain ⟨ix,iy,iz⟩:=aKK h0 h6 w0 (by grind) (by grind) at_;refine ⟨[(.inl (sg n:Int),FQ (1 - b)),(.inl (sm n:Int),FQ (w + (sw n:Rat) * (t - (ss n:Rat)) * (1 - b - w))),(.inl (sl n:Int),FQ w)],rfl,aLC,by simp, ?_⟩;refine ⟨_,l0,_,l1,_,l2, ?_⟩;walk_at "rd"
end
section
variable {T:Tb}
theorem aLu:PV.tup [.int 1,.int 1]=FQ 1:=rfl
end
theorem IG {t b k:Int} (hb:0 < b) (h1:t < k * b):Rat.divInt t b < (k:Rat):=by
 rw [Rat.divInt_eq_div];have hb':(0:Rat) < (b:Rat):=Rat.intCast_pos.mpr hb;have h2:(t:Rat) < ((k * b:Int):Rat):=Rat.intCast_lt_intCast.mpr h1;rw [Rat.intCast_mul] at h2;have h3:(t:Rat) / (b:Rat) * (b:Rat)=(t:Rat):=Rat.div_mul_cancel (by grind);refine Rat.not_le.mp fun z=>?_;have:=Rat.mul_le_mul_of_nonneg_right z (Rat.le_of_lt hb')
 grind
theorem II {t b:Int} (h0:0≤t) (hb:0 < b):0≤Rat.divInt t b:=Rat.divInt_nonneg h0 (by omega)
theorem aCw {w x:Rat} (hw:w < 1) (hx:x < 1):w + (1 - w) * x < 1:=by
 have:0 < (1 - w) * (1 - x):=Rat.mul_pos (by grind) (by grind)
 grind
theorem aCy {lo:Int} {n:Nat} {x:PV} (h:x∈sZ lo n):∃ k:Nat,x= .int (lo + (k:Int))∧k < n:=by
 unfold sZ at h;obtain ⟨k,hk,rfl⟩:=List.mem_map.mp h;exact ⟨k,rfl,List.mem_range.mp hk⟩
theorem aLh:PV.tup [.int 0,.int 1]=FQ 0:=rfl
local macro_rules | `(tactic| walk_at "rd") => wk (wB++" gN kX iH fY NP OK bU dD dE jH gA aLh")
section
variable {T:Tb}
noncomputable def trC:CS:=(.seq (.iff (.tsb (.cmp .Eq (.var 1) (.int 3))) (.par 2 5 (.tup (.cons (.int 0) (.cons (.int 1) .nil))) (.cal "_law_low" (.cons (.cal "_law_pick" (.cons (.var 0) (.cons (.var 4) .nil))) (.cons (.var 4) .nil)))) .nil)
 (.ret (.tup (.cons (.var 2) (.cons (.var 5) (.cons (.var 6) .nil))))))
theorem aFi (l:LT T) {p:Addr} {way n:Int} {w b t:Rat} {r:Option PV} {G K:Gh} {Q:PK1} (m:Pn p G K) (hn:1≤n) (hn':n≤60) (w0:0≤w) (b0:0≤b) (t0:0≤t) (t6:t < 6) (hs:w + b < 1) (bw:Bd 12 w) (bb:Bd 40 b) (bt:Bd 12 t)
   (hq:∀ w b o G',0≤w→0≤b→TOk w b o→Bd 12 w→Bd 40 b→TBd 12 o→Pn p G G'→Q (.tup [FQ w,FQ b,tV o]) G') :
   wpS T trC (aP Q) [some (.ref p),some (.int way),some (FQ w),r,some (.int n),some (FQ b),some (FQ t)] K:=by
 unfold trC;have:=l.pick;have:=l.low;walk_at "rd"
 split
 · refine ⟨m.pu,by omega,smP (by omega) (by omega),fun y K1 y0 y1 m1=>⟨by omega,smK (by omega) (by omega) (by decide),Wk.here ?_⟩⟩;have y2:Rat.divInt y n < ((1:Int):Rat):=IG (by omega) (by omega);have i1:((1:Int):Rat)=1:=rfl;rw [i1] at y2;refine hq 0 _ (some t) K1 (by decide) (II y0 (by omega)) ⟨⟨t0,t6⟩,by grind⟩ (bd0.mono (by decide)) (Bd.mono (n:=12) (AW ?_ ?_ (by omega)) (by decide)) bt (m.trans m1)
   · unfold Sm; omega
   · unfold Sm; omega
 · exact Wk.here (hq w b (some t) K w0 b0 ⟨⟨t0,t6⟩,hs⟩ bw bb bt m)
noncomputable def trB:CS:=(.seq (.iff (.tsb (.cmp .Eq (.var 1) (.int 2))) (.asg (.gn 6) (.tup (.cons (.cal "_law_pick" (.cons (.var 0) (.cons (.int 6) .nil))) (.cons (.int 1) .nil)))) .nil) trC)
theorem aLn (l:LT T) {p:Addr} {way n:Int} {w b t:Rat} {r:Option PV} {G K:Gh} {Q:PK1} (m:Pn p G K) (hn:1≤n) (hn':n≤60) (w0:0≤w) (b0:0≤b) (t0:0≤t) (t6:t < 6) (hs:w + b < 1) (bw:Bd 12 w) (bb:Bd 40 b) (bt:Bd 12 t)
   (hq:∀ w b o G',0≤w→0≤b→TOk w b o→Bd 12 w→Bd 40 b→TBd 12 o→Pn p G G'→Q (.tup [FQ w,FQ b,tV o]) G') :
   wpS T trB (aP Q) [some (.ref p),some (.int way),some (FQ w),r,some (.int n),some (FQ b),some (FQ t)] K:=by
 unfold trB;have:=l.pick;have e:=@jT;walk_at "rd"
 split
 · refine ⟨m.pu,by decide,smP (by decide) (by decide),fun y K1 y0 y1 m1=>?_⟩;refine aFi l (m.trans m1) hn hn' w0 b0 (Rat.intCast_nonneg.mpr y0) ?_ hs bw bb (Bd.int (by unfold Sm; omega) (by decide)) hq;have:((6:Int):Rat)=6:=rfl;rw [←this]; exact Rat.intCast_lt_intCast.mpr y1
 · exact aFi l m hn hn' w0 b0 t0 t6 hs bw bb bt hq
noncomputable def fE:CS:=(.seq (.asg (.gn 1) (.cal "_law_pick" (.cons (.var 0) (.cons (.int 6) .nil))))
 (.seq (.asg (.gn 2) (.cal "_law_share" (.cons (.var 0) .nil)))
 (.seq (.asg (.gn 3) (.cal "_law_minus" (.cons (.tup (.cons (.int 1) (.cons (.int 1) .nil))) (.cons (.var 2) .nil))))
 (.seq (.iff (.oo (.tsb (.cmp .Eq (.var 1) (.int 0))) (.tsb (.cmp .Eq (.idx (.var 3) (.int 0)) (.int 0)))) (.ret (.tup (.cons (.var 2) (.cons (.var 3) (.cons .non .nil))))) .nil)
 (.seq (.asg (.gn 4) (.bin .Add (.int 1) (.cal "_law_pick" (.cons (.var 0) (.cons (.int 60) .nil)))))
 (.seq (.asg (.gn 5) (.cal "_law_times" (.cons (.var 3) (.cons (.cal "_law_low" (.cons (.idx (.lst false (.cons (.cal "_law_pick" (.cons (.var 0) (.cons (.var 4) .nil))) (.cons (.int 0) .nil))) (.blt .int (.cons (.cmp .Eq (.var 1) (.int 1)) .nil))) (.cons (.var 4) .nil))) .nil))))
 (.seq (.asg (.gn 6) (.cal "_law_low" (.cons (.cal "_law_pick" (.cons (.var 0) (.cons (.bin .Mult (.int 6) (.var 4)) .nil))) (.cons (.var 4) .nil)))) trB)))))))
theorem aJf {r:Int} {x:Int} (n:Int) (h0:0≤x) (h1:x < n):∃ v,atI [PV.int x,PV.int 0] (if r=1 then (1:Int) else 0)=some (.int v)∧0≤v∧v < n:=by
 split
 · exact ⟨0,at1,by omega,by omega⟩
 · exact ⟨x,at0,h0,h1⟩
theorem AV (l:LT T):∀ xs G Q,lW xs G Q→wpS T fE (aP Q) (aC 7 xs) G:=by
 rintro xs G Q ⟨p,rfl,hp,hq⟩;unfold fE;have:=l.pick;have:=l.share;have:=l.minus;have:=l.times;have:=l.low;have:=aLu;walk_at "rd"
 refine ⟨by decide,smP (by decide) (by decide),fun way G1 a1 a2 m1=>⟨m1.pu,fun w G2 iw bw m2=>⟨bd1.mono (by decide),bw.mono (by decide), ?_⟩⟩⟩;have br:=bd1.sub bw (show 2 + 12 + 1≤15 by decide);have m12:=m1.trans m2;have gr:Q (.tup [FQ w,FQ (1 - w),tV none]) G2:=hq w (1 - w) none G2 iw.1 (by have:=iw.2; grind) (show w + (1 - w)=1 by grind) bw (br.mono (by decide)) trivial m12;by_cases h0:way=0
 · walk_at "rd"
   exact Wk.here gr
 · by_cases h1:(1 - w).num=0
   · walk_at "rd"
     exact Wk.here gr
   · have hw:w < 1:=by
       have:=iw.2;have nz:1 - w≠0:=fun z=>h1 (Rat.num_eq_zero.mpr z)
       grind
     walk_at "rd"
     refine ⟨m2.pu,by decide,smP (by decide) (by decide),fun r G3 b1 b2 m3=>⟨m3.pu,by omega,smP (by omega) (by omega),fun x G4 x1 x2 m4=>?_⟩⟩;obtain ⟨v,ev,v1,v2⟩:=aJf (r:=way) (1 + r) x1 x2;refine ⟨_,ev, ?_⟩;walk_at "rd"
     have v3:Rat.divInt v (1 + r) < ((1:Int):Rat):=IG (by omega) (by omega);have i1:((1:Int):Rat)=1:=rfl;rw [i1] at v3;have v0:=II (b:=1 + r) v1 (by omega);have bv:Bd 12 (Rat.divInt v (1 + r)):=AW (by unfold Sm; omega) (by unfold Sm; omega) (by omega);refine ⟨by omega,smK (by omega) (by omega) (by decide),br.mono (by decide),bv.mono (by decide),ON (by unfold Sm; decide),m4.pu,by omega,smP (by omega) (by omega),fun y G5 y1 y2 m5=>⟨by omega,smK (by omega) (by omega) (by decide), ?_⟩⟩;have y3:Rat.divInt y (1 + r) < ((6:Int):Rat):=IG (by omega) (by omega);have by':Bd 12 (Rat.divInt y (1 + r)):=AW (by unfold Sm; omega) (by unfold Sm; omega) (by omega)
     exact aLn l ((m12.trans m3).trans (m4.trans m5)) (by omega) (by omega) iw.1 (Rat.mul_nonneg (by grind) v0) (II y1 (by omega)) y3 (aCw hw v3) bw (br.mul bv (by decide)) by' hq
end
noncomputable def hlf:Rat:=⟨1,2,by decide,by decide⟩
noncomputable def hf (o:Option Rat):Rat:=o.getD hlf
noncomputable def rt (n:Int) (r:R3):R3:=rot n r.1 r.2.1 r.2.2
noncomputable def iV:Option Int→PV
 | none=>.non
 | some n=>.int n
noncomputable def cnt (r:R3):Int:=((if 0 < r.1 then 1 else 0) + (if 0 < r.2.1 then 1 else 0) + (if 0 < r.2.2 then 1 else 0):Int)
noncomputable def Kd6:PV→Prop
 | .ob c _ _=>c="Shade"
 | .non=>True
 | .bl _=>True
 | .int _=>True
 | .str _=>True
 | .tup _=>True
 | .lst _=>True
 | .emp=>True
 | .ref _=>False
 | .scr _=>False
 | .ty _=>False
 | .cl _=>False
 | .fn _=>False
 | .dct _ _=>False
 | .exc _ _ _=>False
noncomputable def isW:PV→Bool
 | .int _=>true
 | _=>false
noncomputable def Kd2:PV→Prop
 | .tup [a,b]=>Kd6 a∧Kd6 b
 | x=>Kd6 x
noncomputable def oX:PV→Bool
 | .tup [.int t,.int b]=>decide (1≤b) && decide (Int.gcd t b=1)
 | _=>false
noncomputable def aEA:PV→Bool
 | .tup [.int t,.int b]=>decide (1≤b) && decide (Int.gcd t b=1) && decide (0≤t) && decide (t≤b)
 | _=>false
noncomputable def JQ:PV→Bool
 | .ob _ _ _=>true
 | _=>false
noncomputable def tyB (x:PV) (n:String):Bool:=match x with
 | .non=>sV "NoneType" n
 | .bl _=>sV "bool" n
 | .int _=>sV "int" n
 | .str _=>sV "str" n
 | .tup _=>sV "tuple" n
 | .lst _=>sV "list" n
 | .emp=>sV "dict" n
 | _=>false
theorem YG {cs:List String} {x:PV} {n:String} {G:Gh} {Q:PK1} (c1: "Shade"∈cs) (h:Kd6 x):eD cs .isi [x,.ty n] G Q=(n∈nA∧Q (.bl (tyB x n)) G):=by
 cases x with
 | non=>exact gS rfl
 | bl b=>exact gS rfl
 | int i=>exact gS rfl
 | str s=>exact gS rfl
 | tup xs=>exact gS rfl
 | lst xs=>exact gS rfl
 | emp=>exact gS rfl
 | ob c ns xs =>
   refine propext ⟨fun ⟨a,z⟩=>?_,fun ⟨a,q⟩=>⟨a,.inr ⟨c,rfl, ?_,q⟩⟩⟩
   · rcases z with ⟨n,e,_⟩ | ⟨c',_,_,q⟩
     · cases e
     · exact ⟨a,q⟩
   · cases h; exact c1
 | _=>exact h.elim
theorem jA {cs:List String} {x:PV} {n c:String} {G:Gh} {Q:PK1} (h:nC x G=some n):eD cs .isi [x,.cl c] G Q=(c∈cs∧Q (.bl false) G):=by
 refine propext ⟨fun ⟨a,z⟩=>⟨a, ?_⟩,by rintro ⟨a,q⟩;exact ⟨a,.inl ⟨n,h,q⟩⟩⟩;rcases z with ⟨_,_,q⟩ | ⟨c',e,_,_⟩
 · exact q
 · exfalso
   cases x <;> first | (cases e; done) | (cases h; done) | skip
   all_goals (simp only [nC,KW] at h e; split at h <;> simp_all)
theorem aJi {cs:List String} {x:PV} {G:Gh} {Q:PK1} (h:Kd6 x):eD cs .isi [x,.cl "Shade"] G Q=("Shade"∈cs∧Q (.bl (JQ x)) G):=by
 cases x with
 | non=>exact jA rfl
 | bl b=>exact jA rfl
 | int i=>exact jA rfl
 | str s=>exact jA rfl
 | tup xs=>exact jA rfl
 | lst xs=>exact jA rfl
 | emp=>exact jA rfl
 | ob c ns xs=>cases h; exact NL
 | _=>exact h.elim
theorem aIB (x:PV):isW x=(tyB x "int" && !tyB x "bool"):=by cases x <;> rfl
theorem aDz {i:Int}:isW (.int i)=true:=rfl
theorem WA (x:PV):(∃ i,x= .int i)∨isW x=false:=by
 cases x with
 | int i=>exact .inl ⟨i,rfl⟩
 | _=>exact .inr rfl
theorem aGy (x:PV):(∃ ys,x= .tup ys)∨tyB x "tuple"=false:=by
 cases x with
 | tup i=>exact .inl ⟨i,rfl⟩
 | _=>exact .inr rfl
theorem aII (ys:List PV):(∃ a b,ys=[a,b])∨(¬((ys.length:Int)=2)∧oX (.tup ys)=false):=by
 match ys with
 | []=>exact .inr ⟨by decide,rfl⟩
 | [a]=>exact .inr ⟨by show ¬((1:Int)=2); decide,by cases a <;> rfl⟩
 | [a,b]=>exact .inl ⟨a,b,rfl⟩
 | a :: b :: c :: r=>exact .inr ⟨by simp only [List.length_cons]; omega,by cases a <;> (try cases b) <;> rfl⟩
theorem aJo {a b:PV} (h:isW a=false):oX (.tup [a,b])=false:=by cases a <;> first | rfl | cases h
theorem aGK {a b:PV} (h:isW b=false):oX (.tup [a,b])=false:=by cases a <;> cases b <;> first | rfl | cases h
theorem aIC {x:PV} (h:tyB x "tuple"=false):oX x=false:=by
 cases x with
 | tup ys=>cases h
 | _=>rfl
theorem aJF {x:PV} (h:Kd2 x):Kd6 x:=by
 cases x with
 | tup ys=>exact trivial
 | _=>exact h
theorem aCb (x:PV):(∃ t b:Int,x= .tup [.int t,.int b]∧oX x=true)∨(oX x=false∧aEA x=false):=by
 by_cases h:oX x=true
 · refine .inl ?_;unfold oX at h;split at h
   · rename_i t b; exact ⟨t,b,rfl,h⟩
   · cases h
 · refine .inr ⟨by simpa using h, ?_⟩;unfold aEA;split
   · rename_i t b;have h:¬((decide (1≤b) && decide (Int.gcd t b=1))=true):=h;rw [Bool.eq_false_iff.mpr h]; rfl
   · rfl
theorem kS {q:Rat}:Kd2 (FQ q):=⟨trivial,trivial⟩
def orX (S0:Sp3) (X0:SpX) (x:PX):Sp3:=fun xs G Q=>S0 xs G Q∨X0 xs G x
def BH (x:PX) (c:String) (f:Str):Sp3:=fun xs G _=>∃ v,xs=[v]∧x c [f] [v] G
def DK:Sp3:=fun xs G Q=>∃ x,xs=[x]∧Kd6 x∧Q (.bl (isW x)) G
def FB:Sp3:=fun xs G Q=>∃ x,xs=[x]∧Kd2 x∧Q (.bl (oX x)) G
def gR:Sp3:=fun xs G Q=>∃ x,xs=[x]∧Kd6 x∧Q (.bl (JQ x)) G
def bF:SpX:=fun xs G X=>∃ x,xs=[x]∧Kd6 x∧JQ x=false∧X "NoShade" ["light"] [.non] G
section
variable {T:Tb}
end
noncomputable def gQ:PV→Bool
 | .tup [.int t,.int b]=>oX (.tup [.int t,.int b]) && decide (0≤t)
 | _=>false
def rC:Sp3:=fun xs G Q=>∃ x,xs=[x]∧Kd2 x∧Q (.bl (gQ x)) G
structure P18 (T:Tb):Prop where
 xwhole:T.S "!is_whole"=orX DK xNo T.xp
 xfrac:T.S "!is_fraction"=orX FB xNo T.xp
 xfrom0:T.S "!is_from_0"=orX rC xNo T.xp
 xisS:T.S "!is_shade"=orX gR xNo T.xp
 xneed:T.S "!need_shade"=orX eF bF T.xp
 xshares:T.S "!shares_of"=orX aX bF T.xp
 xNoShade:T.S "!NoShade"=BH T.xp "NoShade" "light"
 xNoPart:T.S "!NoPart"=BH T.xp "NoPart" "part"
 xNoTurn:T.S "!NoTurn"=BH T.xp "NoTurn" "part"
theorem NA {q:Rat}:oX (FQ q)=true:=by
 show (decide (1≤(q.den:Int)) && decide (Int.gcd q.num q.den=1))=true;rw [Bool.and_eq_true,decide_eq_true_eq,decide_eq_true_eq];exact ⟨IS,q.reduced⟩
theorem BR {q:Rat}:gQ (FQ q)=decide (0≤q.num):=by
 show (oX (FQ q) && decide (0≤q.num))=_;rw [NA,Bool.true_and]
theorem aDY {x:PV} (h:oX x=false):gQ x=false:=by
 unfold gQ;split
 · rw [h]; rfl
 · rfl
theorem aCR:∀ xs G Q,eI xs G Q→DK xs G Q:=by rintro _ _ _ ⟨i,e,q⟩;exact ⟨_,e,trivial,q⟩
theorem aIO:∀ xs G Q,iG xs G Q→FB xs G Q:=by rintro _ _ _ ⟨a,e,q⟩;exact ⟨_,e,kS,by rw [NA]; exact q⟩
theorem aCa:∀ xs G Q,lP xs G Q→rC xs G Q:=by rintro _ _ _ ⟨a,e,h,q⟩;exact ⟨_,e,kS,by rw [BR,decide_eq_true (iA h)]; exact q⟩
theorem aBX:∀ xs G Q,iU xs G Q→gR xs G Q:=by rintro _ _ _ ⟨a,b,c,e,q⟩;exact ⟨_,e,rfl,q⟩
theorem MC {S0:Sp3} {x:PX} {xs:List PV} {G:Gh} {Q:PK1}:orX S0 xNo x xs G Q=S0 xs G Q:=propext ⟨fun h=>h.elim id False.elim,.inl⟩
local macro_rules | `(tactic| walk_at "rd") => wk (wB++" tK AB vR GV uZ FE KG aAm iR DK FB aDz MC")
section
variable {T:Tb}
noncomputable def dG:CS:=(.ret (.an (.blt .isi (.cons (.var 0) (.cons (.glo "int") .nil))) (.no (.blt .isi (.cons (.var 0) (.cons (.glo "bool") .nil))))))
theorem KM (h:PT T):∀ xs G Q,DK xs G Q→wpS T dG (aP Q) (aC 1 xs) G:=by
 rintro xs G Q ⟨x,rfl,hk,q⟩;unfold dG;have:=h.ty_int;have:=h.ty_bool;have e:∀ n G Q,eD T.cs .isi [x,.ty n] G Q=(n∈nA∧Q (.bl (tyB x n)) G):=fun n G Q=>YG h.cs hk;rw [aIB] at q;cases e1:tyB x "int" <;> cases e2:tyB x "bool" <;> rw [e1,e2] at q <;> walk_at "rd" <;> exact Wk.here q
theorem xN (h:∀ x,PT (T.at x)):∀ x xs G Q,DK xs G Q∨xNo xs G x→wpS (T.at (WkX x)) dG (aP Q) (aC 1 xs) G:=fun x xs G Q hq =>
 KM (h _) xs G Q (hq.elim id False.elim)
noncomputable def qTT:CS:=(.ret (.an (.cal "!is_whole" (.cons (.var 1) .nil)) (.an (.cal "!is_whole" (.cons (.var 2) .nil)) (.an (.cmp .GtE (.var 2) (.int 1)) (.cmp .Eq (.cal "common" (.cons (.blt .abs (.cons (.var 1) .nil)) (.cons (.var 2) .nil))) (.int 1))))))
noncomputable def bS:CS:=(.seq (.iff (.oo (.no (.tst (.blt .isi (.cons (.var 0) (.cons (.glo "tuple") .nil))))) (.tsb (.cmp .NotEq (.blt .len (.cons (.var 0) .nil)) (.int 2)))) (.ret (.bl false)) .nil)
 (.seq (.asg (.gt 2 (.cons (.gn 1) (.cons (.gn 2) .nil))) (.var 0))
 qTT))
theorem xP (h:PT T) (p:P18 T):∀ xs G Q,FB xs G Q→wpS T bS (aP Q) (aC 3 xs) G:=by
 rintro xs G Q ⟨x,rfl,hk,q⟩;unfold bS;have:=h.ty_tuple;have:=p.xwhole;have:=h.common;generalize eB:qTT=B;rcases aGy x with ⟨ys,rfl⟩ | ht
 · rcases aII ys with ⟨a,b,rfl⟩ | ⟨hl,hf⟩
   · obtain ⟨ka,kb⟩:Kd6 a∧Kd6 b:=hk;walk_at "rd"
     subst eB;unfold qTT;rcases WA a with ⟨t,rfl⟩ | ha
     · rcases WA b with ⟨d,rfl⟩ | hb
       · have q':Q (.bl (decide (1≤d) && decide (Int.gcd t d=1))) G:=q;by_cases hd:1≤d
         · rw [decide_eq_true hd,Bool.true_and,←tH] at q';walk_at "rd"
           refine ⟨by omega,by omega,Wk.here ?_⟩;rw [show decide (((Int.gcd (t.natAbs:Int) d:Nat):Int)=1)=decide (Int.gcd (t.natAbs:Int) d=1) from decide_eq_decide.mpr (by omega)];exact q'
         · rw [decide_eq_false hd,Bool.false_and] at q';walk_at "rd"
       · rw [aGK hb] at q;walk_at "rd"
     · rw [aJo ha] at q;walk_at "rd"
   · rw [hf] at q;walk_at "rd"
 · rw [aIC ht] at q;have e:∀ n G Q,eD T.cs .isi [x,.ty n] G Q=(n∈nA∧Q (.bl (tyB x n)) G):=fun n G Q=>YG h.cs (aJF hk);walk_at "rd"
theorem rM (h:∀ x,PT (T.at x)) (p:∀ x,P18 (T.at x)):∀ x xs G Q,FB xs G Q∨xNo xs G x→wpS (T.at (WkX x)) bS (aP Q) (aC 3 xs) G:=fun x xs G Q hq =>
 xP (h _) (p _) xs G Q (hq.elim id False.elim)
noncomputable def cR:CS:=(.ret (.an (.cal "!is_fraction" (.cons (.var 0) .nil)) (.cmp .GtE (.idx (.var 0) (.int 0)) (.int 0))))
theorem DS (p:P18 T):∀ xs G Q,rC xs G Q→wpS T cR (aP Q) (aC 1 xs) G:=by
 rintro xs G Q ⟨x,rfl,hk,q⟩;unfold cR;have:=p.xfrac;rcases aCb x with ⟨t,b,rfl,hf⟩ | ⟨hf,hs⟩
 · have q':Q (.bl (oX (.tup [.int t,.int b]) && decide (0≤t))) G:=q;rw [hf,Bool.true_and] at q';walk_at "rd"
 · rw [aDY hf] at q;walk_at "rd"
theorem wD (p:∀ x,P18 (T.at x)):∀ x xs G Q,rC xs G Q∨xNo xs G x→wpS (T.at (WkX x)) cR (aP Q) (aC 1 xs) G:=fun x xs G Q hq =>
 DS (p _) xs G Q (hq.elim id False.elim)
end
def OH (w b:Rat) (x:PV):Prop:=(x= .non∧w + b≠1)∨(x≠.non∧Kd2 x∧(gQ x=false∨∃ t,x=FQ t∧0≤t∧Bd 3000 t∧(6≤t∨1≤w + b)))
def hZ:SpX:=fun xs G X=>∃ w b x,xs=[FQ w,FQ b,x]∧Bd 600 w∧Bd 600 b∧OH w b x∧X "NoTurn" ["part"] [x] G
def yD:SpX:=fun xs G X=>∃ x y z,xs=[x,y,z]∧((Kd2 x∧gQ x=false∧X "NoPart" ["part"] [x] G)∨(∃ w,x=FQ w∧0≤w∧Kd2 y∧gQ y=false∧X "NoPart" ["part"] [y] G)∨
 ∃ w b,x=FQ w∧y=FQ b∧0≤w∧0≤b∧Bd 300 w∧Bd 300 b∧OH w b z∧X "NoTurn" ["part"] [z] G)
structure Q18 (T:Tb):Prop where
 xturn:T.S "!need_turn"=orX fO hZ T.xp
 xbyw:T.S "!by_wheel"=orX nZ yD T.xp
 xwheel:T.S "!wheel_of"=orX fN bF T.xp
theorem hZ.up {xs:List PV} {G:Gh} {x:PX} (h:hZ xs G x):hZ xs G (WkX x):=let ⟨w,b,z,e,f,g,u,q⟩:=h; ⟨w,b,z,e,f,g,u,WkX.here q⟩
local macro_rules | `(tactic| walk_at "rd") => wk (wB++" tL wE gM eY rC BR kS MC")
section
variable {T:Tb}
noncomputable def nTT:CS:=(.iff (.no (.tst (.var 4))) (.ex (.cal "!NoTurn" (.cons (.var 2) .nil))) .nil)
noncomputable def cP:CS:=(.seq (.asg (.gn 3) (.cal "plus" (.cons (.var 0) (.cons (.var 1) .nil))))
 (.seq (.iff (.tsb (.cmp .Is (.var 2) .non)) (.asg (.gn 4) (.cmp .Eq (.var 3) (.glo "ONE"))) (.asg (.gn 4) (.an (.cal "!is_from_0" (.cons (.var 2) .nil)) (.an (.cal "below" (.cons (.var 2) (.cons (.tup (.cons (.int 6) (.cons (.int 1) .nil))) .nil))) (.cal "below" (.cons (.var 3) (.cons (.glo "ONE") .nil)))))))
 nTT))
theorem wTT (p:P18 T) {D:gO} {i j k:Option PV} {x:PV} {b:Bool} {G:Gh} (h:if b=true then D.nx [i,j,some x,k,some (.bl b)] G else T.xp "NoTurn" ["part"] [x] G):wpS T nTT D [i,j,some x,k,some (.bl b)] G:=by
 unfold nTT;have e9:=p.xNoTurn;cases b with
 | true=>rw [if_pos rfl] at h; walk_at "rd"
 | false=>rw [if_neg (by decide)] at h; walk_at "rd"; exact ⟨_,rfl,h⟩
theorem DN (h:PT T) (p:P18 T):∀ xs G Q,fO xs G Q∨hZ xs G T.xp→wpS T cP (aP Q) (aC 5 xs) G:=by
 intro xs G Q hq;unfold cP;generalize eB:nTT=B;have:=h.plus;have:=h.below;have:=h.gv_ONE;have:=p.xfrom0;have:=@jT;have:=@AO;have b6:Bd 6 ((6:Int):Rat):=Bd.int (by unfold Sm; decide) (by decide);have b1:=bd1.mono (show 2≤4000 by decide);have b6':=b6.mono (show 6≤4000 by decide);rcases hq with ⟨w,b,o,rfl,ok,bw,bb,bo,hq⟩ | ⟨w,b,x,rfl,bw,bb,uf,hq⟩
 · have bs:=bw.add bb (show 600 + 600 + 1≤1201 by decide);have bw':=bw.mono (show 600≤4000 by decide);have bb':=bb.mono (show 600≤4000 by decide);have bs':=bs.mono (show 1201≤4000 by decide);cases o with
   | none =>
     have ok:w + b=1:=ok;simp only [tV];walk_at "rd"
     subst eB;exact wTT p (b:=true) (Wk.here hq)
   | some t =>
     obtain ⟨⟨t0,t6⟩,hs⟩:=ok;have:=iA t0;have bt:Bd 4000 t:=(show Bd 3000 t from bo).mono (by decide);have e6:t < ((6:Int):Rat):=t6;have pn:∀ {G:Gh} {Q:PK1},pIs false (FQ t) .non G Q=Q (.bl false) G:=fun {G Q}=>tI (fun z=>by cases z);simp only [tV];walk_at "rd"
     subst eB;exact wTT p (b:=true) (Wk.here hq)
 · have bs :=bw.add bb (show 600 + 600 + 1≤1201 by decide);have bw':=bw.mono (show 600≤4000 by decide);have bb':=bb.mono (show 600≤4000 by decide);have bs':=bs.mono (show 1201≤4000 by decide);rcases uf with ⟨rfl,ne⟩ | ⟨nx,kx,f0 | ⟨t,rfl,t0,bt,ht⟩⟩
   · walk_at "rd"
     subst eB;exact wTT p (b:=false) hq
   · have pn:∀ {G:Gh} {Q:PK1},pIs false x .non G Q=Q (.bl false) G:=fun {G Q}=>tI nx;walk_at "rd"
     subst eB;exact wTT p (b:=false) hq
   · have :=iA t0;have bt4:Bd 4000 t:=bt.mono (by decide);have pn:∀ {G:Gh} {Q:PK1},pIs false (FQ t) .non G Q=Q (.bl false) G:=fun {G Q}=>tI (fun z=>by cases z);by_cases t6:t < ((6:Int):Rat)
     · have hs:¬w + b < 1:=by
         rcases ht with z | z
         · have:t < 6:=t6
           grind
         · grind
       walk_at "rd"
       subst eB;exact wTT p (b:=false) hq
     · walk_at "rd"
       subst eB;exact wTT p (b:=false) hq
theorem vG (h:∀ x,PT (T.at x)) (p:∀ x,P18 (T.at x)):∀ x xs G Q,fO xs G Q∨hZ xs G x→wpS (T.at (WkX x)) cP (aP Q) (aC 5 xs) G:=fun x xs G Q hq =>
 DN (h _) (p _) xs G Q (hq.imp id hZ.up)
end
theorem bF.up18 {xs:List PV} {G:Gh} {x:PX} (h:bF xs G x):bF xs G (WkX x):=let ⟨v,a,b,c,d⟩:=h; ⟨v,a,b,c,WkX.here d⟩
theorem yD.up {xs:List PV} {G:Gh} {x:PX} (h:yD xs G x):yD xs G (WkX x):=by
 obtain ⟨a,b,c,e,q⟩:=h;refine ⟨a,b,c,e, ?_⟩;rcases q with ⟨k,f,q⟩ | ⟨w,e1,w0,k,f,q⟩ | ⟨w,b1,e1,e2,w0,b0,bw,bb,u,q⟩
 · exact .inl ⟨k,f,WkX.here q⟩
 · exact .inr (.inl ⟨w,e1,w0,k,f,WkX.here q⟩)
 · exact .inr (.inr ⟨w,b1,e1,e2,w0,b0,bw,bb,u,WkX.here q⟩)
local macro_rules | `(tactic| walk_at "rd") => wk (wB++" AO gM dD dE jP aES aEI aFw gR MC")
section
variable {T:Tb}
noncomputable def dC:CS:=(.ret (.blt .isi (.cons (.var 0) (.cons (.glo "Shade") .nil))))
theorem HW (h:PT T):∀ xs G Q,gR xs G Q→wpS T dC (aP Q) (aC 1 xs) G:=by
 rintro xs G Q ⟨x,rfl,hk,hq⟩;unfold dC;have:=h.gv_Shade;have:=h.cs;have e:∀ G Q,eD T.cs .isi [x,.cl "Shade"] G Q=("Shade"∈T.cs∧Q (.bl (JQ x)) G):=fun G Q=>aJi hk;walk_at "rd"
theorem xY (h:∀ x,PT (T.at x)):∀ x xs G Q,gR xs G Q∨xNo xs G x→wpS (T.at (WkX x)) dC (aP Q) (aC 1 xs) G:=fun x xs G Q hq =>
 HW (h _) xs G Q (hq.elim id False.elim)
noncomputable def bW:CS:=(.iff (.no (.tst (.cal "!is_shade" (.cons (.var 0) .nil)))) (.ex (.cal "!NoShade" (.cons .non .nil))) .nil)
theorem uN (p:P18 T):∀ xs G Q,eF xs G Q∨bF xs G T.xp→wpS T bW (aP Q) (aC 1 xs) G:=by
 intro xs G Q hq;unfold bW;have:=p.xisS;have:=p.xNoShade;rcases hq with ⟨a,b,c,rfl,hq⟩ | ⟨x,rfl,hk,hs,hq⟩
 · have:Kd6 (SH a b c):=rfl;have:JQ (SH a b c)=true:=rfl;walk_at "rd"
 · walk_at "rd"
   exact ⟨_,rfl,hq⟩
theorem sX (p:∀ x,P18 (T.at x)):∀ x xs G Q,eF xs G Q∨bF xs G x→wpS (T.at (WkX x)) bW (aP Q) (aC 1 xs) G:=fun x xs G Q hq =>
 uN (p _) xs G Q (hq.imp id bF.up18)
noncomputable def cU:CS:=(.seq (.ex (.cal "!need_shade" (.cons (.var 0) .nil)))
 (.ret (.tup (.cons (.att (.var 0) "ember") (.cons (.att (.var 0) "leaf") (.cons (.att (.var 0) "sky") .nil))))))
theorem yC (h:PT T) (p:P18 T):∀ xs G Q,aX xs G Q∨bF xs G T.xp→wpS T cU (aP Q) (aC 1 xs) G:=by
 intro xs G Q hq;unfold cU;have e0:=p.xneed;rcases hq with ⟨a,b,c,rfl,hq⟩ | hx
 · have e1:=@aNW T h;have e2:=@aNB T h;have e3:=@aNT T h;walk_at "rd"
   refine .inl ⟨a,b,c,rfl, ?_⟩;first | exact Wk.here hq | (walk_at "rd")
 · obtain ⟨x,rfl,hk,hs,hq⟩:=hx;walk_at "rd"
   exact .inr ⟨x,rfl,hk,hs,hq⟩
theorem uV (h:∀ x,PT (T.at x)) (p:∀ x,P18 (T.at x)):∀ x xs G Q,aX xs G Q∨bF xs G x→wpS (T.at (WkX x)) cU (aP Q) (aC 1 xs) G:=fun x xs G Q hq =>
 yC (h _) (p _) xs G Q (hq.imp id bF.up18)
noncomputable def dB:CS:=(.seq (.asg (.gn 1) (.cal "!shares_of" (.cons (.var 0) .nil)))
 (.seq (.asg (.gt 5 (.cons (.gn 2) (.cons (.gn 3) (.cons (.gn 4) (.cons (.gn 5) (.cons (.gn 6) .nil)))))) (.cal "stretch_of" (.cons (.var 1) .nil)))
 (.seq (.asg (.gn 7) (.idx (.var 1) (.var 3)))
 (.seq (.asg (.gn 8) (.cal "minus" (.cons (.glo "ONE") (.cons (.idx (.var 1) (.var 2)) .nil))))
 (.seq (.iff (.tsb (.cmp .Eq (.idx (.var 1) (.var 2)) (.var 7))) (.ret (.tup (.cons .non (.cons (.var 7) (.cons (.var 8) .nil))))) .nil)
 (.seq (.asg (.gn 9) (.cal "over" (.cons (.cal "minus" (.cons (.idx (.var 1) (.var 4)) (.cons (.var 7) .nil))) (.cons (.cal "minus" (.cons (.idx (.var 1) (.var 2)) (.cons (.var 7) .nil))) .nil))))
 (.ret (.tup (.cons (.cal "plus" (.cons (.tup (.cons (.var 5) (.cons (.int 1) .nil))) (.cons (.cal "times" (.cons (.tup (.cons (.var 6) (.cons (.int 1) .nil))) (.cons (.var 9) .nil))) .nil))) (.cons (.var 7) (.cons (.var 8) .nil)))))))))))
theorem KN (h:PT T) (k:L17 T) (p:P18 T):∀ xs G Q,fN xs G Q∨bF xs G T.xp→wpS T dB (aP Q) (aC 10 xs) G:=by
 intro xs G Q hq;unfold dB;have e0:=p.xshares;rcases hq with ⟨a,b,c,rfl,ha,hb,hc,hq⟩ | hx
 rotate_left
 · obtain ⟨x,rfl,hk,hs,hq⟩:=hx;walk_at "rd"
   exact .inr ⟨x,rfl,hk,hs,hq⟩
 have:=h.minus;have:=h.over;have:=h.plus;have:=h.times;have:=h.gv_ONE;have:=@jT;have es:=k.stretch_of;have a4:=ha.mono (show 600≤4000 by decide);have b4:=hb.mono (show 600≤4000 by decide);have c4:=hc.mono (show 600≤4000 by decide);have st:∀ {Q:PK1},Q (stV (kOf a b c)) G→T.S "stretch_of" [.tup [FQ a,FQ b,FQ c]] G Q:=fun q=>by rw [es]; exact ⟨a,b,c,rfl,a4,b4,c4,q⟩
 clear es;have bl:Bd 600 (lo a b c):=zD ha hb hc;have bh:Bd 600 (hi a b c):=zD ha hb hc;have bm:Bd 600 (mi a b c):=zD ha hb hc;walk_at "rd"
 refine .inl ⟨a,b,c,rfl,st ?_⟩;unfold stV;walk_at "rd"
 unfold VH tO at hq;have el:p3 (sl (kOf a b c)) a b c=lo a b c:=rfl;have eh:p3 (sg (kOf a b c)) a b c=hi a b c:=rfl;have em:p3 (sm (kOf a b c)) a b c=mi a b c:=rfl;rw [el,eh,em];refine ⟨bd1.mono (by decide),bh.mono (by decide), ?_⟩;by_cases e:hi a b c=lo a b c
 · rw [if_pos e] at hq;rw [if_pos e];exact Wk.here hq
 · rw [if_neg e] at hq;rw [if_neg e];have d1:=bm.sub bl (show 600 + 600 + 1≤1201 by decide);have d2:=bh.sub bl (show 600 + 600 + 1≤1201 by decide);have nz:hi a b c - lo a b c≠0:=by grind
   have d3:=d1.dv d2 nz (show 1201 + 1201≤2402 by decide);have d4:Bd 3 (sw (kOf a b c):Rat):=Bd.int aEm (by decide);have d5:Bd 3 (ss (kOf a b c):Rat):=Bd.int aEl (by decide);have d6:=d4.mul d3 (show 3 + 2402≤2405 by decide);exact ⟨bm.mono (by decide),bl.mono (by decide),bh.mono (by decide),bl.mono (by decide),d1.mono (by decide),d2.mono (by decide),nz,d4.mono (by decide),d3.mono (by decide),d5.mono (by decide),d6.mono (by decide),Wk.here hq⟩
theorem yH (h:∀ x,PT (T.at x)) (k:∀ x,L17 (T.at x)) (p:∀ x,P18 (T.at x)):∀ x xs G Q,fN xs G Q∨bF xs G x→wpS (T.at (WkX x)) dB (aP Q) (aC 10 xs) G:=fun x xs G Q hq =>
 KN (h _) (k _) (p _) xs G Q (hq.imp id bF.up18)
end
local macro_rules | `(tactic| walk_at "rd") => wk (wB++" iQ tL lK OK UV uD lN hU NM rC BR kS MC")
section
variable {T:Tb}
noncomputable def bRR:CS:=(.seq (.iff (.tsb (.cmp .Is (.var 2) .non)) (.ret (.cal "Shade" (.cons (.var 0) (.cons (.var 0) (.cons (.var 0) .nil))))) .nil)
 (.seq (.asg (.gt 5 (.cons (.gn 4) (.cons (.gn 5) (.cons (.gn 6) (.cons (.gn 7) (.cons (.gn 8) .nil)))))) (.idx (.glo "STRETCHES") (.bin .FloorDiv (.idx (.var 2) (.int 0)) (.idx (.var 2) (.int 1))))) byB))
noncomputable def cZ:CS:=(.seq (.fr (.gn 3) (.isq (.tup (.cons (.var 0) (.cons (.var 1) .nil)))) (.iff (.no (.tst (.cal "!is_from_0" (.cons (.var 3) .nil)))) (.ex (.cal "!NoPart" (.cons (.var 3) .nil))) .nil))
 (.seq (.ex (.cal "!need_turn" (.cons (.var 0) (.cons (.var 1) (.cons (.var 2) .nil)))))
 bRR))
theorem ID (h:PT T) (k:L17 T) (p:P18 T) (r:Q18 T):∀ xs G Q,nZ xs G Q∨yD xs G T.xp→wpS T cZ (aP Q) (aC 12 xs) G:=by
 intro xs G Q hq;unfold cZ;generalize eB:bRR=B;have e0:=p.xfrom0;have e9:=p.xNoPart;have:=k.gv_ST;have:=h.shade;rcases hq with ⟨w,b,o,rfl,w0,b0,ok,bw,bb,bo,hq⟩ | ⟨x,y,z,rfl,q⟩
 · have en:=r.xturn;have nt:∀ {G:Gh} {Q:PK1},Q .non G→T.S "!need_turn" [FQ w,FQ b,tV o] G Q:=fun {G Q} q=>by
     rw [en];refine .inl ⟨w,b,o,rfl,ok,bw.mono (by decide),bb.mono (by decide), ?_,q⟩;cases o with
     | none=>trivial
     | some t=>exact (show Bd 1100 t from bo).mono (by decide)
   clear en;have:=iA w0;have:=iA b0;walk_at "rd"
   refine nt ?_;subst eB;unfold bRR;cases o with
   | none =>
     have e:w + b=1:=ok;have i1:In1 w:=⟨w0,by grind⟩;have:=hq w w w ⟨rfl,rfl,rfl⟩;walk_at "rd"
     exact trivial
   | some t =>
     obtain ⟨⟨t0,t6⟩,hs⟩:=ok;have bt:Bd 1100 t:=bo;obtain ⟨n,hn,e,h1,h2⟩:=aIu t0 t6;have ea:=aKU hn;have cd:mJ t.num (t.den:Int):=DD tW bt.2;have pn:∀ {G:Gh} {Q:PK1},pIs false (FQ t) .non G Q=Q (.bl false) G:=fun {G Q}=>tI (fun z=>by cases z);simp only [tV];walk_at "rd"
     unfold stV;walk_at "rd"
     exact aLF h hn h1 h2 t0 t6 w0 b0 hs bw bb bt fun x y z a=>hq x y z a
 · rcases q with ⟨kx,fx,q⟩ | ⟨w,rfl,w0,ky,fy,q⟩ | ⟨w,b,rfl,rfl,w0,b0,bw,bb,uf,q⟩
   · walk_at "rd"
     exact ⟨_,rfl,q⟩
   · have:=iA w0;walk_at "rd"
     exact ⟨_,rfl,q⟩
   · have:=iA w0;have:=iA b0;have en:=r.xturn;have nt:∀ {G:Gh} {Q:PK1},T.xp "NoTurn" ["part"] [z] G→T.S "!need_turn" [FQ w,FQ b,z] G Q:=fun {G Q} q=>by
       rw [en];exact .inr ⟨w,b,z,rfl,bw.mono (by decide),bb.mono (by decide),uf,q⟩
     clear en;walk_at "rd"
theorem wS (h:∀ x,PT (T.at x)) (k:∀ x,L17 (T.at x)) (p:∀ x,P18 (T.at x)) (r:∀ x,Q18 (T.at x)):∀ x xs G Q,nZ xs G Q∨yD xs G x→wpS (T.at (WkX x)) cZ (aP Q) (aC 12 xs) G:=fun x xs G Q hq =>
 ID (h _) (k _) (p _) (r _) xs G Q (hq.imp id yD.up)
end
noncomputable def pN (i:Nat):List Str→CE
 | []=>.nil
 | n :: r=>.cons (.isx (.var i) n) (pN i r)
noncomputable def xiF (xi:List (String×Str×Bool)) (c:String) (n:Str):Bool:=xi.contains (c,n,true)
section
variable {T:Tb} {i j:Nat} {c:String} {fs:List Str} {xs:List PV} {σ:PSt} {G:Gh} {an:Str→Bool} {D:gO} {r:CS}
theorem BD (hs:σ[i]? =some (some (.exc c fs xs))):∀ (ns:List Str) {Q:List PV→Gh→Prop},(∀ n∈ns,(c,n,an n)∈T.xi)→Q (ns.map fun n=>.bl (an n)) G→wpL T (pN i ns) σ G Q
 | [],_,_,q=>q
 | n :: t,_,h,q=>⟨_,hs,c,fs,xs,an n,rfl,h n (wDq ..),BD hs t (fun m hm=>h m (wCq _ hm)) q⟩
theorem szl {n:Nat} (h:n≤100):n≤sizeLine:=by rw [sizeLine_eq]; omega
theorem wR {ns:List Str} (hs:σ[i]? =some (some (.exc c fs xs))) (h:∀ n∈ns,(c,n,an n)∈T.xi) (hl:ns.length≤100) (q:wpS T r D (σ.set j (some (.lst (ns.map fun n=>.bl (an n))))) G):wpS T (.seq (.asg (.gn j) (.lst false (pN i ns))) r) D σ G:=by
 show wpL T (pN i ns) σ G fun xs G1=>xs.length≤sizeLine∧wpS T r D (σ.set j (some (.lst xs))) G1;refine BD hs ns h ⟨?_,q⟩;rw [List.length_map]; exact szl hl
theorem kJ {ns ms:List Str} (hs:σ[i]? =some (some (.exc c fs xs))) (hj:σ[j]? =some (some (.lst (ms.map fun n=>.bl (an n))))) (h:∀ n∈ns,(c,n,an n)∈T.xi) (hl:ms.length + ns.length≤100) (q:wpS T r D (σ.set j (some (.lst ((ms ++ ns).map fun n=>.bl (an n))))) G):wpS T (.seq (.asg (.gn j) (.bin .Add (.var j) (.lst false (pN i ns)))) r) D σ G:=by
 refine ⟨_,hj, ?_⟩;show wpL T (pN i ns) σ G fun xs G1=>xs.length≤sizeLine∧xB (.lst (ms.map fun n=>.bl (an n))) (.lst xs) G1 fun z G2=>wpS T r D (σ.set j (some z)) G2;refine BD hs ns h ⟨by rw [List.length_map]; exact szl (by omega), ?_⟩;rw [wK];refine ⟨by rw [List.length_map,List.length_map]; exact szl hl, ?_⟩;rw [←List.map_append]; exact q
end
noncomputable def GX:List Str:=["NoNumber","NoShade","NoPart","NoDeed"]
noncomputable def KQ:List Str:=["NoTurn","NoWay","NoText","NoGrade"]
noncomputable def RK:List Str:=["NoStep","NoEye","NoLimit","NoPlace"]
noncomputable def ZQ:List Str:=["NoLights","NoRow","NoWeights","NoWeight"]
noncomputable def aBx:List Str:=["EmptyMix","NoBlend","NoWord","NoName"]
noncomputable def aFX:List Str:=["NameStands","BookFull","NoBack"]
noncomputable def aGJ:List Str:=["ShadeError","MixError","BookError"]
noncomputable def aGc:List Str:=["ValueError","ArithmeticError","LookupError"]
noncomputable def ZG:List Str:=GX ++ KQ ++ RK ++ ZQ ++ aBx ++ aFX
noncomputable def aG1:List Str:=ZG ++ aGJ ++ aGc
noncomputable def aKm:List PV:=[.str "number",.str "shade",.str "part",.str "deed",.str "turn",.str "way",.str "text",.str "grade",.str "step",.str "eye",.str "limit",.str "place"]
noncomputable def aJV:List PV:=[.str "lights",.str "row",.str "weights",.str "weight",.str "empty",.str "blend",.str "word",.str "name",.str "stands",.str "full",.str "back"]
structure Srt (xi:List (String×Str×Bool)) (c:String) (k:Nat) (w:Str):Prop where
 m:∀ n∈aG1,(c,n,xiF xi c n)∈xi
 k1:(ZG.map fun n=>xiF xi c n).count true=1
 k2:(ZG.map fun n=>PV.bl (xiF xi c n)).findIdx? (fun z=>peq z (.bl true))=some k
 b:(aGJ.map fun n=>PV.bl (xiF xi c n))=[.bl true,.bl false,.bl false]
 v:(aGc.map fun n=>PV.bl (xiF xi c n))=[.bl true,.bl false,.bl false]
 kl:k < 14
 w:atI (aKm ++ aJV) (k:Int)=some (.str w)
theorem gU {n:Str} {l:List Str} (h:n∈l) (e:∀ m∈l,m∈aG1:=by decide +kernel):n∈aG1:=e n h
noncomputable def iC:List PV→CE
 | []=>.nil
 | .str w :: r=>.cons (.str w) (iC r)
 | _ :: r=>iC r
noncomputable def aKo:CS:=(.seq (.asg (.gn 6) (.lst false (iC aKm))) (.seq (.asg (.gn 6) (.bin .Add (.var 6) (.lst false (iC aJV)))) (.ret (.idx (.var 6) (.var 2)))))
noncomputable def aKI:CS:=(.seq (.asg (.gn 5) (.lst false (.cons (.cmp .Lt (.var 2) (.int 14)) (.cons (.chn .LtE .Lt (.int 14) (.var 2) (.int 18)) (.cons (.cmp .Gt (.var 2) (.int 17)) .nil)))))
 (.seq (.iff (.oo (.tsb (.cmp .NotEq (.var 3) (.var 5))) (.tsb (.cmp .NotEq (.var 4) (.var 5)))) (.ret (.str "base")) .nil) aKo))
noncomputable def uO:CS:=(.seq (.asg (.gn 1) (.lst false (pN 0 GX)))
 (.seq (.asg (.gn 1) (.bin .Add (.var 1) (.lst false (pN 0 KQ))))
 (.seq (.asg (.gn 1) (.bin .Add (.var 1) (.lst false (pN 0 RK))))
 (.seq (.asg (.gn 1) (.bin .Add (.var 1) (.lst false (pN 0 ZQ))))
 (.seq (.asg (.gn 1) (.bin .Add (.var 1) (.lst false (pN 0 aBx))))
 (.seq (.asg (.gn 1) (.bin .Add (.var 1) (.lst false (pN 0 aFX))))
 (.seq (.iff (.tsb (.cmp .NotEq (.cnt (.var 1) (.bl true)) (.int 1))) (.ret (.str "several")) .nil)
 (.seq (.asg (.gn 2) (.ixo (.var 1) (.bl true)))
 (.seq (.asg (.gn 3) (.lst false (pN 0 aGJ)))
 (.seq (.asg (.gn 4) (.lst false (pN 0 aGc))) aKI))))))))))
theorem vX {T:Tb} {σ:PSt} {G:Gh}:∀ (ws:List Str) {Q:List PV→Gh→Prop},Q (ws.map PV.str) G→wpL T (iC (ws.map PV.str)) σ G Q
 | [],_,q=>q
 | w :: t,_,q=>by
   show wpL T (iC (t.map PV.str)) σ G _;exact vX t q
theorem RL {T:Tb} {σ:PSt} {G:Gh} {D:gO} {r:CS} {j:Nat} (ws:List Str) (hl:ws.length≤100) (q:wpS T r D (σ.set j (some (.lst (ws.map PV.str)))) G):wpS T (.seq (.asg (.gn j) (.lst false (iC (ws.map PV.str)))) r) D σ G:=by
 show wpL T (iC (ws.map PV.str)) σ G fun xs G1=>xs.length≤sizeLine∧wpS T r D (σ.set j (some (.lst xs))) G1;exact vX ws ⟨by rw [List.length_map]; exact szl hl,q⟩
theorem SC {T:Tb} {σ:PSt} {G:Gh} {D:gO} {r:CS} {j:Nat} (us ws:List Str) (hj:σ[j]? =some (some (.lst (us.map PV.str)))) (hl:us.length + ws.length≤100) (q:wpS T r D (σ.set j (some (.lst (us.map PV.str ++ ws.map PV.str)))) G):wpS T (.seq (.asg (.gn j) (.bin .Add (.var j) (.lst false (iC (ws.map PV.str))))) r) D σ G:=by
 refine ⟨_,hj, ?_⟩;show wpL T (iC (ws.map PV.str)) σ G fun xs G1=>xs.length≤sizeLine∧xB (.lst (us.map PV.str)) (.lst xs) G1 fun z G2=>wpS T r D (σ.set j (some z)) G2;refine vX ws ⟨by rw [List.length_map]; exact szl (by omega), ?_⟩;rw [wK];exact ⟨by rw [List.length_map,List.length_map]; exact szl hl,q⟩
theorem aEt {G:Gh} {Q:PK1} (q:Q (.bl false) G):nK .NotEq (.lst [.bl true,.bl false,.bl false]) (.lst [.bl true,.bl false,.bl false]) G Q:=⟨rfl,rfl,q⟩
theorem WK {T:Tb} {c:String} {k:Nat} {w:Str} {fs:List Str} {ys:List PV} {G:Gh} {Q:PK1} (s:Srt T.xi c k w) (q:Q (.str w) G):wpS T uO (aP Q) (aC 7 [.exc c fs ys]) G:=by
 unfold uO;refine wR (an:=fun n=>xiF T.xi c n) rfl (fun n h=>s.m n (gU h)) (by decide) ?_;refine kJ (an:=fun n=>xiF T.xi c n) (ms:=GX) rfl rfl (fun n h=>s.m n (gU h)) (by decide) ?_;refine kJ (an:=fun n=>xiF T.xi c n) (ms:=GX ++ KQ) rfl rfl (fun n h=>s.m n (gU h)) (by decide) ?_;refine kJ (an:=fun n=>xiF T.xi c n) (ms:=GX ++ KQ ++ RK) rfl rfl (fun n h=>s.m n (gU h)) (by decide) ?_;refine kJ (an:=fun n=>xiF T.xi c n) (ms:=GX ++ KQ ++ RK ++ ZQ) rfl rfl (fun n h=>s.m n (gU h)) (by decide) ?_;refine kJ (an:=fun n=>xiF T.xi c n) (ms:=GX ++ KQ ++ RK ++ ZQ ++ aBx) rfl rfl (fun n h=>s.m n (gU h)) (by decide) ?_;have e:(GX ++ KQ ++ RK ++ ZQ ++ aBx ++ aFX).map (fun n=>PV.bl (xiF T.xi c n))=(ZG.map fun n=>xiF T.xi c n).map PV.bl:=by rw [List.map_map]; rfl
 refine ⟨_,rfl,⟨_,rfl⟩,(ZG.map fun n=>xiF T.xi c n),true,congrArg some e,rfl, ?_⟩;rw [s.k1];refine ⟨rfl,rfl,false,rfl, ?_⟩;refine (?_:if false=true then _ else _);rw [if_neg (by decide)];refine ⟨_,rfl,⟨_,.inr rfl⟩,_,k,.inr rfl,(fun z hz=>?_),rfl,s.k2, ?_⟩
 · obtain ⟨n,_,rfl⟩:=List.mem_map.mp hz; rfl
 refine wR (an:=fun n=>xiF T.xi c n) rfl (fun n h=>s.m n (gU h)) (by decide) ?_;refine wR (an:=fun n=>xiF T.xi c n) rfl (fun n h=>s.m n (gU h)) (by decide) ?_;rw [s.b,s.v];have l1:decide ((k:Int) < 14)=true:=decide_eq_true (by have:=s.kl; omega);have l2:decide (14≤(k:Int))=false:=decide_eq_false (by have:=s.kl; omega);have l3:decide (17 < (k:Int))=false:=decide_eq_false (by have:=s.kl; omega);refine ⟨_,rfl,⟨trivial,⟨_,rfl,⟨trivial,_,rfl, ?_⟩⟩⟩⟩;rw [l2,if_neg (by decide)];refine ⟨_,rfl,trivial,szl (n:=3) (by decide), ?_⟩;refine (?_:vN false G [.bl (decide ((k:Int) < 14)),.bl false,.bl (decide (17 < (k:Int)))] _);rw [l1,l3];refine ⟨_,rfl,_,rfl,aEt ⟨false,rfl, ?_⟩⟩;refine (?_:if false=true then _ else _);rw [if_neg (by decide)];refine ⟨_,rfl,_,rfl,aEt ⟨false,rfl, ?_⟩⟩;refine (?_:if false=true then _ else _);rw [if_neg (by decide)];refine RL ["number","shade","part","deed","turn","way","text","grade","step","eye","limit","place"] (by decide) ?_;refine SC ["number","shade","part","deed","turn","way","text","grade","step","eye","limit","place"] ["lights","row","weights","weight","empty","blend","word","name","stands","full","back"] rfl (by decide) ?_;refine ⟨_,rfl,_,rfl, ?_⟩;refine (?_:rY _ _ _ _);rw [fY];exact ⟨_,s.w,Wk.here q⟩
def Sw (x:PV) (s:Str):Prop:= ∃ d,(dat x=some d∨dte x=some d)∧d.showable=true∧d.depth≤64∧d.shown.length≤sizeLine∧(∀ i:Int,x= .int i→i.natAbs.log2 < 1920)∧s=d.shown∧PyData.strOk s=true
theorem oG {x:PV} {s:Str} {G:Gh} {Q:PK1} (h:Sw x s) (q:Q (.str s) G):aJe x G Q:=by
 obtain ⟨d,h1,h2,h3,h4,h5,rfl,_⟩:=h;exact ⟨d,h1,h2,h3,h4,h5,q⟩
theorem Sw.ok {x:PV} {s:Str} (h:Sw x s):PyData.strOk s=true:=let ⟨_,_,_,_,_,_,_,e⟩:=h; e
noncomputable def smI:PV→Bool
 | .int i=>decide (i.natAbs.log2 < 1920)
 | _=>true
noncomputable def swB (x:PV):Bool:=match (match dat x with | some d=>some d | none=>dte x) with
 | some d=>d.showable && decide (d.depth≤64) && decide (d.shown.length≤100) && PyData.strOk d.shown && smI x
 | none=>false
theorem uM {x:PV} (h:swB x=true):∃ s,Sw x s:=by
 unfold swB at h;split at h
 · rename_i d e;simp only [Bool.and_eq_true,decide_eq_true_eq] at h;obtain ⟨⟨⟨⟨h1,h2⟩,h3⟩,h4⟩,h5⟩:=h;refine ⟨d.shown,d, ?_,h1,h2,szl h3,fun i ei=>?_,rfl,h4⟩
   · split at e
     · exact .inl (by rename_i q; rw [q]; exact e)
     · exact .inr e
   · subst ei; exact of_decide_eq_true h5
 · cases h
noncomputable def aCh:PV→Bool
 | .ob c _ _=>c == "Shade"
 | .non=>true
 | .bl _=>true
 | .int _=>true
 | .str _=>true
 | .tup _=>true
 | .lst _=>true
 | .emp=>true
 | _=>false
theorem KE {x:PV} (h:aCh x=true):Kd6 x:=by
 cases x with
 | ob c ns xs=>exact beq_iff_eq.mp h
 | non=>trivial
 | bl b=>trivial
 | int i=>trivial
 | str s=>trivial
 | tup xs=>trivial
 | lst xs=>trivial
 | emp=>trivial
 | _=>cases h
noncomputable def aD5:PV→Bool
 | .tup [a,b]=>aCh a && aCh b
 | x=>aCh x
theorem XV {x:PV} (h:aD5 x=true):Kd2 x:=by
 unfold aD5 at h;split at h
 · rw [Bool.and_eq_true] at h; exact ⟨KE h.1,KE h.2⟩
 · rename_i n;unfold Kd2;split
   · exact absurd rfl (n _ _)
   · exact KE h
def wZ (x y z:PV) (w:Str) (v:PV):Prop:=(w="part"∧v=x∧Kd2 x∧gQ x=false)∨(w="part"∧v=y∧∃ a,x=FQ a∧0≤a∧Kd2 y∧gQ y=false)∨
 (w="turn"∧v=z∧∃ a b,x=FQ a∧y=FQ b∧0≤a∧0≤b∧Bd 300 a∧Bd 300 b∧OH a b z)
noncomputable def aHm:List (String×Str):=[("NoShade","shade"),("NoPart","part"),("NoTurn","turn")]
def pJ:Sp3:=fun xs G Q=>∃ c w ns ys,xs=[.exc c ns ys]∧(c,w)∈aHm∧Q (.str w) G
def lM:Sp3:=fun xs G Q=>∃ x,xs=[x]∧Kd6 x∧JQ x=false∧Q (.tup [.str "shade",.non]) G
def lU:Sp3:=fun xs G Q=>∃ i x y z w v s,xs=[.int i,x,y,z]∧wZ x y z w v∧Sw v s∧Q (.tup [.str w,.str s]) G
noncomputable def RG:List (String×Str×Bool):=([("NoShade","NoNumber",false),("NoShade","NoShade",true),("NoShade","NoPart",false),("NoShade","NoDeed",false),("NoShade","NoTurn",false),("NoShade","NoWay",false),("NoShade","NoText",false),("NoShade","NoGrade",false),("NoShade","NoStep",false),("NoShade","NoEye",false),("NoShade","NoLimit",false),("NoShade","NoPlace",false),("NoShade","NoLights",false),("NoShade","NoRow",false),("NoShade","NoWeights",false),("NoShade","NoWeight",false),("NoShade","EmptyMix",false),("NoShade","NoBlend",false),("NoShade","NoWord",false),("NoShade","NoName",false),("NoShade","NameStands",false),("NoShade","BookFull",false),("NoShade","NoBack",false),("NoShade","ShadeError",true),("NoShade","MixError",false),("NoShade","BookError",false),("NoShade","ValueError",true),("NoShade","ArithmeticError",false),("NoShade","LookupError",false)]:List (String×Str×Bool)) ++ (([("NoPart","NoNumber",false),("NoPart","NoShade",false),("NoPart","NoPart",true),("NoPart","NoDeed",false),("NoPart","NoTurn",false),("NoPart","NoWay",false),("NoPart","NoText",false),("NoPart","NoGrade",false),("NoPart","NoStep",false),("NoPart","NoEye",false),("NoPart","NoLimit",false),("NoPart","NoPlace",false),("NoPart","NoLights",false),("NoPart","NoRow",false),("NoPart","NoWeights",false),("NoPart","NoWeight",false),("NoPart","EmptyMix",false),("NoPart","NoBlend",false),("NoPart","NoWord",false),("NoPart","NoName",false),("NoPart","NameStands",false),("NoPart","BookFull",false),("NoPart","NoBack",false),("NoPart","ShadeError",true),("NoPart","MixError",false),("NoPart","BookError",false),("NoPart","ValueError",true),("NoPart","ArithmeticError",false),("NoPart","LookupError",false)]:List (String×Str×Bool)) ++ ([("NoTurn","NoNumber",false),("NoTurn","NoShade",false),("NoTurn","NoPart",false),("NoTurn","NoDeed",false),("NoTurn","NoTurn",true),("NoTurn","NoWay",false),("NoTurn","NoText",false),("NoTurn","NoGrade",false),("NoTurn","NoStep",false),("NoTurn","NoEye",false),("NoTurn","NoLimit",false),("NoTurn","NoPlace",false),("NoTurn","NoLights",false),("NoTurn","NoRow",false),("NoTurn","NoWeights",false),("NoTurn","NoWeight",false),("NoTurn","EmptyMix",false),("NoTurn","NoBlend",false),("NoTurn","NoWord",false),("NoTurn","NoName",false),("NoTurn","NameStands",false),("NoTurn","BookFull",false),("NoTurn","NoBack",false),("NoTurn","ShadeError",true),("NoTurn","MixError",false),("NoTurn","BookError",false),("NoTurn","ValueError",true),("NoTurn","ArithmeticError",false),("NoTurn","LookupError",false)]:List (String×Str×Bool)))
noncomputable def aCn:List (String×Str):=[("NoShade","light"),("NoPart","part"),("NoTurn","part")]
def BJ:Sp3:=fun xs G Q=>∃ p,xs=[.ref p]∧Pu p G∧∀ x s G',Kd2 x→gQ x=false→Sw x s→Pn p G G'→Q x G'
def UnA (x:PV):Prop:=x≠.non∧Kd2 x∧(gQ x=false∨∃ t,x=FQ t∧0≤t∧Bd 3000 t∧6≤t)
def AM:Sp3:=fun xs G Q=>∃ p,xs=[.ref p]∧Pu p G∧∀ x s G',UnA x→Sw x s→Pn p G G'→Q x G'
structure ZJ (w b:Rat) (o:Option Rat):Prop where
 w0:0≤w
 b0:0≤b
 ok:TOk w b o
 bw:Bd 12 w
 bb:Bd 40 b
 bo:TBd 12 o
def tG:Sp3:=fun xs G Q=>∃ p w b o,xs=[.ref p,FQ w,FQ b,tV o]∧Pu p G∧ZJ w b o∧∀ l x y z u v s G',wZ x y z u v→Sw v s→Pu p G'→G' l=some (.lst [x,y,z])→Q (.tup [.ref l,.tup [.str u,.str s]]) G'
def lX:Sp3:=fun xs G Q=>∃ p w b o,xs=[.ref p,FQ w,FQ b,tV o]∧Pu p G∧ZJ w b o∧∀ x y z s G',wZ x y z "turn" z→Sw z s→Pn p G G'→Q (.tup [x,y,z]) G'
def Nsh (x:PV):Prop:=Kd6 x∧JQ x=false
def oJ:Sp3:=fun xs G Q=>∃ a b c,xs=[.tup [FQ a,FQ b,FQ c]]∧In1 a∧In1 b∧In1 c∧∀ ys,(∀ y∈ys,Nsh y)→ys.length≤100→Q (.lst ys) G
structure L18 (T:Tb):Prop where
 sort:T.S "_law_sort"=pJ
 asked:T.S "_law_asked"=lM
 tried:T.S "_law_tried"=lU
 badp:T.S "_law_bad_part"=BJ
 badt:T.S "_law_bad_turn"=AM
 odd:T.S "_law_odd"=tG
 unfit:T.S "_law_unfit"=lX
 nosh:T.S "_law_no_shades"=oJ
 ty_list:T.gv "list"= .ty "list"
 xi:T.xi=RG
 fx:T.fx=aCn
theorem YC {c c2:String} {ns ns2:List Str} {xs xs2:List PV}:(PV.exc c ns xs=PV.exc c2 ns2 xs2)=(c=c2∧ns=ns2∧xs=xs2):=by simp
theorem aGB:Srt RG "NoShade" 1 "shade":=⟨by decide +kernel,by decide +kernel,by rfl,by rfl,by rfl,by decide,by rfl⟩
theorem aF5:Srt RG "NoPart" 2 "part":=⟨by decide +kernel,by decide +kernel,by rfl,by rfl,by rfl,by decide,by rfl⟩
theorem aGR:Srt RG "NoTurn" 4 "turn":=⟨by decide +kernel,by decide +kernel,by rfl,by rfl,by rfl,by decide,by rfl⟩
local macro_rules | `(tactic| walk_at "rd") => wk (wB++" or_false YC")
section
variable {T:Tb}
noncomputable def lB:CS:=uO
theorem ED (l:L18 T):∀ xs G Q,pJ xs G Q→wpS T lB (aP Q) (aC 7 xs) G:=by
 rintro xs G Q ⟨c,w,ns,ys,rfl,hw,hq⟩;simp only [aHm,List.mem_cons,List.not_mem_nil,or_false,Prod.mk.injEq] at hw;rcases hw with ⟨rfl,rfl⟩ | ⟨rfl,rfl⟩ | ⟨rfl,rfl⟩
 · exact WK (by rw [l.xi]; exact aGB) hq
 · exact WK (by rw [l.xi]; exact aF5) hq
 · exact WK (by rw [l.xi]; exact aGR) hq
noncomputable def fJ:CS:=(.seq (.trh (.ex (.cal "!wheel_of" (.cons (.var 0) .nil))) 1 (.ret (.tup (.cons (.cal "_law_sort" (.cons (.var 1) .nil)) (.cons (.atx (.var 1) "light") .nil)))) ["NoShade"])
 (.ret (.tup (.cons (.str "told") (.cons .non .nil)))))
theorem AJ (hx:∀ x,Q18 (T.at x)) (l:L18 T):∀ xs G Q,lM xs G Q→wpS T fJ (aP Q) (aC 2 xs) G:=by
 rintro xs G Q ⟨x,rfl,hk,hs,hq⟩;unfold fJ;have e1:=l.sort;have e2:=l.fx;rw [wpS,wpS];refine (?_:wpS (T.at _) _ _ _ _);generalize hT:T.at _=T';have h':Q18 T':=hT▸hx _;have hp:T'.xp=_:=(congrArg Tb.xp hT).symm;have e3:=h'.xwheel;clear hT;walk_at "rd"
 exact .inr ⟨x,rfl,hk,hs,WkX.here ⟨List.mem_singleton.mpr rfl,_,_,_,_,rfl,wDq ..,wDq ..,_,rfl,Wk.here hq⟩⟩
noncomputable def fH:CS:=(.seq (.trh (.iff (.tsb (.cmp .Eq (.var 0) (.int 0))) (.ex (.cal "!by_wheel" (.cons (.var 1) (.cons (.var 2) (.cons (.var 3) .nil))))) (.ex (.cak "!by_wheel" .nil (.cons (.var 3) (.cons (.var 2) (.cons (.var 1) .nil))) [.arg 2,.arg 1,.arg 0]))) 4 (.ret (.tup (.cons (.cal "_law_sort" (.cons (.var 4) .nil)) (.cons (.rpr (.atx (.var 4) "part")) .nil)))) ["NoPart","NoTurn"])
 (.ret (.tup (.cons (.str "told") (.cons (.str "") .nil)))))
theorem BL (hx:∀ x,Q18 (T.at x)) (l:L18 T):∀ xs G Q,lU xs G Q→wpS T fH (aP Q) (aC 5 xs) G:=by
 rintro xs G Q ⟨i,x,y,z,w,v,s,rfl,hr,hs,hq⟩;unfold fH;have e1:=l.sort;have e2:=l.fx;rw [wpS,wpS];refine (?_:wpS (T.at _) _ _ _ _);generalize hT:T.at _=T';have h':Q18 T':=hT▸hx _;have hp:T'.xp=_:=(congrArg Tb.xp hT).symm;clear hT;have key:∀ R,T'.S "!by_wheel" [x,y,z] G R:=fun R=>by
   rw [h'.xbyw];refine .inr ⟨x,y,z,rfl, ?_⟩;have fin:∀ c,(c,w)∈aHm→c∈ ["NoPart","NoTurn"]→(c,("part":Str))∈aCn→T'.xp c ["part"] [v] G:=fun c h1 h2 h3=>by
     rw [hp];refine ⟨G,fun _ _ z=>z,h2, ?_⟩;walk_at "rd"
     exact ⟨c,w,_,_,rfl,h1,_,rfl,oG hs (Wk.here hq)⟩
   rcases hr with ⟨rfl,rfl,k,f⟩ | ⟨rfl,rfl,a,rfl,a0,k,f⟩ | ⟨rfl,rfl,a,b,rfl,rfl,a0,b0,ba,bb,u⟩
   · exact .inl ⟨k,f,fin _ (by decide +kernel) (by decide) (by decide +kernel)⟩
   · exact .inr (.inl ⟨a,rfl,a0,k,f,fin _ (by decide +kernel) (by decide) (by decide +kernel)⟩)
   · exact .inr (.inr ⟨a,b,rfl,rfl,a0,b0,ba,bb,u,fin _ (by decide +kernel) (by decide) (by decide +kernel)⟩)
 clear hp;walk_at "rd"
 split <;> first | trivial | exact key _
end
theorem WD {P:PV→Prop} {xs:List PV} {r:Int} {Q:PV→Prop} (h:∀ v∈xs,P v) (h0:0≤r) (h1:r < (xs.length:Int)) (q:∀ v,P v→Q v):∃ v,atI xs r=some v∧Q v:=by
 have hl:r.toNat < xs.length:=by omega
 have e:=dF (xs:=xs) (j:=r.toNat) (wHq hl);rw [Int.toNat_of_nonneg h0] at e;exact ⟨_,e,q _ (h _ (List.getElem_mem hl))⟩
noncomputable def okP (v:PV):Bool:=aD5 v && !gQ v && swB v
theorem aHY {v:PV} (h:okP v=true):Kd2 v∧gQ v=false∧∃ s,Sw v s:=by
 unfold okP at h;simp only [Bool.and_eq_true,Bool.not_eq_true'] at h;exact ⟨XV h.1.1,h.1.2,uM h.2⟩
noncomputable def noN:PV→Bool
 | .non=>false
 | _=>true
theorem aHR {v:PV} (h:noN v=true):v≠.non:=fun e=>by subst e; cases h
noncomputable def okT (v:PV):Bool:=noN v && aD5 v && swB v && (match v with | .tup [.int t,.int b]=> !gQ v || (decide (6 * b≤t) && decide (b≤2) && decide (t≤10 ^ 20)) | _=>true)
theorem aFl {t b:Int} (h:gQ (.tup [.int t,.int b])=true):∃ q:Rat,PV.tup [.int t,.int b]=FQ q∧0≤q∧q.num=t∧(q.den:Int)=b:=by
 have h:(decide (1≤b) && decide (Int.gcd t b=1) && decide (0≤t))=true:=h;simp only [Bool.and_eq_true,decide_eq_true_eq] at h;obtain ⟨⟨hb,hg⟩,h0⟩:=h;have e:FQ (Rat.divInt t b)= .tup [.int t,.int b]:=by rw [AD (by omega),hg]; simp
 have e0:=e;unfold FQ at e0;injection e0 with e0;injection e0 with n1 e0;injection e0 with n2 _;injection n1 with n1;injection n2 with n2;exact ⟨Rat.divInt t b,e.symm,Rat.num_nonneg.mp (by omega),n1,n2⟩
theorem aMk {v:PV} (h:∀ t b:Int,v≠.tup [.int t,.int b]):gQ v=false:=by
 unfold gQ;split
 · exact absurd rfl (h _ _)
 · rfl
theorem aHo {v:PV} (h:okT v=true):UnA v∧∃ s,Sw v s:=by
 unfold okT at h;simp only [Bool.and_eq_true] at h;obtain ⟨⟨⟨h1,h2⟩,h3⟩,h4⟩:=h;refine ⟨⟨aHR h1,XV h2, ?_⟩,uM h3⟩;split at h4
 · rename_i t b;cases hf:gQ (.tup [.int t,.int b])
   · exact .inl rfl
   · rw [hf] at h4;simp only [Bool.not_true,Bool.false_or,Bool.and_eq_true,decide_eq_true_eq] at h4;obtain ⟨q,e,q0,n1,n2⟩:=aFl hf;refine .inr ⟨q,e,q0,⟨?_, ?_⟩, ?_⟩
     · rw [n1]; unfold Sm;have:(2:Nat) ^ 70≤2 ^ 3000:=Nat.pow_le_pow_right (by decide) (by decide);have e1:(2:Nat) ^ 70=1180591620717411303424:=by decide
       have e2:(10:Int) ^ 20=100000000000000000000:=by decide
       have:=IS (q:=q);omega
     · rw [n2]; unfold Sm;have:(2:Nat) ^ 70≤2 ^ 3000:=Nat.pow_le_pow_right (by decide) (by decide);have e1:(2:Nat) ^ 70=1180591620717411303424:=by decide
       have:=IS (q:=q);omega
     · rw [Rat.le_iff];show 6 * (q.den:Int)≤q.num * 1;omega
 · rename_i n;exact .inl (aMk n)
theorem HY {R:Bool→Gh→Prop} {G:Gh} {a:PV} {xs:List PV}:xU (.tup (a :: xs)) G R=R true G:=rfl
theorem aBB {a b:Rat} (a0:0≤a) (b0:0≤b) (ba:Bd 300 a) (bb:Bd 300 b) (ne:a + b≠1):wZ (FQ a) (FQ b) .non "turn" .non:=.inr (.inr ⟨rfl,rfl,a,b,rfl,rfl,a0,b0,ba,bb,.inl ⟨rfl,ne⟩⟩)
theorem aDg {a b:Rat} {z:PV} (a0:0≤a) (b0:0≤b) (ba:Bd 300 a) (bb:Bd 300 b) (h:1≤a + b) (zn:z≠.non) (k:Kd2 z) (hz:gQ z=false∨∃ t,z=FQ t∧0≤t∧Bd 3000 t):wZ (FQ a) (FQ b) z "turn" z :=
 .inr (.inr ⟨rfl,rfl,a,b,rfl,rfl,a0,b0,ba,bb,.inr ⟨zn,k,hz.imp id <|by rintro ⟨t,e,t0,bt⟩;exact ⟨t,e,t0,bt,.inr h⟩⟩⟩)
noncomputable def r13:Rat:=⟨1,3,by decide,by decide⟩
noncomputable def r23:Rat:=⟨2,3,by decide,by decide⟩
noncomputable def r32:Rat:=⟨3,2,by decide,by decide⟩
noncomputable def r52:Rat:=⟨5,2,by decide,by decide⟩
theorem bdc {q:Rat} {n:Nat} (h:q.num.natAbs < 1000:=by decide) (h':q.den < 1000:=by decide) (e:10≤n:=by decide):Bd n q:=by
 have:2 ^ 10≤2 ^ n:=Nat.pow_le_pow_right (by decide) e;exact ⟨by unfold Sm; omega,by unfold Sm; omega⟩
theorem sw7:∀ n:Nat,n < 12→swB (.tup [.int (n:Int),.int 7])=true:=by decide +kernel
local macro_rules | `(tactic| walk_at "rd") => wk (wB++" or_false false_or gN pL FR wK fY FP at1 at2 dD jH hU sz1")
section
variable {T:Tb}
noncomputable def fK:CS:=(.seq (.asg (.gn 1) (.lst false (.cons (.tup (.cons (.bin .Sub (.int 0) (.int 1)) (.cons (.int 1) .nil))) (.cons (.tup (.cons (.bin .Sub (.int 0) (.int 1)) (.cons (.int 3) .nil))) (.cons (.tup (.cons (.int 2) (.cons (.int 4) .nil))) (.cons (.tup (.cons (.int 0) (.cons (.int 2) .nil))) (.cons (.tup (.cons (.int 1) (.cons (.int 0) .nil))) (.cons (.tup (.cons (.int 1) (.cons (.bin .Sub (.int 0) (.int 2)) .nil))) (.cons (.bl true) (.cons (.bl false) (.cons (.int 0) (.cons (.int 1) (.cons (.str "1/2") (.cons (.str "") (.cons .non (.cons (.lst false (.cons (.int 1) (.cons (.int 2) .nil))) (.cons .emp .nil)))))))))))))))))
 (.seq (.asg (.gn 1) (.bin .Add (.var 1) (.lst false (.cons (.tup .nil) (.cons (.tup (.cons (.int 1) .nil)) (.cons (.tup (.cons (.int 1) (.cons (.int 2) (.cons (.int 1) .nil)))) (.cons (.tup (.cons (.bl true) (.cons (.int 1) .nil))) (.cons (.tup (.cons (.lst false .nil) (.cons (.int 1) .nil))) (.cons (.tup (.cons (.int 1) (.cons .emp .nil))) (.cons (.tup (.cons (.str "1") (.cons (.int 2) .nil))) (.cons (.tup (.cons (.tup (.cons (.int 0) (.cons (.int 1) .nil))) (.cons (.int 1) .nil))) .nil)))))))))))
 (.ret (.idx (.var 1) (.cal "_law_pick" (.cons (.var 0) (.cons (.blt .len (.cons (.var 1) .nil)) .nil)))))))
theorem CI (t:LT T):∀ xs G Q,BJ xs G Q→wpS T fK (aP Q) (aC 2 xs) G:=by
 rintro xs G Q ⟨p,rfl,hp,hq⟩;unfold fK;have e1:=t.pick;walk_at "rd"
 repeat refine ⟨szl (by decide), ?_⟩
 refine ⟨by decide,smK (by decide) (by decide) (by decide),fun r G' h0 h1 hn=>?_⟩;refine WD (P:=fun v=>okP v=true) (List.all_eq_true.mp (by decide +kernel)) h0 h1 fun v hv=>?_;obtain ⟨a,b,s,c⟩:=aHY hv;exact Wk.here (hq v s G' a b c hn)
noncomputable def fF:CS:=(.seq (.asg (.gn 1) (.lst false (.cons (.tup (.cons (.int 6) (.cons (.int 1) .nil))) (.cons (.tup (.cons (.int 13) (.cons (.int 2) .nil))) (.cons (.tup (.cons (.bin .Sub (.int 0) (.int 1)) (.cons (.int 2) .nil))) (.cons (.tup (.cons (.bin .Sub (.int 0) (.int 1)) (.cons (.int 1) .nil))) (.cons (.tup (.cons (.bin .Pow (.int 10) (.int 20)) (.cons (.int 1) .nil))) (.cons (.tup (.cons (.int 4) (.cons (.int 2) .nil))) (.cons (.tup (.cons (.int 1) (.cons (.int 0) .nil))) (.cons (.int 0) (.cons (.int 3) (.cons (.bl true) (.cons (.bl false) (.cons (.str "") (.cons (.str "1/2") .nil)))))))))))))))
 (.seq (.asg (.gn 1) (.bin .Add (.var 1) (.lst false (.cons (.lst false (.cons (.int 1) (.cons (.int 2) .nil))) (.cons .emp (.cons (.tup .nil) (.cons (.tup (.cons (.int 1) .nil)) (.cons (.tup (.cons (.bl true) (.cons (.int 1) .nil))) (.cons (.tup (.cons (.lst false .nil) (.cons (.int 1) .nil))) (.cons (.tup (.cons (.int 1) (.cons .emp .nil))) (.cons (.tup (.cons (.int 0) (.cons (.int 3) .nil))) .nil)))))))))))
 (.ret (.idx (.var 1) (.cal "_law_pick" (.cons (.var 0) (.cons (.blt .len (.cons (.var 1) .nil)) .nil)))))))
theorem BQ (t:LT T):∀ xs G Q,AM xs G Q→wpS T fF (aP Q) (aC 2 xs) G:=by
 rintro xs G Q ⟨p,rfl,hp,hq⟩;unfold fF;have e1:=t.pick;walk_at "rd"
 refine ⟨⟨by decide,by decide⟩, ?_⟩
 repeat refine ⟨szl (by decide), ?_⟩
 refine ⟨by decide,smK (by decide) (by decide) (by decide),fun r G' h0 h1 hn=>?_⟩;refine WD (P:=fun v=>okT v=true) (List.all_eq_true.mp (by decide +kernel)) h0 h1 fun v hv=>?_;obtain ⟨a,s,c⟩:=aHo hv;exact Wk.here (hq v s G' a c hn)
noncomputable def eQ:CS:=(.ret (.lst false (.cons (.var 0) (.cons (.blt .list (.cons (.var 0) .nil)) (.cons .non (.cons (.bl true) (.cons (.int 0) (.cons (.str "shade") (.cons (.str "") (.cons (.lst false .nil) (.cons .emp (.cons (.tup .nil) (.cons (.tup (.cons (.lst false .nil) .nil)) (.cons (.tup (.cons (.cal "Shade" (.cons (.idx (.var 0) (.int 0)) (.cons (.idx (.var 0) (.int 1)) (.cons (.idx (.var 0) (.int 2)) .nil)))) .nil)) .nil))))))))))))))
theorem xX (h:PT T):∀ xs G Q,oJ xs G Q→wpS T eQ (aP Q) (aC 1 xs) G:=by
 rintro xs G Q ⟨a,b,c,rfl,ia,ib,ic,hq⟩;unfold eQ;have e1:=h.shade;walk_at "rd"
 refine .inl ⟨_,rfl,szl (by decide),szl (by decide),szl (by decide),szl (by decide),Wk.here (hq _ (fun y hy=>?_) (by show 12≤100; decide))⟩;simp only [List.mem_cons,List.not_mem_nil,or_false] at hy;rcases hy with rfl | rfl | rfl | rfl | rfl | rfl | rfl | rfl | rfl | rfl | rfl | rfl <;> exact ⟨trivial,rfl⟩
noncomputable def jN:CS:=(.seq (.asg (.gn 4) (.cal "_law_pick" (.cons (.var 0) (.cons (.int 4) .nil))))
 (.seq (.iff (.tsb (.cmp .Eq (.var 4) (.int 0))) (.ret (.tup (.cons (.var 1) (.cons (.cal "_law_minus" (.cons (.tup (.cons (.int 1) (.cons (.int 1) .nil))) (.cons (.var 1) .nil))) (.cons (.tup (.cons (.cal "_law_pick" (.cons (.var 0) (.cons (.int 12) .nil))) (.cons (.int 7) .nil))) .nil))))) .nil)
 (.seq (.iff (.tsb (.cmp .Eq (.var 4) (.int 1))) (.ret (.tup (.cons (.tup (.cons (.int 1) (.cons (.int 2) .nil))) (.cons (.idx (.lst false (.cons (.tup (.cons (.int 1) (.cons (.int 3) .nil))) (.cons (.tup (.cons (.int 2) (.cons (.int 3) .nil))) .nil))) (.cal "_law_pick" (.cons (.var 0) (.cons (.int 2) .nil)))) (.cons .non .nil))))) .nil)
 (.seq (.iff (.tsb (.cmp .Eq (.var 4) (.int 2))) (.ret (.tup (.cons (.tup (.cons (.int 3) (.cons (.int 2) .nil))) (.cons (.var 2) (.cons (.idx (.lst false (.cons .non (.cons (.tup (.cons (.int 1) (.cons (.int 2) .nil))) .nil))) (.cal "_law_pick" (.cons (.var 0) (.cons (.int 2) .nil)))) .nil))))) .nil)
 (.ret (.tup (.cons (.tup (.cons (.int 2) (.cons (.int 3) .nil))) (.cons (.tup (.cons (.int 1) (.cons (.int 2) .nil))) (.cons (.idx (.lst false (.cons .non (.cons (.tup (.cons (.int 0) (.cons (.int 1) .nil))) (.cons (.tup (.cons (.int 5) (.cons (.int 2) .nil))) .nil)))) (.cal "_law_pick" (.cons (.var 0) (.cons (.int 3) .nil)))) .nil)))))))))
theorem RT (t:LT T):∀ xs G Q,lX xs G Q→wpS T jN (aP Q) (aC 5 xs) G:=by
 rintro xs G Q ⟨p,w,b,o,rfl,hp,hg,hq⟩;unfold jN;have e1:=t.pick;have e2:=t.minus;have e3:=@jT;walk_at "rd"
 have ba:=hg.bw.mono (show 12≤300 by decide);have bb:=hg.bb.mono (show 40≤300 by decide);obtain ⟨sn,hsn⟩:∃ s,Sw .non s:=uM (by decide +kernel);have w1:w≤1:=by
   have:=hg.ok;have:=hg.b0;cases o with
   | none=>have e:w + b=1:=hg.ok; grind
   | some t=>have e:w + b < 1:=hg.ok.2; grind
 refine ⟨by decide,smK (by decide) (by decide) (by decide),fun r G1 h0 h1 n1=>?_⟩;split
 · refine ⟨bd1.mono (by decide),hg.bw.mono (by decide),n1.pu,by decide,smK (by decide) (by decide) (by decide),fun r2 G2 z0 z1 n2=>?_⟩;have e:r2=((r2.toNat:Nat):Int):=by omega
   obtain ⟨s,hs⟩:=uM (sw7 r2.toNat (by omega));rw [←e] at hs;have bc:Bd 300 ((1:Rat) - w):=bd1.sub hg.bw (by decide);refine Wk.here (hq _ _ _ s _ (aDg hg.w0 ?_ ba bc ?_ (fun z=>by cases z) ⟨trivial,trivial⟩ ?_) hs (n1.trans n2))
   · show 0≤(1:Rat) - w
     grind
   · show 1≤w + ((1:Rat) - w)
     grind
   · cases hf:gQ (.tup [.int r2,.int 7])
     · exact .inl rfl
     · obtain ⟨q,e,q0,n3,n4⟩:=aFl hf;refine .inr ⟨q,e,q0,⟨?_, ?_⟩⟩
       · rw [n3]; exact smK (by omega) (by omega) (by decide)
       · rw [n4]; exact smK (by omega) (by omega) (by decide)
 · split
   · refine ⟨n1.pu,by decide,smK (by decide) (by decide) (by decide),fun r2 G2 z0 z1 n2=>?_⟩;rcases (show r2=0∨r2=1 by omega) with rfl | rfl
     · exact ⟨_,at0,Wk.here (hq (FQ hlf) (FQ r13) _ sn _ (aBB (by decide) (by decide) bdc bdc (by decide +kernel)) hsn (n1.trans n2))⟩
     · exact ⟨_,at1,Wk.here (hq (FQ hlf) (FQ r23) _ sn _ (aBB (by decide) (by decide) bdc bdc (by decide +kernel)) hsn (n1.trans n2))⟩
   · split
     · have b0:=hg.b0;refine ⟨n1.pu,by decide,smK (by decide) (by decide) (by decide),fun r2 G2 z0 z1 n2=>?_⟩;have g1:1 < r32:=by decide
       rcases (show r2=0∨r2=1 by omega) with rfl | rfl
       · exact ⟨_,at0,Wk.here (hq (FQ r32) (FQ b) _ sn _ (aBB (by decide) b0 bdc bb (by grind)) hsn (n1.trans n2))⟩
       · obtain ⟨s2,h2⟩:∃ s,Sw (FQ hlf) s:=uM (by decide +kernel);exact ⟨_,at1,Wk.here (hq (FQ r32) (FQ b) (FQ hlf) s2 _ (aDg (by decide) b0 bdc bb (by grind) (fun z=>by cases z) kS (.inr ⟨hlf,rfl,by decide,bdc⟩)) h2 (n1.trans n2))⟩
     · refine ⟨n1.pu,by decide,smK (by decide) (by decide) (by decide),fun r2 G2 z0 z1 n2=>?_⟩;rcases (show r2=0∨r2=1∨r2=2 by omega) with rfl | rfl | rfl
       · exact ⟨_,at0,Wk.here (hq (FQ r23) (FQ hlf) _ sn _ (aBB (by decide) (by decide) bdc bdc (by decide +kernel)) hsn (n1.trans n2))⟩
       · obtain ⟨s2,h2⟩:∃ s,Sw (FQ 0) s:=uM (by decide +kernel);exact ⟨_,at1,Wk.here (hq (FQ r23) (FQ hlf) (FQ 0) s2 _ (aDg (by decide) (by decide) bdc bdc (by decide +kernel) (fun z=>by cases z) kS (.inr ⟨0,rfl,by decide,bdc⟩)) h2 (n1.trans n2))⟩
       · obtain ⟨s2,h2⟩:∃ s,Sw (FQ r52) s:=uM (by decide +kernel);exact ⟨_,at2,Wk.here (hq (FQ r23) (FQ hlf) (FQ r52) s2 _ (aDg (by decide) (by decide) bdc bdc (by decide +kernel) (fun z=>by cases z) kS (.inr ⟨r52,rfl,by decide,bdc⟩)) h2 (n1.trans n2))⟩
end
noncomputable def orD (d e:PV):PV:=match d with
 | .non=>e
 | x=>x
local macro_rules | `(tactic| walk_at "rd") => wk (wB++" exists_false false_and and_false or_false gN iQ iT iH UE fY nQ BV at1 at2 lN jH HY")
section
variable {T:Tb}
noncomputable def aB9:CS:=(.iff (.tsb (.cmp .Eq (.bin .Mod (.bin .FloorDiv (.var 4) (.idx (.lst false (.cons (.int 1) (.cons (.int 2) .nil))) (.var 7))) (.int 2)) (.int 1))) (.seq (.sub (.var 5) (.var 7) (.cal "_law_bad_part" (.cons (.var 0) .nil)))
 (.asg (.gn 6) (.oo (.var 6) (.tup (.cons (.str "part") (.cons (.rpr (.idx (.var 5) (.var 7))) .nil)))))) .nil)
noncomputable def aHG:CS:=(.iff (.tsb (.cmp .Eq (.bin .FloorDiv (.var 4) (.int 4)) (.int 1))) (.seq (.sub (.var 5) (.int 2) (.cal "_law_bad_turn" (.cons (.var 0) .nil)))
 (.asg (.gn 6) (.oo (.var 6) (.tup (.cons (.str "turn") (.cons (.rpr (.idx (.var 5) (.int 2))) .nil)))))) .nil)
theorem Pu.set {p l:Addr} {G:Gh} {o:GO} (h:Pu p G) (n:l≠p):Pu p (gup G l o):=let ⟨x,y,z,e⟩:=h; ⟨x,y,z,by rw [fG (Ne.symm n)]; exact e⟩
def aLQ (d:PV):Prop:=d= .non∨∃ u s:Str,d= .tup [.str u,.str s]
theorem KF (m:L18 T) {D:gO} {p l:Addr} {n:Int} {x1 x2 x3:Option PV} {a0 a1 a2 d:PV} {G:Gh} (j:Nat) (hj:j=0∨j=1) (hp:Pu p G) (hl:G l=some (.lst [a0,a1,a2])) (lp:l≠p) (hd:aLQ d)
   (q0:¬(n / (1 + (j:Int)) % 2=1)→D.nx [some (.ref p),x1,x2,x3,some (.int n),some (.ref l),some d,some (.int (j:Int))] G)
   (q1:n / (1 + (j:Int)) % 2=1→∀ x s G',Kd2 x→gQ x=false→Sw x s→Pu p G'→G' l=some (.lst ([a0,a1,a2].set j x))→D.nx [some (.ref p),x1,x2,x3,some (.int n),some (.ref l),some (orD d (.tup [.str "part",.str s])),some (.int (j:Int))] G') :
   wpS T aB9 D [some (.ref p),x1,x2,x3,some (.int n),some (.ref l),some d,some (.int (j:Int))] G:=by
 unfold aB9;have e1:=m.badp;have d1:∀ i:Int,mJ i 1:=fun _=>DD (k:=41) (by decide) (smK (by decide) (by decide) (by decide));have d2:∀ i:Int,mJ i 2:=fun _=>DD (k:=41) (by decide) (smK (by decide) (by decide) (by decide));have m2:∀ i:Int,XZ i 2:=fun _=>by show (0:Int) < 2; decide
 have bd:∀ {Q:PK1} {G:Gh},Pu p G→(∀ x s G',Kd2 x→gQ x=false→Sw x s→Pn p G G'→Q x G')→T.S "_law_bad_part" [.ref p] G Q:=fun {Q G} h q=>by rw [e1]; exact ⟨p,rfl,h,q⟩
 clear e1;have c0:((0:Nat):Int)=0:=rfl;have c1:((1:Nat):Int)=1:=rfl;rcases hj with rfl | rfl
 · walk_at "rd"
   split
   · rename_i hc;refine bd hp fun x s G' k f hs hn=>?_;rw [gJ (by rw [hn.ne lp]; exact hl)];refine ⟨0,UQ, ?_⟩;have q:=q1 hc x s _ k f hs (hn.pu.set lp) aS;rcases hd with rfl | ⟨u,s',rfl⟩
     · walk_at "rd"
       exact oG hs q
     · walk_at "rd"
       exact q
   · rename_i hc;exact q0 hc
 · walk_at "rd"
   split
   · rename_i hc;refine bd hp fun x s G' k f hs hn=>?_;rw [gJ (by rw [hn.ne lp]; exact hl)];refine ⟨1,VO, ?_⟩;have q:=q1 hc x s _ k f hs (hn.pu.set lp) aS;rcases hd with rfl | ⟨u,s',rfl⟩
     · walk_at "rd"
       exact oG hs q
     · walk_at "rd"
       exact q
   · rename_i hc;exact q0 hc
theorem aGD (m:L18 T) {D:gO} {p l:Addr} {n:Int} {x1 x2 x3 x7:Option PV} {a0 a1 a2 d:PV} {G:Gh} (hp:Pu p G) (hl:G l=some (.lst [a0,a1,a2])) (lp:l≠p) (hd:aLQ d)
   (q0:¬(n / 4=1)→D.nx [some (.ref p),x1,x2,x3,some (.int n),some (.ref l),some d,x7] G)
   (q1:n / 4=1→∀ x s G',UnA x→Sw x s→Pu p G'→G' l=some (.lst [a0,a1,x])→D.nx [some (.ref p),x1,x2,x3,some (.int n),some (.ref l),some (orD d (.tup [.str "turn",.str s])),x7] G') :
   wpS T aHG D [some (.ref p),x1,x2,x3,some (.int n),some (.ref l),some d,x7] G:=by
 unfold aHG;have e1:=m.badt;have d4:∀ i:Int,mJ i 4:=fun _=>DD (k:=41) (by decide) (smK (by decide) (by decide) (by decide));have bd:∀ {Q:PK1} {G:Gh},Pu p G→(∀ x s G',UnA x→Sw x s→Pn p G G'→Q x G')→T.S "_law_bad_turn" [.ref p] G Q:=fun {Q G} h q=>by rw [e1]; exact ⟨p,rfl,h,q⟩
 clear e1;walk_at "rd"
 split
 · rename_i hc;refine bd hp fun x s G' k hs hn=>?_;rw [gJ (by rw [hn.ne lp]; exact hl)];refine ⟨2,aAp, ?_⟩;have q:=q1 hc x s _ k hs (hn.pu.set lp) aS;rcases hd with rfl | ⟨u,s',rfl⟩
   · walk_at "rd"
     exact oG hs q
   · walk_at "rd"
     exact q
 · rename_i hc;exact q0 hc
noncomputable def aHC:CS:=(.seq aHG (.ret (.tup (.cons (.var 5) (.cons (.var 6) .nil)))))
noncomputable def nJ:CS:=(.seq (.asg (.gn 4) (.bin .Add (.int 1) (.cal "_law_pick" (.cons (.var 0) (.cons (.int 7) .nil)))))
 (.seq (.asg (.gn 5) (.lst true (.cons (.var 1) (.cons (.var 2) (.cons (.var 3) .nil)))))
 (.seq (.asg (.gn 6) .non)
 (.seq (.fr (.gn 7) (.irg (.cons (.int 2) .nil)) aB9)
 aHC))))
theorem aCe {w b:Rat} {x:PV} (h:UnA x):OH w b x:=.inr ⟨h.1,h.2.1,h.2.2.imp id <|by rintro ⟨t,e,t0,bt,t6⟩;exact ⟨t,e,t0,bt,.inl t6⟩⟩
theorem aDj (t:LT T) (m:L18 T):∀ xs G Q,tG xs G Q→wpS T nJ (aP Q) (aC 8 xs) G:=by
 rintro xs G Q ⟨p,w,b,o,rfl,hp,hg,hq⟩;unfold nJ;have e1:=t.pick;have r2:sZ 0 2=[.int 0,.int 1]:=rfl;have:=@NV;generalize eB:aB9=B;generalize eC:aHC=Cc;walk_at "rd"
 refine ⟨by decide,smK (by decide) (by decide) (by decide),fun r G1 h0 h1 n1 l hl=>?_⟩;subst eB eC;have lp:l≠p:=n1.pu.ne hl;have bw:=hg.bw.mono (show 12≤300 by decide);have bb:=hg.bb.mono (show 40≤300 by decide);have stC:∀ x y d x7 G',Pu p G'→G' l=some (.lst [x,y,tV o])→((d= .non∧x=FQ w∧y=FQ b∧(1 + r) / 4=1)∨∃ (u:Str) (v:PV) (s:Str),d= .tup [.str u,.str s]∧Sw v s∧∀ z,wZ x y z u v)→wpS T aHC (aP Q) [some (.ref p),some (FQ w),some (FQ b),some (tV o),some (.int (1 + r)),some (.ref l),some d,x7] G':=by
   intro x y d x7 G' h1 h2 h3;refine aGD m h1 h2 lp ?_ ?_ ?_
   · rcases h3 with ⟨e,_⟩ | ⟨u,v,s,e,_⟩
     · exact .inl e
     · exact .inr ⟨u,s,e⟩
   · intro n4;rcases h3 with ⟨_,_,_,e⟩ | ⟨u,v,s,rfl,hs,hr⟩
     · exact absurd e n4
     · exact ⟨_,rfl,_,rfl,szl (n:=2) (by decide),Wk.here (hq l x y _ u v s G' (hr _) hs h1 h2)⟩
   · intro y4 z s4 G2 uz hz p2 g2;rcases h3 with ⟨rfl,rfl,rfl,e⟩ | ⟨u,v,s,rfl,hs,hr⟩
     · exact ⟨_,rfl,_,rfl,szl (n:=2) (by decide),Wk.here (hq l _ _ z "turn" z s4 G2 (.inr (.inr ⟨rfl,rfl,w,b,rfl,rfl,hg.w0,hg.b0,bw,bb,aCe uz⟩)) hz p2 g2)⟩
     · exact ⟨_,rfl,_,rfl,szl (n:=2) (by decide),Wk.here (hq l x y z u v s G2 (hr _) hs p2 g2)⟩
 refine ⟨by decide,by decide,KF m 0 (.inl rfl) (n1.pu.new hl) aS lp (.inl rfl) (fun n0=>?_) (fun y0 x s G2 k f hs p2 g2=>?_)⟩
 · refine ⟨trivial,KF m 1 (.inr rfl) (n1.pu.new hl) aS lp (.inl rfl) (fun n1'=>?_) (fun y1 x s G2 k f hs p2 g2=>?_)⟩
   · exact ⟨trivial,stC _ _ _ _ _ (n1.pu.new hl) aS (.inl ⟨rfl,rfl,rfl,by simp only [Int.natCast_zero,Int.natCast_one] at n0 n1'; omega⟩)⟩
   · exact ⟨trivial,stC _ _ _ _ _ p2 g2 (.inr ⟨"part",x,s,rfl,hs,fun z=>.inr (.inl ⟨rfl,rfl,w,rfl,hg.w0,k,f⟩)⟩)⟩
 · refine ⟨trivial,KF m 1 (.inr rfl) p2 g2 lp (.inr ⟨_,_,rfl⟩) (fun n1'=>?_) (fun y1 x' s' G3 k' f' hs' p3 g3=>?_)⟩
   · exact ⟨trivial,stC _ _ _ _ _ p2 g2 (.inr ⟨"part",x,s,rfl,hs,fun z=>.inl ⟨rfl,rfl,k,f⟩⟩)⟩
   · exact ⟨trivial,stC _ _ _ _ _ p3 g3 (.inr ⟨"part",x,s,rfl,hs,fun z=>.inl ⟨rfl,rfl,k,f⟩⟩)⟩
end
theorem EH {g:PTG} {te:PTE} {Q:List PV→Gh→Prop} (J:PSt→Prop) {G:Gh}:∀ (xs acc:List PV) (σ:PSt),J σ→(∀ x∈xs,∀ σ (R:PV→PSt→Gh→Prop),J σ→(∀ σ',J σ'→R (.bl true) σ' G)→g x σ G fun σ2 G2=>te σ2 G2 fun y G3=>R y σ2 G3)→
   Q (acc ++ List.replicate xs.length (.bl true)) G→fZ (fun _=>True) g (fun _ G Q=>Q true G) te xs acc σ G Q
 | [],acc,σ,_,_,q=>⟨trivial,by simpa using q⟩
 | x :: r,acc,σ,j,h,q=>by
   refine ⟨trivial, ?_⟩;simp only [if_true];refine h x (wDq ..) σ (fun y σ' G'=>fZ (fun _=>True) g (fun _ G Q=>Q true G) te r (acc ++ [y]) σ' G' Q) j fun σ' j'=>?_;refine EH J r _ _ j' (fun x hx=>h x (wCq _ hx)) ?_;rw [List.append_assoc];simpa [List.replicate_succ] using q
theorem EM:∀ n:Nat,EL (List.replicate n (.bl true))=some true
 | 0=>rfl
 | n + 1=>by rw [List.replicate_succ]; unfold EL; rw [EM n]; rfl
theorem aAP {u s:Str} (h:PyData.strOk u=true) (h':PyData.strOk s=true):shp (.tup [.str u,.str s])=true:=by
 show (PyData.canLay0 (.tuple [.str u,.str s]) && decide ((PyData.tuple [.str u,.str s]).depth≤64))=true;simp [PyData.canLay0,PyData.canLayAll0,PyData.depth,PyData.depthAll,h,h']
theorem MB {u s:Str} (h:PyData.strOk u=true) (h':PyData.strOk s=true):shp (.lst [.tup [.str u,.str s],.tup [.str u,.str s]])=true:=by
 show (PyData.canLay0 (.list [.tuple [.str u,.str s],.tuple [.str u,.str s]]) && decide ((PyData.list [.tuple [.str u,.str s],.tuple [.str u,.str s]]).depth≤64))=true;simp [PyData.canLay0,PyData.canLayAll0,PyData.depth,PyData.depthAll,h,h']
theorem VY {u s:Str}:peq (.tup [.str u,.str s]) (.tup [.str u,.str s])=true:=by
 show ((u == u) && ((s == s) && true))=true;rw [beq_self_eq_true,beq_self_eq_true]; rfl
theorem aEW {T:Tb} {u s:Str} {G:Gh} {Q:PK1} {eqs:List (String×Str)} (h:PyData.strOk u=true) (h':PyData.strOk s=true) (q:Q (.bl false) G):aAs T eqs (.tup [.str u,.str s]) (.tup [.str u,.str s]) G Q:=by
 refine .inr ⟨aAP h h',aAP h h', ?_⟩;show Q (.bl (!peq (.tup [.str u,.str s]) (.tup [.str u,.str s]))) G;rw [VY]; exact q
theorem aF8 {T:Tb} {u s:Str} {G:Gh} {Q:PK1} {eqs:List (String×Str)} (h:PyData.strOk u=true) (h':PyData.strOk s=true) (q:Q (.bl false) G):aAs T eqs (.lst [.tup [.str u,.str s],.tup [.str u,.str s]]) (.lst [.tup [.str u,.str s],.tup [.str u,.str s]]) G Q:=by
 refine .inr ⟨MB h h',MB h h', ?_⟩;show Q (.bl (!(peq (.tup [.str u,.str s]) (.tup [.str u,.str s]) && (peq (.tup [.str u,.str s]) (.tup [.str u,.str s]) && true)))) G;rw [VY]; exact q
theorem MP:PyData.strOk ("part":Str)=true:=by decide +kernel
theorem AU:PyData.strOk ("turn":Str)=true:=by decide +kernel
theorem aDQ {x y z v:PV} {u:Str} (h:wZ x y z u v):PyData.strOk u=true:=by
 rcases h with ⟨rfl,_⟩ | ⟨rfl,_⟩ | ⟨rfl,_⟩
 · exact MP
 · exact MP
 · exact AU
theorem aFF {w b x y z x' y' z':Rat} {o:Option Rat} (h:BW w b o x y z) (h':BW w b o x' y' z'):x=x'∧y=y'∧z=z':=by
 cases o with
 | none=>exact ⟨h.1.trans h'.1.symm,h.2.1.trans h'.2.1.symm,h.2.2.trans h'.2.2.symm⟩
 | some t=>exact ⟨h.1.trans h'.1.symm,h.2.1.trans h'.2.1.symm,h.2.2.trans h'.2.2.symm⟩
local macro_rules | `(tactic| walk_at "rd") => wk (wB++" exists_false false_and and_false or_false gN iT iH nQ EG GL ZN lG ZL BV uC at1 at2 lQ jB IP QE Option.getD_some jH gA iK uK oA")
section
variable {T:Tb}
noncomputable def eR:CS:=(.seq (.asg (.gn 1) (.cal "_law_pick" (.cons (.var 0) (.cons (.int 8) .nil))))
 (.seq (.asg (.gn 2) (.cmpr true (.gn 1) (.irg (.cons (.int 3) .nil)) .nil (.cal "_law_share" (.cons (.var 2) .nil)) [none,none,some 0]))
 (.seq (.iff (.tsb (.cmp .Eq (.var 1) (.int 1))) (.seq (.asg (.gn 3) (.cal "_law_pick" (.cons (.var 0) (.cons (.int 3) .nil))))
 (.sub (.var 2) (.var 3) (.idx (.var 2) (.bin .Mod (.bin .Add (.var 3) (.int 1)) (.int 3))))) .nil)
 (.seq (.iff (.tsb (.cmp .Eq (.var 1) (.int 3))) (.asg (.gn 2) (.lst true (.cons (.idx (.var 2) (.int 0)) (.cons (.idx (.var 2) (.int 0)) (.cons (.idx (.var 2) (.int 0)) .nil))))) .nil)
 (.ret (.blt .tuple (.cons (.var 2) .nil)))))))
theorem xZ (h:LT T):∀ xs G Q,iK xs G Q→wpS T eR (aP Q) (aC 4 xs) G:=by
 rintro xs G Q ⟨p,rfl,hp,hq⟩;unfold eR;have:=h.pick;have:=h.share;have:=@NV;walk_at "rd"
 refine ⟨by decide,smP (by decide) (by decide),fun r1 G1 a1 b1 n1=>?_⟩;refine ⟨by decide,by decide,n1.pu,fun q1 G2 i1 d1 m1=>⟨m1.pu,fun q2 G3 i2 d2 m2=>⟨m2.pu,fun q3 G4 i3 d3 m3 l hl=>?_⟩⟩⟩;have nn:=((n1.trans m1).trans m2).trans m3;have lp:l≠p:=m3.pu.ne hl;have gl:G l=none:=by rw [←nn.ne lp]; exact hl
 have k0:Pk p G (gup G4 l (.lst [FQ q1,FQ q2,FQ q3])):=(Pk.of nn).new hl;split
 · rename_i e1;refine ⟨m3.pu.new hl,by decide,smP (by decide) (by decide),fun r G5 a b m4=>?_⟩;have g5:G5 l=some (.lst [FQ q1,FQ q2,FQ q3]):=by rw [m4.ne lp]; exact aS
   have hr:r=0∨r=1∨r=2:=by omega
   have ne3:¬r1=3:=by omega
   have k1:∀ o,Pk p G (gup G5 l o):=fun o=>(k0.pick m4).set gl lp;rw [uX g5];refine ⟨by show (0:Int) < 3; decide, ?_⟩;rcases hr with rfl | rfl | rfl
   · refine ⟨_,at1, ?_⟩;rw [gJ g5];refine ⟨0,UQ, ?_⟩;rw [if_neg ne3,lG];exact (k1 _).end_ fun G' g=>hq _ _ _ G' i2 i2 i3 d2 d2 d3 g
   · refine ⟨_,at2, ?_⟩;rw [gJ g5];refine ⟨1,VO, ?_⟩;rw [if_neg ne3,lG];exact (k1 _).end_ fun G' g=>hq _ _ _ G' i1 i3 i3 d1 d3 d3 g
   · refine ⟨_,at0, ?_⟩;rw [gJ g5];refine ⟨2,aAp, ?_⟩;rw [if_neg ne3,lG];exact (k1 _).end_ fun G' g=>hq _ _ _ G' i1 i2 i1 d1 d2 d1 g
 · split
   · intro l2 hl2;exact (k0.new hl2).end_ fun G' g=>hq _ _ _ G' i1 i1 i1 d1 d1 d1 g
   · exact k0.end_ fun G' g=>hq _ _ _ G' i1 i2 i3 d1 d2 d3 g
noncomputable def MG:CS:=(.seq (.asg (.gt 2 (.cons (.gn 8) (.cons (.gn 9) .nil))) (.cal "_law_odd" (.cons (.var 2) (.cons (.var 3) (.cons (.var 4) (.cons (.var 5) .nil))))))
 (.seq (.iff (.tsb (.cne [("Shade","Shade.__eq__")] (.cmpr false (.gn 1) (.irg (.cons (.int 2) .nil)) .nil (.cal "_law_tried" (.cons (.var 1) (.cons (.idx (.var 2) (.int 0)) (.cons (.idx (.var 2) (.int 1)) (.cons (.idx (.var 2) (.int 2)) .nil))))) [none,none,some 8]) (.lst false (.cons (.var 9) (.cons (.var 9) .nil))))) (.ret (.bl false)) .nil)
 (.seq (.asg (.gn 8) (.cal "_law_unfit" (.cons (.var 2) (.cons (.var 3) (.cons (.var 4) (.cons (.var 5) .nil))))))
 (.iff (.tsb (.cne [("Shade","Shade.__eq__")] (.cal "_law_tried" (.cons (.cal "_law_pick" (.cons (.var 2) (.cons (.int 2) .nil))) (.cons (.idx (.var 8) (.int 0)) (.cons (.idx (.var 8) (.int 1)) (.cons (.idx (.var 8) (.int 2)) .nil))))) (.tup (.cons (.str "turn") (.cons (.rpr (.idx (.var 8) (.int 2))) .nil))))) (.ret (.bl false)) .nil))))
theorem aMi (lt:LT T) (m:L18 T) {D:gO} {p:Addr} {s0:PV} {i i7 v8 v9 v6:Option PV} {w b:Rat} {o:Option Rat} {G:Gh} (hp:Pu p G) (hg:ZJ w b o)
   (hR:∀ v8 v9 G',Pu p G'→D.nx [some s0,i,some (.ref p),some (FQ w),some (FQ b),some (tV o),v6,i7,v8,v9] G') :
   wpS T MG D [some s0,i,some (.ref p),some (FQ w),some (FQ b),some (tV o),v6,i7,v8,v9] G:=by
 unfold MG;have e1:=m.odd;have e2:=m.unfit;have e3:=m.tried;have e4:=lt.pick;have:=@NV;have r2:sZ 0 2=[.int 0,.int 1]:=rfl;have odd:∀ {Q:PK1} {G:Gh},Pu p G→(∀ l x y z u v s G',wZ x y z u v→Sw v s→Pu p G'→G' l=some (.lst [x,y,z])→Q (.tup [.ref l,.tup [.str u,.str s]]) G')→T.S "_law_odd" [.ref p,FQ w,FQ b,tV o] G Q:=fun {Q G} h q=>by rw [e1]; exact ⟨p,w,b,o,rfl,h,hg,q⟩
 have unf:∀ {Q:PK1} {G:Gh},Pu p G→(∀ x y z s G',wZ x y z "turn" z→Sw z s→Pn p G G'→Q (.tup [x,y,z]) G')→T.S "_law_unfit" [.ref p,FQ w,FQ b,tV o] G Q:=fun {Q G} h q=>by rw [e2]; exact ⟨p,w,b,o,rfl,h,hg,q⟩
 have tri:∀ {Q:PK1} {G:Gh} {i:Int} {x y z v:PV} {u s:Str},wZ x y z u v→Sw v s→Q (.tup [.str u,.str s]) G→T.S "_law_tried" [.int i,x,y,z] G Q:=fun h hs q=>by rw [e3]; exact ⟨_,_,_,_,_,_,_,rfl,h,hs,q⟩
 clear e1 e2 e3;walk_at "rd"
 refine odd hp fun l x y z u v s G1 hr hs hp1 hl=>?_;have i0:∀ {i:Int} {Q:PK1},rY (.ref l) (.int i) G1 Q=(∃ v,atI [x,y,z] i=some v∧Q v G1):=fun {i Q}=>uX hl;have so:=aDQ hr;have sk:=hs.ok;walk_at "rd"
 refine ⟨by decide,by decide,tri hr hs ?_⟩;walk_at "rd"
 refine tri hr hs (aF8 so sk ?_);walk_at "rd"
 clear i0;refine unf hp1 fun x2 y2 z2 s2 G2 hr2 hs2 n2=>?_;walk_at "rd"
 refine ⟨n2.pu,by decide,smK (by decide) (by decide) (by decide),fun r G3 h0 h1 n3=>?_⟩;refine tri hr2 hs2 (oG hs2 (aEW AU hs2.ok ?_));walk_at "rd"
 exact hR _ _ _ n3.pu
noncomputable def LU:CS:=(.seq (.iff (.no (.tst (.blt .all (.cons (.cmpr false (.gn 1) (.isq (.cal "_law_no_shades" (.cons (.cal "_law_shares" (.cons (.var 2) .nil)) .nil))) .nil (.cmp .Eq (.cal "_law_asked" (.cons (.var 1) .nil)) (.tup (.cons (.str "shade") (.cons .non .nil)))) [none,none]) .nil)))) (.ret (.bl false)) .nil)
 (.iff (.oo (.tsb (.cne [("Shade","Shade.__eq__")] (.cal "by_wheel" (.cons (.var 3) (.cons (.var 4) (.cons (.var 5) .nil)))) (.var 6))) (.tsb (.cne [("Shade","Shade.__eq__")] (.cal "_law_tried" (.cons (.int 0) (.cons (.tup (.cons (.int 0) (.cons (.int 1) .nil))) (.cons (.tup (.cons (.int 0) (.cons (.int 1) .nil))) (.cons (.tup (.cons (.int 6) (.cons (.int 1) .nil))) .nil))))) (.tup (.cons (.str "turn") (.cons (.str "(6, 1)") .nil)))))) (.ret (.bl false)) .nil))
theorem FJ {s:Str} (h:PyData.strOk s=true):shp (.tup [.str s,.non])=true:=by
 show (PyData.canLay0 (.tuple [.str s,.none]) && decide ((PyData.tuple [.str s,.none]).depth≤64))=true;simp [PyData.canLay0,PyData.canLayAll0,PyData.depth,PyData.depthAll,h]
theorem uE:PyData.strOk ("shade":Str)=true:=by decide +kernel
theorem aDJ {G:Gh} {Q:PK1} (q:Q (.bl true) G):pEq false (.tup [.str "shade",.non]) (.tup [.str "shade",.non]) G Q:=by
 refine ⟨FJ uE,FJ uE, ?_⟩;have:peq (.tup [.str "shade",.non]) (.tup [.str "shade",.non])=true:=by
   show ((("shade":Str) == "shade") && (true && true))=true;rw [beq_self_eq_true]; rfl
 show Q (.bl (peq (.tup [.str "shade",.non]) (.tup [.str "shade",.non]))) G;rw [this]; exact q
theorem aMz:Sw (FQ ((6:Int):Rat)) "(6, 1)":=⟨.tuple [.int 6,.int 1],.inl rfl,by decide +kernel,by decide +kernel,szl (by decide +kernel),(fun i e=>by cases e),by decide +kernel,by decide +kernel⟩
theorem aKr (h:PT T) (lt:LT T) (k:L17 T) (m:L18 T) {D:gO} {p:Addr} {s0:PV} {i i7 v8 v9:Option PV} {w b x y z:Rat} {o:Option Rat} {G:Gh} (hp:Pu p G) (hg:ZJ w b o) (hw:BW w b o x y z)
   (hR:∀ G',Pu p G'→D.nx [some s0,i,some (.ref p),some (FQ w),some (FQ b),some (tV o),some (SH x y z),i7,v8,v9] G') :
   wpS T LU D [some s0,i,some (.ref p),some (FQ w),some (FQ b),some (tV o),some (SH x y z),i7,v8,v9] G:=by
 unfold LU;have e1:=m.nosh;have e2:=m.asked;have e3:=m.tried;have e4:=lt.shares;have e5:=k.by_wheel;have e6:=k.eqS;have nos:∀ {Q:PK1} {G:Gh} {a b c:Rat},In1 a→In1 b→In1 c→(∀ ys,(∀ y∈ys,Nsh y)→ys.length≤100→Q (.lst ys) G)→T.S "_law_no_shades" [.tup [FQ a,FQ b,FQ c]] G Q:=fun ia ib ic q=>by rw [e1]; exact ⟨_,_,_,rfl,ia,ib,ic,q⟩
 have ask:∀ {Q:PK1} {G:Gh} {x:PV},Nsh x→Q (.tup [.str "shade",.non]) G→T.S "_law_asked" [x] G Q:=fun n q=>by rw [e2]; exact ⟨_,rfl,n.1,n.2,q⟩
 have tri:∀ {Q:PK1} {G:Gh},Q (.tup [.str "turn",.str "(6, 1)"]) G→T.S "_law_tried" [.int 0,FQ ((0:Int):Rat),FQ ((0:Int):Rat),FQ ((6:Int):Rat)] G Q:=fun q=>by
   rw [e3];refine ⟨_,_,_,_,"turn",_,_,rfl,.inr (.inr ⟨rfl,rfl,_,_,rfl,rfl,by decide,by decide,bdc,bdc,.inr ⟨(fun z=>by cases z),kS,.inr ⟨_,rfl,by decide,bdc,.inl (by decide)⟩⟩⟩),aMz,q⟩
 have sb:∀ {Q:PK1} {G:Gh},(∀ x y z,BW w b o x y z→Q (SH x y z) G)→T.S "by_wheel" [FQ w,FQ b,tV o] G Q:=fun {Q G} q=>by
   rw [e5];refine ⟨w,b,o,rfl,hg.w0,hg.b0,hg.ok,hg.bw.mono (by decide),hg.bb.mono (by decide), ?_,q⟩;cases o with
   | none=>trivial
   | some t=>exact (show Bd 12 t from hg.bo).mono (by decide)
 have eqs:∀ {Q:PK1} {G:Gh},Q (.bl true) G→T.S "Shade.__eq__" [SH x y z,SH x y z] G Q:=fun q=>by
   rw [e6];refine ⟨_,_,_,_,_,_,rfl, ?_⟩;rw [decide_eq_true rfl,decide_eq_true rfl,decide_eq_true rfl]; exact q
 clear e1 e2 e3 e5 e6;have:=@jT;walk_at "rd"
 refine fun a b' c G1 ia ib ic ba bb bc n1=>nos ia ib ic fun ys hy hl=>?_;simp only [uC];refine ⟨szl hl,EH (fun σ=>∃ v0 v1,σ=[v0,v1]) ys [] _ ⟨_,_,rfl⟩ ?_ ?_⟩
 · rintro v hv σ R ⟨v0,v1,rfl⟩ q;refine ⟨_,rfl,ask (hy v hv) ?_⟩;walk_at "rd"
   exact aDJ (q _ ⟨_,_,rfl⟩)
 · rw [List.nil_append];refine ⟨true,EM _, ?_⟩;walk_at "rd"
   refine sb fun x' y' z' hw'=>?_;obtain ⟨rfl,rfl,rfl⟩:=aFF hw hw';refine .inl ⟨"Shade","Shade.__eq__",_,_,_,_,List.mem_singleton.mpr rfl,rfl,rfl,eqs ⟨_,rfl, ?_⟩⟩;walk_at "rd"
   refine tri (aEW AU (by decide +kernel) ?_);walk_at "rd"
   exact hR _ n1.pu
noncomputable def uT:CS:=(.seq (.fr (.gn 1) (.irg (.cons (.blt .max (.cons (.int 2) (.cons (.blt .min (.cons (.blt .len (.cons (.var 0) .nil)) (.cons (.int 5) .nil))) .nil))) .nil)) (.seq (.asg (.gn 2) (.cal "_law_purse" (.cons (.cal "_law_cell" (.cons (.var 0) (.cons (.var 1) .nil))) .nil)))
 (.seq (.asg (.gt 3 (.cons (.gn 3) (.cons (.gn 4) (.cons (.gn 5) .nil)))) (.cal "_law_turn_row" (.cons (.var 2) .nil)))
 (.seq (.asg (.gn 6) (.cal "by_wheel" (.cons (.var 3) (.cons (.var 4) (.cons (.var 5) .nil)))))
 (.seq (.fr (.gn 7) (.irg (.cons (.int 4) .nil)) MG)
 LU)))))
 (.ret (.bl true)))
def I18 (ns:List Int) (σ:PSt):Prop:= ∃ x1 x2 x3 x4 x5 x6 x7 x8 x9,σ=[some (.scr ns),x1,x2,x3,x4,x5,x6,x7,x8,x9]
theorem aK8 (h:PT T) (lt:LT T) (k:L17 T) (m:L18 T):∀ xs G Q,BB xs G Q→wpS T uT (aP Q) (aC 10 xs) G:=by
 rintro xs G Q ⟨ns,rfl,hl,hq⟩;have:=@NV;unfold uT;have e1:=lt.cell;have e2:=lt.purse;have e3:=k.turn_row;have e5:=k.by_wheel;generalize et:MG=kt;generalize ez:LU=kz;walk_at "rd"
 refine ⟨by omega,by omega, ?_⟩;refine oW (fun σ _=>I18 ns σ) ⟨_,_,_,_,_,_,_,_,_,rfl⟩ ?_ ?_
 · rintro x hx σ G' R ⟨x1,x2,x3,x4,x5,x6,x7,x8,x9,rfl⟩ hR;obtain ⟨j,rfl,hj⟩:=aCy hx;have hj64:(j:Int) < 64:=by
     have h5:min (ns.length:Int) 5≤5:=Int.min_le_right _ _;have h6:max 2 (min (ns.length:Int) 5)≤5:=by omega
     omega
   walk_at "rd"
   refine ⟨ns,rfl,by omega,by omega,fun cc p x y z hp=>?_⟩;refine ⟨p,rfl,⟨_,_,_,aS⟩,fun w b o G2 w0 b0 ok bw bb bo n2=>?_⟩;walk_at "rd"
   refine ⟨w,b,o,rfl,w0,b0,ok,bw.mono (by decide),bb.mono (by decide), ?_,fun x y z hw=>⟨by decide,by decide, ?_⟩⟩
   · cases o with
     | none=>trivial
     | some t=>exact (show Bd 12 t from bo).mono (by decide)
   have hg:ZJ w b o:=⟨w0,b0,ok,bw,bb,bo⟩;subst et ez;refine oW (fun σ G=>Pu p G∧∃ v7 v8 v9,σ=[some (.scr ns),some (.int (0 + (j:Int))),some (.ref p),some (FQ w),some (FQ b),some (tV o),some (SH x y z),v7,v8,v9]) ⟨n2.pu,_,_,_,rfl⟩ ?_ ?_
   · rintro v hv σ G3 R3 ⟨hp3,v7,v8,v9,rfl⟩ hR3;exact aMi lt m hp3 hg fun v8 v9 G4 p4=>hR3 _ _ ⟨p4,_,_,_,rfl⟩
   · rintro σ G3 ⟨hp3,v7,v8,v9,rfl⟩;exact aKr h lt k m hp3 hg hw fun G4 p4=>hR _ _ ⟨_,_,_,_,_,_,_,_,_,rfl⟩
 · rintro σ G' ⟨x1,x2,x3,x4,x5,x6,x7,x8,x9,rfl⟩;have:=hq G';walk_at "rd"
end
end L3
namespace My
open PySem L2 L3 PyProof.Rows
noncomputable def top (i:Nat):Stmt:=PySem.Challenge.pw_lightshares_k18_wheels_refused.main.body.getD i (.Pass ⟨0,0,0,0⟩)
noncomputable abbrev gL:Stmt:=top 68
noncomputable abbrev C_l_sort:Cfg:={ N:=["_law_e","_law_some","_law_at","_law_bases","_law_kinds","_law_due","_law_words"],names:=(aB gL).names,blt:=["isinstance"],xis:=["ArithmeticError","BookError","BookFull","EmptyMix","LookupError","MixError","NameStands","NoBack","NoBlend","NoDeed","NoEye","NoGrade","NoLights","NoLimit","NoName","NoNumber","NoPart","NoPlace","NoRow","NoShade","NoStep","NoText","NoTurn","NoWay","NoWeight","NoWeights","NoWord","ShadeError","ValueError"],cm:=false }
local macro_rules | `(tactic| walk_at "dk") => `(tactic| exact ⟨⟨rfl,rfl,rfl,by decide +kernel,rfl,by decide +kernel,by decide +kernel⟩,rfl,rfl⟩)
theorem QW:aR gL ["_law_e"] C_l_sort:=by walk_at "dk"
theorem OW:cSs 80 C_l_sort (aF gL)=some lB:=by kernel_rfl
noncomputable abbrev fW:Stmt:=top 32
noncomputable abbrev C_common:Cfg:={ N:=["one","other"],names:=(aB fW).names }
theorem PB:aR fW ["one","other"] C_common:=by walk_at "dk"
theorem SW:cSs 80 C_common (aF fW)=some kR:=by kernel_rfl
noncomputable abbrev fU:Stmt:=top 34
noncomputable abbrev C_lowest:Cfg:={ N:=["top","bottom","shared"],names:=(aB fU).names,fns:=["common"],blt:=["abs"] }
theorem SS:aR fU ["top","bottom"] C_lowest:=by walk_at "dk"
theorem QV:cSs 80 C_lowest (aF fU)=some kZ:=by kernel_rfl
noncomputable abbrev dX:Stmt:=top 31
noncomputable abbrev C_is_whole:Cfg:={ N:=["thing"],names:=(aB dX).names,tys:=["bool","int"],blt:=["isinstance"],rz:=true }
theorem FG:aR dX ["thing"] C_is_whole:=by walk_at "dk"
theorem EE:cSs 80 C_is_whole (aF dX)=some dG:=by kernel_rfl
noncomputable abbrev bO:Stmt:=top 33
noncomputable abbrev C_is_fraction:Cfg:={ N:=["thing","top","bottom"],names:=(aB bO).names,fns:=["common","is_whole"],tys:=["tuple"],blt:=["abs","isinstance","len"],ky:=[("is_whole","!is_whole")],rz:=true }
theorem vW:aR bO ["thing"] C_is_fraction:=by walk_at "dk"
theorem vU:cSs 80 C_is_fraction (aF bO)=some bS:=by kernel_rfl
noncomputable abbrev aY:Stmt:=top 35
noncomputable abbrev C_need_fractions:Cfg:={ N:=["things","place","thing"],names:=(aB aY).names,fns:=["is_fraction"],blt:=["enumerate"] }
theorem pS:aR aY ["things"] C_need_fractions:=by walk_at "dk"
theorem pO:cSs 80 C_need_fractions (aF aY)=some dJ:=by kernel_rfl
noncomputable abbrev jS:Stmt:=top 37
noncomputable abbrev C_minus:Cfg:={ N:=["one","other"],names:=(aB jS).names,fns:=["lowest","need_fractions"] }
theorem UZ:aR jS ["one","other"] C_minus:=by walk_at "dk"
theorem ZP:cSs 80 C_minus (aF jS)=some nF:=by kernel_rfl
noncomputable abbrev mY:Stmt:=top 39
noncomputable abbrev C_over:Cfg:={ N:=["one","other"],names:=(aB mY).names,fns:=["lowest","need_fractions"] }
theorem aBI:aR mY ["one","other"] C_over:=by walk_at "dk"
theorem aBD:cSs 80 C_over (aF mY)=some rS:=by kernel_rfl
noncomputable abbrev mW:Stmt:=top 36
noncomputable abbrev C_plus:Cfg:={ N:=["one","other"],names:=(aB mW).names,fns:=["lowest","need_fractions"] }
theorem aC3:aR mW ["one","other"] C_plus:=by walk_at "dk"
theorem aCG:cSs 80 C_plus (aF mW)=some rP:=by kernel_rfl
noncomputable abbrev dU:Stmt:=top 47
noncomputable abbrev C_is_shade:Cfg:={ N:=["thing"],names:=(aB dU).names,gls:=["Shade"],blt:=["isinstance"],rz:=true }
theorem FT:aR dU ["thing"] C_is_shade:=by walk_at "dk"
theorem FD:cSs 80 C_is_shade (aF dU)=some dC:=by kernel_rfl
noncomputable abbrev bH:Stmt:=aG (top 5) 0
theorem mB:fP ["self","light"] ["self","light"] (aB bH):=⟨rfl,rfl,rfl,by decide +kernel,rfl,by decide +kernel,by decide +kernel⟩
noncomputable abbrev bX:Stmt:=top 48
noncomputable abbrev C_need_shade:Cfg:={ N:=["thing"],names:=(aB bX).names,fns:=["is_shade"],ky:=[("is_shade","!is_shade")],rz:=true,xcl:=[("NoShade","!NoShade")] }
theorem xR:aR bX ["thing"] C_need_shade:=by walk_at "dk"
theorem xJ:cSs 80 C_need_shade (aF bX)=some bW:=by kernel_rfl
noncomputable abbrev cX:Stmt:=top 49
noncomputable abbrev C_shares_of:Cfg:={ N:=["shade"],names:=(aB cX).names,fns:=["need_shade"],ky:=[("need_shade","!need_shade")],rz:=true }
theorem BK:aR cX ["shade"] C_shares_of:=by walk_at "dk"
theorem CZ:cSs 80 C_shares_of (aF cX)=some cU:=by kernel_rfl
noncomputable abbrev mZ:Stmt:=top 40
noncomputable abbrev C_less:Cfg:={ N:=["one","other"],names:=(aB mZ).names }
theorem aCL:aR mZ ["one","other"] C_less:=by walk_at "dk"
theorem aBs:cSs 80 C_less (aF mZ)=some yK:=by kernel_rfl
noncomputable abbrev jE:Stmt:=top 41
noncomputable abbrev C_below:Cfg:={ N:=["one","other"],names:=(aB jE).names,fns:=["less","need_fractions"] }
theorem aA3:aR jE ["one","other"] C_below:=by walk_at "dk"
theorem aAT:cSs 80 C_below (aF jE)=some mS:=by kernel_rfl
noncomputable abbrev jQ:Stmt:=top 52
noncomputable abbrev C_falls:Cfg:={ N:=["shares","stretch","greatest","least","middle"],names:=(aB jQ).names,fns:=["below"] }
theorem YL:aR jQ ["shares","stretch"] C_falls:=by walk_at "dk"
theorem SY:cSs 80 C_falls (aF jQ)=some nD:=by kernel_rfl
noncomputable abbrev bZ:Stmt:=top 53
noncomputable abbrev C_stretch_of:Cfg:={ N:=["shares","fitting"],names:=(aB bZ).names,fns:=["falls"],gls:=["STRETCHES"] }
theorem wW:aR bZ ["shares"] C_stretch_of:=by walk_at "dk"
theorem yA:cSs 80 C_stretch_of (aF bZ)=some fM:=by kernel_rfl
noncomputable abbrev jF:Stmt:=top 38
noncomputable abbrev C_times:Cfg:={ N:=["one","other"],names:=(aB jF).names,fns:=["lowest","need_fractions"] }
theorem UP:aR jF ["one","other"] C_times:=by walk_at "dk"
theorem ZX:cSs 80 C_times (aF jF)=some nI:=by kernel_rfl
noncomputable abbrev dW:Stmt:=top 54
noncomputable abbrev C_wheel_of:Cfg:={ N:=["shade","shares","greatest","least","middle","start","way","white","black","part"],names:=(aB dW).names,fns:=["minus","over","plus","shares_of","stretch_of","times"],gls:=["ONE"],ky:=[("shares_of","!shares_of")],rz:=true }
theorem FA:aR dW ["shade"] C_wheel_of:=by walk_at "dk"
theorem GQ:cSs 80 C_wheel_of (aF dW)=some dB:=by kernel_rfl
noncomputable abbrev eS:Stmt:=top 75
noncomputable abbrev C_l_asked:Cfg:={ N:=["_law_thing","_law_e"],names:=(aB eS).names,fns:=["_law_sort","wheel_of"],tr:=true,tky:=[("wheel_of","!wheel_of")],cat:=["NoShade"],cln:=["ShadeError"],hs:=true,hfn:=["_law_sort"],xat:=["light"] }
theorem IU:aR eS ["_law_thing"] C_l_asked:=by walk_at "dk"
theorem KZ:cSs 80 C_l_asked (aF eS)=some fJ:=by kernel_rfl
noncomputable abbrev gI:Stmt:=top 59
noncomputable abbrev C_l_cell:Cfg:={ N:=["_law_script","_law_k","_law_state","_law_cell_here"],names:=(aB gI).names,blt:=["len"] }
theorem RF:aR gI ["_law_script","_law_k"] C_l_cell:=by walk_at "dk"
theorem PC:cSs 80 C_l_cell (aF gI)=some lL:=by kernel_rfl
noncomputable abbrev dQ:Stmt:=top 45
noncomputable abbrev C_is_share:Cfg:={ N:=["thing"],names:=(aB dQ).names,fns:=["is_fraction"] }
theorem HA:aR dQ ["thing"] C_is_share:=by walk_at "dk"
theorem HB:cSs 80 C_is_share (aF dQ)=some hX:=by kernel_rfl
noncomputable abbrev bA:Stmt:=aG (top 46) 0
noncomputable abbrev C_Shade___init__:Cfg:={ N:=["self","ember","leaf","sky","light","share"],names:=(aB bA).names,fns:=["is_share"],blt:=["enumerate"] }
theorem pQ:aR bA ["self","ember","leaf","sky"] C_Shade___init__:=by walk_at "dk"
theorem nR:cSs 80 C_Shade___init__ (aF bA)=some dI:=by kernel_rfl
noncomputable abbrev bP:Stmt:=top 74
noncomputable abbrev C_l_no_shades:Cfg:={ N:=["_law_row"],names:=(aB bP).names,mks:=["Shade"],gls:=["Shade"],tys:=["list"],blt:=["list"] }
theorem wH:aR bP ["_law_row"] C_l_no_shades:=by walk_at "dk"
theorem wB:cSs 80 C_l_no_shades (aF bP)=some eQ:=by kernel_rfl
noncomputable abbrev gC:Stmt:=top 61
noncomputable abbrev C_l_pick:Cfg:={ N:=["_law_purse_here","_law_many","_law_state","_law_taken"],names:=(aB gC).names }
theorem RZ:aR gC ["_law_purse_here","_law_many"] C_l_pick:=by walk_at "dk"
theorem OX:cSs 80 C_l_pick (aF gC)=some kN:=by kernel_rfl
noncomputable abbrev bY:Stmt:=top 69
noncomputable abbrev C_l_bad_part:Cfg:={ N:=["_law_purse_here","_law_some"],names:=(aB bY).names,fns:=["_law_pick"],blt:=["len"] }
theorem yE:aR bY ["_law_purse_here"] C_l_bad_part:=by walk_at "dk"
theorem xO:cSs 80 C_l_bad_part (aF bY)=some fK:=by kernel_rfl
noncomputable abbrev cC:Stmt:=top 70
noncomputable abbrev C_l_bad_turn:Cfg:={ N:=["_law_purse_here","_law_some"],names:=(aB cC).names,fns:=["_law_pick"],blt:=["len"] }
theorem xF:aR cC ["_law_purse_here"] C_l_bad_turn:=by walk_at "dk"
theorem xA:cSs 80 C_l_bad_turn (aF cC)=some fF:=by kernel_rfl
noncomputable abbrev jI:Stmt:=top 72
noncomputable abbrev C_l_odd:Cfg:={ N:=["_law_purse_here","_law_pale","_law_murk","_law_bend","_law_bits","_law_row","_law_due","_law_at"],names:=(aB jI).names,fns:=["_law_bad_part","_law_bad_turn","_law_pick"],blt:=["range","repr"],M:=["_law_row"],rp:=true }
theorem UA:aR jI ["_law_purse_here","_law_pale","_law_murk","_law_bend"] C_l_odd:=by walk_at "dk"
theorem WV:cSs 80 C_l_odd (aF jI)=some nJ:=by kernel_rfl
noncomputable abbrev eV:Stmt:=top 60
noncomputable abbrev C_l_purse:Cfg:={ N:=["_law_cell_here"],names:=(aB eV).names,tys:=["int"],blt:=["int"],rm:=true }
theorem KO:aR eV ["_law_cell_here"] C_l_purse:=by walk_at "dk"
theorem IF:cSs 80 C_l_purse (aF eV)=some jW:=by kernel_rfl
noncomputable abbrev jZ:Stmt:=top 62
noncomputable abbrev C_l_low:Cfg:={ N:=["_law_top","_law_bottom","_law_one","_law_other"],names:=(aB jZ).names,blt:=["abs"] }
theorem aAx:aR jZ ["_law_top","_law_bottom"] C_l_low:=by walk_at "dk"
theorem aAY:cSs 80 C_l_low (aF jZ)=some mV:=by kernel_rfl
noncomputable abbrev eU:Stmt:=top 65
noncomputable abbrev C_l_share:Cfg:={ N:=["_law_purse_here","_law_way","_law_bottom"],names:=(aB eU).names,fns:=["_law_low","_law_pick"] }
theorem KJ:aR eU ["_law_purse_here"] C_l_share:=by walk_at "dk"
theorem KL:cSs 80 C_l_share (aF eU)=some jV:=by kernel_rfl
noncomputable abbrev dS:Stmt:=top 66
noncomputable abbrev C_l_shares:Cfg:={ N:=["_law_purse_here","_law_alike","_law_row","_law_one"],names:=(aB dS).names,fns:=["_law_pick","_law_share"],tys:=["tuple"],blt:=["range","tuple"],M:=["_law_row"] }
theorem DM:aR dS ["_law_purse_here"] C_l_shares:=by walk_at "dk"
theorem GA:cSs 80 C_l_shares (aF dS)=some eR:=by kernel_rfl
noncomputable abbrev cV:Stmt:=top 55
noncomputable abbrev C_is_from_0:Cfg:={ N:=["thing"],names:=(aB cV).names,fns:=["is_fraction"],ky:=[("is_fraction","!is_fraction")],rz:=true }
theorem BX:aR cV ["thing"] C_is_from_0:=by walk_at "dk"
theorem CQ:cSs 80 C_is_from_0 (aF cV)=some cR:=by kernel_rfl
noncomputable abbrev bJ:Stmt:=aG (top 8) 0
theorem mR:fP ["self","part"] ["self","part"] (aB bJ):=⟨rfl,rfl,rfl,by decide +kernel,rfl,by decide +kernel,by decide +kernel⟩
noncomputable abbrev cY:Stmt:=top 56
noncomputable abbrev C_need_turn:Cfg:={ N:=["white","black","turn","together","fits"],names:=(aB cY).names,fns:=["below","is_from_0","plus"],gls:=["ONE"],ky:=[("is_from_0","!is_from_0")],rz:=true,xcl:=[("NoTurn","!NoTurn")] }
theorem CO:aR cY ["white","black","turn"] C_need_turn:=by walk_at "dk"
theorem CV:cSs 80 C_need_turn (aF cY)=some cP:=by kernel_rfl
noncomputable abbrev bM:Stmt:=aG (top 6) 0
theorem mU:fP ["self","part"] ["self","part"] (aB bM):=⟨rfl,rfl,rfl,by decide +kernel,rfl,by decide +kernel,by decide +kernel⟩
noncomputable abbrev dY:Stmt:=top 57
noncomputable abbrev C_by_wheel:Cfg:={ N:=["white","black","turn","thing","greatest","least","middle","start","way","most","part","shares"],names:=(aB dY).names,fns:=["is_from_0","minus","need_turn","plus","times"],mks:=["Shade"],gls:=["ONE","STRETCHES","Shade"],ky:=[("is_from_0","!is_from_0"),("need_turn","!need_turn")],rz:=true,xcl:=[("NoPart","!NoPart")] }
theorem GI:aR dY ["white","black","turn"] C_by_wheel:=by walk_at "dk"
theorem DV:cSs 80 C_by_wheel (aF dY)=some cZ:=by kernel_rfl
noncomputable abbrev eX:Stmt:=top 71
noncomputable abbrev C_l_tried:Cfg:={ N:=["_law_way","_law_pale","_law_murk","_law_bend","_law_e"],names:=(aB eX).names,fns:=["_law_sort","by_wheel"],shs:=[("by_wheel",0,["turn","black","white"],[.arg 2,.arg 1,.arg 0])],blt:=["repr"],rp:=true,tr:=true,tky:=[("by_wheel","!by_wheel")],cat:=["NoPart","NoTurn"],cln:=["ShadeError"],hs:=true,hfn:=["_law_sort"],xat:=["part"] }
theorem HH:aR eX ["_law_way","_law_pale","_law_murk","_law_bend"] C_l_tried:=by walk_at "dk"
theorem KY:cSs 80 C_l_tried (aF eX)=some fH:=by kernel_rfl
noncomputable abbrev eM:Stmt:=top 63
noncomputable abbrev C_l_minus:Cfg:={ N:=["_law_a","_law_b"],names:=(aB eM).names,fns:=["_law_low"] }
theorem IV:aR eM ["_law_a","_law_b"] C_l_minus:=by walk_at "dk"
theorem HM:cSs 80 C_l_minus (aF eM)=some iY:=by kernel_rfl
noncomputable abbrev eK:Stmt:=top 64
noncomputable abbrev C_l_times:Cfg:={ N:=["_law_a","_law_b"],names:=(aB eK).names,fns:=["_law_low"] }
theorem KI:aR eK ["_law_a","_law_b"] C_l_times:=by walk_at "dk"
theorem JR:cSs 80 C_l_times (aF eK)=some jG:=by kernel_rfl
noncomputable abbrev cA:Stmt:=top 67
noncomputable abbrev C_l_turn_row:Cfg:={ N:=["_law_purse_here","_law_way","_law_pale","_law_room","_law_bottom","_law_murk","_law_bend"],names:=(aB cA).names,fns:=["_law_low","_law_minus","_law_pick","_law_share","_law_times"],tys:=["int"],blt:=["int"] }
theorem xD:aR cA ["_law_purse_here"] C_l_turn_row:=by walk_at "dk"
theorem yG:cSs 80 C_l_turn_row (aF cA)=some fE:=by kernel_rfl
noncomputable abbrev eP:Stmt:=top 73
noncomputable abbrev C_l_unfit:Cfg:={ N:=["_law_purse_here","_law_pale","_law_murk","_law_bend","_law_way"],names:=(aB eP).names,fns:=["_law_minus","_law_pick"] }
theorem LI:aR eP ["_law_purse_here","_law_pale","_law_murk","_law_bend"] C_l_unfit:=by walk_at "dk"
theorem IM:cSs 80 C_l_unfit (aF eP)=some jN:=by kernel_rfl
noncomputable abbrev bI:Stmt:=aG (top 46) 1
noncomputable abbrev C_Shade___eq__:Cfg:={ N:=["self","other"],names:=(aB bI).names,fns:=["shares_of"],gls:=["Shade"],blt:=["isinstance"] }
theorem sP:aR bI ["self","other"] C_Shade___eq__:=by walk_at "dk"
theorem sQ:cSs 80 C_Shade___eq__ (aF bI)=some eJ:=by kernel_rfl
noncomputable abbrev sI:Stmt:=top 76
noncomputable abbrev C_law:Cfg:={ N:=["_law_script","_law_k","_law_purse_here","_law_pale","_law_murk","_law_bend","_law_good","_law_turning","_law_row","_law_due"],names:=(aB sI).names,fns:=["_law_asked","_law_cell","_law_no_shades","_law_odd","_law_pick","_law_purse","_law_shares","_law_tried","_law_turn_row","_law_unfit","by_wheel"],blt:=["all","len","max","min","range","repr"],nes:=[("Shade","Shade.__eq__")],rp:=true }
theorem aG3:aR sI ["_law_script"] C_law:=by walk_at "dk"
theorem aIr:cSs 80 C_law (aF sI)=some uT:=by kernel_rfl
noncomputable abbrev zS0:Value:=.str "lightshares.errors" 187
noncomputable abbrev zS1:Value:=.str "law_lightshares_k18_wheels_refused" 1108
noncomputable abbrev zS2:Value:=.str "lightshares.fractions" 793
noncomputable abbrev zS3:Value:=.str "lightshares.shades" 910
noncomputable abbrev zS4:Value:=.str "lightshares.wheel" 1003
noncomputable abbrev fX (a b:Str) (s:Stmt) (d m c:Value):FuncData:=W.fnOf a b (gX s) (aF s) (aB s) d .none .none m none c .none
noncomputable abbrev oC (l:List Value):Obj:=⟨.type "code",none,.fields l.toArray, #[]⟩
noncomputable abbrev oT (l:List Value):Obj:=⟨.type "tuple",none,.seq l.toArray 0, #[]⟩
noncomputable abbrev oL (l:List Value):Obj:=⟨.none,none,.fields l.toArray, #[]⟩
noncomputable abbrev oN (a b:Str) (s:Stmt):Obj:=⟨.none,none,.func { W.fnOf a b (gX s) (aF s) (aB s) .none .none .none .none none .none .none with globals:=0,builtins:=0 }, #[]⟩
noncomputable abbrev oF (a b:Str) (s:Stmt) (d m:Value) (c:Addr):Obj:=⟨.type "function",none,.func (W.fnOf a b (gX s) (aF s) (aB s) d .none .none m none (.ref c) .none), #[]⟩
noncomputable abbrev oR (c l:Addr) (m:Value):Obj:=⟨.type "frame",none,.plain, #[some (.ref c),some (.ref 3),some (.ref l),none,some m,none,some (.ref 0)]⟩
noncomputable abbrev oS (c:Addr):Obj:=⟨.type "super",none,.fields #[.ref c,.ref c,.ref c], #[]⟩
noncomputable abbrev oB (n:String) (c:Value):Obj:=⟨.type "builtin_function_or_method",none,.fields #[.builtin n,c], #[]⟩
noncomputable abbrev fC (n:Tok):Value:=.str "/claim/cut.py" n
noncomputable abbrev iV (n:Int):Value:=.int n 0
noncomputable abbrev oD (l:List DictEntry):Obj:=⟨.type "dict",none,.dict l.toArray 0, #[]⟩
noncomputable def kE (P:Params) (x:Str) (t:Tok) (v:Value):DictEntry:=⟨PyData.keyHash P x,.str x t,v⟩
noncomputable abbrev zV (n:Nat):Value:=if n=0 then .none else .ref n
noncomputable abbrev zXt (a b:Str) (i l n c x y u v w q:Nat):Obj:=oC [.str a i,.str b (i + 1),fC (i + 2),iV l,iV n,iV 0,iV 0,iV c,.ref x,.bool true,iV 181,.ref y,.none,zV u,zV v,zV w,iV q,iV l,fC (q + 1)]
noncomputable abbrev zOt (a:Str):=zXt a a
noncomputable abbrev zXf (a b:Str) (i l n c x y u v w q:Nat):Obj:=oC [.str a i,.str b (i + 1),fC (i + 2),iV l,iV n,iV 0,iV 0,iV c,.ref x,.bool false,iV 181,.ref y,.none,zV u,zV v,zV w,iV q,iV l,fC (q + 1)]
noncomputable abbrev zOf (a:Str):=zXf a a
noncomputable abbrev zY (n:Str) (e w:String) (b c d x i j:Nat):Obj:=⟨.type "type",none,.cls ⟨n,[.ref b],[.ref c,.ref b,.type e,.type "Exception",.type "BaseException",.type "object"],d,n,true,[],[],false,none,false⟩, #[some (.ref x),none,some (.str n i),some (.str n j),some (.builtin w),some (.bool true)]⟩
noncomputable abbrev kL (P:Params) (n l:Nat):DictEntry:=kE P "__firstlineno__" n (.int l (n - 1))
noncomputable abbrev kT (P:Params) (n l:Nat):DictEntry:=kE P "__static_attributes__" n (.ref l)
noncomputable abbrev kI (P:Params) (n l:Nat):DictEntry:=kE P "__init__" n (.ref l)
noncomputable abbrev kD (P:Params) (n:Nat):DictEntry:=kE P "__doc__" n .none
noncomputable abbrev kQ (P:Params) (n:Nat) (x:Str):DictEntry:=kE P "__qualname__" n (.str x (n - 1))
noncomputable abbrev kM (P:Params) (n:Nat):DictEntry:=kE P "__module__" n zS0
noncomputable abbrev oDn (l:List DictEntry) (n:Nat):Obj:=⟨.type "dict",none,.dict l.toArray n, #[]⟩
noncomputable def ko2 (P:Params):Obj:=⟨.none,none,.dict #[kE P "type.__subclasses__.ArithmeticError.0" 223 (.int 37 0),kE P "type.__subclasses__.ArithmeticError.n" 224 (.int 1 0)] 2, #[]⟩
noncomputable def ko3 (P:Params):Obj:=⟨(.type "dict"),none,.dict #[kE P "__name__" 165 zS1,kD P 166,kE P "__package__" 167 .none,kE P "__loader__" 168 (.builtin "__main__.__loader__#opaque"),kE P "__spec__" 169 .none,kE P "__annotations__" 170 (.ref 6),kE P "__builtins__" 171 (.ref 4),kE P "__file__" 173 (.str "/claim/cut.py" 172),kE P "__cached__" 174 .none,kE P "ShadeError" 206 (.ref 24),kE P "MixError" 226 (.ref 37),kE P "BookError" 244 (.ref 50),kE P "NoNumber" 269 (.ref 70),kE P "NoShade" 294 (.ref 89),kE P "NoPart" 319 (.ref 108),kE P "NoDeed" 344 (.ref 127),kE P "NoTurn" 369 (.ref 146),kE P "NoWay" 394 (.ref 165),kE P "NoText" 419 (.ref 184),kE P "NoGrade" 444 (.ref 203),kE P "NoStep" 469 (.ref 222),kE P "NoEye" 494 (.ref 241),kE P "NoLimit" 519 (.ref 260),kE P "NoPlace" 544 (.ref 279),kE P "NoLights" 569 (.ref 298),kE P "NoRow" 594 (.ref 317),kE P "NoWeights" 619 (.ref 336),kE P "NoWeight" 644 (.ref 355),kE P "EmptyMix" 660 (.ref 367),kE P "NoBlend" 676 (.ref 379),kE P "NoWord" 701 (.ref 398),kE P "NoName" 726 (.ref 417),kE P "NameStands" 751 (.ref 436),kE P "BookFull" 776 (.ref 455),kE P "NoBack" 792 (.ref 467),kE P "ONE" 797 (.ref 470),kE P "PIECE_FIGURES" 799 (.int 64 798),kE P "PIECE" 803 (.int 10000000000000000000000000000000000000000000000000000000000000000 802),kE P "is_whole" 810 (.ref 477),kE P "common" 818 (.ref 484),kE P "is_fraction" 827 (.ref 491),kE P "lowest" 836 (.ref 498),kE P "need_fractions" 845 (.ref 505),kE P "plus" 853 (.ref 512),kE P "minus" 861 (.ref 519),kE P "times" 869 (.ref 526),kE P "over" 877 (.ref 533),kE P "less" 885 (.ref 540),kE P "below" 893 (.ref 547),kE P "figures" 902 (.ref 554),kE P "written" 909 (.ref 561),kE P "is_share" 918 (.ref 568),kE P "Shade" 981 (.ref 609),kE P "is_shade" 988 (.ref 620),kE P "need_shade" 995 (.ref 627),kE P "shares_of" 1002 (.ref 634),kE P "STRETCHES" 1038 (.ref 641),kE P "falls" 1049 (.ref 648),kE P "stretch_of" 1055 (.ref 653),kE P "wheel_of" 1071 (.ref 660),kE P "is_from_0" 1078 (.ref 667),kE P "need_turn" 1089 (.ref 674),kE P "by_wheel" 1107 (.ref 682),kE P "_law_cell" 1119 (.ref 689),kE P "_law_purse" 1126 (.ref 696),kE P "_law_pick" 1136 (.ref 703),kE P "_law_low" 1146 (.ref 710),kE P "_law_minus" 1154 (.ref 717),kE P "_law_times" 1162 (.ref 724),kE P "_law_share" 1171 (.ref 731),kE P "_law_shares" 1177 (.ref 736),kE P "_law_turn_row" 1190 (.ref 743),kE P "_law_sort" 1203 (.ref 750),kE P "_law_bad_part" 1211 (.ref 757),kE P "_law_bad_turn" 1219 (.ref 764),kE P "_law_tried" 1230 (.ref 771),kE P "_law_odd" 1244 (.ref 778),kE P "_law_unfit" 1255 (.ref 785),kE P "_law_no_shades" 1262 (.ref 792),kE P "_law_asked" 1270 (.ref 799),kE P "law" 1276 (.ref 804)] 81, #[]⟩
def JY (P:Params):=oDn [kM P 196,kL P 200 2,kT P 201 22,kE P "__weakref__" 203 (.ref 25),kD P 204] 3
noncomputable def WG:Obj:=⟨(.type "type"),none,.cls ⟨"ShadeError",[(.type "ValueError")],[(.ref 24),(.type "ValueError"),(.type "Exception"),(.type "BaseException"),(.type "object")],23,"ShadeError",true,[],[(.ref 70),(.ref 89),(.ref 108),(.ref 127),(.ref 146),(.ref 165),(.ref 184),(.ref 203),(.ref 222),(.ref 241),(.ref 260),(.ref 279),(.ref 298),(.ref 317)],false,none,false⟩, #[(some (.ref 15)),none,(some (.str "ShadeError" 189)),(some (.str "ShadeError" 197)),(some (.builtin "ValueError.__new__")),(some (.bool true))]⟩
def IC (P:Params):=oDn [kM P 214,kL P 218 4,kT P 219 35,kE P "__weakref__" 221 (.ref 38),kD P 222] 3
noncomputable def aBn:Obj:=⟨(.type "type"),none,.cls ⟨"MixError",[(.type "ArithmeticError")],[(.ref 37),(.type "ArithmeticError"),(.type "Exception"),(.type "BaseException"),(.type "object")],36,"MixError",true,[],[(.ref 336),(.ref 355),(.ref 367),(.ref 379)],false,none,false⟩, #[(some (.ref 28)),none,(some (.str "MixError" 207)),(some (.str "MixError" 215)),(some (.builtin "ArithmeticError.__new__")),(some (.bool true))]⟩
def HX (P:Params):=oDn [kM P 234,kL P 238 6,kT P 239 48,kE P "__weakref__" 241 (.ref 51),kD P 242] 3
noncomputable def aHW:Obj:=⟨(.type "type"),none,.cls ⟨"BookError",[(.type "LookupError")],[(.ref 50),(.type "LookupError"),(.type "Exception"),(.type "BaseException"),(.type "object")],49,"BookError",true,[],[(.ref 398),(.ref 417),(.ref 436),(.ref 455),(.ref 467)],false,none,false⟩, #[(some (.ref 41)),none,(some (.str "BookError" 227)),(some (.str "BookError" 235)),(some (.builtin "LookupError.__new__")),(some (.bool true))]⟩
def LD (P:Params):=oDn [kM P 252,kL P 256 8,kI P 264 67,kT P 266 68,kD P 267] 2
def IT:=zY "NoNumber" "ValueError" "ValueError.__new__" 24 70 69 54 245 253
def IZ:=zXt "__init__" "NoShade.__init__" 282 15 2 3 80 81 82 83 84 287
def IQ:=oF "__init__" "NoShade.__init__" bH .none zS0 85
def IO (P:Params):=oDn [kM P 277,kL P 281 13,kI P 289 86,kT P 291 87,kD P 292] 2
def JH:=zY "NoShade" "ValueError" "ValueError.__new__" 24 89 88 73 270 278
def wL:=zXt "__init__" "NoPart.__init__" 307 20 2 3 99 100 101 102 103 312
def wA:=oF "__init__" "NoPart.__init__" bM .none zS0 104
def tU (P:Params):=oDn [kM P 302,kL P 306 18,kI P 314 105,kT P 316 106,kD P 317] 2
def vQ:=zY "NoPart" "ValueError" "ValueError.__new__" 24 108 107 92 295 303
def tR (P:Params):=oDn [kM P 327,kL P 331 23,kI P 339 124,kT P 341 125,kD P 342] 2
def uA:=zY "NoDeed" "ValueError" "ValueError.__new__" 24 127 126 111 320 328
def yV:=zXt "__init__" "NoTurn.__init__" 357 30 2 3 137 138 139 140 141 362
def zP:=oF "__init__" "NoTurn.__init__" bJ .none zS0 142
def zK (P:Params):=oDn [kM P 352,kL P 356 28,kI P 364 143,kT P 366 144,kD P 367] 2
def yL:=zY "NoTurn" "ValueError" "ValueError.__new__" 24 146 145 130 345 353
def zT (P:Params):=oDn [kM P 377,kL P 381 33,kI P 389 162,kT P 391 163,kD P 392] 2
def yO:=zY "NoWay" "ValueError" "ValueError.__new__" 24 165 164 149 370 378
def zH (P:Params):=oDn [kM P 402,kL P 406 38,kI P 414 181,kT P 416 182,kD P 417] 2
def zL:=zY "NoText" "ValueError" "ValueError.__new__" 24 184 183 168 395 403
def yP (P:Params):=oDn [kM P 427,kL P 431 43,kI P 439 200,kT P 441 201,kD P 442] 2
def zN:=zY "NoGrade" "ValueError" "ValueError.__new__" 24 203 202 187 420 428
def zF (P:Params):=oDn [kM P 452,kL P 456 48,kI P 464 219,kT P 466 220,kD P 467] 2
def zS:=zY "NoStep" "ValueError" "ValueError.__new__" 24 222 221 206 445 453
def FU (P:Params):=oDn [kM P 477,kL P 481 53,kI P 489 238,kT P 491 239,kD P 492] 2
def GJ:=zY "NoEye" "ValueError" "ValueError.__new__" 24 241 240 225 470 478
def DL (P:Params):=oDn [kM P 502,kL P 506 58,kI P 514 257,kT P 516 258,kD P 517] 2
def DH:=zY "NoLimit" "ValueError" "ValueError.__new__" 24 260 259 244 495 503
def EY (P:Params):=oDn [kM P 527,kL P 531 63,kI P 539 276,kT P 541 277,kD P 542] 2
def GM:=zY "NoPlace" "ValueError" "ValueError.__new__" 24 279 278 263 520 528
def EJ (P:Params):=oDn [kM P 552,kL P 556 68,kI P 564 295,kT P 566 296,kD P 567] 2
def DC:=zY "NoLights" "ValueError" "ValueError.__new__" 24 298 297 282 545 553
def DW (P:Params):=oDn [kM P 577,kL P 581 73,kI P 589 314,kT P 591 315,kD P 592] 2
def HE:=zY "NoRow" "ValueError" "ValueError.__new__" 24 317 316 301 570 578
def OI (P:Params):=oDn [kM P 602,kL P 606 78,kI P 614 333,kT P 616 334,kD P 617] 2
def NH:=zY "NoWeights" "ArithmeticError" "ArithmeticError.__new__" 37 336 335 320 595 603
def MY (P:Params):=oDn [kM P 627,kL P 631 83,kI P 639 352,kT P 641 353,kD P 642] 2
def NB:=zY "NoWeight" "ArithmeticError" "ArithmeticError.__new__" 37 355 354 339 620 628
def NR (P:Params):=oDn [kM P 652,kL P 656 88,kT P 657 365,kD P 658] 2
def LQ:=zY "EmptyMix" "ArithmeticError" "ArithmeticError.__new__" 37 367 366 358 645 653
def MF (P:Params):=oDn [kM P 668,kL P 672 90,kT P 673 377,kD P 674] 2
def LV:=zY "NoBlend" "ArithmeticError" "ArithmeticError.__new__" 37 379 378 370 661 669
def LW (P:Params):=oDn [kM P 684,kL P 688 92,kI P 696 395,kT P 698 396,kD P 699] 2
def OG:=zY "NoWord" "LookupError" "LookupError.__new__" 50 398 397 382 677 685
def MH (P:Params):=oDn [kM P 709,kL P 713 97,kI P 721 414,kT P 723 415,kD P 724] 2
def ND:=zY "NoName" "LookupError" "LookupError.__new__" 50 417 416 401 702 710
def XE (P:Params):=oDn [kM P 734,kL P 738 102,kI P 746 433,kT P 748 434,kD P 749] 2
def aAh:=zY "NameStands" "LookupError" "LookupError.__new__" 50 436 435 420 727 735
def aAj (P:Params):=oDn [kM P 759,kL P 763 107,kI P 771 452,kT P 773 453,kD P 774] 2
def YH:=zY "BookFull" "LookupError" "LookupError.__new__" 50 455 454 439 752 760
def ZU (P:Params):=oDn [kM P 784,kL P 788 112,kT P 789 465,kD P 790] 2
def aAZ:=zY "NoBack" "LookupError" "LookupError.__new__" 50 467 466 458 777 785
def aA1:=oT [.int 1 795,.int 1 796]
def aAi:=zOt "is_whole" 804 118 1 3 471 472 473 474 475 808
def aAO:=oF "is_whole" "is_whole" dX .none zS2 476
def UC:=zOt "common" 811 120 2 3 478 479 480 481 482 816
def YI:=oF "common" "common" fW .none zS2 483
def UK:=zOt "is_fraction" 819 124 1 3 485 486 487 488 489 825
def ZC:=oF "is_fraction" "is_fraction" bO .none zS2 490
def VM:=zOt "lowest" 828 129 2 3 492 493 494 495 496 834
def TC:=oF "lowest" "lowest" fU .none zS2 497
def aAW:=zOt "need_fractions" 837 134 1 3 499 500 501 502 503 843
def YY:=oF "need_fractions" "need_fractions" aY .none zS2 504
def aAk:=zOt "plus" 846 138 2 3 506 507 508 509 510 851
def UD:=oF "plus" "plus" mW .none zS2 511
def TW:=zOt "minus" 854 141 2 3 513 514 515 516 517 859
def TF:=oF "minus" "minus" jS .none zS2 518
def aAK:=zOt "times" 862 144 2 3 520 521 522 523 524 867
def XS:=oF "times" "times" jF .none zS2 525
def aAc:=zOt "over" 870 147 2 3 527 528 529 530 531 875
def XY:=oF "over" "over" mY .none zS2 532
def aAr:=zOt "less" 878 152 2 3 534 535 536 537 538 883
def aAQ:=oF "less" "less" mZ .none zS2 539
def aA2:=zOt "below" 886 154 2 3 541 542 543 544 545 891
def aA0:=oF "below" "below" jE .none zS2 546
def aAu:=zOt "is_share" 912 169 1 3 562 563 564 565 566 916
def WT:=oF "is_share" "is_share" dQ .none zS3 567
def aEE:=zXt "__init__" "Shade.__init__" 931 173 4 3 576 577 578 579 580 940
def aEM:=oF "__init__" "Shade.__init__" bA .none zS3 581
def aEN:=zXt "__eq__" "Shade.__eq__" 943 181 2 3 583 584 585 586 587 948
def aE9:=oF "__eq__" "Shade.__eq__" bI .none zS3 588
def aER (P:Params):=oDn [kE P "__module__" 926 zS3,kL P 930 171,kI P 942 582,kE P "__eq__" 950 (.ref 589),kE P "__len__" 956 (.ref 594),kE P "__str__" 962 (.ref 599),kE P "__repr__" 969 (.ref 606),kT P 973 607,kE P "__dict__" 975 (.ref 610),kE P "__weakref__" 977 (.ref 611),kD P 978,kE P "__hash__" 979 .none] 5
noncomputable def aFz:Obj:=⟨(.type "type"),none,.cls ⟨"Shade",[(.type "object")],[(.ref 609),(.type "object")],608,"Shade",true,[],[],false,none,false⟩, #[none,none,(some (.str "Shade" 919)),(some (.str "Shade" 927)),(some (.builtin "object.__new__")),(some (.bool true))]⟩
def aEX:=zOt "is_shade" 982 192 1 3 614 615 616 617 618 986
def aFu:=oF "is_shade" "is_shade" dU .none zS3 619
def aEd:=zOt "need_shade" 989 194 1 3 621 622 623 624 625 993
def aE1:=oF "need_shade" "need_shade" bX .none zS3 626
def aEi:=zOt "shares_of" 996 197 1 3 628 629 630 631 632 1000
def aE3:=oF "shares_of" "shares_of" cX .none zS3 633
def aFE:=oT [.int 0 1005,.int 2 1006,.int 1 1007,.int 0 1008,.int 1 1009]
def aFq:=oT [.int 1 1010,.int 2 1011,.int 0 1012,.int 2 1013,.int (-1) 1015]
def aEP:=oT [.int 1 1016,.int 0 1017,.int 2 1018,.int 2 1019,.int 1 1020]
def aEp:=oT [.int 2 1021,.int 0 1022,.int 1 1023,.int 4 1024,.int (-1) 1026]
def aEn:=oT [.int 2 1027,.int 1 1028,.int 0 1029,.int 4 1030,.int 1 1031]
def aED:=oT [.int 0 1032,.int 1 1033,.int 2 1034,.int 6 1035,.int (-1) 1037]
def aEo:=oT [.ref 635,.ref 636,.ref 637,.ref 638,.ref 639,.ref 640]
def aEh:=zOt "falls" 1039 202 2 3 642 643 644 645 646 1047
def aEb:=oF "falls" "falls" jQ .none zS4 647
def aFb:=zOt "stretch_of" 1050 205 1 3 649 650 0 0 651 1053
def aFg:=oF "stretch_of" "stretch_of" bZ .none zS4 652
def aEs:=zOt "wheel_of" 1056 208 1 3 654 655 656 657 658 1069
def aFe:=oF "wheel_of" "wheel_of" dW .none zS4 659
def aFA:=zOt "is_from_0" 1072 217 1 3 661 662 663 664 665 1076
def aEC:=oF "is_from_0" "is_from_0" cV .none zS4 666
def aEJ:=zOt "need_turn" 1079 219 3 3 668 669 670 671 672 1087
def aFv:=oF "need_turn" "need_turn" cY .none zS4 673
def aFC:=oT [.none]
def aFo:=zOt "by_wheel" 1090 227 3 3 676 677 678 679 680 1105
def aFa:=oF "by_wheel" "by_wheel" dY (.ref 675) zS4 681
def aEQ:=zOt "_law_cell" 1110 240 2 3 683 684 685 686 687 1117
def aE0:=oF "_law_cell" "_law_cell" gI .none zS1 688
def aEx:=zOt "_law_purse" 1120 247 1 3 690 691 692 693 694 1124
def aFr:=oF "_law_purse" "_law_purse" eV .none zS1 695
def aFs:=zOt "_law_pick" 1127 249 2 3 697 698 699 700 701 1134
def aE7:=oF "_law_pick" "_law_pick" gC .none zS1 702
def aEe:=zOt "_law_low" 1137 258 2 3 704 705 706 707 708 1144
def aE2:=oF "_law_low" "_law_low" jZ .none zS1 709
def aEw:=zOt "_law_minus" 1147 265 2 3 711 712 713 714 715 1152
def aEL:=oF "_law_minus" "_law_minus" eM .none zS1 716
def aEY:=zOt "_law_times" 1155 267 2 3 718 719 720 721 722 1160
def aFh:=oF "_law_times" "_law_times" eK .none zS1 723
def aEc:=zOt "_law_share" 1163 269 1 3 725 726 727 728 729 1169
def aE5:=oF "_law_share" "_law_share" eU .none zS1 730
def aEu:=zOt "_law_shares" 1172 273 1 3 732 733 0 0 734 1175
def aEH:=oF "_law_shares" "_law_shares" dS .none zS1 735
def aEa:=zOt "_law_turn_row" 1178 282 1 3 737 738 739 740 741 1188
def aEU:=oF "_law_turn_row" "_law_turn_row" cA .none zS1 742
def aEO:=zOt "_law_sort" 1191 296 1 3 744 745 746 747 748 1201
def aEK:=oF "_law_sort" "_law_sort" gL .none zS1 749
def aEg:=zOt "_law_bad_part" 1204 314 1 3 751 752 753 754 755 1209
def aFm:=oF "_law_bad_part" "_law_bad_part" bY .none zS1 756
def aFc:=zOt "_law_bad_turn" 1212 318 1 3 758 759 760 761 762 1217
def aEF:=oF "_law_bad_turn" "_law_bad_turn" cC .none zS1 763
def aEr:=zOt "_law_tried" 1220 322 4 3 765 766 767 768 769 1228
def aE6:=oF "_law_tried" "_law_tried" eX .none zS1 770
def aEB:=zOt "_law_odd" 1231 331 4 3 772 773 774 775 776 1242
def aEq:=oF "_law_odd" "_law_odd" jI .none zS1 777
def aEz:=zOt "_law_unfit" 1245 343 4 3 779 780 781 782 783 1253
def aFf:=oF "_law_unfit" "_law_unfit" eP .none zS1 784
def aEv:=zOt "_law_no_shades" 1256 352 1 3 786 787 788 789 790 1260
def aFB:=oF "_law_no_shades" "_law_no_shades" bP .none zS1 791
def aE8:=zOt "_law_asked" 1263 354 1 3 793 794 795 796 797 1268
def aFx:=oF "_law_asked" "_law_asked" eS .none zS1 798
def aFk:=zOt "law" 1271 360 1 3 800 801 0 0 802 1274
def aEj:=oF "law" "law" sI .none zS1 803
noncomputable def K0:Params→W.Frag:=fun P=>[(2,ko2 P),(3,ko3 P),(23,JY P),(24,WG),(36,IC P),(37,aBn),(49,HX P),(50,aHW),(69,LD P),(70,IT),(85,IZ),(86,IQ),(88,IO P),(89,JH),(104,wL),(105,wA),(107,tU P),(108,vQ),(126,tR P),(127,uA),(142,yV),(143,zP),(145,zK P),(146,yL),(164,zT P),(165,yO),(183,zH P),(184,zL),(202,yP P),(203,zN),(221,zF P),(222,zS),(240,FU P),(241,GJ),(259,DL P),(260,DH),(278,EY P),(279,GM),(297,EJ P),(298,DC),(316,DW P),(317,HE),(335,OI P),(336,NH),(354,MY P),(355,NB),(366,NR P),(367,LQ),(378,MF P),(379,LV),(397,LW P),(398,OG),(416,MH P),(417,ND),(435,XE P),(436,aAh),(454,aAj P),(455,YH),(466,ZU P),(467,aAZ),(470,aA1),(476,aAi),(477,aAO),(483,UC),(484,YI),(490,UK),(491,ZC),(497,VM),(498,TC),(504,aAW),(505,YY),(511,aAk),(512,UD),(518,TW),(519,TF),(525,aAK),(526,XS),(532,aAc),(533,XY),(539,aAr),(540,aAQ),(546,aA2),(547,aA0),(567,aAu),(568,WT),(581,aEE),(582,aEM),(588,aEN),(589,aE9),(608,aER P),(609,aFz),(619,aEX),(620,aFu),(626,aEd),(627,aE1),(633,aEi),(634,aE3),(635,aFE),(636,aFq),(637,aEP),(638,aEp),(639,aEn),(640,aED),(641,aEo),(647,aEh),(648,aEb),(652,aFb),(653,aFg),(659,aEs),(660,aFe),(666,aFA),(667,aEC),(673,aEJ),(674,aFv),(675,aFC),(681,aFo),(682,aFa),(688,aEQ),(689,aE0),(695,aEx),(696,aFr),(702,aFs),(703,aE7),(709,aEe),(710,aE2),(716,aEw),(717,aEL),(723,aEY),(724,aFh),(730,aEc),(731,aE5),(735,aEu),(736,aEH),(742,aEa),(743,aEU),(749,aEO),(750,aEK),(756,aEg),(757,aFm),(763,aFc),(764,aEF),(770,aEr),(771,aE6),(777,aEB),(778,aEq),(784,aEz),(785,aFf),(791,aEv),(792,aFB),(798,aE8),(799,aFx),(803,aFk),(804,aEj)]
noncomputable def aK:List Addr:=[2,3,23,24,36,37,49,50,69,70,85,86,88,89,104,105,107,108,126,127,142,143,145,146,164,165,183,184,202,203,221,222,240,241,259,260,278,279,297,298,316,317,335,336,354,355,366,367,378,379,397,398,416,417,435,436,454,455,466,467,470,476,477,483,484,490,491,497,498,504,505,511,512,518,519,525,526,532,533,539,540,546,547,567,568,581,582,588,589,608,609,619,620,626,627,633,634,635,636,637,638,639,640,641,647,648,652,653,659,660,666,667,673,674,675,681,682,688,689,695,696,702,703,709,710,716,717,723,724,730,731,735,736,742,743,749,750,756,757,763,764,770,771,777,778,784,785,791,792,798,799,803,804]
noncomputable def qv:Program:={ PySem.Challenge.pw_lightshares_k18_wheels_refused with main:={ PySem.Challenge.pw_lightshares_k18_wheels_refused.main with body:=[top 76] } }
noncomputable def lo:List Str:=(["ShadeError","MixError","BookError","NoNumber","NoShade","NoPart","NoDeed","NoTurn","NoWay","NoText","NoGrade","NoStep","NoEye","NoLimit","NoPlace","NoLights","NoRow","NoWeights","NoWeight","EmptyMix","NoBlend","NoWord","NoName","NameStands","BookFull","NoBack","ONE","PIECE_FIGURES","PIECE","is_whole","common","is_fraction","lowest","need_fractions","plus","minus","times","over","less","below","figures","written","is_share","Shade","is_shade","need_shade","shares_of","STRETCHES","falls","stretch_of","wheel_of","is_from_0","need_turn","by_wheel","_law_cell","_law_purse","_law_pick","_law_low","_law_minus","_law_times","_law_share","_law_shares","_law_turn_row","_law_sort","_law_bad_part","_law_bad_turn","_law_tried","_law_odd","_law_unfit","_law_no_shades","_law_asked"]:List String).map Str.ofString
noncomputable def nmS:List Str:=(["is_whole","common","is_fraction","lowest","need_fractions","plus","minus","times","over","below","nearest_whole","is_share","Shade","Shade.__init__","is_shade","need_shade","shares_of","shade_of","is_grade","need_grade","is_step","need_step","printed","span_of","_law_cell","_law_purse","_law_pick","_law_whole","_law_low","_law_plus","_law_minus","_law_times","_law_over","_law_below","_law_is_fraction","_law_share","_law_shares","less","falls","stretch_of","wheel_of","is_from_0","need_turn","by_wheel","part_of","toward","darker","lighter","opposite","turned","Shade.__eq__","Shade.__len__","_law_turn_row","_law_round","_law_lifted","_law_right","!is_whole","!is_fraction","!is_from_0","!is_shade","!need_shade","!shares_of","!NoShade","!NoPart","!NoTurn","!need_turn","!by_wheel","!wheel_of","_law_sort","_law_asked","_law_tried","_law_bad_part","_law_bad_turn","_law_odd","_law_unfit","_law_no_shades","law"]:List String).map Str.ofString
noncomputable def pkS (y:PX):Nat→Sp3
 | 0=>eI
 | 1=>iR
 | 2=>iG
 | 3=>bU
 | 4=>pV
 | 5=>gM
 | 6=>dD
 | 7=>dE
 | 8=>jP
 | 9=>eY
 | 10=>AR
 | 11=>fS
 | 12=>hU
 | 13=>oP
 | 14=>iU
 | 15=>eF
 | 16=>aX
 | 17=>lO
 | 18=>CD
 | 19=>pD
 | 20=>pP
 | 21=>jC
 | 22=>rD
 | 23=>LJ
 | 24=>uK
 | 25=>oA
 | 26=>jH
 | 27=>eI
 | 28=>bU
 | 29=>gM
 | 30=>dD
 | 31=>dE
 | 32=>jP
 | 33=>eY
 | 34=>rN
 | 35=>gA
 | 36=>iK
 | 37=>vV
 | 38=>pC
 | 39=>lY
 | 40=>fN
 | 41=>lP
 | 42=>fO
 | 43=>nZ
 | 44=>pA
 | 45=>tT
 | 46=>rK 0
 | 47=>rK 1
 | 48=>YJ
 | 49=>uI
 | 50=>NU
 | 51=>LM
 | 52=>lW
 | 53=>AZ
 | 54=>uH
 | 55=>AX
 | 56=>orX DK xNo y
 | 57=>orX FB xNo y
 | 58=>orX rC xNo y
 | 59=>orX gR xNo y
 | 60=>orX eF bF y
 | 61=>orX aX bF y
 | 62=>BH y "NoShade" "light"
 | 63=>BH y "NoPart" "part"
 | 64=>BH y "NoTurn" "part"
 | 65=>orX fO hZ y
 | 66=>orX nZ yD y
 | 67=>orX fN bF y
 | 68=>pJ
 | 69=>lM
 | 70=>lU
 | 71=>BJ
 | 72=>AM
 | 73=>tG
 | 74=>lX
 | 75=>oJ
 | 76=>BB
 | _=>fun _ _ _=>False
noncomputable def nmG:List Str:=(["ONE","ZERO","MOST_GRADE","Shade","int","bool","tuple","HALF","STRETCHES","list"]:List String).map Str.ofString
noncomputable def pkG:Nat→PV
 | 0=>FQ 1
 | 1=>FQ 0
 | 2=>.int 1000
 | 3=>.cl "Shade"
 | 4=>.ty "int"
 | 5=>.ty "bool"
 | 6=>.ty "tuple"
 | 7=>.tup [.int 1,.int 2]
 | 8=>.tup [stV 0,stV 1,stV 2,stV 3,stV 4,stV 5]
 | 9=>.ty "list"
 | _=>.non
noncomputable abbrev tcs:List String:=["Shade"]
noncomputable abbrev tfl:List (String×Str):=[("Shade","ember"),("Shade","leaf"),("Shade","sky")]
noncomputable def T (y:PX):Tb:={ S:=fun f=>pkS y (nmS.idxOf f),gv:=fun f=>pkG (nmG.idxOf f),cs:=tcs,fl:=tfl,fam:=fun x f=>pkS x (nmS.idxOf f),xp:=y,xi:=RG,fx:=aCn }
theorem wJ {y:PX}:(T y).S "is_whole"=eI:=by kernel_rfl
theorem ER {y:PX}:(T y).S "common"=iR:=by kernel_rfl
theorem mM {y:PX}:(T y).S "is_fraction"=iG:=by kernel_rfl
theorem GT {y:PX}:(T y).S "lowest"=bU:=by kernel_rfl
theorem iJ {y:PX}:(T y).S "need_fractions"=pV:=by kernel_rfl
theorem YE {y:PX}:(T y).S "plus"=gM:=by kernel_rfl
theorem MZ {y:PX}:(T y).S "minus"=dD:=by kernel_rfl
theorem MD {y:PX}:(T y).S "times"=dE:=by kernel_rfl
theorem aAE {y:PX}:(T y).S "over"=jP:=by kernel_rfl
theorem OB {y:PX}:(T y).S "below"=eY:=by kernel_rfl
theorem sU {y:PX}:(T y).S "nearest_whole"=AR:=by kernel_rfl
theorem uL {y:PX}:(T y).S "is_share"=fS:=by kernel_rfl
theorem aD7 {y:PX}:(T y).S "Shade"=hU:=by kernel_rfl
theorem iM {y:PX}:(T y).S "Shade.__init__"=oP:=by kernel_rfl
theorem tZ {y:PX}:(T y).S "is_shade"=iU:=by kernel_rfl
theorem rB {y:PX}:(T y).S "need_shade"=eF:=by kernel_rfl
theorem sL {y:PX}:(T y).S "shares_of"=aX:=by kernel_rfl
theorem LA {y:PX}:(T y).S "shade_of"=lO:=by kernel_rfl
theorem JN {y:PX}:(T y).S "is_grade"=CD:=by kernel_rfl
theorem AY {y:PX}:(T y).S "need_grade"=pD:=by kernel_rfl
theorem RS {y:PX}:(T y).S "is_step"=pP:=by kernel_rfl
theorem EV {y:PX}:(T y).S "need_step"=jC:=by kernel_rfl
theorem RH {y:PX}:(T y).S "printed"=rD:=by kernel_rfl
theorem OZ {y:PX}:(T y).S "span_of"=LJ:=by kernel_rfl
theorem GU {y:PX}:(T y).S "_law_cell"=uK:=by kernel_rfl
theorem zG {y:PX}:(T y).S "_law_purse"=oA:=by kernel_rfl
theorem GD {y:PX}:(T y).S "_law_pick"=jH:=by kernel_rfl
theorem SK {y:PX}:(T y).S "_law_whole"=eI:=by kernel_rfl
theorem NC {y:PX}:(T y).S "_law_low"=bU:=by kernel_rfl
theorem WC {y:PX}:(T y).S "_law_plus"=gM:=by kernel_rfl
theorem zU {y:PX}:(T y).S "_law_minus"=dD:=by kernel_rfl
theorem yM {y:PX}:(T y).S "_law_times"=dE:=by kernel_rfl
theorem XQ {y:PX}:(T y).S "_law_over"=jP:=by kernel_rfl
theorem QB {y:PX}:(T y).S "_law_below"=eY:=by kernel_rfl
theorem tD {y:PX}:(T y).S "_law_is_fraction"=rN:=by kernel_rfl
theorem zA {y:PX}:(T y).S "_law_share"=gA:=by kernel_rfl
theorem tS {y:PX}:(T y).S "_law_shares"=iK:=by kernel_rfl
theorem UR {y:PX}:(T y).S "less"=vV:=by kernel_rfl
theorem LS {y:PX}:(T y).S "falls"=pC:=by kernel_rfl
theorem nX {y:PX}:(T y).S "stretch_of"=lY:=by kernel_rfl
theorem vB {y:PX}:(T y).S "wheel_of"=fN:=by kernel_rfl
theorem sE {y:PX}:(T y).S "is_from_0"=lP:=by kernel_rfl
theorem sH {y:PX}:(T y).S "need_turn"=fO:=by kernel_rfl
theorem wN {y:PX}:(T y).S "by_wheel"=nZ:=by kernel_rfl
theorem OR {y:PX}:(T y).S "part_of"=pA:=by kernel_rfl
theorem aAI {y:PX}:(T y).S "toward"=tT:=by kernel_rfl
theorem ZY {y:PX}:(T y).S "darker"=rK 0:=by kernel_rfl
theorem SG {y:PX}:(T y).S "lighter"=rK 1:=by kernel_rfl
theorem HU {y:PX}:(T y).S "opposite"=YJ:=by kernel_rfl
theorem ZS {y:PX}:(T y).S "turned"=uI:=by kernel_rfl
theorem kU {y:PX}:(T y).S "Shade.__eq__"=NU:=by kernel_rfl
theorem sR {y:PX}:(T y).S "Shade.__len__"=LM:=by kernel_rfl
theorem oH {y:PX}:(T y).S "_law_turn_row"=lW:=by kernel_rfl
theorem RI {y:PX}:(T y).S "_law_round"=AZ:=by kernel_rfl
theorem HN {y:PX}:(T y).S "_law_lifted"=uH:=by kernel_rfl
theorem OV {y:PX}:(T y).S "_law_right"=AX:=by kernel_rfl
theorem oQ {y:PX}:(T y).S "!is_whole"=orX DK xNo y:=by kernel_rfl
theorem kC {y:PX}:(T y).S "!is_fraction"=orX FB xNo y:=by kernel_rfl
theorem hW {y:PX}:(T y).S "!is_from_0"=orX rC xNo y:=by kernel_rfl
theorem nY {y:PX}:(T y).S "!is_shade"=orX gR xNo y:=by kernel_rfl
theorem kH {y:PX}:(T y).S "!need_shade"=orX eF bF y:=by kernel_rfl
theorem mH {y:PX}:(T y).S "!shares_of"=orX aX bF y:=by kernel_rfl
theorem sK {y:PX}:(T y).S "!NoShade"=BH y "NoShade" "light":=by kernel_rfl
theorem wG {y:PX}:(T y).S "!NoPart"=BH y "NoPart" "part":=by kernel_rfl
theorem vH {y:PX}:(T y).S "!NoTurn"=BH y "NoTurn" "part":=by kernel_rfl
theorem mQ {y:PX}:(T y).S "!need_turn"=orX fO hZ y:=by kernel_rfl
theorem jU {y:PX}:(T y).S "!by_wheel"=orX nZ yD y:=by kernel_rfl
theorem oO {y:PX}:(T y).S "!wheel_of"=orX fN bF y:=by kernel_rfl
theorem FX {y:PX}:(T y).S "_law_sort"=pJ:=by kernel_rfl
theorem zO {y:PX}:(T y).S "_law_asked"=lM:=by kernel_rfl
theorem zZ {y:PX}:(T y).S "_law_tried"=lU:=by kernel_rfl
theorem nS {y:PX}:(T y).S "_law_bad_part"=BJ:=by kernel_rfl
theorem oV {y:PX}:(T y).S "_law_bad_turn"=AM:=by kernel_rfl
theorem MO {y:PX}:(T y).S "_law_odd"=tG:=by kernel_rfl
theorem zX {y:PX}:(T y).S "_law_unfit"=lX:=by kernel_rfl
theorem mG {y:PX}:(T y).S "_law_no_shades"=oJ:=by kernel_rfl
theorem aEk {y:PX}:(T y).S "law"=BB:=by kernel_rfl
theorem MJ {y:PX}:(T y).gv "ONE"=FQ 1:=by kernel_rfl
theorem aG4 {y:PX}:(T y).gv "ZERO"=FQ 0:=by kernel_rfl
theorem AK {y:PX}:(T y).gv "MOST_GRADE"= .int 1000:=by kernel_rfl
theorem pY {y:PX}:(T y).gv "Shade"= .cl "Shade":=by kernel_rfl
theorem MV {y:PX}:(T y).gv "int"= .ty "int":=by kernel_rfl
theorem UM {y:PX}:(T y).gv "bool"= .ty "bool":=by kernel_rfl
theorem CJ {y:PX}:(T y).gv "tuple"= .ty "tuple":=by kernel_rfl
theorem aH7 {y:PX}:(T y).gv "HALF"= .tup [.int 1,.int 2]:=by kernel_rfl
theorem lC {y:PX}:(T y).gv "STRETCHES"= .tup [stV 0,stV 1,stV 2,stV 3,stV 4,stV 5]:=by kernel_rfl
theorem YK {y:PX}:(T y).gv "list"= .ty "list":=by kernel_rfl
theorem hPT {y:PX}:PT (T y):={ is_whole:=wJ,common:=ER,is_fraction:=mM,lowest:=GT,need_fractions:=iJ,plus:=YE,minus:=MZ,times:=MD,over:=aAE,below:=OB,nearest_whole:=sU,is_share:=uL,shade:=aD7,shadeI:=iM,is_shade:=tZ,need_shade:=rB,shares_of:=sL,shade_of:=LA,is_grade:=JN,need_grade:=AY,is_step:=RS,need_step:=EV,printed:=RH,span_of:=OZ,gv_ONE:=MJ,gv_ZERO:=aG4,gv_MOST_GRADE:=AK,gv_Shade:=pY,cs:=(by decide +kernel: "Shade"∈tcs),fl_e:=(by decide +kernel:("Shade",("ember":Str))∈tfl),fl_l:=(by decide +kernel:("Shade",("leaf":Str))∈tfl),fl_s:=(by decide +kernel:("Shade",("sky":Str))∈tfl),ty_int:=MV,ty_bool:=UM,ty_tuple:=CJ }
theorem hLT {y:PX}:LT (T y):={ cell:=GU,purse:=zG,pick:=GD,whole:=SK,low:=NC,plus:=WC,minus:=zU,times:=yM,over:=XQ,below:=QB,is_fraction:=tD,share:=zA,shares:=tS }
theorem WS {y:PX}:L17 (T y):={ less:=UR,falls:=LS,stretch_of:=nX,wheel_of:=vB,is_from_0:=sE,need_turn:=sH,by_wheel:=wN,part_of:=OR,toward:=aAI,darker:=ZY,lighter:=SG,opposite:=HU,turned:=ZS,eqS:=kU,lenS:=sR,turn_row:=oH,round:=RI,lifted:=HN,right:=OV,gv_HALF:=aH7,gv_ST:=lC }
theorem JX {y:PX}:P18 (T y):={ xwhole:=oQ,xfrac:=kC,xfrom0:=hW,xisS:=nY,xneed:=kH,xshares:=mH,xNoShade:=sK,xNoPart:=wG,xNoTurn:=vH }
theorem aHI {y:PX}:Q18 (T y):={ xturn:=mQ,xbyw:=jU,xwheel:=oO }
theorem ZW {y:PX}:L18 (T y):={ sort:=FX,asked:=zO,tried:=zZ,badp:=nS,badt:=oV,odd:=MO,unfit:=zX,nosh:=mG,ty_list:=YK,xi:=rfl,fx:=rfl }
noncomputable def pM (a:Nat→Addr) (c:String):Addr:=if c="Shade" then a 44 else if c="NoPart" then a 59 else if c="NoShade" then a 62 else if c="NoTurn" then a 65 else 0
theorem aU {a:Nat→Addr}:pM a "Shade"=a 44:=by unfold pM; simp
theorem eT {a:Nat→Addr}:pM a "NoPart"=a 59:=by unfold pM; simp
theorem dZ {a:Nat→Addr}:pM a "NoShade"=a 62:=by unfold pM; simp
theorem eL {a:Nat→Addr}:pM a "NoTurn"=a 65:=by unfold pM; simp
abbrev kO (K:W.Frag) (a:Nat→Addr) (i j:Nat) (b:Bool):Prop:=W.kitOne K (.ref (a i)) (.ref (a j))=some b
structure Tx (K:W.Frag) (mg:Str→Option Value) (a:Nat→Addr) (d:Nat→FuncData) (v:Nat→Value):Prop where
 qa:bB K "_law_sort" "_law_sort" gL (.none) (a 0) (d 0)
 qb:mg "_law_sort"=some (.ref (a 0))
 qc:bB K "common" "common" fW (.none) (a 1) (d 1)
 qd:mg "common"=some (.ref (a 1))
 qe:bB K "lowest" "lowest" fU (.none) (a 2) (d 2)
 qf:mg "lowest"=some (.ref (a 2))
 qg:bB K "is_whole" "is_whole" dX (.none) (a 3) (d 3)
 qh:mg "is_whole"=some (.ref (a 3))
 qi:bB K "is_fraction" "is_fraction" bO (.none) (a 4) (d 4)
 qj:mg "is_fraction"=some (.ref (a 4))
 qk:bB K "need_fractions" "need_fractions" aY (.none) (a 5) (d 5)
 ql:mg "need_fractions"=some (.ref (a 5))
 qm:bB K "minus" "minus" jS (.none) (a 6) (d 6)
 qo:mg "minus"=some (.ref (a 6))
 qp:bB K "over" "over" mY (.none) (a 7) (d 7)
 qq:mg "over"=some (.ref (a 7))
 qr:bB K "plus" "plus" mW (.none) (a 8) (d 8)
 qt:mg "plus"=some (.ref (a 8))
 qu:bB K "is_shade" "is_shade" dU (.none) (a 9) (d 9)
 qw:mg "is_shade"=some (.ref (a 9))
 qx:bB K "__init__" "NoShade.__init__" bH (.none) (a 10) (d 10)
 qy:bB K "need_shade" "need_shade" bX (.none) (a 11) (d 11)
 qz:mg "need_shade"=some (.ref (a 11))
 qA:bB K "shares_of" "shares_of" cX (.none) (a 12) (d 12)
 qB:mg "shares_of"=some (.ref (a 12))
 qC:bB K "less" "less" mZ (.none) (a 13) (d 13)
 qD:mg "less"=some (.ref (a 13))
 qE:bB K "below" "below" jE (.none) (a 14) (d 14)
 qF:mg "below"=some (.ref (a 14))
 qG:bB K "falls" "falls" jQ (.none) (a 15) (d 15)
 qH:mg "falls"=some (.ref (a 15))
 qI:bB K "stretch_of" "stretch_of" bZ (.none) (a 16) (d 16)
 qJ:mg "stretch_of"=some (.ref (a 16))
 qK:bB K "times" "times" jF (.none) (a 17) (d 17)
 qL:mg "times"=some (.ref (a 17))
 qM:bB K "wheel_of" "wheel_of" dW (.none) (a 18) (d 18)
 qN:mg "wheel_of"=some (.ref (a 18))
 qO:bB K "_law_asked" "_law_asked" eS (.none) (a 19) (d 19)
 qP:mg "_law_asked"=some (.ref (a 19))
 qQ:bB K "_law_cell" "_law_cell" gI (.none) (a 20) (d 20)
 qR:mg "_law_cell"=some (.ref (a 20))
 qS:bB K "is_share" "is_share" dQ (.none) (a 21) (d 21)
 qT:mg "is_share"=some (.ref (a 21))
 qU:bB K "__init__" "Shade.__init__" bA (.none) (a 22) (d 22)
 qV:bB K "_law_no_shades" "_law_no_shades" bP (.none) (a 23) (d 23)
 qW:mg "_law_no_shades"=some (.ref (a 23))
 qX:bB K "_law_pick" "_law_pick" gC (.none) (a 24) (d 24)
 qY:mg "_law_pick"=some (.ref (a 24))
 qZ:bB K "_law_bad_part" "_law_bad_part" bY (.none) (a 25) (d 25)
 qz1:mg "_law_bad_part"=some (.ref (a 25))
 qz2:bB K "_law_bad_turn" "_law_bad_turn" cC (.none) (a 26) (d 26)
 qz3:mg "_law_bad_turn"=some (.ref (a 26))
 qz4:bB K "_law_odd" "_law_odd" jI (.none) (a 27) (d 27)
 qz5:mg "_law_odd"=some (.ref (a 27))
 qz6:bB K "_law_purse" "_law_purse" eV (.none) (a 28) (d 28)
 qz7:mg "_law_purse"=some (.ref (a 28))
 qz8:bB K "_law_low" "_law_low" jZ (.none) (a 29) (d 29)
 qz9:mg "_law_low"=some (.ref (a 29))
 qz10:bB K "_law_share" "_law_share" eU (.none) (a 30) (d 30)
 qz11:mg "_law_share"=some (.ref (a 30))
 qz12:bB K "_law_shares" "_law_shares" dS (.none) (a 31) (d 31)
 qz13:mg "_law_shares"=some (.ref (a 31))
 qz14:bB K "is_from_0" "is_from_0" cV (.none) (a 32) (d 32)
 qz15:mg "is_from_0"=some (.ref (a 32))
 qz16:bB K "__init__" "NoTurn.__init__" bJ (.none) (a 33) (d 33)
 qz17:bB K "need_turn" "need_turn" cY (.none) (a 34) (d 34)
 qz18:mg "need_turn"=some (.ref (a 34))
 qz19:bB K "__init__" "NoPart.__init__" bM (.none) (a 35) (d 35)
 qz20:bB K "by_wheel" "by_wheel" dY (v 36) (a 36) (d 36)
 qz21:∃ (b:Addr) (oc:Value) (od:Option Addr) (n:Nat) (sl:Array (Option Value)) ,v 36= .ref b∧K.lookup b=some ⟨oc,od,.seq #[.none] n,sl⟩
 qz22:mg "by_wheel"=some (.ref (a 36))
 qz23:bB K "_law_tried" "_law_tried" eX (.none) (a 37) (d 37)
 qz24:mg "_law_tried"=some (.ref (a 37))
 qz25:bB K "_law_minus" "_law_minus" eM (.none) (a 38) (d 38)
 qz26:mg "_law_minus"=some (.ref (a 38))
 qz27:bB K "_law_times" "_law_times" eK (.none) (a 39) (d 39)
 qz28:mg "_law_times"=some (.ref (a 39))
 qz29:bB K "_law_turn_row" "_law_turn_row" cA (.none) (a 40) (d 40)
 qz30:mg "_law_turn_row"=some (.ref (a 40))
 qz31:bB K "_law_unfit" "_law_unfit" eP (.none) (a 41) (d 41)
 qz32:mg "_law_unfit"=some (.ref (a 41))
 qz33:bB K "__eq__" "Shade.__eq__" bI (.none) (a 42) (d 42)
 qz34:xC K (a 44) "__eq__" (a 42)
 qz35:bB K "law" "law" sI (.none) (a 43) (d 43)
 m_law:mg "law"=some (.ref (a 43))
 qz36:aCI K (a 44)
 qz37:mg "Shade"=some (.ref (a 44))
 qz38:Mk K (a 44) (a 22)
 qz39:NeC K (a 44)
 qz40:∀ n∈aAd,W.kitOne K (.type n) (.ref (a 44))=some false
 qz41:∀ n∈nA,W.kitOne K (.ref (a 44)) (.type n)=some false
 qz42:eO K (a 44) "ember"
 qz43:eO K (a 44) "leaf"
 qz44:eO K (a 44) "sky"
 qz45:mg "BookError"=some (.ref (a 45))
 qz46:mg "BookFull"=some (.ref (a 46))
 qz47:mg "EmptyMix"=some (.ref (a 47))
 qz48:mg "MixError"=some (.ref (a 48))
 qz49:mg "NameStands"=some (.ref (a 49))
 qz50:mg "NoBack"=some (.ref (a 50))
 qz51:mg "NoBlend"=some (.ref (a 51))
 qz52:mg "NoDeed"=some (.ref (a 52))
 qz53:mg "NoEye"=some (.ref (a 53))
 qz54:mg "NoGrade"=some (.ref (a 54))
 qz55:mg "NoLights"=some (.ref (a 55))
 qz56:mg "NoLimit"=some (.ref (a 56))
 qz57:mg "NoName"=some (.ref (a 57))
 qz58:mg "NoNumber"=some (.ref (a 58))
 qz59:mg "NoPart"=some (.ref (a 59))
 qz60:mg "NoPlace"=some (.ref (a 60))
 qz61:mg "NoRow"=some (.ref (a 61))
 qz62:mg "NoShade"=some (.ref (a 62))
 qz63:mg "NoStep"=some (.ref (a 63))
 qz64:mg "NoText"=some (.ref (a 64))
 qz65:mg "NoTurn"=some (.ref (a 65))
 qz66:mg "NoWay"=some (.ref (a 66))
 qz67:mg "NoWeight"=some (.ref (a 67))
 qz68:mg "NoWeights"=some (.ref (a 68))
 qz69:mg "NoWord"=some (.ref (a 69))
 qz70:mg "ShadeError"=some (.ref (a 70))
 qz71:XIn K mg (a 59) (a 35) "ShadeError" "part"
 qz72:XIn K mg (a 62) (a 10) "ShadeError" "light"
 qz73:XIn K mg (a 65) (a 33) "ShadeError" "part"
 qz74:XAt K (a 59)
 qz75:XAt K (a 62)
 qz76:XAt K (a 65)
 qz77:kO K a 62 58 false
 qz78:kO K a 62 62 true
 qz79:kO K a 62 59 false
 qz80:kO K a 62 52 false
 qz81:kO K a 62 65 false
 qz82:kO K a 62 66 false
 qz83:kO K a 62 64 false
 qz84:kO K a 62 54 false
 qz85:kO K a 62 63 false
 qz86:kO K a 62 53 false
 qz87:kO K a 62 56 false
 qz88:kO K a 62 60 false
 qz89:kO K a 62 55 false
 qz90:kO K a 62 61 false
 qz91:kO K a 62 68 false
 qz92:kO K a 62 67 false
 qz93:kO K a 62 47 false
 qz94:kO K a 62 51 false
 qz95:kO K a 62 69 false
 qz96:kO K a 62 57 false
 qz97:kO K a 62 49 false
 qz98:kO K a 62 46 false
 qz99:kO K a 62 50 false
 qz100:kO K a 62 70 true
 qz101:kO K a 62 48 false
 qz102:kO K a 62 45 false
 qz103:W.kitOne K (.ref (a 62)) (.type "ValueError")=some true
 qz104:W.kitOne K (.ref (a 62)) (.type "ArithmeticError")=some false
 qz105:W.kitOne K (.ref (a 62)) (.type "LookupError")=some false
 qz106:kO K a 59 58 false
 qz107:kO K a 59 62 false
 qz108:kO K a 59 59 true
 qz109:kO K a 59 52 false
 qz110:kO K a 59 65 false
 qz111:kO K a 59 66 false
 qz112:kO K a 59 64 false
 qz113:kO K a 59 54 false
 qz114:kO K a 59 63 false
 qz115:kO K a 59 53 false
 qz116:kO K a 59 56 false
 qz117:kO K a 59 60 false
 qz118:kO K a 59 55 false
 qz119:kO K a 59 61 false
 qz120:kO K a 59 68 false
 qz121:kO K a 59 67 false
 qz122:kO K a 59 47 false
 qz123:kO K a 59 51 false
 qz124:kO K a 59 69 false
 qz125:kO K a 59 57 false
 qz126:kO K a 59 49 false
 qz127:kO K a 59 46 false
 qz128:kO K a 59 50 false
 qz129:kO K a 59 70 true
 qz130:kO K a 59 48 false
 qz131:kO K a 59 45 false
 qz132:W.kitOne K (.ref (a 59)) (.type "ValueError")=some true
 qz133:W.kitOne K (.ref (a 59)) (.type "ArithmeticError")=some false
 qz134:W.kitOne K (.ref (a 59)) (.type "LookupError")=some false
 qz135:kO K a 65 58 false
 qz136:kO K a 65 62 false
 qz137:kO K a 65 59 false
 qz138:kO K a 65 52 false
 qz139:kO K a 65 65 true
 qz140:kO K a 65 66 false
 qz141:kO K a 65 64 false
 qz142:kO K a 65 54 false
 qz143:kO K a 65 63 false
 qz144:kO K a 65 53 false
 qz145:kO K a 65 56 false
 qz146:kO K a 65 60 false
 qz147:kO K a 65 55 false
 qz148:kO K a 65 61 false
 qz149:kO K a 65 68 false
 qz150:kO K a 65 67 false
 qz151:kO K a 65 47 false
 qz152:kO K a 65 51 false
 qz153:kO K a 65 69 false
 qz154:kO K a 65 57 false
 qz155:kO K a 65 49 false
 qz156:kO K a 65 46 false
 qz157:kO K a 65 50 false
 qz158:kO K a 65 70 true
 qz159:kO K a 65 48 false
 qz160:kO K a 65 45 false
 qz161:W.kitOne K (.ref (a 65)) (.type "ValueError")=some true
 qz162:W.kitOne K (.ref (a 65)) (.type "ArithmeticError")=some false
 qz163:W.kitOne K (.ref (a 65)) (.type "LookupError")=some false
 qz164:W.findIn K (.ref (a 62)) "light"=some none
 qz165:W.findIn K (.ref (a 59)) "part"=some none
 qz166:W.findIn K (.ref (a 65)) "part"=some none
 qz167:LX.nU K (a 70)=true∧W.typeIn K (.ref (a 70))=some (.type "type")
 qz168:W.subIn K (.type "type") (.type "tuple")=some false
 qz169:LX.kB K (a 59) [a 70]=some true
 qz170:LX.kB K (a 62) [a 70]=some true
 qz171:LX.kB K (a 65) [a 70]=some true
 qz172:∃ a t0 t1 n sl,mg "ONE"=some (.ref a)∧K.lookup a=some ⟨.type "tuple",none,.seq #[.int 1 t0,.int 1 t1] n,sl⟩
 qz173:∃ b b0 b1 b2 b3 b4 b5 n sl,mg "STRETCHES"=some (.ref b)∧K.lookup b=some ⟨.type "tuple",none,.seq #[.ref b0,.ref b1,.ref b2,.ref b3,.ref b4,.ref b5] n,sl⟩∧iO K b0 [0,2,1,0,1]∧iO K b1 [1,2,0,2,-1]∧iO K b2 [1,0,2,2,1]∧iO K b3 [2,0,1,4,-1]∧iO K b4 [2,1,0,4,1]∧iO K b5 [0,1,2,6,-1]
 qz174:mg "ArithmeticError"=none
 qz175:mg "LookupError"=none
 qz176:mg "ValueError"=none
 qz177:mg "abs"=none
 qz178:mg "all"=none
 qz179:mg "bool"=none
 qz180:mg "enumerate"=none
 qz181:mg "int"=none
 qz182:mg "isinstance"=none
 qz183:mg "len"=none
 qz184:mg "list"=none
 qz185:mg "max"=none
 qz186:mg "min"=none
 qz187:mg "range"=none
 qz188:mg "repr"=none
 qz189:mg "tuple"=none
variable {P:Program} {w:World} {K:W.Frag} {mg:Str→Option Value} {base:Heap} {a:Nat→Addr} {d:Nat→FuncData} {v:Nat→Value} {f0 z0:Hp} {y:PX}
theorem lnS {n:Nat} {l:List Value} (h:l.length=n + 1):∃ a t,l=a :: t∧t.length=n:=by
 cases l with
 | nil=>cases h
 | cons a t=>exact ⟨a,t,rfl,Nat.succ.inj h⟩
theorem ln0 {l:List Value} (h:l.length=0):l=[]:=List.eq_nil_of_length_eq_zero h
theorem ln1 {l:List Value} (h:l.length=1):∃ a,l=[a]:=by
 obtain ⟨a,t,rfl,h2⟩:=lnS h;exact ⟨a,by rw [ln0 h2]⟩
theorem ln2 {l:List Value} (h:l.length=2):∃ a b,l=[a,b]:=by
 obtain ⟨a,t,rfl,h2⟩:=lnS h;obtain ⟨b,rfl⟩:=ln1 h2;exact ⟨a,b,rfl⟩
theorem ln3 {l:List Value} (h:l.length=3):∃ a b c,l=[a,b,c]:=by
 obtain ⟨a,t,rfl,h2⟩:=lnS h;obtain ⟨b,c,rfl⟩:=ln2 h2;exact ⟨a,b,c,rfl⟩
theorem ln4 {l:List Value} (h:l.length=4):∃ a b c d,l=[a,b,c,d]:=by
 obtain ⟨a,t,rfl,h2⟩:=lnS h;obtain ⟨b,c,d,rfl⟩:=ln3 h2;exact ⟨a,b,c,d,rfl⟩
noncomputable abbrev Ew (K:W.Frag) (a:Nat→Addr) (f0 z0:Hp):Ev:={ K:=K,cls:=pM a,f0:=f0,z0:=z0 }
theorem aAv (X:Tx K mg a d v):L2.aJ K (d 0) ["_law_e"] []:=X.qa.binds fun _ _ _ _ _ _ _ us _ hl=>by obtain ⟨_,rfl⟩:=ln1 hl; exact .of_eq rfl
theorem GS (X:Tx K mg a d v):L2.aJ K (d 1) ["one","other"] []:=X.qc.binds fun _ _ _ _ _ _ _ us _ hl=>by obtain ⟨_,_,rfl⟩:=ln2 hl; exact .of_eq rfl
theorem XR (X:Tx K mg a d v):L2.aJ K (d 2) ["top","bottom"] []:=X.qe.binds fun _ _ _ _ _ _ _ us _ hl=>by obtain ⟨_,_,rfl⟩:=ln2 hl; exact .of_eq rfl
theorem tX (X:Tx K mg a d v):L2.aJ K (d 3) ["thing"] []:=X.qg.binds fun _ _ _ _ _ _ _ us _ hl=>by obtain ⟨_,rfl⟩:=ln1 hl; exact .of_eq rfl
theorem eZ (X:Tx K mg a d v):L2.aJ K (d 4) ["thing"] []:=X.qi.binds fun _ _ _ _ _ _ _ us _ hl=>by obtain ⟨_,rfl⟩:=ln1 hl; exact .of_eq rfl
theorem rW (X:Tx K mg a d v):L2.aJ K (d 5) ["things"] []:=X.qk.binds fun _ _ _ _ _ _ _ us _ hl=>by obtain ⟨_,rfl⟩:=ln1 hl; exact .of_eq rfl
theorem MM (X:Tx K mg a d v):L2.aJ K (d 6) ["one","other"] []:=X.qm.binds fun _ _ _ _ _ _ _ us _ hl=>by obtain ⟨_,_,rfl⟩:=ln2 hl; exact .of_eq rfl
theorem aGU (X:Tx K mg a d v):L2.aJ K (d 7) ["one","other"] []:=X.qp.binds fun _ _ _ _ _ _ _ us _ hl=>by obtain ⟨_,_,rfl⟩:=ln2 hl; exact .of_eq rfl
theorem JV (X:Tx K mg a d v):L2.aJ K (d 8) ["one","other"] []:=X.qr.binds fun _ _ _ _ _ _ _ us _ hl=>by obtain ⟨_,_,rfl⟩:=ln2 hl; exact .of_eq rfl
theorem vD (X:Tx K mg a d v):L2.aJ K (d 9) ["thing"] []:=X.qu.binds fun _ _ _ _ _ _ _ us _ hl=>by obtain ⟨_,rfl⟩:=ln1 hl; exact .of_eq rfl
theorem nE (X:Tx K mg a d v):L2.aJ K (d 10) ["self","light"] []:=X.qx.binds fun _ _ _ _ _ _ _ us _ hl=>by obtain ⟨_,_,rfl⟩:=ln2 hl; exact .of_eq rfl
theorem nO (X:Tx K mg a d v):L2.aJ K (d 11) ["thing"] []:=X.qy.binds fun _ _ _ _ _ _ _ us _ hl=>by obtain ⟨_,rfl⟩:=ln1 hl; exact .of_eq rfl
theorem kK (X:Tx K mg a d v):L2.aJ K (d 12) ["shade"] []:=X.qA.binds fun _ _ _ _ _ _ _ us _ hl=>by obtain ⟨_,rfl⟩:=ln1 hl; exact .of_eq rfl
theorem aIm (X:Tx K mg a d v):L2.aJ K (d 13) ["one","other"] []:=X.qC.binds fun _ _ _ _ _ _ _ us _ hl=>by obtain ⟨_,_,rfl⟩:=ln2 hl; exact .of_eq rfl
theorem OC (X:Tx K mg a d v):L2.aJ K (d 14) ["one","other"] []:=X.qE.binds fun _ _ _ _ _ _ _ us _ hl=>by obtain ⟨_,_,rfl⟩:=ln2 hl; exact .of_eq rfl
theorem aC7 (X:Tx K mg a d v):L2.aJ K (d 15) ["shares","stretch"] []:=X.qG.binds fun _ _ _ _ _ _ _ us _ hl=>by obtain ⟨_,_,rfl⟩:=ln2 hl; exact .of_eq rfl
theorem CL (X:Tx K mg a d v):L2.aJ K (d 16) ["shares"] []:=X.qI.binds fun _ _ _ _ _ _ _ us _ hl=>by obtain ⟨_,rfl⟩:=ln1 hl; exact .of_eq rfl
theorem LY (X:Tx K mg a d v):L2.aJ K (d 17) ["one","other"] []:=X.qK.binds fun _ _ _ _ _ _ _ us _ hl=>by obtain ⟨_,_,rfl⟩:=ln2 hl; exact .of_eq rfl
theorem nH (X:Tx K mg a d v):L2.aJ K (d 18) ["shade"] []:=X.qM.binds fun _ _ _ _ _ _ _ us _ hl=>by obtain ⟨_,rfl⟩:=ln1 hl; exact .of_eq rfl
theorem RE (X:Tx K mg a d v):L2.aJ K (d 19) ["_law_thing"] []:=X.qO.binds fun _ _ _ _ _ _ _ us _ hl=>by obtain ⟨_,rfl⟩:=ln1 hl; exact .of_eq rfl
theorem aAy (X:Tx K mg a d v):L2.aJ K (d 20) ["_law_script","_law_k"] []:=X.qQ.binds fun _ _ _ _ _ _ _ us _ hl=>by obtain ⟨_,_,rfl⟩:=ln2 hl; exact .of_eq rfl
theorem LC (X:Tx K mg a d v):L2.aJ K (d 21) ["thing"] []:=X.qS.binds fun _ _ _ _ _ _ _ us _ hl=>by obtain ⟨_,rfl⟩:=ln1 hl; exact .of_eq rfl
theorem iL (X:Tx K mg a d v):L2.aJ K (d 22) ["self","ember","leaf","sky"] []:=X.qU.binds fun _ _ _ _ _ _ _ us _ hl=>by obtain ⟨_,_,_,_,rfl⟩:=ln4 hl; exact .of_eq rfl
theorem xV (X:Tx K mg a d v):L2.aJ K (d 23) ["_law_row"] []:=X.qV.binds fun _ _ _ _ _ _ _ us _ hl=>by obtain ⟨_,rfl⟩:=ln1 hl; exact .of_eq rfl
theorem VG (X:Tx K mg a d v):L2.aJ K (d 24) ["_law_purse_here","_law_many"] []:=X.qX.binds fun _ _ _ _ _ _ _ us _ hl=>by obtain ⟨_,_,rfl⟩:=ln2 hl; exact .of_eq rfl
theorem AE (X:Tx K mg a d v):L2.aJ K (d 25) ["_law_purse_here"] []:=X.qZ.binds fun _ _ _ _ _ _ _ us _ hl=>by obtain ⟨_,rfl⟩:=ln1 hl; exact .of_eq rfl
theorem BO (X:Tx K mg a d v):L2.aJ K (d 26) ["_law_purse_here"] []:=X.qz2.binds fun _ _ _ _ _ _ _ us _ hl=>by obtain ⟨_,rfl⟩:=ln1 hl; exact .of_eq rfl
theorem aDF (X:Tx K mg a d v):L2.aJ K (d 27) ["_law_purse_here","_law_pale","_law_murk","_law_bend"] []:=X.qz4.binds fun _ _ _ _ _ _ _ us _ hl=>by obtain ⟨_,_,_,_,rfl⟩:=ln4 hl; exact .of_eq rfl
theorem QP (X:Tx K mg a d v):L2.aJ K (d 28) ["_law_cell_here"] []:=X.qz6.binds fun _ _ _ _ _ _ _ us _ hl=>by obtain ⟨_,rfl⟩:=ln1 hl; exact .of_eq rfl
theorem aDk (X:Tx K mg a d v):L2.aJ K (d 29) ["_law_top","_law_bottom"] []:=X.qz8.binds fun _ _ _ _ _ _ _ us _ hl=>by obtain ⟨_,_,rfl⟩:=ln2 hl; exact .of_eq rfl
theorem yN (X:Tx K mg a d v):L2.aJ K (d 30) ["_law_purse_here"] []:=X.qz10.binds fun _ _ _ _ _ _ _ us _ hl=>by obtain ⟨_,rfl⟩:=ln1 hl; exact .of_eq rfl
theorem HR (X:Tx K mg a d v):L2.aJ K (d 31) ["_law_purse_here"] []:=X.qz12.binds fun _ _ _ _ _ _ _ us _ hl=>by obtain ⟨_,rfl⟩:=ln1 hl; exact .of_eq rfl
theorem gY (X:Tx K mg a d v):L2.aJ K (d 32) ["thing"] []:=X.qz14.binds fun _ _ _ _ _ _ _ us _ hl=>by obtain ⟨_,rfl⟩:=ln1 hl; exact .of_eq rfl
theorem nP (X:Tx K mg a d v):L2.aJ K (d 33) ["self","part"] []:=X.qz16.binds fun _ _ _ _ _ _ _ us _ hl=>by obtain ⟨_,_,rfl⟩:=ln2 hl; exact .of_eq rfl
theorem sF (X:Tx K mg a d v):L2.aJ K (d 34) ["white","black","turn"] []:=X.qz17.binds fun _ _ _ _ _ _ _ us _ hl=>by obtain ⟨_,_,_,rfl⟩:=ln3 hl; exact .of_eq rfl
theorem pE (X:Tx K mg a d v):L2.aJ K (d 35) ["self","part"] []:=X.qz19.binds fun _ _ _ _ _ _ _ us _ hl=>by obtain ⟨_,_,rfl⟩:=ln2 hl; exact .of_eq rfl
theorem jJ (X:Tx K mg a d v):L2.aJ K (d 36) ["white","black","turn"] []:=by
 obtain ⟨b,oc,od,n,sl,e,hb⟩:=X.qz21;exact X.qz20.binds fun _ _ _ _ _ _ _ us hK hl=>by obtain ⟨_,_,_,rfl⟩:=ln3 hl; exact W.binds_K hK e hb rfl rfl rfl
theorem OM (X:Tx K mg a d v):L2.aJ K (d 37) ["_law_way","_law_pale","_law_murk","_law_bend"] []:=X.qz23.binds fun _ _ _ _ _ _ _ us _ hl=>by obtain ⟨_,_,_,_,rfl⟩:=ln4 hl; exact .of_eq rfl
theorem zI (X:Tx K mg a d v):L2.aJ K (d 38) ["_law_a","_law_b"] []:=X.qz25.binds fun _ _ _ _ _ _ _ us _ hl=>by obtain ⟨_,_,rfl⟩:=ln2 hl; exact .of_eq rfl
theorem QJ (X:Tx K mg a d v):L2.aJ K (d 39) ["_law_a","_law_b"] []:=X.qz27.binds fun _ _ _ _ _ _ _ us _ hl=>by obtain ⟨_,_,rfl⟩:=ln2 hl; exact .of_eq rfl
theorem BU (X:Tx K mg a d v):L2.aJ K (d 40) ["_law_purse_here"] []:=X.qz29.binds fun _ _ _ _ _ _ _ us _ hl=>by obtain ⟨_,rfl⟩:=ln1 hl; exact .of_eq rfl
theorem SE (X:Tx K mg a d v):L2.aJ K (d 41) ["_law_purse_here","_law_pale","_law_murk","_law_bend"] []:=X.qz31.binds fun _ _ _ _ _ _ _ us _ hl=>by obtain ⟨_,_,_,_,rfl⟩:=ln4 hl; exact .of_eq rfl
theorem vY (X:Tx K mg a d v):L2.aJ K (d 42) ["self","other"] []:=X.qz33.binds fun _ _ _ _ _ _ _ us _ hl=>by obtain ⟨_,_,rfl⟩:=ln2 hl; exact .of_eq rfl
theorem aW (X:Tx K mg a d v):mE K (d 36) ["white","black","turn"] 0 ["turn","black","white"] [.arg 2,.arg 1,.arg 0]:=by
 obtain ⟨b,oc,od,n,sl,e,hb⟩:=X.qz21;refine X.qz20.sh rfl fun _ _ _ _ _ _ _ us ws hK hl hl2=>?_;obtain rfl:=ln0 hl;obtain ⟨w0,w1,w2,rfl⟩:=ln3 hl2;refine ⟨[w2,w1,w0],W.binds_K hK e hb rfl rfl rfl,fun vs zs r rz=>?_⟩;cases r;obtain _ | ⟨r_w0,rz⟩:=rz;obtain _ | ⟨r_w1,rz⟩:=rz;obtain _ | ⟨r_w2,rz⟩:=rz;cases rz;exact (.cons r_w2 (.cons r_w1 (.cons r_w0 .nil)))
abbrev FO (P:Program) (w:World) (K:W.Frag) (mg:Str→Option Value) (base:Heap) (a:Nat→Addr) (d:Nat→FuncData) (n i:Nat) (f0 z0:Hp) (y:PX) (ps:List Str) (x:Str):Prop:=bC P w K mg base CX0 n (a i) (d i) ps (gE (Ew K a f0 z0) ((T y).S x))
abbrev FOX (P:Program) (w:World) (K:W.Frag) (mg:Str→Option Value) (base:Heap) (a:Nat→Addr) (d:Nat→FuncData) (n i:Nat) (f0 z0:Hp) (ps:List Str) (S0:Sp3) (X0:SpX):Prop:=bC P w K mg base (CXo P w) n (a i) (d i) ps (sM (Ew K a f0 z0) S0 X0)
theorem ck (X:Tx K mg a d v):Ck K (Ew K a f0 z0) (T y):=by
 refine ⟨rfl,⟨?_, ?_, ?_, ?_⟩, ?_⟩
 · exact ac (by rw [show (Ew K a f0 z0).cls "Shade"=a 44 from aU]; exact X.qz36) (an)
 · exact ac (by rw [show (Ew K a f0 z0).cls "Shade"=a 44 from aU]; exact X.qz40) (an)
 · exact ac (by rw [show (Ew K a f0 z0).cls "Shade"=a 44 from aU]; exact X.qz41) (an)
 · exact ac (ac (fun h=>absurd rfl h) (an)) (an)
 · intro c f h;have key:∀ p∈(T y).fl,Cls K ((Ew K a f0 z0).cls p.1)∧eO K ((Ew K a f0 z0).cls p.1) p.2:=ac (by dsimp only; rw [aU]; exact ⟨X.qz36.cl,X.qz42⟩) (ac (by dsimp only; rw [aU]; exact ⟨X.qz36.cl,X.qz43⟩) (ac (by dsimp only; rw [aU]; exact ⟨X.qz36.cl,X.qz44⟩) (an)));exact key (c,f) h
local macro_rules | `(tactic| walk_at "sl") => `(tactic| (intro xs G Q h; repeat (first | exact (congrArg List.length h.1).trans rfl | (obtain ⟨_, h⟩ := h))))
local macro_rules | `(tactic| walk_at "xq") => `(tactic| (dsimp only; (first | rw [eT] | rw [dZ] | rw [eL]); first | exact ⟨by assumption, .inl ⟨_, by assumption, by assumption⟩⟩ | exact ⟨by assumption, .inr ⟨_, by assumption, by with_unfolding_all rfl, by decide +kernel, by assumption⟩⟩))
theorem xo (X:Tx K mg a d v):Xo K mg (Ew K a f0 z0) (T y):=by
 refine ⟨fun c n r h=>?_,fun c f h=>?_⟩
 · have key:∀ p∈RG,XAt K ((Ew K a f0 z0).cls p.1)∧((∃ b,mg p.2.1=some (.ref b)∧W.kitOne K (.ref ((Ew K a f0 z0).cls p.1)) (.ref b)=some p.2.2)∨∃ t,mg p.2.1=none∧bootBuiltins p.2.1=some (.type t)∧p.2.1≠"__name__"∧W.kitOne K (.ref ((Ew K a f0 z0).cls p.1)) (.type t)=some p.2.2):=by
     cases X;exact ac (by walk_at "xq") (ac (by walk_at "xq") (ac (by walk_at "xq") (ac (by walk_at "xq") (ac (by walk_at "xq") (ac (by walk_at "xq") (ac (by walk_at "xq") (ac (by walk_at "xq") (ac (by walk_at "xq") (ac (by walk_at "xq") (ac (by walk_at "xq") (ac (by walk_at "xq") (ac (by walk_at "xq") (ac (by walk_at "xq") (ac (by walk_at "xq") (ac (by walk_at "xq") (ac (by walk_at "xq") (ac (by walk_at "xq") (ac (by walk_at "xq") (ac (by walk_at "xq") (ac (by walk_at "xq") (ac (by walk_at "xq") (ac (by walk_at "xq") (ac (by walk_at "xq") (ac (by walk_at "xq") (ac (by walk_at "xq") (ac (by walk_at "xq") (ac (by walk_at "xq") (ac (by walk_at "xq") (ac (by walk_at "xq") (ac (by walk_at "xq") (ac (by walk_at "xq") (ac (by walk_at "xq") (ac (by walk_at "xq") (ac (by walk_at "xq") (ac (by walk_at "xq") (ac (by walk_at "xq") (ac (by walk_at "xq") (ac (by walk_at "xq") (ac (by walk_at "xq") (ac (by walk_at "xq") (ac (by walk_at "xq") (ac (by walk_at "xq") (ac (by walk_at "xq") (ac (by walk_at "xq") (ac (by walk_at "xq") (ac (by walk_at "xq") (ac (by walk_at "xq") (ac (by walk_at "xq") (ac (by walk_at "xq") (ac (by walk_at "xq") (ac (by walk_at "xq") (ac (by walk_at "xq") (ac (by walk_at "xq") (ac (by walk_at "xq") (ac (by walk_at "xq") (ac (by walk_at "xq") (ac (by walk_at "xq") (ac (by walk_at "xq") (ac (by walk_at "xq") (ac (by walk_at "xq") (ac (by walk_at "xq") (ac (by walk_at "xq") (ac (by walk_at "xq") (ac (by walk_at "xq") (ac (by walk_at "xq") (ac (by walk_at "xq") (ac (by walk_at "xq") (ac (by walk_at "xq") (ac (by walk_at "xq") (ac (by walk_at "xq") (ac (by walk_at "xq") (ac (by walk_at "xq") (ac (by walk_at "xq") (ac (by walk_at "xq") (ac (by walk_at "xq") (ac (by walk_at "xq") (ac (by walk_at "xq") (ac (by walk_at "xq") (ac (by walk_at "xq") (ac (by walk_at "xq") (ac (by walk_at "xq") (ac (by walk_at "xq") (ac (by walk_at "xq") (ac (by walk_at "xq") (ac (by walk_at "xq") (ac (by walk_at "xq") (an)))))))))))))))))))))))))))))))))))))))))))))))))))))))))))))))))))))))))))))))))))))))
   exact key (c,n,r) h
 · have key:∀ p∈aCn,XAt K ((Ew K a f0 z0).cls p.1)∧W.findIn K (.ref ((Ew K a f0 z0).cls p.1)) p.2=some none:=ac (by dsimp only; rw [dZ]; exact ⟨X.qz75,X.qz164⟩) (ac (by dsimp only; rw [eT]; exact ⟨X.qz74,X.qz165⟩) (ac (by dsimp only; rw [eL]; exact ⟨X.qz76,X.qz166⟩) (an)));exact key (c,f) h
theorem HJ (X:Tx K mg a d v):bC P w K mg base CX0 1 (a 35) (d 35) ["self","part"] (spI (a 59) "part"):=vP (k:=0) X.qz19 X.qz71 mU rfl rfl ⟨by decide +kernel,by decide +kernel,by decide +kernel⟩ ⟨by decide +kernel,by decide +kernel,by decide +kernel,by decide +kernel,by decide +kernel⟩
theorem GN (X:Tx K mg a d v):bC P w K mg base CX0 1 (a 10) (d 10) ["self","light"] (spI (a 62) "light"):=vP (k:=0) X.qx X.qz72 mB rfl rfl ⟨by decide +kernel,by decide +kernel,by decide +kernel⟩ ⟨by decide +kernel,by decide +kernel,by decide +kernel,by decide +kernel,by decide +kernel⟩
theorem KP (X:Tx K mg a d v):bC P w K mg base CX0 1 (a 33) (d 33) ["self","part"] (spI (a 65) "part"):=vP (k:=0) X.qz16 X.qz73 mR rfl rfl ⟨by decide +kernel,by decide +kernel,by decide +kernel⟩ ⟨by decide +kernel,by decide +kernel,by decide +kernel,by decide +kernel,by decide +kernel⟩
theorem QM (X:Tx K mg a d v):Gf P w K mg base (Ew K a f0 z0) (T y) 0 C_l_sort :=
 ⟨an,an,an,an,an,an,ac (X.qz182) (an),an,an,an,an,an,an,an,an,an,an,an,an,an,an,an,an⟩
theorem PZ (X:Tx K mg a d v):FO P w K mg base a d 2 0 f0 z0 y ["_law_e"] "_law_sort":=by
 rw [FO,FX]; exact bG (T:=T y) X.qa QW (ck X) (QM X) OW (xo X) (Tf.no rfl) rfl (fun z=>by cases z) (fun z=>by cases z) (by walk_at "sl") (ED ZW)
theorem fR (X:Tx K mg a d v) {k:Nat} (h:2≤k):∃ ad fd ps,Fk P w K mg base (Ew K a f0 z0) (T y) k "_law_sort" ad fd ps∧L2.aJ K fd ps []:=⟨_,_,_,⟨(PZ X).mono h,X.qb,X.qa.kp,by decide +kernel⟩,aAv X⟩
theorem OT (X:Tx K mg a d v):Gf P w K mg base (Ew K a f0 z0) (T y) 40 C_common :=
 ⟨an,an,an,an,an,an,an,an,an,an,an,an,an,an,an,an,an,an,an,an,an,an,an⟩
theorem zM (X:Tx K mg a d v):FO P w K mg base a d 42 1 f0 z0 y ["one","other"] "common":=by
 rw [FO,ER]; exact bG (T:=T y) X.qc PB (ck X) (OT X) SW (xo X) (Tf.no rfl) rfl (fun _=>by decide) (fun z=>by cases z) (by walk_at "sl") (WB hPT)
theorem QQ (X:Tx K mg a d v):Gf P w K mg base (Ew K a f0 z0) (T y) 42 C_lowest :=
 ⟨ac (⟨_,_,_,⟨(zM X).mono (by decide),X.qd,X.qc.kp,by decide +kernel⟩,GS X⟩) (an),an,an,an,an,an,ac (X.qz177) (an),an,an,an,an,an,an,an,an,an,an,an,an,an,an,an,an⟩
theorem QN (X:Tx K mg a d v):FO P w K mg base a d 44 2 f0 z0 y ["top","bottom"] "lowest":=by
 rw [FO,GT]; exact bG (T:=T y) X.qe SS (ck X) (QQ X) QV (xo X) (Tf.no rfl) rfl (fun _=>by decide) (fun z=>by cases z) (by walk_at "sl") (aAt hPT)
theorem lR (X:Tx K mg a d v) {k:Nat} (h:44≤k):∃ ad fd ps,Fk P w K mg base (Ew K a f0 z0) (T y) k "lowest" ad fd ps∧L2.aJ K fd ps []:=⟨_,_,_,⟨(QN X).mono h,X.qf,X.qe.kp,by decide +kernel⟩,XR X⟩
theorem DU (X:Tx K mg a d v):Gf P w K mg base (Ew K a f0 z0) (T y) 40 C_is_whole :=
 ⟨an,an,an,an,an,ac (⟨X.qz179,⟨"bool",PyProof.Rows.boot_bool,UM⟩,by decide +kernel⟩) (ac (⟨X.qz181,⟨"int",PyProof.Rows.boot_int,MV⟩,by decide +kernel⟩) (an)),ac (X.qz182) (an),an,an,an,an,an,an,an,an,an,an,an,an,an,an,an,an⟩
theorem pG (X:Tx K mg a d v):FOX P w K mg base a d 42 3 f0 z0 ["thing"] DK xNo:=by
 unfold FOX;exact iZ (T:=T (fun _ _ _ _=>False)) X.qg FG (ck X) (fun x f z=>DU (f0:=f) (z0:=z) (y:=x) X) EE (xo X) rfl (fun _=>by decide) (fun z=>by cases z) (by walk_at "sl") (by walk_at "sl") (xN (T:=T (fun _ _ _ _=>False)) (fun x=>(hPT:PT (T x))))
theorem ES (X:Tx K mg a d v):FO P w K mg base a d 42 3 f0 z0 y ["thing"] "is_whole":=by
 unfold FO;rw [wJ];exact (fQ (pG X)).imp fun vs H Q E h=>pT aCR h
theorem wF (X:Tx K mg a d v):Gf P w K mg base (Ew K a f0 z0) (T y) 42 C_is_fraction :=
 ⟨ac (⟨_,_,_,⟨(zM X).mono (by decide),X.qd,X.qc.kp,by decide +kernel⟩,GS X⟩) (ac (⟨_,_,_,⟨(ES X).mono (by decide),X.qh,X.qg.kp,by decide +kernel⟩,tX X⟩) (an)),an,an,an,an,ac (⟨X.qz189,⟨"tuple",PyProof.Rows.boot_tuple,CJ⟩,by decide +kernel⟩) (an),ac (X.qz177) (ac (X.qz182) (ac (X.qz183) (an))),an,an,an,an,an,an,an,an,fun _ _=>rfl,ac (⟨(fun _=>⟨_,_,_,⟨⟨_,_,(pG X).mono (by decide),fun xs G Q q=>by rw [oQ] at q; exact q⟩,X.qh,X.qg.kp,by decide +kernel⟩,tX X⟩),(fun hm=>absurd hm (by decide +kernel))⟩) (an),an,an,an,an,an,an⟩
theorem kF (X:Tx K mg a d v):FOX P w K mg base a d 44 4 f0 z0 ["thing"] FB xNo:=by
 unfold FOX;exact iZ (T:=T (fun _ _ _ _=>False)) X.qi vW (ck X) (fun x f z=>wF (f0:=f) (z0:=z) (y:=x) X) vU (xo X) rfl (fun _=>by decide) (fun z=>by cases z) (by walk_at "sl") (by walk_at "sl") (rM (T:=T (fun _ _ _ _=>False)) (fun x=>(hPT:PT (T x))) (fun x=>(JX:P18 (T x))))
theorem gP (X:Tx K mg a d v):FO P w K mg base a d 44 4 f0 z0 y ["thing"] "is_fraction":=by
 unfold FO;rw [mM];exact (fQ (kF X)).imp fun vs H Q E h=>pT aIO h
theorem pZ (X:Tx K mg a d v):Gf P w K mg base (Ew K a f0 z0) (T y) 44 C_need_fractions :=
 ⟨ac (⟨_,_,_,⟨(gP X).mono (by decide),X.qj,X.qi.kp,by decide +kernel⟩,eZ X⟩) (an),an,an,an,an,an,ac (X.qz180) (an),an,an,an,an,an,an,an,an,an,an,an,an,an,an,an,an⟩
theorem nV (X:Tx K mg a d v):FO P w K mg base a d 46 5 f0 z0 y ["things"] "need_fractions":=by
 rw [FO,iJ]; exact bG (T:=T y) X.qk pS (ck X) (pZ X) pO (xo X) (Tf.no rfl) rfl (fun _=>by decide) (fun z=>by cases z) (by walk_at "sl") (sA hPT)
theorem bL (X:Tx K mg a d v) {k:Nat} (h:46≤k):∃ ad fd ps,Fk P w K mg base (Ew K a f0 z0) (T y) k "need_fractions" ad fd ps∧L2.aJ K fd ps []:=⟨_,_,_,⟨(nV X).mono h,X.ql,X.qk.kp,by decide +kernel⟩,rW X⟩
theorem XX (X:Tx K mg a d v):Gf P w K mg base (Ew K a f0 z0) (T y) 46 C_minus :=
 ⟨ac (lR X (by decide)) (ac (bL X (by decide)) (an)),an,an,an,an,an,an,an,an,an,an,an,an,an,an,an,an,an,an,an,an,an,an⟩
theorem DR (X:Tx K mg a d v):FO P w K mg base a d 48 6 f0 z0 y ["one","other"] "minus":=by
 rw [FO,MZ]; exact bG (T:=T y) X.qm UZ (ck X) (XX X) ZP (xo X) (Tf.no rfl) rfl (fun _=>by decide) (fun z=>by cases z) (by walk_at "sl") (aCM hPT)
theorem aDd (X:Tx K mg a d v):Gf P w K mg base (Ew K a f0 z0) (T y) 46 C_over :=
 ⟨ac (lR X (by decide)) (ac (bL X (by decide)) (an)),an,an,an,an,an,an,an,an,an,an,an,an,an,an,an,an,an,an,an,an,an,an⟩
theorem aBJ (X:Tx K mg a d v):FO P w K mg base a d 48 7 f0 z0 y ["one","other"] "over":=by
 rw [FO,aAE]; exact bG (T:=T y) X.qp aBI (ck X) (aDd X) aBD (xo X) (Tf.no rfl) rfl (fun _=>by decide) (fun z=>by cases z) (by walk_at "sl") (aG7 hPT)
theorem aDa (X:Tx K mg a d v):Gf P w K mg base (Ew K a f0 z0) (T y) 46 C_plus :=
 ⟨ac (lR X (by decide)) (ac (bL X (by decide)) (an)),an,an,an,an,an,an,an,an,an,an,an,an,an,an,an,an,an,an,an,an,an,an⟩
theorem CA (X:Tx K mg a d v):FO P w K mg base a d 48 8 f0 z0 y ["one","other"] "plus":=by
 rw [FO,YE]; exact bG (T:=T y) X.qr aC3 (ck X) (aDa X) aCG (xo X) (Tf.no rfl) rfl (fun _=>by decide) (fun z=>by cases z) (by walk_at "sl") (aGq hPT)
theorem DB (X:Tx K mg a d v):Gf P w K mg base (Ew K a f0 z0) (T y) 40 C_is_shade :=
 ⟨an,an,an,an,ac (by rw [pY]; exact AI X.qz37 aU) (an),an,ac (X.qz182) (an),an,an,an,an,an,an,an,an,an,an,an,an,an,an,an,an⟩
theorem pF (X:Tx K mg a d v):FOX P w K mg base a d 42 9 f0 z0 ["thing"] gR xNo:=by
 unfold FOX;exact iZ (T:=T (fun _ _ _ _=>False)) X.qu FT (ck X) (fun x f z=>DB (f0:=f) (z0:=z) (y:=x) X) FD (xo X) rfl (fun _=>by decide) (fun z=>by cases z) (by walk_at "sl") (by walk_at "sl") (xY (T:=T (fun _ _ _ _=>False)) (fun x=>(hPT:PT (T x))))
theorem GW (X:Tx K mg a d v):FO P w K mg base a d 42 9 f0 z0 y ["thing"] "is_shade":=by
 unfold FO;rw [tZ];exact (fQ (pF X)).imp fun vs H Q E h=>pT aBX h
theorem wU (X:Tx K mg a d v):Gf P w K mg base (Ew K a f0 z0) (T y) 42 C_need_shade :=
 ⟨ac (⟨_,_,_,⟨(GW X).mono (by decide),X.qw,X.qu.kp,by decide +kernel⟩,vD X⟩) (an),an,an,an,an,an,an,an,an,an,an,an,an,an,an,fun _ _=>rfl,ac (⟨(fun _=>⟨_,_,_,⟨⟨_,_,(pF X).mono (by decide),fun xs G Q q=>by rw [nY] at q; exact q⟩,X.qw,X.qu.kp,by decide +kernel⟩,vD X⟩),(fun hm=>absurd hm (by decide +kernel))⟩) (an),an,an,an,ac (.inl ⟨"NoShade",_,_,_,"ShadeError","light",by rw [show (Ew K a f0 z0).cls "NoShade"=a 62 from dZ]; exact X.qz72,by rw [show (Ew K a f0 z0).cls "NoShade"=a 62 from dZ]; exact X.qz62,by rw [show (Ew K a f0 z0).cls "NoShade"=a 62 from dZ]; exact (GN X).mono (by decide),nE X,fun xs G Q q=>by rw [sK] at q; exact q⟩) (an),an,an⟩
theorem lH (X:Tx K mg a d v):FOX P w K mg base a d 44 11 f0 z0 ["thing"] eF bF:=by
 unfold FOX;exact iZ (T:=T (fun _ _ _ _=>False)) X.qy xR (ck X) (fun x f z=>wU (f0:=f) (z0:=z) (y:=x) X) xJ (xo X) rfl (fun _=>by decide) (fun z=>by cases z) (by walk_at "sl") (by walk_at "sl") (sX (T:=T (fun _ _ _ _=>False)) (fun x=>(JX:P18 (T x))))
theorem xH (X:Tx K mg a d v):FO P w K mg base a d 44 11 f0 z0 y ["thing"] "need_shade":=by
 unfold FO;rw [rB];exact fQ (lH X)
theorem DA (X:Tx K mg a d v):Gf P w K mg base (Ew K a f0 z0) (T y) 44 C_shares_of :=
 ⟨ac (⟨_,_,_,⟨(xH X).mono (by decide),X.qz,X.qy.kp,by decide +kernel⟩,nO X⟩) (an),an,an,an,an,an,an,an,an,an,an,an,an,an,an,fun _ _=>rfl,ac (⟨(fun _=>⟨_,_,_,⟨⟨_,_,(lH X).mono (by decide),fun xs G Q q=>by rw [kH] at q; exact q⟩,X.qz,X.qy.kp,by decide +kernel⟩,nO X⟩),(fun hm=>absurd hm (by decide +kernel))⟩) (an),an,an,an,an,an,an⟩
theorem mK (X:Tx K mg a d v):FOX P w K mg base a d 46 12 f0 z0 ["shade"] aX bF:=by
 unfold FOX;exact iZ (T:=T (fun _ _ _ _=>False)) X.qA BK (ck X) (fun x f z=>DA (f0:=f) (z0:=z) (y:=x) X) CZ (xo X) rfl (fun _=>by decide) (fun z=>by cases z) (by walk_at "sl") (by walk_at "sl") (uV (T:=T (fun _ _ _ _=>False)) (fun x=>(hPT:PT (T x))) (fun x=>(JX:P18 (T x))))
theorem oE (X:Tx K mg a d v):FO P w K mg base a d 46 12 f0 z0 y ["shade"] "shares_of":=by
 unfold FO;rw [sL];exact fQ (mK X)
theorem aC1 (X:Tx K mg a d v):Gf P w K mg base (Ew K a f0 z0) (T y) 40 C_less :=
 ⟨an,an,an,an,an,an,an,an,an,an,an,an,an,an,an,an,an,an,an,an,an,an,an⟩
theorem aDN (X:Tx K mg a d v):FO P w K mg base a d 42 13 f0 z0 y ["one","other"] "less":=by
 rw [FO,UR]; exact bG (T:=T y) X.qC aCL (ck X) (aC1 X) aBs (xo X) (Tf.no rfl) rfl (fun _=>by decide) (fun z=>by cases z) (by walk_at "sl") (aGZ )
theorem YV (X:Tx K mg a d v):Gf P w K mg base (Ew K a f0 z0) (T y) 46 C_below :=
 ⟨ac (⟨_,_,_,⟨(aDN X).mono (by decide),X.qD,X.qC.kp,by decide +kernel⟩,aIm X⟩) (ac (bL X (by decide)) (an)),an,an,an,an,an,an,an,an,an,an,an,an,an,an,an,an,an,an,an,an,an,an⟩
theorem FN (X:Tx K mg a d v):FO P w K mg base a d 48 14 f0 z0 y ["one","other"] "below":=by
 rw [FO,OB]; exact bG (T:=T y) X.qE aA3 (ck X) (YV X) aAT (xo X) (Tf.no rfl) rfl (fun _=>by decide) (fun z=>by cases z) (by walk_at "sl") (aBz hPT WS)
theorem UT (X:Tx K mg a d v):Gf P w K mg base (Ew K a f0 z0) (T y) 48 C_falls :=
 ⟨ac (⟨_,_,_,⟨(FN X).mono (by decide),X.qF,X.qE.kp,by decide +kernel⟩,OC X⟩) (an),an,an,an,an,an,an,an,an,an,an,an,an,an,an,an,an,an,an,an,an,an,an⟩
theorem VR (X:Tx K mg a d v):FO P w K mg base a d 50 15 f0 z0 y ["shares","stretch"] "falls":=by
 rw [FO,LS]; exact bG (T:=T y) X.qG YL (ck X) (UT X) SY (xo X) (Tf.no rfl) rfl (fun _=>by decide) (fun z=>by cases z) (by walk_at "sl") (aBk hPT)
theorem xI (X:Tx K mg a d v):Gf P w K mg base (Ew K a f0 z0) (T y) 50 C_stretch_of :=
 ⟨ac (⟨_,_,_,⟨(VR X).mono (by decide),X.qH,X.qG.kp,by decide +kernel⟩,aC7 X⟩) (an),an,an,an,ac (by obtain ⟨b,b0,b1,b2,b3,b4,b5,n,sl,h,l,h0,h1,h2,h3,h4,h5⟩:=X.qz173; rw [lC]; exact NO (vs:=[.ref b0,.ref b1,.ref b2,.ref b3,.ref b4,.ref b5]) rfl h l (.cons rfl (.cons rfl (.cons rfl (.cons rfl (.cons rfl (.cons rfl .nil)))))) (show 6≤sizeLine by decide) ⟨_,_,rfl,iO.rp (ns:=[0,2,1,0,1]) rfl h0 (show 5≤sizeLine by decide),⟨_,_,rfl,iO.rp (ns:=[1,2,0,2,-1]) rfl h1 (show 5≤sizeLine by decide),⟨_,_,rfl,iO.rp (ns:=[1,0,2,2,1]) rfl h2 (show 5≤sizeLine by decide),⟨_,_,rfl,iO.rp (ns:=[2,0,1,4,-1]) rfl h3 (show 5≤sizeLine by decide),⟨_,_,rfl,iO.rp (ns:=[2,1,0,4,1]) rfl h4 (show 5≤sizeLine by decide),⟨_,_,rfl,iO.rp (ns:=[0,1,2,6,-1]) rfl h5 (show 5≤sizeLine by decide),rfl⟩⟩⟩⟩⟩⟩) (an),an,an,an,an,an,an,an,an,an,an,an,an,an,an,an,an,an,an⟩
theorem wX (X:Tx K mg a d v):FO P w K mg base a d 52 16 f0 z0 y ["shares"] "stretch_of":=by
 rw [FO,nX]; exact bG (T:=T y) X.qI wW (ck X) (xI X) yA (xo X) (Tf.no rfl) rfl (fun _=>by decide) (fun z=>by cases z) (by walk_at "sl") (CU WS)
theorem aAV (X:Tx K mg a d v):Gf P w K mg base (Ew K a f0 z0) (T y) 46 C_times :=
 ⟨ac (lR X (by decide)) (ac (bL X (by decide)) (an)),an,an,an,an,an,an,an,an,an,an,an,an,an,an,an,an,an,an,an,an,an,an⟩
theorem EK (X:Tx K mg a d v):FO P w K mg base a d 48 17 f0 z0 y ["one","other"] "times":=by
 rw [FO,MD]; exact bG (T:=T y) X.qK UP (ck X) (aAV X) ZX (xo X) (Tf.no rfl) rfl (fun _=>by decide) (fun z=>by cases z) (by walk_at "sl") (aDn hPT)
theorem FI (X:Tx K mg a d v):Gf P w K mg base (Ew K a f0 z0) (T y) 52 C_wheel_of :=
 ⟨ac (⟨_,_,_,⟨(DR X).mono (by decide),X.qo,X.qm.kp,by decide +kernel⟩,MM X⟩) (ac (⟨_,_,_,⟨(aBJ X).mono (by decide),X.qq,X.qp.kp,by decide +kernel⟩,aGU X⟩) (ac (⟨_,_,_,⟨(CA X).mono (by decide),X.qt,X.qr.kp,by decide +kernel⟩,JV X⟩) (ac (⟨_,_,_,⟨(oE X).mono (by decide),X.qB,X.qA.kp,by decide +kernel⟩,kK X⟩) (ac (⟨_,_,_,⟨(wX X).mono (by decide),X.qJ,X.qI.kp,by decide +kernel⟩,CL X⟩) (ac (⟨_,_,_,⟨(EK X).mono (by decide),X.qL,X.qK.kp,by decide +kernel⟩,LY X⟩) (an)))))),an,an,an,ac (by obtain ⟨b,t0,t1,n,sl,h,l⟩:=X.qz172; rw [MJ]; exact CP (CM rfl h l) (by first | rfl | exact jT.symm)) (an),an,an,an,an,an,an,an,an,an,an,fun _ _=>rfl,ac (⟨(fun _=>⟨_,_,_,⟨⟨_,_,(mK X).mono (by decide),fun xs G Q q=>by rw [mH] at q; exact q⟩,X.qB,X.qA.kp,by decide +kernel⟩,kK X⟩),(fun hm=>absurd hm (by decide +kernel))⟩) (an),an,an,an,an,an,an⟩
theorem pH (X:Tx K mg a d v):FOX P w K mg base a d 54 18 f0 z0 ["shade"] fN bF:=by
 unfold FOX;exact iZ (T:=T (fun _ _ _ _=>False)) X.qM FA (ck X) (fun x f z=>FI (f0:=f) (z0:=z) (y:=x) X) GQ (xo X) rfl (fun _=>by decide) (fun z=>by cases z) (by walk_at "sl") (by walk_at "sl") (yH (T:=T (fun _ _ _ _=>False)) (fun x=>(hPT:PT (T x))) (fun x=>(WS:L17 (T x))) (fun x=>(JX:P18 (T x))))
theorem sD (X:Tx K mg a d v):FO P w K mg base a d 54 18 f0 z0 y ["shade"] "wheel_of":=by
 unfold FO;rw [vB];exact fQ (pH X)
theorem JL (X:Tx K mg a d v):Gf P w K mg base (Ew K a f0 z0) (T y) 54 C_l_asked :=
 ⟨ac (fR X (by decide)) (ac (⟨_,_,_,⟨(sD X).mono (by decide),X.qN,X.qM.kp,by decide +kernel⟩,nH X⟩) (an)),an,an,an,an,an,an,an,an,an,an,an,an,an,an,an,an,an,an,an,an,an,an⟩
theorem GR (X:Tx K mg a d v):Gf P w K mg base (Ew K a f0 z0) (T y) 54 C_l_asked.inT :=
 ⟨ac (fR X (by decide)) (ac (⟨_,_,_,⟨(sD X).mono (by decide),X.qN,X.qM.kp,by decide +kernel⟩,nH X⟩) (an)),an,an,an,an,an,an,an,an,an,an,an,an,an,an,fun _ _=>rfl,ac (⟨(fun _=>⟨_,_,_,⟨⟨_,_,(pH X).mono (by decide),fun xs G Q q=>by rw [oO] at q; exact q⟩,X.qN,X.qM.kp,by decide +kernel⟩,nH X⟩),(fun hm=>absurd hm (by decide +kernel))⟩) (an),an,an,an,an,an,an⟩
theorem GF (X:Tx K mg a d v):Gf P w K mg base (Ew K a f0 z0) (T y) 2 C_l_asked.inH :=
 ⟨ac (fR X (by decide)) (an),an,an,an,an,an,an,an,an,an,an,an,an,an,an,an,an,an,an,an,an,an,an⟩
theorem GB (X:Tx K mg a d v):aAR K mg (Ew K a f0 z0) C_l_asked.cat C_l_asked.cln:=⟨[a 70],ac (X.qz70) (an),rfl,ac (X.qz167) (an),X.qz168,ac (by rw [show (Ew K a f0 z0).cls "NoShade"=a 62 from dZ]; exact X.qz170) (an)⟩
theorem IB (X:Tx K mg a d v):FO P w K mg base a d 56 19 f0 z0 y ["_law_thing"] "_law_asked":=by
 rw [FO,zO]; exact bG (T:=T y) X.qO IU (ck X) (JL X) KZ (xo X) (⟨fun _ x f z=>GR (f0:=f) (z0:=z) (y:=x) X,fun _=>GB X,(fun _ _=>⟨2,by decide,by decide,GF X⟩)⟩) rfl (fun _=>by decide) (fun z=>by cases z) (by walk_at "sl") (AJ (fun x=>(aHI:Q18 (T x))) ZW)
theorem OS (X:Tx K mg a d v):Gf P w K mg base (Ew K a f0 z0) (T y) 40 C_l_cell :=
 ⟨an,an,an,an,an,an,ac (X.qz183) (an),an,an,an,an,an,an,an,an,an,an,an,an,an,an,an,an⟩
theorem QF (X:Tx K mg a d v):FO P w K mg base a d 42 20 f0 z0 y ["_law_script","_law_k"] "_law_cell":=by
 rw [FO,GU]; exact bG (T:=T y) X.qQ RF (ck X) (OS X) PC (xo X) (Tf.no rfl) rfl (fun _=>by decide) (fun z=>by cases z) (by walk_at "sl") (WL )
theorem EB (X:Tx K mg a d v):Gf P w K mg base (Ew K a f0 z0) (T y) 44 C_is_share :=
 ⟨ac (⟨_,_,_,⟨(gP X).mono (by decide),X.qj,X.qi.kp,by decide +kernel⟩,eZ X⟩) (an),an,an,an,an,an,an,an,an,an,an,an,an,an,an,an,an,an,an,an,an,an,an⟩
theorem DQ (X:Tx K mg a d v):FO P w K mg base a d 46 21 f0 z0 y ["thing"] "is_share":=by
 rw [FO,uL]; exact bG (T:=T y) X.qS HA (ck X) (EB X) HB (xo X) (Tf.no rfl) rfl (fun _=>by decide) (fun z=>by cases z) (by walk_at "sl") (IJ hPT)
theorem rA (X:Tx K mg a d v):Gf P w K mg base (Ew K a f0 z0) (T y) 46 C_Shade___init__ :=
 ⟨ac (⟨_,_,_,⟨(DQ X).mono (by decide),X.qT,X.qS.kp,by decide +kernel⟩,LC X⟩) (an),an,an,an,an,an,ac (X.qz180) (an),an,an,an,an,an,an,an,an,an,an,an,an,an,an,an,an⟩
theorem gW (X:Tx K mg a d v):FO P w K mg base a d 48 22 f0 z0 y ["self","ember","leaf","sky"] "Shade.__init__":=by
 rw [FO,iM]; exact bG (T:=T y) X.qU pQ (ck X) (rA X) nR (xo X) (Tf.no rfl) rfl (fun _=>by decide) (fun z=>by cases z) (by walk_at "sl") (rO hPT)
theorem uF (X:Tx K mg a d v):Gf P w K mg base (Ew K a f0 z0) (T y) 48 C_l_no_shades :=
 ⟨an,ac (⟨"Shade","Shade.__init__",_,_,_,⟨by rw [show (Ew K a f0 z0).cls "Shade"=a 44 from aU]; exact X.qz38,(gW X).mono (by decide),by rw [show (Ew K a f0 z0).cls "Shade"=a 44 from aU]; exact X.qz37,DX hPT,by decide +kernel⟩,iL X⟩) (an),an,an,ac (by rw [pY]; exact AI X.qz37 aU) (an),ac (⟨X.qz184,⟨"list",PyProof.Rows.boot_list,YK⟩,by decide +kernel⟩) (an),ac (X.qz184) (an),an,an,an,an,an,an,an,an,an,an,an,an,an,an,an,an⟩
theorem tQ (X:Tx K mg a d v):FO P w K mg base a d 50 23 f0 z0 y ["_law_row"] "_law_no_shades":=by
 rw [FO,mG]; exact bG (T:=T y) X.qV wH (ck X) (uF X) wB (xo X) (Tf.no rfl) rfl (fun _=>by decide) (fun z=>by cases z) (by walk_at "sl") (xX hPT)
theorem QY (X:Tx K mg a d v):Gf P w K mg base (Ew K a f0 z0) (T y) 40 C_l_pick :=
 ⟨an,an,an,an,an,an,an,an,an,an,an,an,an,an,an,an,an,an,an,an,an,an,an⟩
theorem RX (X:Tx K mg a d v):FO P w K mg base a d 42 24 f0 z0 y ["_law_purse_here","_law_many"] "_law_pick":=by
 rw [FO,GD]; exact bG (T:=T y) X.qX RZ (ck X) (QY X) OX (xo X) (Tf.no rfl) rfl (fun _=>by decide) (fun z=>by cases z) (by walk_at "sl") (WH )
theorem eA (X:Tx K mg a d v) {k:Nat} (h:42≤k):∃ ad fd ps,Fk P w K mg base (Ew K a f0 z0) (T y) k "_law_pick" ad fd ps∧L2.aJ K fd ps []:=⟨_,_,_,⟨(RX X).mono h,X.qY,X.qX.kp,by decide +kernel⟩,VG X⟩
theorem yF (X:Tx K mg a d v):Gf P w K mg base (Ew K a f0 z0) (T y) 42 C_l_bad_part :=
 ⟨ac (eA X (by decide)) (an),an,an,an,an,an,ac (X.qz183) (an),an,an,an,an,an,an,an,an,an,an,an,an,an,an,an,an⟩
theorem xL (X:Tx K mg a d v):FO P w K mg base a d 44 25 f0 z0 y ["_law_purse_here"] "_law_bad_part":=by
 rw [FO,nS]; exact bG (T:=T y) X.qZ yE (ck X) (yF X) xO (xo X) (Tf.no rfl) rfl (fun _=>by decide) (fun z=>by cases z) (by walk_at "sl") (CI hLT)
theorem wV (X:Tx K mg a d v):Gf P w K mg base (Ew K a f0 z0) (T y) 42 C_l_bad_turn :=
 ⟨ac (eA X (by decide)) (an),an,an,an,an,an,ac (X.qz183) (an),an,an,an,an,an,an,an,an,an,an,an,an,an,an,an,an⟩
theorem yI (X:Tx K mg a d v):FO P w K mg base a d 44 26 f0 z0 y ["_law_purse_here"] "_law_bad_turn":=by
 rw [FO,oV]; exact bG (T:=T y) X.qz2 xF (ck X) (wV X) xA (xo X) (Tf.no rfl) rfl (fun _=>by decide) (fun z=>by cases z) (by walk_at "sl") (BQ hLT)
theorem WU (X:Tx K mg a d v):Gf P w K mg base (Ew K a f0 z0) (T y) 80 C_l_odd :=
 ⟨ac (⟨_,_,_,⟨(xL X).mono (by decide),X.qz1,X.qZ.kp,by decide +kernel⟩,AE X⟩) (ac (⟨_,_,_,⟨(yI X).mono (by decide),X.qz3,X.qz2.kp,by decide +kernel⟩,BO X⟩) (ac (eA X (by decide)) (an))),an,an,an,an,an,ac (X.qz187) (ac (X.qz188) (an)),an,an,an,an,an,an,an,an,an,an,an,an,an,an,an,an⟩
theorem aAw (X:Tx K mg a d v):FO P w K mg base a d 82 27 f0 z0 y ["_law_purse_here","_law_pale","_law_murk","_law_bend"] "_law_odd":=by
 rw [FO,MO]; exact bG (T:=T y) X.qz4 UA (ck X) (WU X) WV (xo X) (Tf.no rfl) rfl (fun _=>by decide) (fun _=>by decide) (by walk_at "sl") (aDj hLT ZW)
theorem JC (X:Tx K mg a d v):Gf P w K mg base (Ew K a f0 z0) (T y) 40 C_l_purse :=
 ⟨an,an,an,an,an,ac (⟨X.qz181,⟨"int",PyProof.Rows.boot_int,MV⟩,by decide +kernel⟩) (an),ac (X.qz181) (an),an,an,an,an,an,an,an,an,an,an,an,an,an,an,an,an⟩
theorem IN (X:Tx K mg a d v):FO P w K mg base a d 42 28 f0 z0 y ["_law_cell_here"] "_law_purse":=by
 rw [FO,zG]; exact bG (T:=T y) X.qz6 KO (ck X) (JC X) IF (xo X) (Tf.no rfl) rfl (fun _=>by decide) (fun z=>by cases z) (by walk_at "sl") (OL )
theorem aAJ (X:Tx K mg a d v):Gf P w K mg base (Ew K a f0 z0) (T y) 40 C_l_low :=
 ⟨an,an,an,an,an,an,ac (X.qz177) (an),an,an,an,an,an,an,an,an,an,an,an,an,an,an,an,an⟩
theorem YR (X:Tx K mg a d v):FO P w K mg base a d 42 29 f0 z0 y ["_law_top","_law_bottom"] "_law_low":=by
 rw [FO,NC]; exact bG (T:=T y) X.qz8 aAx (ck X) (aAJ X) aAY (xo X) (Tf.no rfl) rfl (fun _=>by decide) (fun z=>by cases z) (by walk_at "sl") (aBq )
theorem pR (X:Tx K mg a d v) {k:Nat} (h:42≤k):∃ ad fd ps,Fk P w K mg base (Ew K a f0 z0) (T y) k "_law_low" ad fd ps∧L2.aJ K fd ps []:=⟨_,_,_,⟨(YR X).mono h,X.qz9,X.qz8.kp,by decide +kernel⟩,aDk X⟩
theorem KR (X:Tx K mg a d v):Gf P w K mg base (Ew K a f0 z0) (T y) 42 C_l_share :=
 ⟨ac (pR X (by decide)) (ac (eA X (by decide)) (an)),an,an,an,an,an,an,an,an,an,an,an,an,an,an,an,an,an,an,an,an,an,an⟩
theorem wQ (X:Tx K mg a d v):FO P w K mg base a d 44 30 f0 z0 y ["_law_purse_here"] "_law_share":=by
 rw [FO,zA]; exact bG (T:=T y) X.qz10 KJ (ck X) (KR X) KL (xo X) (Tf.no rfl) rfl (fun _=>by decide) (fun z=>by cases z) (by walk_at "sl") (OY hLT)
theorem FV (X:Tx K mg a d v):Gf P w K mg base (Ew K a f0 z0) (T y) 44 C_l_shares :=
 ⟨ac (eA X (by decide)) (ac (⟨_,_,_,⟨(wQ X).mono (by decide),X.qz11,X.qz10.kp,by decide +kernel⟩,yN X⟩) (an)),an,an,an,an,ac (⟨X.qz189,⟨"tuple",PyProof.Rows.boot_tuple,CJ⟩,by decide +kernel⟩) (an),ac (X.qz187) (ac (X.qz189) (an)),an,an,an,an,an,an,an,an,an,an,an,an,an,an,an,an⟩
theorem DY (X:Tx K mg a d v):FO P w K mg base a d 46 31 f0 z0 y ["_law_purse_here"] "_law_shares":=by
 rw [FO,tS]; exact bG (T:=T y) X.qz12 DM (ck X) (FV X) GA (xo X) (Tf.no rfl) rfl (fun _=>by decide) (fun z=>by cases z) (by walk_at "sl") (xZ hLT)
theorem CW (X:Tx K mg a d v):Gf P w K mg base (Ew K a f0 z0) (T y) 44 C_is_from_0 :=
 ⟨ac (⟨_,_,_,⟨(gP X).mono (by decide),X.qj,X.qi.kp,by decide +kernel⟩,eZ X⟩) (an),an,an,an,an,an,an,an,an,an,an,an,an,an,an,fun _ _=>rfl,ac (⟨(fun _=>⟨_,_,_,⟨⟨_,_,(kF X).mono (by decide),fun xs G Q q=>by rw [kC] at q; exact q⟩,X.qj,X.qi.kp,by decide +kernel⟩,eZ X⟩),(fun hm=>absurd hm (by decide +kernel))⟩) (an),an,an,an,an,an,an⟩
theorem iE (X:Tx K mg a d v):FOX P w K mg base a d 46 32 f0 z0 ["thing"] rC xNo:=by
 unfold FOX;exact iZ (T:=T (fun _ _ _ _=>False)) X.qz14 BX (ck X) (fun x f z=>CW (f0:=f) (z0:=z) (y:=x) X) CQ (xo X) rfl (fun _=>by decide) (fun z=>by cases z) (by walk_at "sl") (by walk_at "sl") (wD (T:=T (fun _ _ _ _=>False)) (fun x=>(JX:P18 (T x))))
theorem oY (X:Tx K mg a d v):FO P w K mg base a d 46 32 f0 z0 y ["thing"] "is_from_0":=by
 unfold FO;rw [sE];exact (fQ (iE X)).imp fun vs H Q E h=>pT aCa h
theorem CC (X:Tx K mg a d v):Gf P w K mg base (Ew K a f0 z0) (T y) 48 C_need_turn :=
 ⟨ac (⟨_,_,_,⟨(FN X).mono (by decide),X.qF,X.qE.kp,by decide +kernel⟩,OC X⟩) (ac (⟨_,_,_,⟨(oY X).mono (by decide),X.qz15,X.qz14.kp,by decide +kernel⟩,gY X⟩) (ac (⟨_,_,_,⟨(CA X).mono (by decide),X.qt,X.qr.kp,by decide +kernel⟩,JV X⟩) (an))),an,an,an,ac (by obtain ⟨b,t0,t1,n,sl,h,l⟩:=X.qz172; rw [MJ]; exact CP (CM rfl h l) (by first | rfl | exact jT.symm)) (an),an,an,an,an,an,an,an,an,an,an,fun _ _=>rfl,ac (⟨(fun _=>⟨_,_,_,⟨⟨_,_,(iE X).mono (by decide),fun xs G Q q=>by rw [hW] at q; exact q⟩,X.qz15,X.qz14.kp,by decide +kernel⟩,gY X⟩),(fun hm=>absurd hm (by decide +kernel))⟩) (an),an,an,an,ac (.inl ⟨"NoTurn",_,_,_,"ShadeError","part",by rw [show (Ew K a f0 z0).cls "NoTurn"=a 65 from eL]; exact X.qz73,by rw [show (Ew K a f0 z0).cls "NoTurn"=a 65 from eL]; exact X.qz65,by rw [show (Ew K a f0 z0).cls "NoTurn"=a 65 from eL]; exact (KP X).mono (by decide),nP X,fun xs G Q q=>by rw [vH] at q; exact q⟩) (an),an,an⟩
theorem mI (X:Tx K mg a d v):FOX P w K mg base a d 50 34 f0 z0 ["white","black","turn"] fO hZ:=by
 unfold FOX;exact iZ (T:=T (fun _ _ _ _=>False)) X.qz17 CO (ck X) (fun x f z=>CC (f0:=f) (z0:=z) (y:=x) X) CV (xo X) rfl (fun _=>by decide) (fun z=>by cases z) (by walk_at "sl") (by walk_at "sl") (vG (T:=T (fun _ _ _ _=>False)) (fun x=>(hPT:PT (T x))) (fun x=>(JX:P18 (T x))))
theorem AN (X:Tx K mg a d v):FO P w K mg base a d 50 34 f0 z0 y ["white","black","turn"] "need_turn":=by
 unfold FO;rw [sH];exact fQ (mI X)
theorem EA (X:Tx K mg a d v):Gf P w K mg base (Ew K a f0 z0) (T y) 50 C_by_wheel :=
 ⟨ac (⟨_,_,_,⟨(oY X).mono (by decide),X.qz15,X.qz14.kp,by decide +kernel⟩,gY X⟩) (ac (⟨_,_,_,⟨(DR X).mono (by decide),X.qo,X.qm.kp,by decide +kernel⟩,MM X⟩) (ac (⟨_,_,_,⟨(AN X).mono (by decide),X.qz18,X.qz17.kp,by decide +kernel⟩,sF X⟩) (ac (⟨_,_,_,⟨(CA X).mono (by decide),X.qt,X.qr.kp,by decide +kernel⟩,JV X⟩) (ac (⟨_,_,_,⟨(EK X).mono (by decide),X.qL,X.qK.kp,by decide +kernel⟩,LY X⟩) (an))))),ac (⟨"Shade","Shade.__init__",_,_,_,⟨by rw [show (Ew K a f0 z0).cls "Shade"=a 44 from aU]; exact X.qz38,(gW X).mono (by decide),by rw [show (Ew K a f0 z0).cls "Shade"=a 44 from aU]; exact X.qz37,DX hPT,by decide +kernel⟩,iL X⟩) (an),an,an,ac (by obtain ⟨b,t0,t1,n,sl,h,l⟩:=X.qz172; rw [MJ]; exact CP (CM rfl h l) (by first | rfl | exact jT.symm)) (ac (by obtain ⟨b,b0,b1,b2,b3,b4,b5,n,sl,h,l,h0,h1,h2,h3,h4,h5⟩:=X.qz173; rw [lC]; exact NO (vs:=[.ref b0,.ref b1,.ref b2,.ref b3,.ref b4,.ref b5]) rfl h l (.cons rfl (.cons rfl (.cons rfl (.cons rfl (.cons rfl (.cons rfl .nil)))))) (show 6≤sizeLine by decide) ⟨_,_,rfl,iO.rp (ns:=[0,2,1,0,1]) rfl h0 (show 5≤sizeLine by decide),⟨_,_,rfl,iO.rp (ns:=[1,2,0,2,-1]) rfl h1 (show 5≤sizeLine by decide),⟨_,_,rfl,iO.rp (ns:=[1,0,2,2,1]) rfl h2 (show 5≤sizeLine by decide),⟨_,_,rfl,iO.rp (ns:=[2,0,1,4,-1]) rfl h3 (show 5≤sizeLine by decide),⟨_,_,rfl,iO.rp (ns:=[2,1,0,4,1]) rfl h4 (show 5≤sizeLine by decide),⟨_,_,rfl,iO.rp (ns:=[0,1,2,6,-1]) rfl h5 (show 5≤sizeLine by decide),rfl⟩⟩⟩⟩⟩⟩) (ac (by rw [pY]; exact AI X.qz37 aU) (an))),an,an,an,an,an,an,an,an,an,an,fun _ _=>rfl,ac (⟨(fun _=>⟨_,_,_,⟨⟨_,_,(iE X).mono (by decide),fun xs G Q q=>by rw [hW] at q; exact q⟩,X.qz15,X.qz14.kp,by decide +kernel⟩,gY X⟩),(fun hm=>absurd hm (by decide +kernel))⟩) (ac (⟨(fun _=>⟨_,_,_,⟨⟨_,_,(mI X).mono (by decide),fun xs G Q q=>by rw [mQ] at q; exact q⟩,X.qz18,X.qz17.kp,by decide +kernel⟩,sF X⟩),(fun hm=>absurd hm (by decide +kernel))⟩) (an)),an,an,an,ac (.inl ⟨"NoPart",_,_,_,"ShadeError","part",by rw [show (Ew K a f0 z0).cls "NoPart"=a 59 from eT]; exact X.qz71,by rw [show (Ew K a f0 z0).cls "NoPart"=a 59 from eT]; exact X.qz59,by rw [show (Ew K a f0 z0).cls "NoPart"=a 59 from eT]; exact (HJ X).mono (by decide),pE X,fun xs G Q q=>by rw [wG] at q; exact q⟩) (an),an,an⟩
theorem jO (X:Tx K mg a d v):FOX P w K mg base a d 52 36 f0 z0 ["white","black","turn"] nZ yD:=by
 unfold FOX;exact iZ (T:=T (fun _ _ _ _=>False)) X.qz20 GI (ck X) (fun x f z=>EA (f0:=f) (z0:=z) (y:=x) X) DV (xo X) rfl (fun _=>by decide) (fun z=>by cases z) (by walk_at "sl") (by walk_at "sl") (wS (T:=T (fun _ _ _ _=>False)) (fun x=>(hPT:PT (T x))) (fun x=>(WS:L17 (T x))) (fun x=>(JX:P18 (T x))) (fun x=>(aHI:Q18 (T x))))
theorem fB (X:Tx K mg a d v):FO P w K mg base a d 52 36 f0 z0 y ["white","black","turn"] "by_wheel":=by
 unfold FO;rw [wN];exact fQ (jO X)
theorem IL (X:Tx K mg a d v):Gf P w K mg base (Ew K a f0 z0) (T y) 80 C_l_tried :=
 ⟨ac (fR X (by decide)) (ac (⟨_,_,_,⟨(fB X).mono (by decide),X.qz22,X.qz20.kp,by decide +kernel⟩,jJ X⟩) (an)),an,ac (⟨_,_,_,⟨(fB X).mono (by decide),X.qz22,X.qz20.kp,by decide +kernel⟩,aW X⟩) (an),an,an,an,ac (X.qz188) (an),an,an,an,an,an,an,an,an,an,an,ac (an) (an),an,an,an,an,an⟩
theorem DJ (X:Tx K mg a d v):Gf P w K mg base (Ew K a f0 z0) (T y) 80 C_l_tried.inT :=
 ⟨ac (fR X (by decide)) (ac (⟨_,_,_,⟨(fB X).mono (by decide),X.qz22,X.qz20.kp,by decide +kernel⟩,jJ X⟩) (an)),an,ac (⟨_,_,_,⟨(fB X).mono (by decide),X.qz22,X.qz20.kp,by decide +kernel⟩,aW X⟩) (an),an,an,an,ac (X.qz188) (an),an,an,an,an,an,an,an,an,fun _ _=>rfl,ac (⟨(fun _=>⟨_,_,_,⟨⟨_,_,(jO X).mono (by decide),fun xs G Q q=>by rw [jU] at q; exact q⟩,X.qz22,X.qz20.kp,by decide +kernel⟩,jJ X⟩),(fun hm=>absurd hm (by decide +kernel))⟩) (an),ac (ac (fun _=>⟨_,_,_,⟨⟨_,_,(jO X).mono (by decide),fun xs G Q q=>by rw [jU] at q; exact q⟩,X.qz22,X.qz20.kp,by decide +kernel⟩,aW X⟩) (an)) (an),an,an,an,an,an⟩
theorem DP (X:Tx K mg a d v):Gf P w K mg base (Ew K a f0 z0) (T y) 2 C_l_tried.inH :=
 ⟨ac (fR X (by decide)) (an),an,an,an,an,an,ac (X.qz188) (an),an,an,an,an,an,an,an,an,an,an,an,an,an,an,an,an⟩
theorem GK (X:Tx K mg a d v):aAR K mg (Ew K a f0 z0) C_l_tried.cat C_l_tried.cln:=⟨[a 70],ac (X.qz70) (an),rfl,ac (X.qz167) (an),X.qz168,ac (by rw [show (Ew K a f0 z0).cls "NoPart"=a 59 from eT]; exact X.qz169) (ac (by rw [show (Ew K a f0 z0).cls "NoTurn"=a 65 from eL]; exact X.qz171) (an))⟩
theorem KS (X:Tx K mg a d v):FO P w K mg base a d 82 37 f0 z0 y ["_law_way","_law_pale","_law_murk","_law_bend"] "_law_tried":=by
 rw [FO,zZ]; exact bG (T:=T y) X.qz23 HH (ck X) (IL X) KY (xo X) (⟨fun _ x f z=>DJ (f0:=f) (z0:=z) (y:=x) X,fun _=>GK X,(fun _ _=>⟨2,by decide,by decide,DP X⟩)⟩) rfl (fun _=>by decide) (fun _=>by decide) (by walk_at "sl") (BL (fun x=>(aHI:Q18 (T x))) ZW)
theorem HI (X:Tx K mg a d v):Gf P w K mg base (Ew K a f0 z0) (T y) 42 C_l_minus :=
 ⟨ac (pR X (by decide)) (an),an,an,an,an,an,an,an,an,an,an,an,an,an,an,an,an,an,an,an,an,an,an⟩
theorem tY (X:Tx K mg a d v):FO P w K mg base a d 44 38 f0 z0 y ["_law_a","_law_b"] "_law_minus":=by
 rw [FO,zU]; exact bG (T:=T y) X.qz25 IV (ck X) (HI X) HM (xo X) (Tf.no rfl) rfl (fun _=>by decide) (fun z=>by cases z) (by walk_at "sl") (OP hLT)
theorem JP (X:Tx K mg a d v):Gf P w K mg base (Ew K a f0 z0) (T y) 42 C_l_times :=
 ⟨ac (pR X (by decide)) (an),an,an,an,an,an,an,an,an,an,an,an,an,an,an,an,an,an,an,an,an,an,an⟩
theorem LG (X:Tx K mg a d v):FO P w K mg base a d 44 39 f0 z0 y ["_law_a","_law_b"] "_law_times":=by
 rw [FO,yM]; exact bG (T:=T y) X.qz27 KI (ck X) (JP X) JR (xo X) (Tf.no rfl) rfl (fun _=>by decide) (fun z=>by cases z) (by walk_at "sl") (SN hLT)
theorem xS (X:Tx K mg a d v):Gf P w K mg base (Ew K a f0 z0) (T y) 44 C_l_turn_row :=
 ⟨ac (pR X (by decide)) (ac (⟨_,_,_,⟨(tY X).mono (by decide),X.qz26,X.qz25.kp,by decide +kernel⟩,zI X⟩) (ac (eA X (by decide)) (ac (⟨_,_,_,⟨(wQ X).mono (by decide),X.qz11,X.qz10.kp,by decide +kernel⟩,yN X⟩) (ac (⟨_,_,_,⟨(LG X).mono (by decide),X.qz28,X.qz27.kp,by decide +kernel⟩,QJ X⟩) (an))))),an,an,an,an,ac (⟨X.qz181,⟨"int",PyProof.Rows.boot_int,MV⟩,by decide +kernel⟩) (an),ac (X.qz181) (an),an,an,an,an,an,an,an,an,an,an,an,an,an,an,an,an⟩
theorem xG (X:Tx K mg a d v):FO P w K mg base a d 46 40 f0 z0 y ["_law_purse_here"] "_law_turn_row":=by
 rw [FO,oH]; exact bG (T:=T y) X.qz29 xD (ck X) (xS X) yG (xo X) (Tf.no rfl) rfl (fun _=>by decide) (fun z=>by cases z) (by walk_at "sl") (AV hLT)
theorem JM (X:Tx K mg a d v):Gf P w K mg base (Ew K a f0 z0) (T y) 44 C_l_unfit :=
 ⟨ac (⟨_,_,_,⟨(tY X).mono (by decide),X.qz26,X.qz25.kp,by decide +kernel⟩,zI X⟩) (ac (eA X (by decide)) (an)),an,an,an,an,an,an,an,an,an,an,an,an,an,an,an,an,an,an,an,an,an,an⟩
theorem JF (X:Tx K mg a d v):FO P w K mg base a d 46 41 f0 z0 y ["_law_purse_here","_law_pale","_law_murk","_law_bend"] "_law_unfit":=by
 rw [FO,zX]; exact bG (T:=T y) X.qz31 LI (ck X) (JM X) IM (xo X) (Tf.no rfl) rfl (fun _=>by decide) (fun z=>by cases z) (by walk_at "sl") (RT hLT)
theorem tE (X:Tx K mg a d v):Gf P w K mg base (Ew K a f0 z0) (T y) 46 C_Shade___eq__ :=
 ⟨ac (⟨_,_,_,⟨(oE X).mono (by decide),X.qB,X.qA.kp,by decide +kernel⟩,kK X⟩) (an),an,an,an,ac (by rw [pY]; exact AI X.qz37 aU) (an),an,ac (X.qz182) (an),an,an,an,an,an,an,an,an,an,an,an,an,an,an,an,an⟩
theorem sS (X:Tx K mg a d v):FO P w K mg base a d 48 42 f0 z0 y ["self","other"] "Shade.__eq__":=by
 rw [FO,kU]; exact bG (T:=T y) X.qz33 sP (ck X) (tE X) sQ (xo X) (Tf.no rfl) rfl (fun _=>by decide) (fun z=>by cases z) (by walk_at "sl") (wI hPT)
theorem aFM (X:Tx K mg a d v):Gf P w K mg base (Ew K a f0 z0) (T y) 82 C_law :=
 ⟨ac (⟨_,_,_,⟨(IB X).mono (by decide),X.qP,X.qO.kp,by decide +kernel⟩,RE X⟩) (ac (⟨_,_,_,⟨(QF X).mono (by decide),X.qR,X.qQ.kp,by decide +kernel⟩,aAy X⟩) (ac (⟨_,_,_,⟨(tQ X).mono (by decide),X.qW,X.qV.kp,by decide +kernel⟩,xV X⟩) (ac (⟨_,_,_,⟨(aAw X).mono (by decide),X.qz5,X.qz4.kp,by decide +kernel⟩,aDF X⟩) (ac (eA X (by decide)) (ac (⟨_,_,_,⟨(IN X).mono (by decide),X.qz7,X.qz6.kp,by decide +kernel⟩,QP X⟩) (ac (⟨_,_,_,⟨(DY X).mono (by decide),X.qz13,X.qz12.kp,by decide +kernel⟩,HR X⟩) (ac (⟨_,_,_,⟨(KS X).mono (by decide),X.qz24,X.qz23.kp,by decide +kernel⟩,OM X⟩) (ac (⟨_,_,_,⟨(xG X).mono (by decide),X.qz30,X.qz29.kp,by decide +kernel⟩,BU X⟩) (ac (⟨_,_,_,⟨(JF X).mono (by decide),X.qz32,X.qz31.kp,by decide +kernel⟩,SE X⟩) (ac (⟨_,_,_,⟨(fB X).mono (by decide),X.qz22,X.qz20.kp,by decide +kernel⟩,jJ X⟩) (an))))))))))),an,an,an,an,an,ac (X.qz178) (ac (X.qz183) (ac (X.qz185) (ac (X.qz186) (ac (X.qz187) (ac (X.qz188) (an)))))),an,ac (⟨_,_,by rw [show (Ew K a f0 z0).cls "Shade"=a 44 from aU]; exact X.qz39,by rw [show (Ew K a f0 z0).cls "Shade"=a 44 from aU]; exact X.qz34,(sS X).mono (by decide),vY X⟩) (an),an,an,an,an,an,an,an,an,an,an,an,an,an,an⟩
theorem aIA (X:Tx K mg a d v):FO P w K mg base a d 84 43 f0 z0 y ["_law_script"] "law":=by
 rw [FO,aEk]; exact bG (T:=T y) X.qz35 aG3 (ck X) (aFM X) aIr (xo X) (Tf.no rfl) rfl (fun _=>by decide) (fun _=>by decide) (by walk_at "sl") (aK8 hPT hLT WS ZW)
local macro_rules | `(tactic| walk_at "fm") => `(tactic| (refine aBQ (oc := .type "function") (od := none) (osl := #[]) ?_ ?_ ?_ <;> kernel_rfl))
noncomputable def aA (i:Nat):Addr:=([750,484,498,477,491,505,519,533,512,620,86,627,634,540,547,648,653,526,660,799,689,568,582,792,703,757,764,778,696,710,731,736,667,143,674,105,682,771,717,724,743,785,589,804,609,50,455,367,37,436,467,379,127,241,203,298,260,417,70,108,279,317,89,222,184,146,165,355,336,398,24]:List Addr).getD i 0
noncomputable def dA (i:Nat):FuncData:=([fX "_law_sort" "_law_sort" gL .none zS1 (.ref 749),fX "common" "common" fW .none zS2 (.ref 483),fX "lowest" "lowest" fU .none zS2 (.ref 497),fX "is_whole" "is_whole" dX .none zS2 (.ref 476),fX "is_fraction" "is_fraction" bO .none zS2 (.ref 490),fX "need_fractions" "need_fractions" aY .none zS2 (.ref 504),fX "minus" "minus" jS .none zS2 (.ref 518),fX "over" "over" mY .none zS2 (.ref 532),fX "plus" "plus" mW .none zS2 (.ref 511),fX "is_shade" "is_shade" dU .none zS3 (.ref 619),fX "__init__" "NoShade.__init__" bH .none zS0 (.ref 85),fX "need_shade" "need_shade" bX .none zS3 (.ref 626),fX "shares_of" "shares_of" cX .none zS3 (.ref 633),fX "less" "less" mZ .none zS2 (.ref 539),fX "below" "below" jE .none zS2 (.ref 546),fX "falls" "falls" jQ .none zS4 (.ref 647),fX "stretch_of" "stretch_of" bZ .none zS4 (.ref 652),fX "times" "times" jF .none zS2 (.ref 525),fX "wheel_of" "wheel_of" dW .none zS4 (.ref 659),fX "_law_asked" "_law_asked" eS .none zS1 (.ref 798),fX "_law_cell" "_law_cell" gI .none zS1 (.ref 688),fX "is_share" "is_share" dQ .none zS3 (.ref 567),fX "__init__" "Shade.__init__" bA .none zS3 (.ref 581),fX "_law_no_shades" "_law_no_shades" bP .none zS1 (.ref 791),fX "_law_pick" "_law_pick" gC .none zS1 (.ref 702),fX "_law_bad_part" "_law_bad_part" bY .none zS1 (.ref 756),fX "_law_bad_turn" "_law_bad_turn" cC .none zS1 (.ref 763),fX "_law_odd" "_law_odd" jI .none zS1 (.ref 777),fX "_law_purse" "_law_purse" eV .none zS1 (.ref 695),fX "_law_low" "_law_low" jZ .none zS1 (.ref 709),fX "_law_share" "_law_share" eU .none zS1 (.ref 730),fX "_law_shares" "_law_shares" dS .none zS1 (.ref 735),fX "is_from_0" "is_from_0" cV .none zS4 (.ref 666),fX "__init__" "NoTurn.__init__" bJ .none zS0 (.ref 142),fX "need_turn" "need_turn" cY .none zS4 (.ref 673),fX "__init__" "NoPart.__init__" bM .none zS0 (.ref 104),fX "by_wheel" "by_wheel" dY (.ref 675) zS4 (.ref 681),fX "_law_tried" "_law_tried" eX .none zS1 (.ref 770),fX "_law_minus" "_law_minus" eM .none zS1 (.ref 716),fX "_law_times" "_law_times" eK .none zS1 (.ref 723),fX "_law_turn_row" "_law_turn_row" cA .none zS1 (.ref 742),fX "_law_unfit" "_law_unfit" eP .none zS1 (.ref 784),fX "__eq__" "Shade.__eq__" bI .none zS3 (.ref 588),fX "law" "law" sI .none zS1 (.ref 803)]:List FuncData).getD i (fX "law" "law" sI .none zS1 (.ref 803))
noncomputable def vA (i:Nat):Value:=([.none,.none,.none,.none,.none,.none,.none,.none,.none,.none,.none,.none,.none,.none,.none,.none,.none,.none,.none,.none,.none,.none,.none,.none,.none,.none,.none,.none,.none,.none,.none,.none,.none,.none,.none,.none,(.ref 675),.none,.none,.none,.none,.none,.none,.none]:List Value).getD i .none
theorem tx {w:World} {h:Heap} {mg:Str→Option Value} (X:(K0 w.params).In h) (G:h.Ns mainGlobals mg):Tx (K0 w.params) mg aA dA vA:=by
 refine ⟨by walk_at "fm",
    W.mg_of X G ?_,
    by walk_at "fm",
    W.mg_of X G ?_,
    by walk_at "fm",
    W.mg_of X G ?_,
    by walk_at "fm",
    W.mg_of X G ?_,
    by walk_at "fm",
    W.mg_of X G ?_,
    by walk_at "fm",
    W.mg_of X G ?_,
    by walk_at "fm",
    W.mg_of X G ?_,
    by walk_at "fm",
    W.mg_of X G ?_,
    by walk_at "fm",
    W.mg_of X G ?_,
    by walk_at "fm",
    W.mg_of X G ?_,
    by walk_at "fm",
    by walk_at "fm",
    W.mg_of X G ?_,
    by walk_at "fm",
    W.mg_of X G ?_,
    by walk_at "fm",
    W.mg_of X G ?_,
    by walk_at "fm",
    W.mg_of X G ?_,
    by walk_at "fm",
    W.mg_of X G ?_,
    by walk_at "fm",
    W.mg_of X G ?_,
    by walk_at "fm",
    W.mg_of X G ?_,
    by walk_at "fm",
    W.mg_of X G ?_,
    by walk_at "fm",
    W.mg_of X G ?_,
    by walk_at "fm",
    W.mg_of X G ?_,
    by walk_at "fm",
    W.mg_of X G ?_,
    by walk_at "fm",
    by walk_at "fm",
    W.mg_of X G ?_,
    by walk_at "fm",
    W.mg_of X G ?_,
    by walk_at "fm",
    W.mg_of X G ?_,
    by walk_at "fm",
    W.mg_of X G ?_,
    by walk_at "fm",
    W.mg_of X G ?_,
    by walk_at "fm",
    W.mg_of X G ?_,
    by walk_at "fm",
    W.mg_of X G ?_,
    by walk_at "fm",
    W.mg_of X G ?_,
    by walk_at "fm",
    W.mg_of X G ?_,
    by walk_at "fm",
    W.mg_of X G ?_,
    by walk_at "fm",
    by walk_at "fm",
    W.mg_of X G ?_,
    by walk_at "fm",
    by walk_at "fm",
    ⟨675,(.type "tuple"),none,0, #[],rfl, ?_⟩,
    W.mg_of X G ?_,
    by walk_at "fm",
    W.mg_of X G ?_,
    by walk_at "fm",
    W.mg_of X G ?_,
    by walk_at "fm",
    W.mg_of X G ?_,
    by walk_at "fm",
    W.mg_of X G ?_,
    by walk_at "fm",
    W.mg_of X G ?_,
    by walk_at "fm",
    ⟨?_, ?_, ?_⟩,
    by walk_at "fm",
    W.mg_of X G ?_,
    ⟨⟨?_, ?_, ?_, ?_⟩, ?_, ?_, ?_, ?_⟩,
    W.mg_of X G ?_,
    ⟨?_, ?_, ?_, ?_⟩,
    ⟨?_, ?_, ?_⟩,
    ac (?_) (ac (?_) (ac (?_) (ac (?_) (ac (?_) (ac (?_) (ac (?_) (an))))))),
    ac (?_) (ac (?_) (ac (?_) (ac (?_) (ac (?_) (ac (?_) (an)))))),
    ?_,
    ?_,
    ?_,
    W.mg_of X G ?_,
    W.mg_of X G ?_,
    W.mg_of X G ?_,
    W.mg_of X G ?_,
    W.mg_of X G ?_,
    W.mg_of X G ?_,
    W.mg_of X G ?_,
    W.mg_of X G ?_,
    W.mg_of X G ?_,
    W.mg_of X G ?_,
    W.mg_of X G ?_,
    W.mg_of X G ?_,
    W.mg_of X G ?_,
    W.mg_of X G ?_,
    W.mg_of X G ?_,
    W.mg_of X G ?_,
    W.mg_of X G ?_,
    W.mg_of X G ?_,
    W.mg_of X G ?_,
    W.mg_of X G ?_,
    W.mg_of X G ?_,
    W.mg_of X G ?_,
    W.mg_of X G ?_,
    W.mg_of X G ?_,
    W.mg_of X G ?_,
    W.mg_of X G ?_,
    ⟨⟨_,_,_,_,24,PySem.F.excBase_ValueError,(?_:LX.rJ (K0 w.params) 108 [.type "ValueError",.type "Exception",.type "BaseException",.type "object"] "ValueError.__new__" (some (.ref 105))=true),W.mg_of X G ?_, ?_, ?_, ?_, ?_⟩, ?_, ?_, ?_, ?_, ?_, ?_⟩,
    ⟨⟨_,_,_,_,24,PySem.F.excBase_ValueError,(?_:LX.rJ (K0 w.params) 89 [.type "ValueError",.type "Exception",.type "BaseException",.type "object"] "ValueError.__new__" (some (.ref 86))=true),W.mg_of X G ?_, ?_, ?_, ?_, ?_⟩, ?_, ?_, ?_, ?_, ?_, ?_⟩,
    ⟨⟨_,_,_,_,24,PySem.F.excBase_ValueError,(?_:LX.rJ (K0 w.params) 146 [.type "ValueError",.type "Exception",.type "BaseException",.type "object"] "ValueError.__new__" (some (.ref 143))=true),W.mg_of X G ?_, ?_, ?_, ?_, ?_⟩, ?_, ?_, ?_, ?_, ?_, ?_⟩,
    ⟨?_, ?_, ?_, ?_, ?_, ?_, ?_, ?_⟩,
    ⟨?_, ?_, ?_, ?_, ?_, ?_, ?_, ?_⟩,
    ⟨?_, ?_, ?_, ?_, ?_, ?_, ?_, ?_⟩,
    ?_,
    ?_,
    ?_,
    ?_,
    ?_,
    ?_,
    ?_,
    ?_,
    ?_,
    ?_,
    ?_,
    ?_,
    ?_,
    ?_,
    ?_,
    ?_,
    ?_,
    ?_,
    ?_,
    ?_,
    ?_,
    ?_,
    ?_,
    ?_,
    ?_,
    ?_,
    ?_,
    ?_,
    ?_,
    ?_,
    ?_,
    ?_,
    ?_,
    ?_,
    ?_,
    ?_,
    ?_,
    ?_,
    ?_,
    ?_,
    ?_,
    ?_,
    ?_,
    ?_,
    ?_,
    ?_,
    ?_,
    ?_,
    ?_,
    ?_,
    ?_,
    ?_,
    ?_,
    ?_,
    ?_,
    ?_,
    ?_,
    ?_,
    ?_,
    ?_,
    ?_,
    ?_,
    ?_,
    ?_,
    ?_,
    ?_,
    ?_,
    ?_,
    ?_,
    ?_,
    ?_,
    ?_,
    ?_,
    ?_,
    ?_,
    ?_,
    ?_,
    ?_,
    ?_,
    ?_,
    ?_,
    ?_,
    ?_,
    ?_,
    ?_,
    ?_,
    ?_,
    ?_,
    ?_,
    ?_,
    ⟨?_, ?_⟩,
    ?_,
    ?_,
    ?_,
    ?_,
    ⟨470,795,796,0, #[],W.mg_of X G ?_, ?_⟩,
    ⟨641,635,636,637,638,639,640,0, #[],W.mg_of X G ?_, ?_,⟨_,0, #[], ?_,(.cons ⟨1005,rfl⟩ (.cons ⟨1006,rfl⟩ (.cons ⟨1007,rfl⟩ (.cons ⟨1008,rfl⟩ (.cons ⟨1009,rfl⟩ .nil)))))⟩,⟨_,0, #[], ?_,(.cons ⟨1010,rfl⟩ (.cons ⟨1011,rfl⟩ (.cons ⟨1012,rfl⟩ (.cons ⟨1013,rfl⟩ (.cons ⟨1015,rfl⟩ .nil)))))⟩,⟨_,0, #[], ?_,(.cons ⟨1016,rfl⟩ (.cons ⟨1017,rfl⟩ (.cons ⟨1018,rfl⟩ (.cons ⟨1019,rfl⟩ (.cons ⟨1020,rfl⟩ .nil)))))⟩,⟨_,0, #[], ?_,(.cons ⟨1021,rfl⟩ (.cons ⟨1022,rfl⟩ (.cons ⟨1023,rfl⟩ (.cons ⟨1024,rfl⟩ (.cons ⟨1026,rfl⟩ .nil)))))⟩,⟨_,0, #[], ?_,(.cons ⟨1027,rfl⟩ (.cons ⟨1028,rfl⟩ (.cons ⟨1029,rfl⟩ (.cons ⟨1030,rfl⟩ (.cons ⟨1031,rfl⟩ .nil)))))⟩,⟨_,0, #[], ?_,(.cons ⟨1032,rfl⟩ (.cons ⟨1033,rfl⟩ (.cons ⟨1034,rfl⟩ (.cons ⟨1035,rfl⟩ (.cons ⟨1037,rfl⟩ .nil)))))⟩⟩,
    W.mg_none_of X G ?_,
    W.mg_none_of X G ?_,
    W.mg_none_of X G ?_,
    W.mg_none_of X G ?_,
    W.mg_none_of X G ?_,
    W.mg_none_of X G ?_,
    W.mg_none_of X G ?_,
    W.mg_none_of X G ?_,
    W.mg_none_of X G ?_,
    W.mg_none_of X G ?_,
    W.mg_none_of X G ?_,
    W.mg_none_of X G ?_,
    W.mg_none_of X G ?_,
    W.mg_none_of X G ?_,
    W.mg_none_of X G ?_,
    W.mg_none_of X G ?_⟩
 all_goals first | kernel_rfl | (unfold eO; kernel_rfl)
theorem fin {l:W.OpenLaw} {w:World} {h:Heap} {mg:Str→Option Value} {fa:Addr} (X:(K0 w.params).In h) (G:h.Ns mainGlobals mg) (hfa:mg "law"=some (.ref fa)):∃ fd:FuncData,(∀ (s:Shared) (v:Value),BindsTo s fd ⟨[v],[]⟩ [("_law_script",v)])∧∀ base:Heap,(K0 w.params).In base→base.Ns mainGlobals mg→bC l.prog w (K0 w.params) mg base CX0 84 fa fd ["_law_script"] (NX (K0 w.params)):=by
 have T:=tx X G;have e:=hfa.symm.trans T.m_law;obtain rfl:fa=aA 43:=by injection e with e; injection e
 refine ⟨dA 43,fun s v=>.of_eq rfl,fun base _ _=>?_⟩;have ok:=aIA (P:=l.prog) (w:=w) (base:=base) (f0:=fun _=>none) (z0:=fun _=>none) (y:=fun _ _ _ _=>False) T;unfold FO at ok;rw [aEk] at ok;exact ok.imp fun vs H Q E h=>aIk (fun _ _ z=>nomatch z) (fun _ _ z=>z) h
theorem wsd:W.OpenLaw.wellSaid PySem.Challenge.rw_lightshares_k18_wheels_refused=true:=by kernel_rfl
noncomputable abbrev hk0:W.Hook:=W.kHook K0 aK fun _=>rfl
noncomputable def mo0 (P:Params):Obj:=⟨(.type "dict"),none,.dict #[kE P "__name__" 165 zS0,kD P 166,kE P "__package__" 167 .none,kE P "__loader__" 168 (.builtin "__main__.__loader__#opaque"),kE P "__spec__" 169 .none,kE P "__annotations__" 170 (.ref 6),kE P "__builtins__" 171 (.ref 4),kE P "__file__" 173 (.str "/claim/cut.py" 172),kE P "__cached__" 174 .none,kE P "ShadeError" 206 (.ref 24),kE P "MixError" 226 (.ref 37),kE P "BookError" 244 (.ref 50),kE P "NoNumber" 269 (.ref 70),kE P "NoShade" 294 (.ref 89),kE P "NoPart" 319 (.ref 108),kE P "NoDeed" 344 (.ref 127)] 16, #[]⟩
def M1:=oT []
def M2:=oL [iV 2,iV 0,.ref 20,iV 4,iV 0,.ref 33,iV 6,iV 0,.ref 46,iV 8,iV 0,.ref 59,iV 13,iV 0,.ref 78,iV 18,iV 0,.ref 97,iV 23,iV 0,.ref 116]
def M3:=zOf "<module>" 182 1 0 0 11 12 0 0 0 185
def M4:=oR 13 3 (.str "__main__" 164)
def M5:=oT [.type "ValueError"]
def M6:=oB "type.__prepare__" (.type "type")
def mo7 (P:Params):=oDn [kM P 196,kQ P 198 "ShadeError",kL P 200 2,kT P 201 22] 4
def M8:=oL []
def M9:=zOf "ShadeError" 191 2 0 0 18 19 0 0 0 194
def M10:=oR 20 17 zS0
noncomputable def M11:Obj:=⟨(.type "type"),none,.cls ⟨"ShadeError",[(.type "ValueError")],[(.ref 24),(.type "ValueError"),(.type "Exception"),(.type "BaseException"),(.type "object")],23,"ShadeError",true,[],[(.ref 70),(.ref 89),(.ref 108),(.ref 127)],false,none,false⟩, #[(some (.ref 15)),none,(some (.str "ShadeError" 189)),(some (.str "ShadeError" 197)),(some (.builtin "ValueError.__new__")),(some (.bool true))]⟩
noncomputable def M12:Obj:=⟨(.type "getset_descriptor"),none,.fields #[(.str "__weakref__" 202),(.ref 24),(.builtin "ExceptionGroup.__weakref__"),.none], #[]⟩
def M13:=oS 24
def M14:=oB "object.__init_subclass__" (.ref 24)
def M15:=oT [.type "ArithmeticError"]
def SA (P:Params):=oDn [kM P 214,kQ P 216 "MixError",kL P 218 4,kT P 219 35] 4
def M17:=zOf "MixError" 209 4 0 0 31 32 0 0 0 212
def M18:=oR 33 30 zS0
noncomputable def M19:Obj:=⟨(.type "type"),none,.cls ⟨"MixError",[(.type "ArithmeticError")],[(.ref 37),(.type "ArithmeticError"),(.type "Exception"),(.type "BaseException"),(.type "object")],36,"MixError",true,[],[],false,none,false⟩, #[(some (.ref 28)),none,(some (.str "MixError" 207)),(some (.str "MixError" 215)),(some (.builtin "ArithmeticError.__new__")),(some (.bool true))]⟩
noncomputable def M20:Obj:=⟨(.type "getset_descriptor"),none,.fields #[(.str "__weakref__" 220),(.ref 37),(.builtin "ExceptionGroup.__weakref__"),.none], #[]⟩
def M21:=oS 37
def M22:=oB "object.__init_subclass__" (.ref 37)
def M23:=oT [.type "LookupError"]
def PJ (P:Params):=oDn [kM P 234,kQ P 236 "BookError",kL P 238 6,kT P 239 48] 4
def M25:=zOf "BookError" 229 6 0 0 44 45 0 0 0 232
def M26:=oR 46 43 zS0
noncomputable def M27:Obj:=⟨(.type "type"),none,.cls ⟨"BookError",[(.type "LookupError")],[(.ref 50),(.type "LookupError"),(.type "Exception"),(.type "BaseException"),(.type "object")],49,"BookError",true,[],[],false,none,false⟩, #[(some (.ref 41)),none,(some (.str "BookError" 227)),(some (.str "BookError" 235)),(some (.builtin "LookupError.__new__")),(some (.bool true))]⟩
noncomputable def M28:Obj:=⟨(.type "getset_descriptor"),none,.fields #[(.str "__weakref__" 240),(.ref 50),(.builtin "ExceptionGroup.__weakref__"),.none], #[]⟩
def M29:=oS 50
def M30:=oB "object.__init_subclass__" (.ref 50)
def M31:=oT [.ref 24]
def RW (P:Params):=oDn [kM P 252,kQ P 254 "NoNumber",kL P 256 8,kI P 264 67,kT P 266 68] 5
def M33:=oL [iV 10,iV 4,.ref 66]
def M34:=zOf "NoNumber" 247 8 0 0 57 58 0 0 0 250
def M35:=oR 59 56 zS0
def M36:=oT [.str "self" 260,.str "place" 261]
def M37:=oN "__init__" "NoNumber.__init__" (aG (top 4) 0)
def M38:=zXt "__init__" "NoNumber.__init__" 257 10 2 3 61 62 63 64 65 262
def M39:=oF "__init__" "NoNumber.__init__" (aG (top 4) 0) .none zS0 66
def M40:=oT [.str "place" 265]
def M41:=oS 70
def M42:=oB "object.__init_subclass__" (.ref 70)
def SI (P:Params):=oDn [kM P 277,kQ P 279 "NoShade",kL P 281 13,kI P 289 86,kT P 291 87] 5
def M44:=oL [iV 15,iV 4,.ref 85]
def M45:=zOf "NoShade" 272 13 0 0 76 77 0 0 0 275
def M46:=oR 78 75 zS0
def M47:=oT [.str "self" 285,.str "light" 286]
def M48:=oN "__init__" "NoShade.__init__" bH
def M49:=oT [.str "light" 290]
def M50:=oS 89
def M51:=oB "object.__init_subclass__" (.ref 89)
def RU (P:Params):=oDn [kM P 302,kQ P 304 "NoPart",kL P 306 18,kI P 314 105,kT P 316 106] 5
def M53:=oL [iV 20,iV 4,.ref 104]
def M54:=zOf "NoPart" 297 18 0 0 95 96 0 0 0 300
def M55:=oR 97 94 zS0
def M56:=oT [.str "self" 310,.str "part" 311]
def M57:=oN "__init__" "NoPart.__init__" bM
def M58:=oT [.str "part" 315]
def M59:=oS 108
def M60:=oB "object.__init_subclass__" (.ref 108)
def RM (P:Params):=oDn [kM P 327,kQ P 329 "NoDeed",kL P 331 23,kI P 339 124,kT P 341 125] 5
def M62:=oL [iV 25,iV 4,.ref 123]
def M63:=zOf "NoDeed" 322 23 0 0 114 115 0 0 0 325
def M64:=oR 116 113 zS0
def M65:=oT [.str "self" 335,.str "place" 336]
def M66:=oN "__init__" "NoDeed.__init__" (aG (top 7) 0)
def M67:=zXt "__init__" "NoDeed.__init__" 332 25 2 3 118 119 120 121 122 337
def M68:=oF "__init__" "NoDeed.__init__" (aG (top 7) 0) .none zS0 123
def M69:=oT [.str "place" 340]
def M70:=oS 127
def M71:=oB "object.__init_subclass__" (.ref 127)
noncomputable def aOl (P:Params):Obj:=⟨(.type "dict"),none,.dict #[kE P "__name__" 165 zS0,kD P 166,kE P "__package__" 167 .none,kE P "__loader__" 168 (.builtin "__main__.__loader__#opaque"),kE P "__spec__" 169 .none,kE P "__annotations__" 170 (.ref 6),kE P "__builtins__" 171 (.ref 4),kE P "__file__" 173 (.str "/claim/cut.py" 172),kE P "__cached__" 174 .none,kE P "ShadeError" 206 (.ref 24),kE P "MixError" 226 (.ref 37),kE P "BookError" 244 (.ref 50),kE P "NoNumber" 269 (.ref 70),kE P "NoShade" 294 (.ref 89),kE P "NoPart" 319 (.ref 108),kE P "NoDeed" 344 (.ref 127),kE P "NoTurn" 369 (.ref 146),kE P "NoWay" 394 (.ref 165),kE P "NoText" 419 (.ref 184),kE P "NoGrade" 444 (.ref 203),kE P "NoStep" 469 (.ref 222)] 21, #[]⟩
def M73:=oL [iV 2,iV 0,.ref 20,iV 4,iV 0,.ref 33,iV 6,iV 0,.ref 46,iV 8,iV 0,.ref 59,iV 13,iV 0,.ref 78,iV 18,iV 0,.ref 97,iV 23,iV 0,.ref 116,iV 28,iV 0,.ref 135,iV 33,iV 0,.ref 154,iV 38,iV 0,.ref 173,iV 43,iV 0,.ref 192,iV 48,iV 0,.ref 211]
noncomputable def M74:Obj:=⟨(.type "type"),none,.cls ⟨"ShadeError",[(.type "ValueError")],[(.ref 24),(.type "ValueError"),(.type "Exception"),(.type "BaseException"),(.type "object")],23,"ShadeError",true,[],[(.ref 70),(.ref 89),(.ref 108),(.ref 127),(.ref 146),(.ref 165),(.ref 184),(.ref 203),(.ref 222)],false,none,false⟩, #[(some (.ref 15)),none,(some (.str "ShadeError" 189)),(some (.str "ShadeError" 197)),(some (.builtin "ValueError.__new__")),(some (.bool true))]⟩
def YB (P:Params):=oDn [kM P 352,kQ P 354 "NoTurn",kL P 356 28,kI P 364 143,kT P 366 144] 5
def M76:=oL [iV 30,iV 4,.ref 142]
def M77:=zOf "NoTurn" 347 28 0 0 133 134 0 0 0 350
def M78:=oR 135 132 zS0
def M79:=oT [.str "self" 360,.str "part" 361]
def M80:=oN "__init__" "NoTurn.__init__" bJ
def M81:=oT [.str "part" 365]
def M82:=oS 146
def M83:=oB "object.__init_subclass__" (.ref 146)
def aAe (P:Params):=oDn [kM P 377,kQ P 379 "NoWay",kL P 381 33,kI P 389 162,kT P 391 163] 5
def M85:=oL [iV 35,iV 4,.ref 161]
def M86:=zOf "NoWay" 372 33 0 0 152 153 0 0 0 375
def M87:=oR 154 151 zS0
def M88:=oT [.str "self" 385,.str "way" 386]
def M89:=oN "__init__" "NoWay.__init__" (aG (top 9) 0)
def M90:=zXt "__init__" "NoWay.__init__" 382 35 2 3 156 157 158 159 160 387
def M91:=oF "__init__" "NoWay.__init__" (aG (top 9) 0) .none zS0 161
def M92:=oT [.str "way" 390]
def M93:=oS 165
def M94:=oB "object.__init_subclass__" (.ref 165)
def UH (P:Params):=oDn [kM P 402,kQ P 404 "NoText",kL P 406 38,kI P 414 181,kT P 416 182] 5
def M96:=oL [iV 40,iV 4,.ref 180]
def M97:=zOf "NoText" 397 38 0 0 171 172 0 0 0 400
def M98:=oR 173 170 zS0
def M99:=oT [.str "self" 410,.str "row" 411]
def aAf:=oN "__init__" "NoText.__init__" (aG (top 10) 0)
def UW:=zXt "__init__" "NoText.__init__" 407 40 2 3 175 176 177 178 179 412
def aAF:=oF "__init__" "NoText.__init__" (aG (top 10) 0) .none zS0 180
def VX:=oT [.str "row" 415]
def VQ:=oS 184
def YU:=oB "object.__init_subclass__" (.ref 184)
def EU (P:Params):=oDn [kM P 427,kQ P 429 "NoGrade",kL P 431 43,kI P 439 200,kT P 441 201] 5
def VF:=oL [iV 45,iV 4,.ref 199]
def ZT:=zOf "NoGrade" 422 43 0 0 190 191 0 0 0 425
def WI:=oR 192 189 zS0
def VP:=oT [.str "self" 435,.str "grade" 436]
def VI:=oN "__init__" "NoGrade.__init__" (aG (top 11) 0)
def TL:=zXt "__init__" "NoGrade.__init__" 432 45 2 3 194 195 196 197 198 437
def XO:=oF "__init__" "NoGrade.__init__" (aG (top 11) 0) .none zS0 199
def VJ:=oT [.str "grade" 440]
def WY:=oS 203
def aAU:=oB "object.__init_subclass__" (.ref 203)
def DI (P:Params):=oDn [kM P 452,kQ P 454 "NoStep",kL P 456 48,kI P 464 219,kT P 466 220] 5
def ZM:=oL [iV 50,iV 4,.ref 218]
def aAb:=zOf "NoStep" 447 48 0 0 209 210 0 0 0 450
def XT:=oR 211 208 zS0
def XA:=oT [.str "self" 460,.str "light" 461]
def XH:=oN "__init__" "NoStep.__init__" (aG (top 12) 0)
def VC:=zXt "__init__" "NoStep.__init__" 457 50 2 3 213 214 215 216 217 462
def YX:=oF "__init__" "NoStep.__init__" (aG (top 12) 0) .none zS0 218
def XL:=oT [.str "light" 465]
def aAz:=oS 222
def YT:=oB "object.__init_subclass__" (.ref 222)
noncomputable def aJP (P:Params):Obj:=⟨(.type "dict"),none,.dict #[kE P "__name__" 165 zS0,kD P 166,kE P "__package__" 167 .none,kE P "__loader__" 168 (.builtin "__main__.__loader__#opaque"),kE P "__spec__" 169 .none,kE P "__annotations__" 170 (.ref 6),kE P "__builtins__" 171 (.ref 4),kE P "__file__" 173 (.str "/claim/cut.py" 172),kE P "__cached__" 174 .none,kE P "ShadeError" 206 (.ref 24),kE P "MixError" 226 (.ref 37),kE P "BookError" 244 (.ref 50),kE P "NoNumber" 269 (.ref 70),kE P "NoShade" 294 (.ref 89),kE P "NoPart" 319 (.ref 108),kE P "NoDeed" 344 (.ref 127),kE P "NoTurn" 369 (.ref 146),kE P "NoWay" 394 (.ref 165),kE P "NoText" 419 (.ref 184),kE P "NoGrade" 444 (.ref 203),kE P "NoStep" 469 (.ref 222),kE P "NoEye" 494 (.ref 241),kE P "NoLimit" 519 (.ref 260),kE P "NoPlace" 544 (.ref 279),kE P "NoLights" 569 (.ref 298),kE P "NoRow" 594 (.ref 317)] 26, #[]⟩
def aMY:=oL [iV 2,iV 0,.ref 20,iV 4,iV 0,.ref 33,iV 6,iV 0,.ref 46,iV 8,iV 0,.ref 59,iV 13,iV 0,.ref 78,iV 18,iV 0,.ref 97,iV 23,iV 0,.ref 116,iV 28,iV 0,.ref 135,iV 33,iV 0,.ref 154,iV 38,iV 0,.ref 173,iV 43,iV 0,.ref 192,iV 48,iV 0,.ref 211,iV 53,iV 0,.ref 230,iV 58,iV 0,.ref 249,iV 63,iV 0,.ref 268,iV 68,iV 0,.ref 287,iV 73,iV 0,.ref 306]
def MK (P:Params):=oDn [kM P 477,kQ P 479 "NoEye",kL P 481 53,kI P 489 238,kT P 491 239] 5
def aDi:=oL [iV 55,iV 4,.ref 237]
def aCJ:=zOf "NoEye" 472 53 0 0 228 229 0 0 0 475
def aDe:=oR 230 227 zS0
def aDw:=oT [.str "self" 485,.str "eye" 486]
def aC5:=oN "__init__" "NoEye.__init__" (aG (top 13) 0)
def aCS:=zXt "__init__" "NoEye.__init__" 482 55 2 3 232 233 234 235 236 487
def aCg:=oF "__init__" "NoEye.__init__" (aG (top 13) 0) .none zS0 237
def aCT:=oT [.str "eye" 490]
def aBh:=oS 241
def aCO:=oB "object.__init_subclass__" (.ref 241)
def LO (P:Params):=oDn [kM P 502,kQ P 504 "NoLimit",kL P 506 58,kI P 514 257,kT P 516 258] 5
def aBy:=oL [iV 60,iV 4,.ref 256]
def aCv:=zOf "NoLimit" 497 58 0 0 247 248 0 0 0 500
def aDh:=oR 249 246 zS0
def aBO:=oT [.str "self" 510,.str "limit" 511]
def aBt:=oN "__init__" "NoLimit.__init__" (aG (top 14) 0)
def aCk:=zXt "__init__" "NoLimit.__init__" 507 60 2 3 251 252 253 254 255 512
def aB8:=oF "__init__" "NoLimit.__init__" (aG (top 14) 0) .none zS0 256
def aCq:=oT [.str "limit" 515]
def aDS:=oS 260
def aDl:=oB "object.__init_subclass__" (.ref 260)
def NJ (P:Params):=oDn [kM P 527,kQ P 529 "NoPlace",kL P 531 63,kI P 539 276,kT P 541 277] 5
def aCV:=oL [iV 65,iV 4,.ref 275]
def aDc:=zOf "NoPlace" 522 63 0 0 266 267 0 0 0 525
def aDK:=oR 268 265 zS0
def aDL:=oT [.str "self" 535,.str "place" 536]
def aDE:=oN "__init__" "NoPlace.__init__" (aG (top 15) 0)
def aB5:=zXt "__init__" "NoPlace.__init__" 532 65 2 3 270 271 272 273 274 537
def aBW:=oF "__init__" "NoPlace.__init__" (aG (top 15) 0) .none zS0 275
def aCr:=oT [.str "place" 540]
def aB2:=oS 279
def aB6:=oB "object.__init_subclass__" (.ref 279)
def MI (P:Params):=oDn [kM P 552,kQ P 554 "NoLights",kL P 556 68,kI P 564 295,kT P 566 296] 5
def aDX:=oL [iV 70,iV 4,.ref 294]
def aDm:=zOf "NoLights" 547 68 0 0 285 286 0 0 0 550
def aBr:=oR 287 284 zS0
def aDD:=oT [.str "self" 560,.str "place" 561]
def aBm:=oN "__init__" "NoLights.__init__" (aG (top 16) 0)
def aCd:=zXt "__init__" "NoLights.__init__" 557 70 2 3 289 290 291 292 293 562
def aDq:=oF "__init__" "NoLights.__init__" (aG (top 16) 0) .none zS0 294
def aDG:=oT [.str "place" 565]
def aD1:=oS 298
def aCW:=oB "object.__init_subclass__" (.ref 298)
def MT (P:Params):=oDn [kM P 577,kQ P 579 "NoRow",kL P 581 73,kI P 589 314,kT P 591 315] 5
def aC9:=oL [iV 75,iV 4,.ref 313]
def aDI:=zOf "NoRow" 572 73 0 0 304 305 0 0 0 575
def aB3:=oR 306 303 zS0
def aCl:=oT [.str "self" 585,.str "row" 586]
def aBT:=oN "__init__" "NoRow.__init__" (aG (top 17) 0)
def aCi:=zXt "__init__" "NoRow.__init__" 582 75 2 3 308 309 310 311 312 587
def aCt:=oF "__init__" "NoRow.__init__" (aG (top 17) 0) .none zS0 313
def aCj:=oT [.str "row" 590]
def aBE:=oS 317
def aDV:=oB "object.__init_subclass__" (.ref 317)
noncomputable def aL0 (P:Params):Obj:=⟨(.type "dict"),none,.dict #[kE P "__name__" 165 zS0,kD P 166,kE P "__package__" 167 .none,kE P "__loader__" 168 (.builtin "__main__.__loader__#opaque"),kE P "__spec__" 169 .none,kE P "__annotations__" 170 (.ref 6),kE P "__builtins__" 171 (.ref 4),kE P "__file__" 173 (.str "/claim/cut.py" 172),kE P "__cached__" 174 .none,kE P "ShadeError" 206 (.ref 24),kE P "MixError" 226 (.ref 37),kE P "BookError" 244 (.ref 50),kE P "NoNumber" 269 (.ref 70),kE P "NoShade" 294 (.ref 89),kE P "NoPart" 319 (.ref 108),kE P "NoDeed" 344 (.ref 127),kE P "NoTurn" 369 (.ref 146),kE P "NoWay" 394 (.ref 165),kE P "NoText" 419 (.ref 184),kE P "NoGrade" 444 (.ref 203),kE P "NoStep" 469 (.ref 222),kE P "NoEye" 494 (.ref 241),kE P "NoLimit" 519 (.ref 260),kE P "NoPlace" 544 (.ref 279),kE P "NoLights" 569 (.ref 298),kE P "NoRow" 594 (.ref 317),kE P "NoWeights" 619 (.ref 336),kE P "NoWeight" 644 (.ref 355),kE P "EmptyMix" 660 (.ref 367),kE P "NoBlend" 676 (.ref 379),kE P "NoWord" 701 (.ref 398),kE P "NoName" 726 (.ref 417)] 32, #[]⟩
def aNl:=oL [iV 2,iV 0,.ref 20,iV 4,iV 0,.ref 33,iV 6,iV 0,.ref 46,iV 8,iV 0,.ref 59,iV 13,iV 0,.ref 78,iV 18,iV 0,.ref 97,iV 23,iV 0,.ref 116,iV 28,iV 0,.ref 135,iV 33,iV 0,.ref 154,iV 38,iV 0,.ref 173,iV 43,iV 0,.ref 192,iV 48,iV 0,.ref 211,iV 53,iV 0,.ref 230,iV 58,iV 0,.ref 249,iV 63,iV 0,.ref 268,iV 68,iV 0,.ref 287,iV 73,iV 0,.ref 306,iV 78,iV 0,.ref 325,iV 83,iV 0,.ref 344,iV 88,iV 0,.ref 363,iV 90,iV 0,.ref 375,iV 92,iV 0,.ref 387,iV 97,iV 0,.ref 406]
noncomputable def aMQ:Obj:=⟨(.type "type"),none,.cls ⟨"BookError",[(.type "LookupError")],[(.ref 50),(.type "LookupError"),(.type "Exception"),(.type "BaseException"),(.type "object")],49,"BookError",true,[],[(.ref 398),(.ref 417)],false,none,false⟩, #[(some (.ref 41)),none,(some (.str "BookError" 227)),(some (.str "BookError" 235)),(some (.builtin "LookupError.__new__")),(some (.bool true))]⟩
def tB:=oT [.ref 37]
def aBd (P:Params):=oDn [kM P 602,kQ P 604 "NoWeights",kL P 606 78,kI P 614 333,kT P 616 334] 5
def aGN:=oL [iV 80,iV 4,.ref 332]
def aHN:=zOf "NoWeights" 597 78 0 0 323 324 0 0 0 600
def aGm:=oR 325 322 zS0
def aFS:=oT [.str "self" 610,.str "many" 611]
def aGf:=oN "__init__" "NoWeights.__init__" (aG (top 18) 0)
def aGO:=zXt "__init__" "NoWeights.__init__" 607 80 2 3 327 328 329 330 331 612
def aGe:=oF "__init__" "NoWeights.__init__" (aG (top 18) 0) .none zS0 332
def aF2:=oT [.str "many" 615]
def aIh:=oS 336
def aGk:=oB "object.__init_subclass__" (.ref 336)
def XB (P:Params):=oDn [kM P 627,kQ P 629 "NoWeight",kL P 631 83,kI P 639 352,kT P 641 353] 5
def aIc:=oL [iV 85,iV 4,.ref 351]
def aId:=zOf "NoWeight" 622 83 0 0 342 343 0 0 0 625
def aGr:=oR 344 341 zS0
def aJc:=oT [.str "self" 635,.str "weight" 636]
def aHu:=oN "__init__" "NoWeight.__init__" (aG (top 19) 0)
def aIF:=zXt "__init__" "NoWeight.__init__" 632 85 2 3 346 347 348 349 350 637
def aI9:=oF "__init__" "NoWeight.__init__" (aG (top 19) 0) .none zS0 351
def aHz:=oT [.str "weight" 640]
def aFU:=oS 355
def aHh:=oB "object.__init_subclass__" (.ref 355)
def ZB (P:Params):=oDn [kM P 652,kQ P 654 "EmptyMix",kL P 656 88,kT P 657 365] 4
def aHf:=zOf "EmptyMix" 647 88 0 0 361 362 0 0 0 650
def aIV:=oR 363 360 zS0
def aHa:=oS 367
def aIn:=oB "object.__init_subclass__" (.ref 367)
def YN (P:Params):=oDn [kM P 668,kQ P 670 "NoBlend",kL P 672 90,kT P 673 377] 4
def aHM:=zOf "NoBlend" 663 90 0 0 373 374 0 0 0 666
def aHA:=oR 375 372 zS0
def aFQ:=oS 379
def aFN:=oB "object.__init_subclass__" (.ref 379)
def sO:=oT [.ref 50]
def aAG (P:Params):=oDn [kM P 684,kQ P 686 "NoWord",kL P 688 92,kI P 696 395,kT P 698 396] 5
def aJl:=oL [iV 94,iV 4,.ref 394]
def aFH:=zOf "NoWord" 679 92 0 0 385 386 0 0 0 682
def aGa:=oR 387 384 zS0
def aIG:=oT [.str "self" 692,.str "word" 693]
def aHU:=oN "__init__" "NoWord.__init__" (aG (top 22) 0)
def aHH:=zXt "__init__" "NoWord.__init__" 689 94 2 3 389 390 391 392 393 694
def aF1:=oF "__init__" "NoWord.__init__" (aG (top 22) 0) .none zS0 394
def aIv:=oT [.str "word" 697]
def aJh:=oS 398
def aHV:=oB "object.__init_subclass__" (.ref 398)
def ZV (P:Params):=oDn [kM P 709,kQ P 711 "NoName",kL P 713 97,kI P 721 414,kT P 723 415] 5
def aHS:=oL [iV 99,iV 4,.ref 413]
def aHO:=zOf "NoName" 704 97 0 0 404 405 0 0 0 707
def aHD:=oR 406 403 zS0
def aHT:=oT [.str "self" 717,.str "name" 718]
def aI2:=oN "__init__" "NoName.__init__" (aG (top 23) 0)
def aGG:=zXt "__init__" "NoName.__init__" 714 99 2 3 408 409 410 411 412 719
def aIN:=oF "__init__" "NoName.__init__" (aG (top 23) 0) .none zS0 413
def aF7:=oT [.str "name" 722]
def aIf:=oS 417
def aG6:=oB "object.__init_subclass__" (.ref 417)
noncomputable def aKW (P:Params):Obj:=⟨(.type "dict"),none,.dict #[kE P "__name__" 165 zS3,kD P 166,kE P "__package__" 167 .none,kE P "__loader__" 168 (.builtin "__main__.__loader__#opaque"),kE P "__spec__" 169 .none,kE P "__annotations__" 170 (.ref 6),kE P "__builtins__" 171 (.ref 4),kE P "__file__" 173 (.str "/claim/cut.py" 172),kE P "__cached__" 174 .none,kE P "ShadeError" 206 (.ref 24),kE P "MixError" 226 (.ref 37),kE P "BookError" 244 (.ref 50),kE P "NoNumber" 269 (.ref 70),kE P "NoShade" 294 (.ref 89),kE P "NoPart" 319 (.ref 108),kE P "NoDeed" 344 (.ref 127),kE P "NoTurn" 369 (.ref 146),kE P "NoWay" 394 (.ref 165),kE P "NoText" 419 (.ref 184),kE P "NoGrade" 444 (.ref 203),kE P "NoStep" 469 (.ref 222),kE P "NoEye" 494 (.ref 241),kE P "NoLimit" 519 (.ref 260),kE P "NoPlace" 544 (.ref 279),kE P "NoLights" 569 (.ref 298),kE P "NoRow" 594 (.ref 317),kE P "NoWeights" 619 (.ref 336),kE P "NoWeight" 644 (.ref 355),kE P "EmptyMix" 660 (.ref 367),kE P "NoBlend" 676 (.ref 379),kE P "NoWord" 701 (.ref 398),kE P "NoName" 726 (.ref 417),kE P "NameStands" 751 (.ref 436),kE P "BookFull" 776 (.ref 455),kE P "NoBack" 792 (.ref 467),kE P "ONE" 797 (.ref 470),kE P "PIECE_FIGURES" 799 (.int 64 798),kE P "PIECE" 803 (.int 10000000000000000000000000000000000000000000000000000000000000000 802),kE P "is_whole" 810 (.ref 477),kE P "common" 818 (.ref 484),kE P "is_fraction" 827 (.ref 491),kE P "lowest" 836 (.ref 498),kE P "need_fractions" 845 (.ref 505),kE P "plus" 853 (.ref 512),kE P "minus" 861 (.ref 519),kE P "times" 869 (.ref 526),kE P "over" 877 (.ref 533),kE P "less" 885 (.ref 540),kE P "below" 893 (.ref 547),kE P "figures" 902 (.ref 554),kE P "written" 909 (.ref 561),kE P "is_share" 918 (.ref 568)] 52, #[]⟩
def aNf:=oL [iV 2,iV 0,.ref 20,iV 4,iV 0,.ref 33,iV 6,iV 0,.ref 46,iV 8,iV 0,.ref 59,iV 13,iV 0,.ref 78,iV 18,iV 0,.ref 97,iV 23,iV 0,.ref 116,iV 28,iV 0,.ref 135,iV 33,iV 0,.ref 154,iV 38,iV 0,.ref 173,iV 43,iV 0,.ref 192,iV 48,iV 0,.ref 211,iV 53,iV 0,.ref 230,iV 58,iV 0,.ref 249,iV 63,iV 0,.ref 268,iV 68,iV 0,.ref 287,iV 73,iV 0,.ref 306,iV 78,iV 0,.ref 325,iV 83,iV 0,.ref 344,iV 88,iV 0,.ref 363,iV 90,iV 0,.ref 375,iV 92,iV 0,.ref 387,iV 97,iV 0,.ref 406,iV 102,iV 0,.ref 425,iV 107,iV 0,.ref 444,iV 112,iV 0,.ref 463,iV 118,iV 0,.ref 476,iV 120,iV 0,.ref 483,iV 124,iV 0,.ref 490,iV 129,iV 0,.ref 497,iV 134,iV 0,.ref 504,iV 138,iV 0,.ref 511,iV 141,iV 0,.ref 518,iV 144,iV 0,.ref 525,iV 147,iV 0,.ref 532,iV 152,iV 0,.ref 539,iV 154,iV 0,.ref 546,iV 157,iV 0,.ref 553,iV 164,iV 0,.ref 560,iV 169,iV 0,.ref 567]
def aFt (P:Params):=oDn [kM P 734,kQ P 736 "NameStands",kL P 738 102,kI P 746 433,kT P 748 434] 5
def aL3:=oL [iV 104,iV 4,.ref 432]
def aLU:=zOf "NameStands" 729 102 0 0 423 424 0 0 0 732
def aKD:=oR 425 422 zS0
def aJI:=oT [.str "self" 742,.str "name" 743]
def aLV:=oN "__init__" "NameStands.__init__" (aG (top 24) 0)
def aMh:=zXt "__init__" "NameStands.__init__" 739 104 2 3 427 428 429 430 431 744
def aKX:=oF "__init__" "NameStands.__init__" (aG (top 24) 0) .none zS0 432
def aJW:=oT [.str "name" 747]
def aKq:=oS 436
def aKw:=oB "object.__init_subclass__" (.ref 436)
def aEZ (P:Params):=oDn [kM P 759,kQ P 761 "BookFull",kL P 763 107,kI P 771 452,kT P 773 453] 5
def aJJ:=oL [iV 109,iV 4,.ref 451]
def aJv:=zOf "BookFull" 754 107 0 0 442 443 0 0 0 757
def aJt:=oR 444 441 zS0
def aJT:=oT [.str "self" 767,.str "many" 768]
def aKt:=oN "__init__" "BookFull.__init__" (aG (top 25) 0)
def aKS:=zXt "__init__" "BookFull.__init__" 764 109 2 3 446 447 448 449 450 769
def aLk:=oF "__init__" "BookFull.__init__" (aG (top 25) 0) .none zS0 451
def aLW:=oT [.str "many" 772]
def aLa:=oS 455
def aK3:=oB "object.__init_subclass__" (.ref 455)
def aFD (P:Params):=oDn [kM P 784,kQ P 786 "NoBack",kL P 788 112,kT P 789 465] 4
def aLR:=zOf "NoBack" 779 112 0 0 461 462 0 0 0 782
def aJs:=oR 463 460 zS0
def aLY:=oS 467
def aJD:=oB "object.__init_subclass__" (.ref 467)
def aJ7:=oT [.str "thing" 807]
def aKj:=oN "is_whole" "is_whole" dX
def aLz:=oT [.str "one" 814,.str "other" 815]
def aMa:=oN "common" "common" fW
def aJQ:=oT [.str "thing" 822,.str "top" 823,.str "bottom" 824]
def aJS:=oN "is_fraction" "is_fraction" bO
def aKn:=oT [.str "top" 831,.str "bottom" 832,.str "shared" 833]
def aJM:=oN "lowest" "lowest" fU
def aKP:=oT [.str "things" 840,.str "place" 841,.str "thing" 842]
def aKL:=oN "need_fractions" "need_fractions" aY
def aK0:=oT [.str "one" 849,.str "other" 850]
def aLi:=oN "plus" "plus" mW
def aLO:=oT [.str "one" 857,.str "other" 858]
def aK2:=oN "minus" "minus" jS
def aMf:=oT [.str "one" 865,.str "other" 866]
def aLf:=oN "times" "times" jF
def aJY:=oT [.str "one" 873,.str "other" 874]
def aJX:=oN "over" "over" mY
def aKg:=oT [.str "one" 881,.str "other" 882]
def aLb:=oN "less" "less" mZ
def aKh:=oT [.str "one" 889,.str "other" 890]
def aLp:=oN "below" "below" jE
def aLI:=oT [.str "number" 897,.str "pieces" 898,.str "piece" 899]
def aJ6:=oN "figures" "figures" (top 42)
def aL9:=zOt "figures" 894 157 1 3 548 549 550 551 552 900
def aLv:=oF "figures" "figures" (top 42) .none zS2 553
def aKl:=oT [.str "one" 906]
def aJ4:=oN "written" "written" (top 43)
def aJ2:=zOt "written" 903 164 1 3 555 556 557 558 559 907
def aJw:=oF "written" "written" (top 43) .none zS2 560
def aJ8:=oT [.str "thing" 915]
def aKu:=oN "is_share" "is_share" dQ
def aOf:=oL [iV 2,iV 0,.ref 20,iV 4,iV 0,.ref 33,iV 6,iV 0,.ref 46,iV 8,iV 0,.ref 59,iV 13,iV 0,.ref 78,iV 18,iV 0,.ref 97,iV 23,iV 0,.ref 116,iV 28,iV 0,.ref 135,iV 33,iV 0,.ref 154,iV 38,iV 0,.ref 173,iV 43,iV 0,.ref 192,iV 48,iV 0,.ref 211,iV 53,iV 0,.ref 230,iV 58,iV 0,.ref 249,iV 63,iV 0,.ref 268,iV 68,iV 0,.ref 287,iV 73,iV 0,.ref 306,iV 78,iV 0,.ref 325,iV 83,iV 0,.ref 344,iV 88,iV 0,.ref 363,iV 90,iV 0,.ref 375,iV 92,iV 0,.ref 387,iV 97,iV 0,.ref 406,iV 102,iV 0,.ref 425,iV 107,iV 0,.ref 444,iV 112,iV 0,.ref 463,iV 118,iV 0,.ref 476,iV 120,iV 0,.ref 483,iV 124,iV 0,.ref 490,iV 129,iV 0,.ref 497,iV 134,iV 0,.ref 504,iV 138,iV 0,.ref 511,iV 141,iV 0,.ref 518,iV 144,iV 0,.ref 525,iV 147,iV 0,.ref 532,iV 152,iV 0,.ref 539,iV 154,iV 0,.ref 546,iV 157,iV 0,.ref 553,iV 164,iV 0,.ref 560,iV 169,iV 0,.ref 567,iV 171,iV 0,.ref 574,iV 192,iV 0,.ref 619,iV 194,iV 0,.ref 626,iV 197,iV 0,.ref 633,iV 202,iV 0,.ref 647,iV 205,iV 0,.ref 652,iV 208,iV 0,.ref 659,iV 217,iV 0,.ref 666,iV 219,iV 0,.ref 673,iV 227,iV 0,.ref 681,iV 240,iV 0,.ref 688,iV 247,iV 0,.ref 695,iV 249,iV 0,.ref 702,iV 258,iV 0,.ref 709,iV 265,iV 0,.ref 716,iV 267,iV 0,.ref 723,iV 269,iV 0,.ref 730,iV 273,iV 0,.ref 735,iV 282,iV 0,.ref 742,iV 296,iV 0,.ref 749,iV 314,iV 0,.ref 756,iV 318,iV 0,.ref 763,iV 322,iV 0,.ref 770,iV 331,iV 0,.ref 777,iV 343,iV 0,.ref 784,iV 352,iV 0,.ref 791,iV 354,iV 0,.ref 798,iV 360,iV 0,.ref 803]
def aLt (P:Params):=oDn [kE P "__module__" 926 zS3,kQ P 928 "Shade",kL P 930 171,kI P 942 582,kE P "__eq__" 950 (.ref 589),kE P "__len__" 956 (.ref 594),kE P "__str__" 962 (.ref 599),kE P "__repr__" 969 (.ref 606),kT P 973 607] 9
def aNn:=oL [iV 173,iV 4,.ref 581,iV 181,iV 4,.ref 588,iV 184,iV 4,.ref 593,iV 187,iV 4,.ref 598,iV 190,iV 4,.ref 605]
def aND:=zOf "Shade" 921 171 0 0 572 573 0 0 0 924
def aOa:=oR 574 571 zS3
def aN1:=oT [.str "self" 934,.str "ember" 935,.str "leaf" 936,.str "sky" 937,.str "light" 938,.str "share" 939]
def aMG:=oN "__init__" "Shade.__init__" bA
def aOi:=oT [.str "self" 946,.str "other" 947]
def aMt:=oN "__eq__" "Shade.__eq__" bI
def aNI:=oN "__len__" "Shade.__len__" (aG (top 46) 2)
def aOh:=zXt "__len__" "Shade.__len__" 951 184 1 3 590 591 0 0 592 954
def aME:=oF "__len__" "Shade.__len__" (aG (top 46) 2) .none zS3 593
def aOw:=oN "__str__" "Shade.__str__" (aG (top 46) 3)
def aNt:=zXt "__str__" "Shade.__str__" 957 187 1 3 595 596 0 0 597 960
def aNF:=oF "__str__" "Shade.__str__" (aG (top 46) 3) .none zS3 598
def aOg:=oT [.str "self" 966]
def aOq:=oN "__repr__" "Shade.__repr__" (aG (top 46) 4)
def aNc:=zXt "__repr__" "Shade.__repr__" 963 190 1 3 600 601 602 603 604 967
def aNm:=oF "__repr__" "Shade.__repr__" (aG (top 46) 4) .none zS3 605
def aOd:=oT [.str "ember" 970,.str "leaf" 971,.str "sky" 972]
noncomputable def aNa:Obj:=⟨(.type "getset_descriptor"),none,.fields #[(.str "__dict__" 974),(.ref 609),(.builtin "function.__dict__"),(.builtin "function.__dict__#set")], #[]⟩
noncomputable def aMy:Obj:=⟨(.type "getset_descriptor"),none,.fields #[(.str "__weakref__" 976),(.ref 609),(.builtin "ExceptionGroup.__weakref__"),.none], #[]⟩
def aM3:=oS 609
def aMI:=oB "object.__init_subclass__" (.ref 609)
def aOp:=oT [.str "thing" 985]
def aMT:=oN "is_shade" "is_shade" dU
def aMU:=oT [.str "thing" 992]
def aMZ:=oN "need_shade" "need_shade" bX
def aMK:=oT [.str "shade" 999]
def aMq:=oN "shares_of" "shares_of" cX
def aNg:=oT [.str "shares" 1042,.str "stretch" 1043,.str "greatest" 1044,.str "least" 1045,.str "middle" 1046]
def aMw:=oN "falls" "falls" jQ
def aNv:=oN "stretch_of" "stretch_of" bZ
def aOe:=oT [.str "shade" 1059,.str "shares" 1060,.str "greatest" 1061,.str "least" 1062,.str "middle" 1063,.str "start" 1064,.str "way" 1065,.str "white" 1066,.str "black" 1067,.str "part" 1068]
def aMs:=oN "wheel_of" "wheel_of" dW
def aMR:=oT [.str "thing" 1075]
def aNL:=oN "is_from_0" "is_from_0" cV
def aOm:=oT [.str "white" 1082,.str "black" 1083,.str "turn" 1084,.str "together" 1085,.str "fits" 1086]
def aNH:=oN "need_turn" "need_turn" cY
def aOt:=oT [.str "white" 1093,.str "black" 1094,.str "turn" 1095,.str "thing" 1096,.str "greatest" 1097,.str "least" 1098,.str "middle" 1099,.str "start" 1100,.str "way" 1101,.str "most" 1102,.str "part" 1103,.str "shares" 1104]
def aN8:=oN "by_wheel" "by_wheel" dY
def aNV:=oT [.str "_law_script" 1113,.str "_law_k" 1114,.str "_law_state" 1115,.str "_law_cell_here" 1116]
def aNJ:=oN "_law_cell" "_law_cell" gI
def aNx:=oT [.str "_law_cell_here" 1123]
def aMJ:=oN "_law_purse" "_law_purse" eV
def aOs:=oT [.str "_law_purse_here" 1130,.str "_law_many" 1131,.str "_law_state" 1132,.str "_law_taken" 1133]
def aNP:=oN "_law_pick" "_law_pick" gC
def aNo:=oT [.str "_law_top" 1140,.str "_law_bottom" 1141,.str "_law_one" 1142,.str "_law_other" 1143]
def aMF:=oN "_law_low" "_law_low" jZ
def aNd:=oT [.str "_law_a" 1150,.str "_law_b" 1151]
def aOo:=oN "_law_minus" "_law_minus" eM
def aNy:=oT [.str "_law_a" 1158,.str "_law_b" 1159]
def aNe:=oN "_law_times" "_law_times" eK
def aM8:=oT [.str "_law_purse_here" 1166,.str "_law_way" 1167,.str "_law_bottom" 1168]
def aM9:=oN "_law_share" "_law_share" eU
def aNj:=oN "_law_shares" "_law_shares" dS
def aN2:=oT [.str "_law_purse_here" 1181,.str "_law_way" 1182,.str "_law_pale" 1183,.str "_law_room" 1184,.str "_law_bottom" 1185,.str "_law_murk" 1186,.str "_law_bend" 1187]
def aMX:=oN "_law_turn_row" "_law_turn_row" cA
def aMD:=oT [.str "_law_e" 1194,.str "_law_some" 1195,.str "_law_at" 1196,.str "_law_bases" 1197,.str "_law_kinds" 1198,.str "_law_due" 1199,.str "_law_words" 1200]
def aMx:=oN "_law_sort" "_law_sort" gL
def aNM:=oT [.str "_law_purse_here" 1207,.str "_law_some" 1208]
def aNp:=oN "_law_bad_part" "_law_bad_part" bY
def aM5:=oT [.str "_law_purse_here" 1215,.str "_law_some" 1216]
def aNq:=oN "_law_bad_turn" "_law_bad_turn" cC
def aNG:=oT [.str "_law_way" 1223,.str "_law_pale" 1224,.str "_law_murk" 1225,.str "_law_bend" 1226,.str "_law_e" 1227]
def aNQ:=oN "_law_tried" "_law_tried" eX
def aN9:=oT [.str "_law_purse_here" 1234,.str "_law_pale" 1235,.str "_law_murk" 1236,.str "_law_bend" 1237,.str "_law_bits" 1238,.str "_law_row" 1239,.str "_law_due" 1240,.str "_law_at" 1241]
def aNZ:=oN "_law_odd" "_law_odd" jI
def aMP:=oT [.str "_law_purse_here" 1248,.str "_law_pale" 1249,.str "_law_murk" 1250,.str "_law_bend" 1251,.str "_law_way" 1252]
def aNs:=oN "_law_unfit" "_law_unfit" eP
def aOc:=oT [.str "_law_row" 1259]
def aNO:=oN "_law_no_shades" "_law_no_shades" bP
def aN4:=oT [.str "_law_thing" 1266,.str "_law_e" 1267]
def aNi:=oN "_law_asked" "_law_asked" eS
def aMN:=oN "law" "law" sI
noncomputable abbrev pW:Program:=PySem.Challenge.pw_lightshares_k18_wheels_refused
noncomputable abbrev bdy:List Stmt:=W.behindTheImports pW
noncomputable abbrev env0:Env:={ scope:=pW.main.scope,locals:=mainNs,globals:=mainNs,cells:=[],code:=(.ref 13),frame:=some 14 }
noncomputable abbrev cE0:Code:=.body bdy env0
noncomputable abbrev B0:List Frame:=[W.topFrame ⟨0,0,0,0⟩]
noncomputable abbrev S0 (w:World) (os:OsState):Shared:=⟨W.boot_heap w.params,Array.mk [],W.boot_drawn,W.boot_toks,os⟩
theorem aN3:∀ w:World,(W.fencedOpening treeTable pW w 15876).map (fun s=>(s.heap,s.gens,s.drawn,s.toks))=some (W.boot_heap w.params,Array.mk [],W.boot_drawn,W.boot_toks):=W.boot_open (by rfl) (by decide) (fun _=>by rfl)
theorem aNA:∀ w:World,((W.boot_heap w.params).isNs mainGlobals && (Array.mk []:Array GenState).size == 0,(W.boot_heap w.params).objs.size,(W.boot_heap w.params).nsMap mainGlobals "__annotations__")=(true,11,(some (.ref 6))):=by
 intro w;kernel_rfl
noncomputable def Sa (w:World) (os:OsState):Shared:=aKv (W.topGo treeTable pW w 11 (some (.ref 6)) 12 (S0 w os) (W.topStub pW)) (S0 w os)
theorem aKd:∀ (w:World) (os:OsState),W.topGo treeTable pW w 11 (some (.ref 6)) 12 (S0 w os) (W.topStub pW)=some (Sa w os,⟨denote treeTable cE0,cE0,⟨0,0,0,0⟩,B0⟩):=by
 intro w os;kernel_rfl
noncomputable def Sb (w:World) (os:OsState):Shared:=aKH (W.segRun treeTable pW w 11 (some (.ref 6)) 1 1 (Sa w os) (W.blockOf bdy env0 cE0 ⟨0,0,0,0⟩ B0)) (S0 w os)
theorem aJL:∀ (w:World) (os:OsState),W.segRun treeTable pW w 11 (some (.ref 6)) 1 1 (Sa w os) (W.blockOf bdy env0 cE0 ⟨0,0,0,0⟩ B0)=some (.next,Sb w os,cE0,⟨0,0,0,0⟩):=by
 intro w os;kernel_rfl
def hm0 (P:Params):Heap:=⟨#[W.boot_o_0 P,W.boot_o_1 P,ko2 P,mo0 P,W.boot_o_4 P,W.boot_o_5 P,W.boot_o_6 P,W.boot_o_7 P,W.boot_o_8 P,W.boot_o_9 P,W.boot_o_10 P,M1,M2,M3,M4,M5,M6,mo7 P,M1,M8,M9,M10,M1,JY P,M11,M12,M13,M14,M15,M6,SA P,M1,M8,M17,M18,M1,IC P,M19,M20,M21,M22,M23,M6,PJ P,M1,M8,M25,M26,M1,HX P,M27,M28,M29,M30,M31,M6,RW P,M1,M33,M34,M35,M1,M8,M36,M1,M37,M38,M39,M40,LD P,IT,M41,M42,M31,M6,SI P,M1,M44,M45,M46,M1,M8,M47,M1,M48,IZ,IQ,M49,IO P,JH,M50,M51,M31,M6,RU P,M1,M53,M54,M55,M1,M8,M56,M1,M57,wL,wA,M58,tU P,vQ,M59,M60,M31,M6,RM P,M1,M62,M63,M64,M1,M8,M65,M1,M66,M67,M68,M69,tR P,uA,M70,M71],(W.boot_heap P).life⟩
noncomputable abbrev Sm0 (w:World) (os:OsState):Shared:=⟨hm0 w.params,Array.mk [],W.boot_drawn,345,os⟩
noncomputable abbrev l0:List Stmt:=bdy.take 8
noncomputable abbrev r0:List Stmt:=bdy.drop 8
theorem aN6:∀ (w:World),∀ os:OsState,W.segRun treeTable pW w 11 (some (.ref 6)) 1 1558 (Sb w os) (W.piecesOf l0 env0 cE0 ⟨0,0,0,0⟩ B0)=some (.next,Sm0 w os,cE0,⟨23,0,27,26⟩):=by
 intro w os;kernel_rfl
def hm1 (P:Params):Heap:=⟨#[W.boot_o_0 P,W.boot_o_1 P,ko2 P,aOl P,W.boot_o_4 P,W.boot_o_5 P,W.boot_o_6 P,W.boot_o_7 P,W.boot_o_8 P,W.boot_o_9 P,W.boot_o_10 P,M1,M73,M3,M4,M5,M6,mo7 P,M1,M8,M9,M10,M1,JY P,M74,M12,M13,M14,M15,M6,SA P,M1,M8,M17,M18,M1,IC P,M19,M20,M21,M22,M23,M6,PJ P,M1,M8,M25,M26,M1,HX P,M27,M28,M29,M30,M31,M6,RW P,M1,M33,M34,M35,M1,M8,M36,M1,M37,M38,M39,M40,LD P,IT,M41,M42,M31,M6,SI P,M1,M44,M45,M46,M1,M8,M47,M1,M48,IZ,IQ,M49,IO P,JH,M50,M51,M31,M6,RU P,M1,M53,M54,M55,M1,M8,M56,M1,M57,wL,wA,M58,tU P,vQ,M59,M60,M31,M6,RM P,M1,M62,M63,M64,M1,M8,M65,M1,M66,M67,M68,M69,tR P,uA,M70,M71,M31,M6,YB P,M1,M76,M77,M78,M1,M8,M79,M1,M80,yV,zP,M81,zK P,yL,M82,M83,M31,M6,aAe P,M1,M85,M86,M87,M1,M8,M88,M1,M89,M90,M91,M92,zT P,yO,M93,M94,M31,M6,UH P,M1,M96,M97,M98,M1,M8,M99,M1,aAf,UW,aAF,VX,zH P,zL,VQ,YU,M31,M6,EU P,M1,VF,ZT,WI,M1,M8,VP,M1,VI,TL,XO,VJ,yP P,zN,WY,aAU,M31,M6,DI P,M1,ZM,aAb,XT,M1,M8,XA,M1,XH,VC,YX,XL,zF P,zS,aAz,YT],(W.boot_heap P).life⟩
noncomputable abbrev Sm1 (w:World) (os:OsState):Shared:=⟨hm1 w.params,Array.mk [],W.boot_drawn,470,os⟩
noncomputable abbrev l1:List Stmt:=r0.take 5
noncomputable abbrev r1:List Stmt:=r0.drop 5
theorem aOb:∀ (w:World),∀ os:OsState,W.segRun treeTable pW w 11 (some (.ref 6)) 1 1226 (Sm0 w os) (W.piecesOf l1 env0 cE0 ⟨23,0,27,26⟩ B0)=some (.next,Sm1 w os,cE0,⟨48,0,52,26⟩):=by
 intro w os;kernel_rfl
def hm2 (P:Params):Heap:=⟨#[W.boot_o_0 P,W.boot_o_1 P,ko2 P,aJP P,W.boot_o_4 P,W.boot_o_5 P,W.boot_o_6 P,W.boot_o_7 P,W.boot_o_8 P,W.boot_o_9 P,W.boot_o_10 P,M1,aMY,M3,M4,M5,M6,mo7 P,M1,M8,M9,M10,M1,JY P,WG,M12,M13,M14,M15,M6,SA P,M1,M8,M17,M18,M1,IC P,M19,M20,M21,M22,M23,M6,PJ P,M1,M8,M25,M26,M1,HX P,M27,M28,M29,M30,M31,M6,RW P,M1,M33,M34,M35,M1,M8,M36,M1,M37,M38,M39,M40,LD P,IT,M41,M42,M31,M6,SI P,M1,M44,M45,M46,M1,M8,M47,M1,M48,IZ,IQ,M49,IO P,JH,M50,M51,M31,M6,RU P,M1,M53,M54,M55,M1,M8,M56,M1,M57,wL,wA,M58,tU P,vQ,M59,M60,M31,M6,RM P,M1,M62,M63,M64,M1,M8,M65,M1,M66,M67,M68,M69,tR P,uA,M70,M71,M31,M6,YB P,M1,M76,M77,M78,M1,M8,M79,M1,M80,yV,zP,M81,zK P,yL,M82,M83,M31,M6,aAe P,M1,M85,M86,M87,M1,M8,M88,M1,M89,M90,M91,M92,zT P,yO,M93,M94,M31,M6,UH P,M1,M96,M97,M98,M1,M8,M99,M1,aAf,UW,aAF,VX,zH P,zL,VQ,YU,M31,M6,EU P,M1,VF,ZT,WI,M1,M8,VP,M1,VI,TL,XO,VJ,yP P,zN,WY,aAU,M31,M6,DI P,M1,ZM,aAb,XT,M1,M8,XA,M1,XH,VC,YX,XL,zF P,zS,aAz,YT,M31,M6,MK P,M1,aDi,aCJ,aDe,M1,M8,aDw,M1,aC5,aCS,aCg,aCT,FU P,GJ,aBh,aCO,M31,M6,LO P,M1,aBy,aCv,aDh,M1,M8,aBO,M1,aBt,aCk,aB8,aCq,DL P,DH,aDS,aDl,M31,M6,NJ P,M1,aCV,aDc,aDK,M1,M8,aDL,M1,aDE,aB5,aBW,aCr,EY P,GM,aB2,aB6,M31,M6,MI P,M1,aDX,aDm,aBr,M1,M8,aDD,M1,aBm,aCd,aDq,aDG,EJ P,DC,aD1,aCW,M31,M6,MT P,M1,aC9,aDI,aB3,M1,M8,aCl,M1,aBT,aCi,aCt,aCj,DW P,HE,aBE,aDV],(W.boot_heap P).life⟩
noncomputable abbrev Sm2 (w:World) (os:OsState):Shared:=⟨hm2 w.params,Array.mk [],W.boot_drawn,595,os⟩
noncomputable abbrev l2:List Stmt:=r1.take 5
noncomputable abbrev r2:List Stmt:=r1.drop 5
theorem aMA:∀ (w:World),∀ os:OsState,W.segRun treeTable pW w 11 (some (.ref 6)) 1 1226 (Sm1 w os) (W.piecesOf l2 env0 cE0 ⟨48,0,52,26⟩ B0)=some (.next,Sm2 w os,cE0,⟨73,0,77,22⟩):=by
 intro w os;kernel_rfl
def hm3 (P:Params):Heap:=⟨#[W.boot_o_0 P,W.boot_o_1 P,ko2 P,aL0 P,W.boot_o_4 P,W.boot_o_5 P,W.boot_o_6 P,W.boot_o_7 P,W.boot_o_8 P,W.boot_o_9 P,W.boot_o_10 P,M1,aNl,M3,M4,M5,M6,mo7 P,M1,M8,M9,M10,M1,JY P,WG,M12,M13,M14,M15,M6,SA P,M1,M8,M17,M18,M1,IC P,aBn,M20,M21,M22,M23,M6,PJ P,M1,M8,M25,M26,M1,HX P,aMQ,M28,M29,M30,M31,M6,RW P,M1,M33,M34,M35,M1,M8,M36,M1,M37,M38,M39,M40,LD P,IT,M41,M42,M31,M6,SI P,M1,M44,M45,M46,M1,M8,M47,M1,M48,IZ,IQ,M49,IO P,JH,M50,M51,M31,M6,RU P,M1,M53,M54,M55,M1,M8,M56,M1,M57,wL,wA,M58,tU P,vQ,M59,M60,M31,M6,RM P,M1,M62,M63,M64,M1,M8,M65,M1,M66,M67,M68,M69,tR P,uA,M70,M71,M31,M6,YB P,M1,M76,M77,M78,M1,M8,M79,M1,M80,yV,zP,M81,zK P,yL,M82,M83,M31,M6,aAe P,M1,M85,M86,M87,M1,M8,M88,M1,M89,M90,M91,M92,zT P,yO,M93,M94,M31,M6,UH P,M1,M96,M97,M98,M1,M8,M99,M1,aAf,UW,aAF,VX,zH P,zL,VQ,YU,M31,M6,EU P,M1,VF,ZT,WI,M1,M8,VP,M1,VI,TL,XO,VJ,yP P,zN,WY,aAU,M31,M6,DI P,M1,ZM,aAb,XT,M1,M8,XA,M1,XH,VC,YX,XL,zF P,zS,aAz,YT,M31,M6,MK P,M1,aDi,aCJ,aDe,M1,M8,aDw,M1,aC5,aCS,aCg,aCT,FU P,GJ,aBh,aCO,M31,M6,LO P,M1,aBy,aCv,aDh,M1,M8,aBO,M1,aBt,aCk,aB8,aCq,DL P,DH,aDS,aDl,M31,M6,NJ P,M1,aCV,aDc,aDK,M1,M8,aDL,M1,aDE,aB5,aBW,aCr,EY P,GM,aB2,aB6,M31,M6,MI P,M1,aDX,aDm,aBr,M1,M8,aDD,M1,aBm,aCd,aDq,aDG,EJ P,DC,aD1,aCW,M31,M6,MT P,M1,aC9,aDI,aB3,M1,M8,aCl,M1,aBT,aCi,aCt,aCj,DW P,HE,aBE,aDV,tB,M6,aBd P,M1,aGN,aHN,aGm,M1,M8,aFS,M1,aGf,aGO,aGe,aF2,OI P,NH,aIh,aGk,tB,M6,XB P,M1,aIc,aId,aGr,M1,M8,aJc,M1,aHu,aIF,aI9,aHz,MY P,NB,aFU,aHh,tB,M6,ZB P,M1,M8,aHf,aIV,M1,NR P,LQ,aHa,aIn,tB,M6,YN P,M1,M8,aHM,aHA,M1,MF P,LV,aFQ,aFN,sO,M6,aAG P,M1,aJl,aFH,aGa,M1,M8,aIG,M1,aHU,aHH,aF1,aIv,LW P,OG,aJh,aHV,sO,M6,ZV P,M1,aHS,aHO,aHD,M1,M8,aHT,M1,aI2,aGG,aIN,aF7,MH P,ND,aIf,aG6],(W.boot_heap P).life⟩
noncomputable abbrev Sm3 (w:World) (os:OsState):Shared:=⟨hm3 w.params,Array.mk [],W.boot_drawn,727,os⟩
noncomputable abbrev l3:List Stmt:=r2.take 6
noncomputable abbrev r3:List Stmt:=r2.drop 6
theorem aNE:∀ (w:World),∀ os:OsState,W.segRun treeTable pW w 11 (some (.ref 6)) 1 1407 (Sm2 w os) (W.piecesOf l3 env0 cE0 ⟨73,0,77,22⟩ B0)=some (.next,Sm3 w os,cE0,⟨97,0,101,24⟩):=by
 intro w os;kernel_rfl
def hm4 (P:Params):Heap:=⟨#[W.boot_o_0 P,W.boot_o_1 P,ko2 P,aKW P,W.boot_o_4 P,W.boot_o_5 P,W.boot_o_6 P,W.boot_o_7 P,W.boot_o_8 P,W.boot_o_9 P,W.boot_o_10 P,M1,aNf,M3,M4,M5,M6,mo7 P,M1,M8,M9,M10,M1,JY P,WG,M12,M13,M14,M15,M6,SA P,M1,M8,M17,M18,M1,IC P,aBn,M20,M21,M22,M23,M6,PJ P,M1,M8,M25,M26,M1,HX P,aHW,M28,M29,M30,M31,M6,RW P,M1,M33,M34,M35,M1,M8,M36,M1,M37,M38,M39,M40,LD P,IT,M41,M42,M31,M6,SI P,M1,M44,M45,M46,M1,M8,M47,M1,M48,IZ,IQ,M49,IO P,JH,M50,M51,M31,M6,RU P,M1,M53,M54,M55,M1,M8,M56,M1,M57,wL,wA,M58,tU P,vQ,M59,M60,M31,M6,RM P,M1,M62,M63,M64,M1,M8,M65,M1,M66,M67,M68,M69,tR P,uA,M70,M71,M31,M6,YB P,M1,M76,M77,M78,M1,M8,M79,M1,M80,yV,zP,M81,zK P,yL,M82,M83,M31,M6,aAe P,M1,M85,M86,M87,M1,M8,M88,M1,M89,M90,M91,M92,zT P,yO,M93,M94,M31,M6,UH P,M1,M96,M97,M98,M1,M8,M99,M1,aAf,UW,aAF,VX,zH P,zL,VQ,YU,M31,M6,EU P,M1,VF,ZT,WI,M1,M8,VP,M1,VI,TL,XO,VJ,yP P,zN,WY,aAU,M31,M6,DI P,M1,ZM,aAb,XT,M1,M8,XA,M1,XH,VC,YX,XL,zF P,zS,aAz,YT,M31,M6,MK P,M1,aDi,aCJ,aDe,M1,M8,aDw,M1,aC5,aCS,aCg,aCT,FU P,GJ,aBh,aCO,M31,M6,LO P,M1,aBy,aCv,aDh,M1,M8,aBO,M1,aBt,aCk,aB8,aCq,DL P,DH,aDS,aDl,M31,M6,NJ P,M1,aCV,aDc,aDK,M1,M8,aDL,M1,aDE,aB5,aBW,aCr,EY P,GM,aB2,aB6,M31,M6,MI P,M1,aDX,aDm,aBr,M1,M8,aDD,M1,aBm,aCd,aDq,aDG,EJ P,DC,aD1,aCW,M31,M6,MT P,M1,aC9,aDI,aB3,M1,M8,aCl,M1,aBT,aCi,aCt,aCj,DW P,HE,aBE,aDV,tB,M6,aBd P,M1,aGN,aHN,aGm,M1,M8,aFS,M1,aGf,aGO,aGe,aF2,OI P,NH,aIh,aGk,tB,M6,XB P,M1,aIc,aId,aGr,M1,M8,aJc,M1,aHu,aIF,aI9,aHz,MY P,NB,aFU,aHh,tB,M6,ZB P,M1,M8,aHf,aIV,M1,NR P,LQ,aHa,aIn,tB,M6,YN P,M1,M8,aHM,aHA,M1,MF P,LV,aFQ,aFN,sO,M6,aAG P,M1,aJl,aFH,aGa,M1,M8,aIG,M1,aHU,aHH,aF1,aIv,LW P,OG,aJh,aHV,sO,M6,ZV P,M1,aHS,aHO,aHD,M1,M8,aHT,M1,aI2,aGG,aIN,aF7,MH P,ND,aIf,aG6,sO,M6,aFt P,M1,aL3,aLU,aKD,M1,M8,aJI,M1,aLV,aMh,aKX,aJW,XE P,aAh,aKq,aKw,sO,M6,aEZ P,M1,aJJ,aJv,aJt,M1,M8,aJT,M1,aKt,aKS,aLk,aLW,aAj P,YH,aLa,aK3,sO,M6,aFD P,M1,M8,aLR,aJs,M1,ZU P,aAZ,aLY,aJD,aA1,M1,M8,aJ7,M1,aKj,aAi,aAO,M1,M8,aLz,M1,aMa,UC,YI,M1,M8,aJQ,M1,aJS,UK,ZC,M1,M8,aKn,M1,aJM,VM,TC,M1,M8,aKP,M1,aKL,aAW,YY,M1,M8,aK0,M1,aLi,aAk,UD,M1,M8,aLO,M1,aK2,TW,TF,M1,M8,aMf,M1,aLf,aAK,XS,M1,M8,aJY,M1,aJX,aAc,XY,M1,M8,aKg,M1,aLb,aAr,aAQ,M1,M8,aKh,M1,aLp,aA2,aA0,M1,M8,aLI,M1,aJ6,aL9,aLv,M1,M8,aKl,M1,aJ4,aJ2,aJw,M1,M8,aJ8,M1,aKu,aAu,WT],(W.boot_heap P).life⟩
noncomputable abbrev Sm4 (w:World) (os:OsState):Shared:=⟨hm4 w.params,Array.mk [],W.boot_drawn,919,os⟩
noncomputable abbrev l4:List Stmt:=r3.take 22
noncomputable abbrev r4:List Stmt:=r3.drop 22
theorem aMr:∀ (w:World),∀ os:OsState,W.segRun treeTable pW w 11 (some (.ref 6)) 1 1179 (Sm3 w os) (W.piecesOf l4 env0 cE0 ⟨97,0,101,24⟩ B0)=some (.next,Sm4 w os,cE0,⟨169,0,170,59⟩):=by
 intro w os;kernel_rfl
def hm5 (P:Params):Heap:=⟨#[W.boot_o_0 P,W.boot_o_1 P,ko2 P,ko3 P,W.boot_o_4 P,W.boot_o_5 P,W.boot_o_6 P,W.boot_o_7 P,W.boot_o_8 P,W.boot_o_9 P,W.boot_o_10 P,M1,aOf,M3,M4,M5,M6,mo7 P,M1,M8,M9,M10,M1,JY P,WG,M12,M13,M14,M15,M6,SA P,M1,M8,M17,M18,M1,IC P,aBn,M20,M21,M22,M23,M6,PJ P,M1,M8,M25,M26,M1,HX P,aHW,M28,M29,M30,M31,M6,RW P,M1,M33,M34,M35,M1,M8,M36,M1,M37,M38,M39,M40,LD P,IT,M41,M42,M31,M6,SI P,M1,M44,M45,M46,M1,M8,M47,M1,M48,IZ,IQ,M49,IO P,JH,M50,M51,M31,M6,RU P,M1,M53,M54,M55,M1,M8,M56,M1,M57,wL,wA,M58,tU P,vQ,M59,M60,M31,M6,RM P,M1,M62,M63,M64,M1,M8,M65,M1,M66,M67,M68,M69,tR P,uA,M70,M71,M31,M6,YB P,M1,M76,M77,M78,M1,M8,M79,M1,M80,yV,zP,M81,zK P,yL,M82,M83,M31,M6,aAe P,M1,M85,M86,M87,M1,M8,M88,M1,M89,M90,M91,M92,zT P,yO,M93,M94,M31,M6,UH P,M1,M96,M97,M98,M1,M8,M99,M1,aAf,UW,aAF,VX,zH P,zL,VQ,YU,M31,M6,EU P,M1,VF,ZT,WI,M1,M8,VP,M1,VI,TL,XO,VJ,yP P,zN,WY,aAU,M31,M6,DI P,M1,ZM,aAb,XT,M1,M8,XA,M1,XH,VC,YX,XL,zF P,zS,aAz,YT,M31,M6,MK P,M1,aDi,aCJ,aDe,M1,M8,aDw,M1,aC5,aCS,aCg,aCT,FU P,GJ,aBh,aCO,M31,M6,LO P,M1,aBy,aCv,aDh,M1,M8,aBO,M1,aBt,aCk,aB8,aCq,DL P,DH,aDS,aDl,M31,M6,NJ P,M1,aCV,aDc,aDK,M1,M8,aDL,M1,aDE,aB5,aBW,aCr,EY P,GM,aB2,aB6,M31,M6,MI P,M1,aDX,aDm,aBr,M1,M8,aDD,M1,aBm,aCd,aDq,aDG,EJ P,DC,aD1,aCW,M31,M6,MT P,M1,aC9,aDI,aB3,M1,M8,aCl,M1,aBT,aCi,aCt,aCj,DW P,HE,aBE,aDV,tB,M6,aBd P,M1,aGN,aHN,aGm,M1,M8,aFS,M1,aGf,aGO,aGe,aF2,OI P,NH,aIh,aGk,tB,M6,XB P,M1,aIc,aId,aGr,M1,M8,aJc,M1,aHu,aIF,aI9,aHz,MY P,NB,aFU,aHh,tB,M6,ZB P,M1,M8,aHf,aIV,M1,NR P,LQ,aHa,aIn,tB,M6,YN P,M1,M8,aHM,aHA,M1,MF P,LV,aFQ,aFN,sO,M6,aAG P,M1,aJl,aFH,aGa,M1,M8,aIG,M1,aHU,aHH,aF1,aIv,LW P,OG,aJh,aHV,sO,M6,ZV P,M1,aHS,aHO,aHD,M1,M8,aHT,M1,aI2,aGG,aIN,aF7,MH P,ND,aIf,aG6,sO,M6,aFt P,M1,aL3,aLU,aKD,M1,M8,aJI,M1,aLV,aMh,aKX,aJW,XE P,aAh,aKq,aKw,sO,M6,aEZ P,M1,aJJ,aJv,aJt,M1,M8,aJT,M1,aKt,aKS,aLk,aLW,aAj P,YH,aLa,aK3,sO,M6,aFD P,M1,M8,aLR,aJs,M1,ZU P,aAZ,aLY,aJD,aA1,M1,M8,aJ7,M1,aKj,aAi,aAO,M1,M8,aLz,M1,aMa,UC,YI,M1,M8,aJQ,M1,aJS,UK,ZC,M1,M8,aKn,M1,aJM,VM,TC,M1,M8,aKP,M1,aKL,aAW,YY,M1,M8,aK0,M1,aLi,aAk,UD,M1,M8,aLO,M1,aK2,TW,TF,M1,M8,aMf,M1,aLf,aAK,XS,M1,M8,aJY,M1,aJX,aAc,XY,M1,M8,aKg,M1,aLb,aAr,aAQ,M1,M8,aKh,M1,aLp,aA2,aA0,M1,M8,aLI,M1,aJ6,aL9,aLv,M1,M8,aKl,M1,aJ4,aJ2,aJw,M1,M8,aJ8,M1,aKu,aAu,WT,M1,M6,aLt P,M1,aNn,aND,aOa,M1,M8,aN1,M1,aMG,aEE,aEM,M1,M8,aOi,M1,aMt,aEN,aE9,M1,M8,aNI,aOh,aME,M1,M8,aOw,aNt,aNF,M1,M8,aOg,M1,aOq,aNc,aNm,aOd,aER P,aFz,aNa,aMy,aM3,aMI,M1,M8,aOp,M1,aMT,aEX,aFu,M1,M8,aMU,M1,aMZ,aEd,aE1,M1,M8,aMK,M1,aMq,aEi,aE3,aFE,aFq,aEP,aEp,aEn,aED,aEo,M1,M8,aNg,M1,aMw,aEh,aEb,M1,M8,aNv,aFb,aFg,M1,M8,aOe,M1,aMs,aEs,aFe,M1,M8,aMR,M1,aNL,aFA,aEC,M1,M8,aOm,M1,aNH,aEJ,aFv,aFC,M1,M8,aOt,M1,aN8,aFo,aFa,M1,M8,aNV,M1,aNJ,aEQ,aE0,M1,M8,aNx,M1,aMJ,aEx,aFr,M1,M8,aOs,M1,aNP,aFs,aE7,M1,M8,aNo,M1,aMF,aEe,aE2,M1,M8,aNd,M1,aOo,aEw,aEL,M1,M8,aNy,M1,aNe,aEY,aFh,M1,M8,aM8,M1,aM9,aEc,aE5,M1,M8,aNj,aEu,aEH,M1,M8,aN2,M1,aMX,aEa,aEU,M1,M8,aMD,M1,aMx,aEO,aEK,M1,M8,aNM,M1,aNp,aEg,aFm,M1,M8,aM5,M1,aNq,aFc,aEF,M1,M8,aNG,M1,aNQ,aEr,aE6,M1,M8,aN9,M1,aNZ,aEB,aEq,M1,M8,aMP,M1,aNs,aEz,aFf,M1,M8,aOc,M1,aNO,aEv,aFB,M1,M8,aN4,M1,aNi,aE8,aFx,M1,M8,aMN,aFk,aEj],(W.boot_heap P).life⟩
noncomputable abbrev Sm5 (w:World) (os:OsState):Shared:=⟨hm5 w.params,Array.mk [],W.boot_drawn,1277,os⟩
noncomputable abbrev l5:List Stmt:=r4.take 31
noncomputable abbrev r5:List Stmt:=r4.drop 31
theorem aNr:∀ (w:World),∀ os:OsState,W.segRun treeTable pW w 11 (some (.ref 6)) 1 1285 (Sm4 w os) (W.piecesOf l5 env0 cE0 ⟨169,0,170,59⟩ B0)=some (.next,Sm5 w os,cE0,⟨360,0,376,15⟩):=by
 intro w os;kernel_rfl
theorem aKF:∀ (w:World) (os:OsState),(W.topRun treeTable pW w 11 (some (.ref 6)) 21 (Sm5 w os) (W.restOf r5 env0 cE0 ⟨360,0,376,15⟩ B0)).map (fun s₁=>(W.staticsOk (importedModules pW.main.body) (W.boot_heap w.params) s₁.heap && W.namesBound pW s₁.heap && W.gensDone s₁ && W.laidKept (W.boot_heap w.params) s₁.heap,W.openSeen qv lo (importedModules pW.main.body) (fun s=>W.recOk [] s) true s₁,hk0.obs s₁))=some (true,W.openGood qv lo,hk0.val w):=by
 intro w os;kernel_rfl
theorem hlt:W.LeftO PySem.Challenge.pw_lightshares_k18_wheels_refused qv lo (fun s=>W.recOk [] s) hk0.obs hk0.val 15876:=by
 refine L3.aKa (M:=12 + (1 + (1558 + (1226 + (1226 + (1407 + (1179 + (1285 + 21)))))))) aN3 aNA (by decide) fun w os=>?_;obtain ⟨s₁,e,h⟩:=Option.map_eq_some_iff.mp (aKF w os);refine ⟨s₁,W.go_top (aKd w os) (W.piece_block (aJL w os) ?_),h⟩;rw [show bdy=l0 ++ r0 from (List.take_append_drop _ _).symm];refine W.piece_app (aN6 w os) ?_;rw [show r0=l1 ++ r1 from (List.take_append_drop _ _).symm];refine W.piece_app (aOb w os) ?_;rw [show r1=l2 ++ r2 from (List.take_append_drop _ _).symm];refine W.piece_app (aMA w os) ?_;rw [show r2=l3 ++ r3 from (List.take_append_drop _ _).symm];refine W.piece_app (aNE w os) ?_;rw [show r3=l4 ++ r4 from (List.take_append_drop _ _).symm];refine W.piece_app (aMr w os) ?_;rw [show r4=l5 ++ r5 from (List.take_append_drop _ _).symm];refine W.piece_app (aNr w os) ?_;exact e
end My
open PySem PySem.W PyProof.Rows
set_option maxRecDepth 100000 in
set_option maxHeartbeats 0 in
theorem PySem.Challenge.cw_lightshares_k18_wheels_refused_holds : PySem.Challenge.rw_lightshares_k18_wheels_refused.Holds := by
 w_on
 refine W.holds_law My.wsd fun said=>?_
 refine W.holds_open (q:=My.qv) (loose:=My.lo) (N:=15876) (XP:=fun _ _=>True)
   (Xt:=fun s=>W.recOk [] s)
   (Yf:=My.hk0.obs) (Ya:=My.hk0.val) (YP:=My.hk0.says)
   My.hlt My.hk0.of My.hk0.keeps
   (fun _ _=>trivial) (fun _ _ _ _ _=>trivial) (by rfl) (by rfl) (by rfl)
   (fun s e=>W.recFacts_of e) (by rfl) (by assumption) (by decide +kernel)
   ⟨rfl,rfl,rfl,rfl,rfl,by decide +kernel⟩ ?hw ?hc
 case hw=>w_witness2
 refine L2.VT (K:=My.K0) (l:=PySem.Challenge.rw_lightshares_k18_wheels_refused) (n:=63) (k:=84) (x:="_law_script") (CX:=L2.CX0) (sp:=L3.NX)
   rfl (by decide) rfl ⟨fun _=>rfl,by decide,by decide,fun _=>rfl⟩ (fun w h Y=>W.kIn_of Y) ?F (fun K H a ns hl hO hS=>L3.SX hl hO hS) (fun _ _ _ _ z=>z)
 case F =>
   intro w mg fa h KX G hmg
   exact My.fin KX G hmg
