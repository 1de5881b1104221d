import PyProof.Rows.All
import Wide.All
import OpenK.AllK
import Wide.FinOn
import Lean
import PyProof.EqAt
import PyProof.EqKinds
import PyProof.TupleCall
import PySem.Challenge.RW_lightshares_k14_whole_mixing_in_any_turn
set_option Elab.async false
set_option linter.all false
set_option maxRecDepth 100000
noncomputable section
def wAq:=@PySem.wpAny_bind
def wBq:=@PySem.wpAny_pure
def wCq:=@List.mem_cons_of_mem
def wDq:=@List.mem_cons_self
def wEq:=@PySem.Heap.get?_push_of_some
def wFq:=@Nat.lt_of_lt_of_le
def wGq:=@PySem.Heap.get?_push_size
def wHq:=@List.getElem?_eq_getElem
def wIq:=@List.size_toArray
namespace L2
open PySem PySem.Spec PyProof.Rows
noncomputable abbrev Key:=Sum Int Str
noncomputable def vC:Key→Value→Bool
 | .inl k,v=>Value.isInt k v
 | .inr x,v=>Value.isStrOf x v
noncomputable def aJX (w:World):Key→Int
 | .inl k=>hashInt k
 | .inr x=>hashStr w x
theorem bQ:∀ {k:Key} {v:Value},vC k v=true→(∃ i t,k=Sum.inl i∧v=Value.int i t)∨(∃ x t,k=Sum.inr x∧v=Value.str x t)
 | .inl i,v,h=>by
   obtain ⟨t,e⟩:=Value.isInt_shape (k:=i) (v:=v) h;exact .inl ⟨i,t,rfl,e⟩
 | .inr x,v,h=>by
   obtain ⟨t,e⟩:=Value.isStrOf_shape (x:=x) (v:=v) h;exact .inr ⟨x,t,rfl,e⟩
theorem QQ (i:Int) (t:Tok):vC (.inl i) (.int i t)=true:=by simp [vC,Value.isInt]
theorem OH (x:Str) (t:Tok):vC (.inr x) (.str x t)=true:=by simp [vC,Value.isStrOf]
theorem aDO (a b:Int):decide ((Sum.inl a:Key)=Sum.inl b)=(a == b):=by
 by_cases e:a=b
 · subst e; simp
 · have h:¬(Sum.inl a:Key)=Sum.inl b:=fun q=>e (Sum.inl.inj q);rw [decide_eq_false h];exact (beq_eq_false_iff_ne.mpr e).symm
theorem aFE (a b:Str):decide ((Sum.inr a:Key)=Sum.inr b)=decide (a=b):=by
 by_cases e:a=b
 · subst e; simp
 · have h:¬(Sum.inr a:Key)=Sum.inr b:=fun q=>e (Sum.inr.inj q);rw [decide_eq_false h,decide_eq_false e]
theorem aDF (a:Int) (b:Str):decide ((Sum.inl a:Key)=Sum.inr b)=false:=decide_eq_false (fun q=>nomatch q)
theorem aEG (a:Str) (b:Int):decide ((Sum.inr a:Key)=Sum.inl b)=false:=decide_eq_false (fun q=>nomatch q)
noncomputable def dN (prog:Program) (w:World):PySem.KeyKind prog w Key where
 is:=vC
 hash:=aJX w
 inj :=fun v a b ha hb=>by
   rcases bQ ha with ⟨i,t,rfl,rfl⟩ | ⟨x,t,rfl,rfl⟩
   · rcases bQ hb with ⟨j,u,rfl,e⟩ | ⟨y,u,rfl,e⟩
     · injection e with e1 _; rw [e1]
     · exact nomatch e
   · rcases bQ hb with ⟨j,u,rfl,e⟩ | ⟨y,u,rfl,e⟩
     · exact nomatch e
     · injection e with e1 _; rw [e1]
 byValue:=fun k v h=>by
   rcases bQ h with ⟨i,t,rfl,rfl⟩ | ⟨x,t,rfl,rfl⟩ <;> rfl
 pyHash:=fun hv h=>by
   rcases bQ hv with ⟨i,t,rfl,rfl⟩ | ⟨x,t,rfl,rfl⟩
   · exact wpAny_pyHash_int h
   · exact wpAny_pyHash_str h
 eqBool:=fun hu hv h=>by
   rcases bQ hu with ⟨i,t,rfl,rfl⟩ | ⟨x,t,rfl,rfl⟩
   · rcases bQ hv with ⟨j,u,rfl,rfl⟩ | ⟨y,u,rfl,rfl⟩
     · rw [aDO] at h; exact wpAny_eqBool_int h
     · rw [aDF] at h; exact SeqAt.EqAt.int_str i t y u _ _ _ _ h
   · rcases bQ hv with ⟨j,u,rfl,rfl⟩ | ⟨y,u,rfl,rfl⟩
     · rw [aEG] at h; exact SeqAt.EqAt.str_int x t j u _ _ _ _ h
     · rw [aFE] at h; exact wpAny_eqBool_str h
 «strs» :=fun k x t v h=>by
   rcases bQ h with ⟨i,u,rfl,e⟩ | ⟨y,u,rfl,e⟩
   · exact nomatch e
   · injection e with e1 _;subst e1;cases v <;> rfl
theorem aGc (prog:Program) (w:World) (k:Key) (v:Value):(dN prog w).is k v=vC k v:=rfl
theorem EI (prog:Program) (w:World) (i:Int) (t:Tok):(dN prog w).is (.inl i) (.int i t)=true:=QQ i t
theorem CO (prog:Program) (w:World) (x:Str) (t:Tok):(dN prog w).is (.inr x) (.str x t)=true:=OH x t
inductive V where
 | non | bl (b:Bool) | int (i:Int) | str (x:Str) | byt (b:Array UInt8) | flt (b:UInt64) | ref (a:Addr) | ty (n:String)
 deriving DecidableEq
noncomputable def aN:V→Value→Prop
 | .non,u=>u=Value.none
 | .bl b,u=>u=Value.bool b
 | .int i,u=>∃ t,u=Value.int i t
 | .str x,u=>∃ t,u=Value.str x t
 | .byt b,u=>∃ t,u=Value.bytes b t
 | .flt b,u=>∃ t,u=Value.float b t
 | .ref a,u=>u=Value.ref a
 | .ty n,u=>u=Value.type n
noncomputable abbrev aJ:List V→List Value→Prop:=Paired aN
theorem aJ.length {xs:List V} {us:List Value} (r:aJ xs us):xs.length=us.length:=Paired.length r
theorem aJ.get:∀ {xs:List V} {us:List Value} {i:Nat} {x:V},aJ xs us→xs[i]? =some x→∃ u,us[i]? =some u∧aN x u
 | _,_,_,_,.nil,e=>by simp at e
 | _,_,0,_,.cons r _,e=>by simp at e; subst e; exact ⟨_,rfl,r⟩
 | _,_,i + 1,x,.cons _ t,e=>by
   obtain ⟨u,h1,h2⟩:=aJ.get (i:=i) (x:=x) t (by simpa using e);exact ⟨u,by simpa using h1,h2⟩
theorem aJ.set {x:V} {u:Value} (r:aN x u):∀ {xs:List V} {us:List Value} (i:Nat),aJ xs us→aJ (xs.set i x) (us.set i u)
 | _,_,_,.nil=>.nil
 | _,_,0,.cons _ t=>.cons r t
 | _,_,i + 1,.cons q t=>.cons q (aJ.set r i t)
theorem aJ.append:∀ {xs ys:List V} {us ws:List Value},aJ xs us→aJ ys ws→aJ (xs ++ ys) (us ++ ws)
 | _,_,_,_,.nil,s=>s
 | _,_,_,_,.cons r t,s=>.cons r (aJ.append t s)
theorem aJ.take:∀ {xs:List V} {us:List Value} (n:Nat),aJ xs us→aJ (xs.take n) (us.take n)
 | _,_,0,_=>.nil
 | _,_,_ + 1,.nil=>.nil
 | _,_,n + 1,.cons r t=>.cons r (aJ.take n t)
theorem aJ.drop:∀ {xs:List V} {us:List Value} (n:Nat),aJ xs us→aJ (xs.drop n) (us.drop n)
 | _,_,0,r=>r
 | _,_,_ + 1,.nil=>.nil
 | _,_,n + 1,.cons _ t=>aJ.drop n t
noncomputable def nU:Option V→Option Value→Prop
 | some v,some u=>aN v u
 | none,none=>True
 | _,_=>False
noncomputable def KV {κ:Type}:List (κ×V)→List (κ×Value)→Prop:=Paired fun (p:κ×V) (q:κ×Value)=>p.1=q.1∧aN p.2 q.2
noncomputable def kV:Key→V
 | .inl i=>.int i
 | .inr x=>.str x
inductive HO where
 | lst (xs:List V)
 | tup (xs:List V)
 | dK (kvs:List (Key×V)) | dT (kvs:List (List Key×V))
 | set (S:Int→Bool) (n:Nat)
 | ins (C dx:Addr) (fs:List (Str×V))
 | own (x:Addr)
 | xd (fs:List (Str×V))
 | met (f x:Addr)
 | rng (lo hi:Int)
 | frz (o:Obj) (u:HO)
 | tbl (ps:Array Value)
 | ext (φ:Heap→Prop)
noncomputable abbrev Hp:=Addr→Option HO
noncomputable def upd (H:Hp) (a:Addr) (o:HO):Hp:=fun b=>if b=a then some o else H b
theorem aW {H:Hp} {a:Addr} {o:HO}:upd H a o a=some o:=by unfold upd; rw [if_pos rfl]
theorem aI {H:Hp} {a b:Addr} {o:HO} (h:b≠a):upd H a o b=H b:=by unfold upd; rw [if_neg h]
theorem aL {H:Hp} {a b:Addr} {o:HO} (h:H a=some o) (h':H b=none):a≠b:=by
 intro e; subst e; rw [h] at h'; cases h'
def gC (h:Heap) (a:Addr) (items:Array Value):Prop:=IsTup h a items∧∀ o,h.get? a=some o→o.dict=none
theorem gC.new (h:Heap) (items:Array Value):gC (h.push { cls:=.type "tuple",data:=.seq items }) h.objs.size items:=⟨IsTup.new h items,fun o e=>by rw [wGq _ rfl] at e; cases e; rfl⟩
section
variable (P:Program) (w:World)
noncomputable def bZ (H:Hp) (h:Heap) (a:Addr):HO→Prop
 | .lst xs=>xs.length≤sizeLine∧∃ (its:List Value) (n:Nat),aJ xs its∧h.get? a=some { cls:=.type "list",data:=.seq its.toArray n }
 | .tup xs=>xs.length≤sizeLine∧∃ its:List Value,aJ xs its∧gC h a its.toArray
 | .dK kvs=>kvs.length≤sizeLine∧(a == sysModules)=false∧∃ vs,KV kvs vs∧h.DictOf (dN P w) a vs
 | .dT kvs=>kvs.length≤sizeLine∧(a == sysModules)=false∧∃ xs:List (List Key×Addr×Value),
     Paired (fun (p:List Key×V) (q:List Key×Addr×Value)=>p.1=q.1∧H q.2.1=some (.tup (p.1.map kV))∧aN p.2 q.2.2) kvs xs∧
     ∃ o es ep,h.get? a=some o∧o.ExactDict∧o.data= .dict es ep∧es.toList=xs.map (entryOfKey (tupleKind (dN P w)))∧(xs.map (·.1)).Nodup
 | .set S n=>h.SetOf (intKind P w) a S n
 | .ins C dx fs=>H dx=some (.own a)∧fs.length≤1000∧dx≠a∧h.get? a=some (W.instObj C dx)∧
     ∃ mA,h.Ns1 dx mA∧(∀ f,nU (fs.lookup f) (mA f))∧PySem.Within mA (fs.map (·.1))
 | .own _=>∃ o,h.get? a=some o
 | .xd fs=>∃ mA,h.Ns1 a mA∧∀ f,nU (fs.lookup f) (mA f)
 | .rng lo hi=>∃ t u v,h.get? a=some { cls:=.type "range",data:=.fields #[.int lo t,.int hi u,.int 1 v] }
 | .frz o u=>h.get? a=some o∧bZ H h a u
 | .tbl ps=>h.get? a=some { cls:=.none,data:=.fields ps }
 | .met f x=>h.get? a=some (W.methodObj (.ref f) (.ref x))
 | .ext φ=>φ h∧(∃ o,h.get? a=some o)∧∀ h1 h2:Heap,φ h1→(∀ o,h1.get? a=some o→h2.get? a=some o)→φ h2
def HOk (H:Hp) (h:Heap):Prop:= ∀ a o,H a=some o→bZ P w H h a o
end
section
variable {P:Program} {w:World} {H H':Hp} {h h':Heap} {a:Addr} {o:HO}
theorem bZ.lt (x:bZ P w H h a o):a < h.objs.size:=by
 cases o with
 | lst xs=>obtain ⟨_,_,_,_,e⟩:=x; exact Heap.lt_size e
 | tup xs=>obtain ⟨_,_,_,p⟩:=x; exact p.1.lt
 | dK kvs=>obtain ⟨_,_,_,_,o,_,_,e,_⟩:=x; exact Heap.lt_size e
 | dT kvs=>obtain ⟨_,_,_,_,o,_,_,e,_⟩:=x; exact Heap.lt_size e
 | set S n=>obtain ⟨o,_,_,_,e,_⟩:=x; exact Heap.lt_size e
 | ins C dx fs=>obtain ⟨_,_,_,e,_⟩:=x; exact Heap.lt_size e
 | own y=>obtain ⟨_,e⟩:=x; exact Heap.lt_size e
 | xd fs=>obtain ⟨_,⟨_,_,_,e,_⟩,_⟩:=x; exact Heap.lt_size e
 | rng lo hi=>obtain ⟨_,_,_,e⟩:=x; exact Heap.lt_size e
 | frz ob u=>obtain ⟨e,_⟩:=x; exact Heap.lt_size e
 | tbl ps=>exact Heap.lt_size (show h.get? a=some _ from x)
 | met f y=>exact Heap.lt_size (show h.get? a=some _ from x)
 | ext φ=>obtain ⟨_,⟨_,e⟩,_⟩:=x; exact Heap.lt_size e
theorem Paired.mapP {α β:Type} {F G:α→β→Prop}:∀ {l₁:List α} {l₂:List β},Paired F l₁ l₂→(∀ a b,F a b→G a b)→Paired G l₁ l₂
 | _,_,.nil,_=>.nil
 | _,_,.cons r t,f=>.cons (f _ _ r) (Paired.mapP t f)
theorem bZ.stay (x:bZ P w H h a o) (k:∀ b u,(b=a∨H b=some (.own a))→h.get? b=some u→h'.get? b=some u)
   (ho:∀ b,H b=some (.own a)→H' b=some (.own a)) (ht:∀ b xs,H b=some (.tup xs)→H' b=some (.tup xs)):bZ P w H' h' a o:=by
 induction o with
 | lst xs=>obtain ⟨z,its,n,r,e⟩:=x; exact ⟨z,its,n,r,k _ _ (.inl rfl) e⟩
 | tup xs=>obtain ⟨z,its,r,⟨ob,e,c⟩,dn⟩:=x; exact ⟨z,its,r,⟨ob,k _ _ (.inl rfl) e,c⟩,fun o q=>by rw [k _ _ (.inl rfl) e] at q; cases q; exact dn _ e⟩
 | dK kvs=>obtain ⟨z,y,vs,r,ob,es,ep,e,c⟩:=x; exact ⟨z,y,vs,r,ob,es,ep,k _ _ (.inl rfl) e,c⟩
 | dT kvs =>
   obtain ⟨z,y,xs,r,ob,es,ep,e,c⟩:=x;exact ⟨z,y,xs,Paired.mapP r fun p q z=>⟨z.1,ht _ _ z.2.1,z.2.2⟩,ob,es,ep,k _ _ (.inl rfl) e,c⟩
 | set S n=>obtain ⟨ob,es,ep,t,e,c⟩:=x; exact ⟨ob,es,ep,t,k _ _ (.inl rfl) e,c⟩
 | ins C dx fs =>
   obtain ⟨d,z,ne,e,mA,⟨od,es,ep,e2,c⟩,r⟩:=x;exact ⟨ho _ d,z,ne,k _ _ (.inl rfl) e,mA,⟨od,es,ep,k _ _ (.inr d) e2,c⟩,r⟩
 | own y=>obtain ⟨ob,e⟩:=x; exact ⟨ob,k _ _ (.inl rfl) e⟩
 | xd fs=>obtain ⟨mA,⟨od,es,ep,e,c⟩,r⟩:=x; exact ⟨mA,⟨od,es,ep,k _ _ (.inl rfl) e,c⟩,r⟩
 | rng lo hi=>obtain ⟨t,u,v,e⟩:=x; exact ⟨t,u,v,k _ _ (.inl rfl) e⟩
 | frz ob u ih=>obtain ⟨e,q⟩:=x; exact ⟨k _ _ (.inl rfl) e,ih q⟩
 | tbl ps =>
   have e:h.get? a=some { cls:=.none,data:=.fields ps }:=x;show h'.get? a=some { cls:=.none,data:=.fields ps };exact k a _ (.inl rfl) e
 | met f y =>
   have e:h.get? a=some (W.methodObj (.ref f) (.ref y)):=x;show h'.get? a=some (W.methodObj (.ref f) (.ref y));exact k a _ (.inl rfl) e
 | ext φ=>obtain ⟨p,⟨o,e⟩,st⟩:=x; exact ⟨st _ _ p fun o q=>k _ _ (.inl rfl) q,⟨o,k _ _ (.inl rfl) e⟩,st⟩
theorem HOk.lt (x:HOk P w H h) (e:H a=some o):a < h.objs.size:=(x a o e).lt
theorem HOk.fresh (x:HOk P w H h) (e:h.objs.size≤a):H a=none:=by
 cases q:H a with
 | none=>rfl
 | some u=>exact absurd (wFq (x.lt q) e) (Nat.lt_irrefl _)
theorem HOk.kept (x:HOk P w H h) (k:∀ b u,h.get? b=some u→h'.get? b=some u):HOk P w H h':=fun a o e =>
 (x a o e).stay (fun b u _ q=>k b u q) (fun _ q=>q) fun _ _ q=>q
theorem HOk.laid (x:HOk P w H h) (k:∀ b u,h.get? b=some u→h'.get? b=some u) (hp:h.objs.size≤a) (new:bZ P w (upd H a o) h' a o):HOk P w (upd H a o) h':=fun b u e=>by
 have hn:=x.fresh hp;by_cases hb:b=a
 · subst hb; rw [aW] at e; cases e; exact new
 · rw [aI hb] at e;exact (x b u e).stay (fun c v _ q=>k c v q) (fun c q=>by rw [aI (aL q hn)]; exact q) fun c xs q=>by rw [aI (aL q hn)]; exact q
end
def Rd (H:Hp) (a:Addr) (u:HO):Prop:=H a=some u∨∃ o,H a=some (.frz o u)
theorem Rd.ok {P:Program} {w:World} {H:Hp} {h:Heap} {a:Addr} {u:HO} (r:Rd H a u) (x:HOk P w H h):bZ P w H h a u:=by
 rcases r with r | ⟨o,r⟩
 · exact x a u r
 · obtain ⟨_,q⟩:=x a _ r;exact q
noncomputable def Mut:Option HO→Prop
 | some (.lst _)=>True
 | some (.dK _)=>True
 | some (.dT _)=>True
 | some (.set _ _)=>True
 | some (.ins _ _ _)=>True
 | some (.ext _)=>True
 | _=>False
section
variable {P:Program} {w:World} {H:Hp} {h h':Heap} {x e:Addr} {o':HO}
theorem HOk.write (ok:HOk P w H h) (mu:Mut (H x)) (he:e=x∨H e=some (.own x)) (k:∀ b u,b≠e→h.get? b=some u→h'.get? b=some u) (heo:∃ u,h'.get? e=some u)
   (new:bZ P w (upd H x o') h' x o'):HOk P w (upd H x o') h':=fun b u q=>by
 have nown:∀ c y,H c=some (.own y)→c≠x:=fun c y r z=>by subst z; rw [r] at mu; exact mu
 have ntup:∀ c xs,H c=some (.tup xs)→c≠x:=fun c xs r z=>by subst z; rw [r] at mu; exact mu
 by_cases hb:b=x
 · subst hb; rw [aW] at q; cases q; exact new
 · rw [aI hb] at q;by_cases hbe:b=e
   · have q':H b=some (.own x):=by
       rcases he with z | z
       · exact absurd (hbe.trans z) hb
       · rw [hbe]; exact z
     rw [q] at q'; cases q';obtain ⟨v,hv⟩:=heo;exact ⟨v,by rw [hbe]; exact hv⟩
   · refine (ok b u q).stay (fun c v hc r=>k c v ?_ r) (fun c r=>by rw [aI (nown c b r)]; exact r) fun c xs r=>by rw [aI (ntup c xs r)]; exact r
     rcases hc with rfl | hc
     · exact hbe
     · rintro rfl;rcases he with z | z
       · exact nown c b hc z
       · rw [hc] at z; cases z; exact hb rfl
end
structure Un (fs ex:List Addr) (H H':Hp) (h h':Heap):Prop where
 keep:∀ b o,h.get? b=some o→H b=none→b∉ fs→b∉ ex→h'.get? b=some o
 slot:∀ b o,h.get? b=some o→H b=none→b∈fs→b∉ ex→∃ sl,h'.get? b=some { o with slots:=sl }
 free:∀ b o,h.get? b=some o→H b=none→b∉ ex→H' b=none
 there:∀ b o,h.get? b=some o→b∉ ex→∃ o',h'.get? b=some o'
 tups:∀ b xs,H b=some (.tup xs)→H' b=some (.tup xs)
 frzs:∀ b o u,H b=some (.frz o u)→H' b=some (.frz o u)
 tbls:∀ b ps,H b=some (.tbl ps)→∃ more,H' b=some (.tbl (ps ++ more))
section
variable {fs fs' ex ex':List Addr} {H H1 H2:Hp} {h h1 h2 h':Heap} {a x e:Addr} {o:HO}
theorem Un.any (u:Un fs ex H H1 h h1) {b:Addr} {ob:Obj} (q:h.get? b=some ob) (n:H b=none) (hx:b∉ ex):∃ sl,h1.get? b=some { ob with slots:=sl }:=by
 by_cases hb:b∈fs
 · exact u.slot b ob q n hb hx
 · exact ⟨ob.slots,u.keep b ob q n hb hx⟩
theorem Un.kept (k:∀ b u,h.get? b=some u→h'.get? b=some u):Un fs ex H H h h' :=
 ⟨fun b ob q _ _ _=>k b ob q,fun b ob q _ _ _=>⟨ob.slots,k b ob q⟩,fun _ _ _ n _=>n,fun b ob q _=>⟨ob,k b ob q⟩,fun _ _ q=>q,fun _ _ _ q=>q,fun _ ps q=>⟨#[],by rw [q]; simp⟩⟩
theorem Un.refl:Un fs ex H H h h:=Un.kept fun _ _ q=>q
theorem Un.laid (k:∀ b u,h.get? b=some u→h'.get? b=some u) (hp:h.objs.size≤a) (hn:H a=none):Un fs ex H (upd H a o) h h' where
 keep:=fun b u q _ _ _=>k b u q
 slot:=fun b u q _ _ _=>⟨u.slots,k b u q⟩
 free:=fun b u q n _=>by rw [aI (Nat.ne_of_lt (wFq (Heap.lt_size q) hp))]; exact n
 there:=fun b u q _=>⟨u,k b u q⟩
 tups:=fun b xs q=>by rw [aI (aL q hn)]; exact q
 frzs:=fun b u xs q=>by rw [aI (aL q hn)]; exact q
 tbls:=fun b ps q=>⟨#[],by rw [aI (aL q hn),q]; simp⟩
theorem Un.write (mu:Mut (H x)) (he:e=x∨H e=some (.own x)) (k:∀ b u,b≠e→h.get? b=some u→h'.get? b=some u) (heo:∃ u,h'.get? e=some u):Un fs ex H (upd H x o) h h':=by
 have hx:∀ b,H b=none→b≠x:=fun b n z=>by subst z; rw [n] at mu; exact mu
 have hb:∀ b,H b=none→b≠e:=fun b n z=>by
   subst z;rcases he with r | r
   · exact hx b n r
   · rw [n] at r; cases r
 have hm:∀ b u,H b=some u→¬Mut (some u)→b≠x:=fun b u q nm z=>by subst z; rw [q] at mu; exact nm mu
 refine ⟨fun b u q n _ _=>k b u (hb b n) q,fun b u q n _ _=>⟨u.slots,k b u (hb b n) q⟩,fun b u q n _=>by rw [aI (hx b n)]; exact n,fun b u q _=>?_,
   fun b xs q=>by rw [aI (hm b _ q fun z=>z)]; exact q,fun b u xs q=>by rw [aI (hm b _ q fun z=>z)]; exact q,fun b ps q=>⟨#[],by rw [aI (hm b _ q fun z=>z),q]; simp⟩⟩
 by_cases hbe:b=e
 · subst hbe; exact heo
 · exact ⟨u,k b u hbe q⟩
end
noncomputable def trk (h:Heap) (H:Hp):List Addr:=(List.range h.objs.size).filter fun a=>(H a).isSome
noncomputable def AO (h:Heap) (H:Hp):Heap:=W.hideAll h (trk h H)
theorem NN (h:Heap) (H:Hp):(AO h H).objs.size=h.objs.size:=W.hideAll_size _ _
theorem XO {h:Heap} {H:Hp} {b:Addr} {o:Obj} (e:h.get? b=some o) (n:H b=none):(AO h H).get? b=some o :=
 W.hideAll_get _ e fun hm=>by
   have q:(H b).isSome=true:=(List.mem_filter.mp hm).2;rw [n] at q; simp at q
theorem aBx {h:Heap} {H:Hp} {b:Addr} {o:Obj} (e:(AO h H).get? b=some o):h.get? b=some o∧H b=none:=by
 have e':h.get? b=some o:=W.of_hideAll (trk h H) e;refine ⟨e', ?_⟩;cases q:H b with
 | none=>rfl
 | some x =>
   have hm:b∈trk h H:=List.mem_filter.mpr ⟨List.mem_range.mpr (Heap.lt_size e'),by simp [q]⟩;have z:(AO h H).get? b=none:=W.hideAll_none (trk h H) hm;rw [z] at e; cases e
noncomputable def aBz (g h:Heap) (L:Addr):List (Addr×Obj):=(List.range h.objs.size).filterMap fun a=>if a=L∨(g.get? a).isSome=true then none else (h.get? a).map fun o=>(a,o)
noncomputable def cR (g h:Heap) (L d:Addr):List (Addr×Obj):=(aBz g h L).filter fun p=>decide (p.1≠d)
structure Mod (K:W.Frag) (mg:Str→Option Value) (base:Heap):Prop where
 kin:K.In base
 glob:base.Ns mainGlobals mg
 blt:∃ mb,base.Ns builtinsNs mb∧∀ x:Str,x≠"__name__"→mb x=bootBuiltins x
 nolimit:base.NoLimit
structure Cx where
 prog:Program
 w:World
 K:W.Frag
 mg:Str→Option Value
 base:Heap
 A:Around
 N:List Str
 s₀:Shared
 H₀:Hp
 env:Env
 outer:List Env
 stack:List Env
 ex:List Addr
 fn:Str→Bool
 calm:Bool
 pn:List (Addr×Obj)
 xe:Value→Shared→Prop
noncomputable def frs (l:List Env):List Addr:=l.filterMap (·.frame)
noncomputable abbrev Cx.fs (X:Cx):List Addr:=frs X.outer
def Vis (sc:Scope) (x:Str):Prop:=sc.names.lookup x=some .local∨sc.names.lookup x=some .cell∨sc.names.lookup x=some .free
def Loc (sc:Scope) (x:Str):Prop:=sc.names.lookup x=some .local∨sc.names.lookup x=some .cell
noncomputable def aKu (env:Env) (h:Heap) (m:Str→Option Value) (x:Str) (u:Value):Prop :=
 (env.kindOf x=some .local∧m x=some u)∨((env.kindOf x=some .cell∨env.kindOf x=some .free)∧∃ c,env.cells.lookup x=some c∧h.IsCell c (some u))
structure Cx.Ok (X:Cx):Prop where
 mod:Mod X.K X.mg X.base
 kind:X.env.scope.kind= .function
 glob:X.env.globals=mainGlobals
 blt:X.env.builtins=builtinsNs
 above:X.s₀.heap.objs.size≤X.env.locals
 inj:∀ x y c,X.env.cells.lookup x=some c→X.env.cells.lookup y=some c→x=y
 has:∀ x,(X.env.kindOf x=some .cell∨X.env.kindOf x=some .free)→∃ c,X.env.cells.lookup x=some c
 cab:∀ x c,X.fn x=true→X.env.cells.lookup x=some c→X.s₀.heap.objs.size≤c
 hd:X.calm=true→X.A.handled=none
 frames:X.A.frames=some X.stack
 stk:X.stack=X.outer∨(X.stack=X.env :: X.outer∧X.env.frame=some X.env.locals)
 exf:∀ b∈X.ex,b≠X.env.locals∧∀ x c,X.env.cells.lookup x=some c→c≠b
 bs:∀ b o,X.base.get? b=some o→X.s₀.heap.get? b=some o∧X.H₀ b=none
 bsz:X.base.objs.size≤X.s₀.heap.objs.size
 noex:∀ b o,X.base.get? b=some o→b∉ X.ex
 exfs:∀ b∈X.ex,b∉ X.fs
 funs:X.s₀.heap.FunFrames X.base X.outer
 frf:∀ b∈X.fs,X.H₀ b=none
structure Inv (X:Cx) (pins:List (Addr×Obj)) (σ:List (Option V)) (H:Hp) (s:Shared):Prop where
 ok:X.Ok
 os:s.os=X.s₀.os
 bare:AllBare s.gens
 base:Un X.fs X.ex X.H₀ H X.s₀.heap s.heap
 loc:∃ m,s.heap.Ns X.env.locals m∧∀ (i:Nat) (x:Str) (v:V),X.N[i]? =some x→σ[i]? =some (some v)→Vis X.env.scope x→∃ u,aN v u∧aKu X.env s.heap m x u
 cell:∀ x c,X.env.cells.lookup x=some c→∃ v,s.heap.IsCell c v
 free:H X.env.locals=none
 freeC:∀ x c,X.env.cells.lookup x=some c→H c=none
 pin:∀ p∈X.pn ++ pins,s.heap.get? p.1=some p.2∧H p.1=none∧p.1≠X.env.locals∧p.1∉ X.fs∧∀ v,p.2.data≠.cell v
 hok:HOk X.prog X.w H s.heap
 len:σ.length=X.N.length
section
variable {X:Cx} {pins:List (Addr×Obj)} {σ:List (Option V)} {H H':Hp} {s:Shared} {h':Heap}
theorem Cx.Ok.nofr (ok:X.Ok) {b:Addr} {o:Obj} (e:X.base.get? b=some o):b∉ X.fs:=fun hb=>by
 have:=(ok.funs.mem hb).1;rw [e] at this; cases this
theorem Inv.bs (I:Inv X pins σ H s):∀ b o,X.base.get? b=some o→s.heap.get? b=some o∧H b=none:=fun b o e =>
 ⟨I.base.keep b o (I.ok.bs b o e).1 (I.ok.bs b o e).2 (I.ok.nofr e) (I.ok.noex b o e),I.base.free b o (I.ok.bs b o e).1 (I.ok.bs b o e).2 (I.ok.noex b o e)⟩
theorem Inv.bk (I:Inv X pins σ H s):∀ b o,X.base.get? b=some o→s.heap.get? b=some o:=fun b o e=>(I.bs b o e).1
theorem Inv.mod (I:Inv X pins σ H s):Mod X.K X.mg X.base:=I.ok.mod
theorem Inv.kIn (I:Inv X pins σ H s):X.K.In s.heap:=I.ok.mod.kin.keeps I.bk
theorem Inv.fr (I:Inv X pins σ H s):∃ m,Fr X.base X.env.locals s.heap m :=
 let ⟨m,hn,_⟩:=I.loc
 ⟨m,hn,I.bk,Nat.le_trans I.ok.bsz I.ok.above⟩
theorem Inv.lt (I:Inv X pins σ H s):X.env.locals < s.heap.objs.size:=let ⟨_,hn,_⟩:=I.loc; hn.lt
theorem Inv.sz (I:Inv X pins σ H s):X.s₀.heap.objs.size≤s.heap.objs.size:=Nat.le_trans I.ok.above (Nat.le_of_lt I.lt)
theorem Inv.nofs (I:Inv X pins σ H s) {a:Addr} (h:s.heap.objs.size≤a):a∉ X.fs:=fun hb=>by
 obtain ⟨_,o,ho,_⟩:=I.ok.funs.mem hb;exact absurd (wFq (Heap.lt_size ho) (Nat.le_trans I.sz h)) (Nat.lt_irrefl _)
theorem Inv.cne (I:Inv X pins σ H s):∀ x c,X.env.cells.lookup x=some c→c≠X.env.locals:=fun x c e z=>by
 obtain ⟨v,o,ho,hd⟩:=I.cell x c e;obtain ⟨m,⟨o',es,ep,ho',hd',_⟩,_⟩:=I.loc;rw [z,ho'] at ho; cases ho; rw [hd'] at hd; cases hd
theorem Inv.funs (I:Inv X pins σ H s):s.heap.FunFrames X.base X.outer:=by
 have all:∀ (l:List Env),(∀ b∈frs l,b∈X.fs)→X.s₀.heap.FunFrames X.base l→s.heap.FunFrames X.base l:=by
   intro l;induction l with
   | nil=>intro _ _; trivial
   | cons env r ih =>
     intro hs hl;obtain ⟨hk,⟨L,o,hf,hn,ho,hd⟩,hr⟩:=hl;have hL:L∈X.fs:=hs L (by unfold frs; rw [List.filterMap_cons,hf]; exact wDq);obtain ⟨sl,e⟩:=I.base.slot L o ho (I.ok.frf L hL) hL fun z=>I.ok.exfs L z hL;exact ⟨hk,⟨L,_,hf,hn,e,hd⟩,ih (fun b hb=>hs b (by unfold frs; rw [List.filterMap_cons,hf]; exact wCq _ hb)) hr⟩
 exact all X.outer (fun _ hb=>hb) I.ok.funs
theorem Inv.stack (I:Inv X pins σ H s):s.heap.FunFrames X.base X.stack:=by
 rcases I.ok.stk with e | ⟨e,hf⟩
 · rw [e]; exact I.funs
 · rw [e];obtain ⟨m,hn,_⟩:=I.loc;refine .cons (by rw [I.ok.kind]; decide) hf hn ?_ I.funs;exact Heap.get?_none_of_le (Nat.le_trans I.ok.bsz I.ok.above)
theorem Inv.stkSub (I:Inv X pins σ H s):∀ b∈frs X.stack,b∈X.env.locals :: X.fs:=fun b hb=>by
 rcases I.ok.stk with e | ⟨e,hf⟩
 · rw [e] at hb; exact wCq _ hb
 · rw [e] at hb;unfold frs at hb;rw [List.filterMap_cons,hf] at hb;exact hb
theorem Inv.stkFree (I:Inv X pins σ H s):∀ b∈frs X.stack,H b=none:=fun b hb=>by
 rcases List.mem_cons.mp (I.stkSub b hb) with e | hb
 · rw [e]; exact I.free
 · obtain ⟨_,o,ho,_⟩:=I.ok.funs.mem hb;exact I.base.free b o ho (I.ok.frf b hb) fun z=>I.ok.exfs b z hb
theorem Inv.step {g':Array GenState} {t':Nat} {d':Drawn} {ch:List Addr} (I:Inv X pins σ H s)
   (hch:∀ b∈ch,(b∈X.ex∨X.s₀.heap.objs.size≤b)∧b≠X.env.locals∧(∀ x c,X.env.cells.lookup x=some c→c≠b)∧∀ p∈X.pn ++ pins,p.1≠b)
   (keep:∀ b o,b≠X.env.locals→b∉ X.fs→b∉ ch→s.heap.get? b=some o→H b=none→h'.get? b=some o)
   (slot:∀ b o,b≠X.env.locals→b∈X.fs→b∉ ch→s.heap.get? b=some o→H b=none→∃ sl,h'.get? b=some { o with slots:=sl }) (free:∀ b o,b∉ ch→s.heap.get? b=some o→H b=none→H' b=none)
   (there:∀ b o,b∉ ch→s.heap.get? b=some o→∃ o',h'.get? b=some o')
   (tups:∀ b xs,H b=some (.tup xs)→H' b=some (.tup xs)) (frzs:∀ b o u,H b=some (.frz o u)→H' b=some (.frz o u)) (tbls:∀ b ps,H b=some (.tbl ps)→∃ more,H' b=some (.tbl (ps ++ more)))
   (ns:∀ m,s.heap.Ns X.env.locals m→h'.Ns X.env.locals m) (hok:HOk X.prog X.w H' h') (hg:AllBare g') :
   Inv X pins σ H' { s with heap:=h',gens:=g',drawn:=d',toks:=t' }:=by
 have neL:∀ b o,X.s₀.heap.get? b=some o→b≠X.env.locals:=fun b o e=>Nat.ne_of_lt (wFq (Heap.lt_size e) I.ok.above);have neC:∀ b o,X.s₀.heap.get? b=some o→b∉ X.ex→b∉ ch:=fun b o e hx hb=>by
   rcases (hch b hb).1 with z | z
   · exact hx z
   · exact absurd (wFq (Heap.lt_size e) z) (Nat.lt_irrefl _)
 have cellK:∀ x c,X.env.cells.lookup x=some c→∀ v,s.heap.IsCell c v→h'.IsCell c v:=by
   rintro x c e v ⟨o,ho,hd⟩;have nch:c∉ ch:=fun z=>(hch c z).2.2.1 x c e rfl;by_cases hc:c∈X.fs
   · obtain ⟨sl,q⟩:=slot c o (I.cne x c e) hc nch ho (I.freeC x c e);exact ⟨_,q,hd⟩
   · exact ⟨o,keep c o (I.cne x c e) hc nch ho (I.freeC x c e),hd⟩
 refine ⟨I.ok,I.os,hg,⟨fun b o e n hb hx=>?_,fun b o e n hb hx=>?_,fun b o e n hx=>?_,fun b o e hx=>?_,fun b xs e=>tups b xs (I.base.tups b xs e),fun b o xs e=>frzs b o xs (I.base.frzs b o xs e),fun b ps e=>?_⟩, ?_,fun x c e=>?_, ?_,fun x c e=>?_,fun p hp=>?_,hok,I.len⟩
 · exact keep b o (neL b o e) hb (neC b o e hx) (I.base.keep b o e n hb hx) (I.base.free b o e n hx)
 · obtain ⟨sl,e1⟩:=I.base.slot b o e n hb hx;obtain ⟨sl',e2⟩:=slot b _ (neL b o e) hb (neC b o e hx) e1 (I.base.free b o e n hx);exact ⟨sl',e2⟩
 · obtain ⟨o',e1⟩:=I.base.there b o e hx;exact free b o' (neC b o e hx) e1 (I.base.free b o e n hx)
 · obtain ⟨o',e1⟩:=I.base.there b o e hx;exact there b o' (neC b o e hx) e1
 · obtain ⟨m1,e1⟩:=I.base.tbls b ps e;obtain ⟨m2,e2⟩:=tbls b _ e1;exact ⟨m1 ++ m2,by rw [e2,Array.append_assoc]⟩
 · obtain ⟨m,hn,hl⟩:=I.loc;refine ⟨m,ns m hn,fun i x v e1 e2 e3=>?_⟩;obtain ⟨u,r,l⟩:=hl i x v e1 e2 e3;refine ⟨u,r, ?_⟩;rcases l with l | ⟨k,c,e,z⟩
   · exact .inl l
   · exact .inr ⟨k,c,e,cellK x c e _ z⟩
 · obtain ⟨v,z⟩:=I.cell x c e;exact ⟨v,cellK x c e v z⟩
 · obtain ⟨m,⟨o,_,_,ho,_⟩,_⟩:=I.loc;exact free _ o (fun z=>(hch _ z).2.1 rfl) ho I.free
 · obtain ⟨v,o,ho,hd⟩:=I.cell x c e;exact free c o (fun z=>(hch c z).2.2.1 x c e rfl) ho (I.freeC x c e)
 · obtain ⟨e,n,ne,nf,d⟩:=I.pin p hp;have nch:p.1∉ ch:=fun z=>(hch p.1 z).2.2.2 p hp rfl;exact ⟨keep p.1 p.2 ne nf nch e n,free p.1 p.2 nch e n,ne,nf,d⟩
theorem Inv.un {t':Nat} (I:Inv X pins σ H s) (u:Un X.fs [] H H' s.heap h') (hok:HOk X.prog X.w H' h'):Inv X pins σ H' { s with heap:=h',toks:=t' }:=by
 obtain ⟨m,⟨o,es,ep,ho,r⟩,_⟩:=id I.loc;obtain ⟨sl,hL⟩:=u.any ho I.free (by simp);exact I.step (g':=s.gens) (d':=s.drawn) (ch:=[]) (fun _ z=>nomatch z) (fun b o _ hb _ e n=>u.keep b o e n hb (by simp)) (fun b o _ hb _ e n=>u.slot b o e n hb (by simp)) (fun b o _ e n=>u.free b o e n (by simp)) (fun b o _ e=>u.there b o e (by simp)) u.tups u.frzs u.tbls (fun m' hm=>by
   obtain ⟨o',es',ep',ho',r'⟩:=hm;rw [ho] at ho'; cases ho';exact ⟨_,es',ep',hL,r'⟩) hok I.bare
theorem Inv.call {g':Array GenState} {t':Nat} {d':Drawn} {ch:List Addr} (I:Inv X pins σ H s) (u:Un (frs X.stack) ch H H' s.heap h') (hok:HOk X.prog X.w H' h') (hg:AllBare g')
   (hch:∀ b∈ch,(b∈X.ex∨X.s₀.heap.objs.size≤b)∧b≠X.env.locals∧(∀ x c,X.env.cells.lookup x=some c→c≠b)∧∀ p∈X.pn ++ pins,p.1≠b) :
   Inv X pins σ H' { s with heap:=h',gens:=g',drawn:=d',toks:=t' }:=by
 obtain ⟨m,⟨o,es,ep,ho,r⟩,_⟩:=id I.loc;obtain ⟨sl,hL⟩:=u.any ho I.free fun z=>(hch _ z).2.1 rfl;exact I.step (ch:=ch) hch (fun b o hL hb hc e n=>u.keep b o e n (fun z=>(List.mem_cons.mp (I.stkSub b z)).elim hL hb) hc) (fun b o _ _ hc e n=>u.any e n hc) (fun b o hc e n=>u.free b o e n hc) (fun b o hc e=>u.there b o e hc) u.tups u.frzs u.tbls (fun m' hm=>by
   obtain ⟨o',es',ep',ho',r'⟩:=hm;rw [ho] at ho'; cases ho';exact ⟨_,es',ep',hL,r'⟩) hok hg
theorem Inv.turned {t':Nat} {it:Addr} (I:Inv X pins σ H s) (k:∀ b o,b≠it→s.heap.get? b=some o→h'.get? b=some o) (hn:H it=none) (hL:it≠X.env.locals)
   (h1:it∈X.ex∨X.s₀.heap.objs.size≤it) (h2:∀ x c,X.env.cells.lookup x=some c→c≠it) (h3:∀ p∈X.pn ++ pins,p.1≠it):Inv X pins σ H { s with heap:=h',toks:=t' }:=by
 have nit:∀ b u,H b=some u→b≠it:=fun b u e z=>by rw [z,hn] at e; cases e
 refine I.step (g':=s.gens) (d':=s.drawn) (ch:=[it]) (fun b hb=>?_) (fun b o _ _ hc e _=>k b o (fun z=>hc (by simp [z])) e) (fun b o _ _ hc e _=>⟨o.slots,k b o (fun z=>hc (by simp [z])) e⟩) (fun _ _ _ _ n=>n)
   (fun b o hc e=>⟨o,k b o (fun z=>hc (by simp [z])) e⟩) (fun _ _ e=>e) (fun _ _ _ e=>e) (fun b ps e=>⟨#[],by rw [e]; simp⟩) (fun m hm=>?_) (fun b u e=>?_) I.bare
 · have e:b=it:=by simpa using hb
   subst e;exact ⟨h1,hL,h2,h3⟩
 · obtain ⟨o,es,ep,ho,r⟩:=hm;exact ⟨o,es,ep,k _ o (Ne.symm hL) ho,r⟩
 · refine (I.hok b u e).stay (fun c v hc q=>k c v ?_ q) (fun _ q=>q) fun _ _ q=>q;rcases hc with z | z
   · rw [z]; exact nit b u e
   · exact nit c _ z
theorem Inv.tok (I:Inv X pins σ H s) (t:Nat):Inv X pins σ H { s with toks:=t }:=I.un (h':=s.heap) (t':=t) Un.refl I.hok
theorem Inv.kept {t':Nat} (I:Inv X pins σ H s) (k:∀ b u,s.heap.get? b=some u→h'.get? b=some u):Inv X pins σ H { s with heap:=h',toks:=t' }:=I.un (Un.kept k) (I.hok.kept k)
theorem Inv.laid {a:Addr} {o:HO} {t':Nat} (I:Inv X pins σ H s) (k:∀ b u,s.heap.get? b=some u→h'.get? b=some u) (hp:s.heap.objs.size≤a) (new:bZ X.prog X.w (upd H a o) h' a o) :
   Inv X pins σ (upd H a o) { s with heap:=h',toks:=t' }:=I.un (Un.laid k hp (I.hok.fresh hp)) (I.hok.laid k hp new)
theorem Inv.write {x e:Addr} {o:HO} {t':Nat} (I:Inv X pins σ H s) (mu:Mut (H x)) (he:e=x∨H e=some (.own x)) (k:∀ b u,b≠e→s.heap.get? b=some u→h'.get? b=some u) (heo:∃ u,h'.get? e=some u)
   (new:bZ X.prog X.w (upd H x o) h' x o):Inv X pins σ (upd H x o) { s with heap:=h',toks:=t' }:=I.un (Un.write mu he k heo) (I.hok.write mu he k heo new)
theorem Inv.pins_of {pins':List (Addr×Obj)} (I:Inv X pins σ H s) (h:∀ p∈pins',s.heap.get? p.1=some p.2∧H p.1=none∧p.1≠X.env.locals∧p.1∉ X.fs∧∀ v,p.2.data≠.cell v):Inv X pins' σ H s :=
 ⟨I.ok,I.os,I.bare,I.base,I.loc,I.cell,I.free,I.freeC,fun p hp=>(List.mem_append.mp hp).elim (fun z=>I.pin p (List.mem_append_left _ z)) (h p),I.hok,I.len⟩
theorem DT {N:List Str} (hN:N.Nodup) {i j:Nat} {x:Str} (a:N[i]? =some x) (b:N[j]? =some x):i=j:=by
 obtain ⟨h1,e1⟩:=List.getElem?_eq_some_iff.mp a;obtain ⟨h2,e2⟩:=List.getElem?_eq_some_iff.mp b;exact (List.getElem_inj hN).mp (e1.trans e2.symm)
theorem OY {M:Model} {A:Around} {E:Value→Shared→Prop} {i:Nat} {x:Str} {v:V} {u:Value} {Q:Unit→Shared→Prop} (I:Inv X pins σ H s) (hN:X.N.Nodup) (hi:X.N[i]? =some x) (hx:Loc X.env.scope x) (r:aN v u)
   (h:∀ s',Inv X pins (σ.set i (some v)) H s'→(∃ a,Heap.SameBut a s.heap s'.heap∧(a=X.env.locals∨X.env.cells.lookup x=some a))→Q () s') (hf:X.fn x=true∨X.env.scope.names.lookup x=some .local:=by first | exact .inl rfl | exact .inr rfl | assumption):wpAny M A (storeName X.env x u) Q E s:=by
 obtain ⟨m,hn,hl⟩:=id I.loc;have hcls:(X.env.scope.kind == .class || (X.env.scope.kind == .module && X.env.locals != X.env.globals))=false:=by rw [I.ok.kind]; rfl
 have hiσ:i < σ.length:=by rw [I.len]; exact (List.getElem?_eq_some_iff.mp hi).1
 have cne:=I.cne;have tracked:∀ {a:Addr} {h':Heap},(∃ o,s.heap.get? a=some o∧H a=none)→Heap.SameBut a s.heap h'→HOk X.prog X.w H h':=fun {a h'} ha hs b ob e=>by
   obtain ⟨_,_,hfree⟩:=ha;refine (I.hok b ob e).stay (fun c w' hc q=>(hs.2 c ?_).trans q) (fun _ q=>q) fun _ _ q=>q;rintro rfl;rcases hc with rfl | hc
   · rw [hfree] at e; cases e
   · rw [hfree] at hc; cases hc
 rcases hx with hk | hk
 · refine wpAny_storeName_local hk hn (fun h' hn' hs=>?_) hcls;obtain ⟨oL,_,_,hoL,_⟩:=id hn;refine h _ ⟨I.ok,I.os,I.bare,⟨fun b o e n hb hx=>?_,fun b o e n hb hx=>?_,I.base.free,fun b o e hx=>?_,I.base.tups,I.base.frzs,I.base.tbls⟩,⟨_,hn',fun j y v' e1 e2 e3=>?_⟩,fun y c e=>?_,I.free,I.freeC,fun p hp=>?_,tracked ⟨oL,hoL,I.free⟩ hs,by simpa using I.len⟩ ⟨_,hs,.inl rfl⟩
   · exact (hs.2 b (Nat.ne_of_lt (wFq (Heap.lt_size e) I.ok.above))).trans (I.base.keep b o e n hb hx)
   · obtain ⟨sl,e1⟩:=I.base.slot b o e n hb hx;exact ⟨sl,(hs.2 b (Nat.ne_of_lt (wFq (Heap.lt_size e) I.ok.above))).trans e1⟩
   · obtain ⟨o',e1⟩:=I.base.there b o e hx;exact ⟨o',(hs.2 b (Nat.ne_of_lt (wFq (Heap.lt_size e) I.ok.above))).trans e1⟩
   · by_cases hj:j=i
     · subst hj;rw [hi] at e1; cases e1;rw [List.getElem?_set_self hiσ] at e2;cases e2;exact ⟨u,r,.inl ⟨hk,by simp⟩⟩
     · rw [List.getElem?_set_ne (Ne.symm hj)] at e2;obtain ⟨u',r',q⟩:=hl j y v' e1 e2 e3;refine ⟨u',r', ?_⟩;rcases q with ⟨k,e⟩ | ⟨k,c,e,z⟩
       · refine .inl ⟨k, ?_⟩;have:y≠x:=fun e=>hj (DT hN e1 (e▸hi));simp [this,e]
       · exact .inr ⟨k,c,e,z.sameBut hs (cne y c e)⟩
   · obtain ⟨w',z⟩:=I.cell y c e;exact ⟨w',z.sameBut hs (cne y c e)⟩
   · obtain ⟨e,n,ne,nf,d⟩:=I.pin p hp;exact ⟨(hs.2 p.1 ne).trans e,n,ne,nf,d⟩
 · have hfn:X.fn x=true:=by
     rcases hf with z | z
     · exact z
     · rw [z] at hk; cases hk
   obtain ⟨c,hc⟩:=I.ok.has x (.inl hk);obtain ⟨w',z⟩:=I.cell x c hc;refine wpAny_storeName_cell I.ok.kind hk hc z (fun h' hc' hs=>?_);obtain ⟨oc,hoc,hocd⟩:=id z;refine h { s with heap:=h' } ⟨I.ok,I.os,I.bare,⟨fun b o e n hb hx=>?_,fun b o e n hb hx=>?_,I.base.free,fun b o e hx=>?_,I.base.tups,I.base.frzs,I.base.tbls⟩,⟨m,hn.sameBut hs (Ne.symm (cne x c hc)),fun j y v' e1 e2 e3=>?_⟩,fun y c' e=>?_,I.free,I.freeC,fun p hp=>?_,tracked ⟨oc,hoc,I.freeC x c hc⟩ hs,by simpa using I.len⟩ ⟨c,hs,.inr hc⟩
   · exact (hs.2 b (Nat.ne_of_lt (wFq (Heap.lt_size e) (I.ok.cab x c hfn hc)))).trans (I.base.keep b o e n hb hx)
   · obtain ⟨sl,e1⟩:=I.base.slot b o e n hb hx;exact ⟨sl,(hs.2 b (Nat.ne_of_lt (wFq (Heap.lt_size e) (I.ok.cab x c hfn hc)))).trans e1⟩
   · obtain ⟨o',e1⟩:=I.base.there b o e hx;exact ⟨o',(hs.2 b (Nat.ne_of_lt (wFq (Heap.lt_size e) (I.ok.cab x c hfn hc)))).trans e1⟩
   · by_cases hj:j=i
     · subst hj;rw [hi] at e1; cases e1;rw [List.getElem?_set_self hiσ] at e2;cases e2;exact ⟨u,r,.inr ⟨.inl hk,c,hc,hc'⟩⟩
     · rw [List.getElem?_set_ne (Ne.symm hj)] at e2;obtain ⟨u',r',q⟩:=hl j y v' e1 e2 e3;refine ⟨u',r', ?_⟩;rcases q with q | ⟨k,c',e,z'⟩
       · exact .inl q
       · refine .inr ⟨k,c',e,z'.sameBut hs ?_⟩;rintro rfl;exact hj (DT hN e1 (I.ok.inj _ _ _ e hc▸hi))
   · by_cases hcc:c'=c
     · subst hcc; exact ⟨_,hc'⟩
     · obtain ⟨w2,z2⟩:=I.cell y c' e;exact ⟨w2,z2.sameBut hs hcc⟩
   · obtain ⟨e,n,ne,nf,d⟩:=I.pin p hp;refine ⟨(hs.2 p.1 ?_).trans e,n,ne,nf,d⟩;intro q;rw [q,hoc] at e;have q':oc=p.2:=Option.some.inj e;exact d w' (by rw [←q']; exact hocd)
theorem vD {M:Model} {A:Around} {E:Value→Shared→Prop} {i:Nat} {x:Str} {v:V} {u:Value} {Q:Unit→Shared→Prop} (I:Inv X pins σ H s) (hN:X.N.Nodup) (hi:X.N[i]? =some x) (hx:Loc X.env.scope x) (r:aN v u)
   (h:∀ s',Inv X pins (σ.set i (some v)) H s'→Q () s') (hf:X.fn x=true∨X.env.scope.names.lookup x=some .local:=by first | exact .inl rfl | exact .inr rfl | assumption):wpAny M A (storeName X.env x u) Q E s :=
 OY I hN hi hx r (fun s' I' _=>h s' I') hf
theorem Inv.call' {s':Shared} {ch:List Addr} (I:Inv X pins σ H s) (ho:s'.os=s.os) (u:Un (frs X.stack) ch H H' s.heap s'.heap) (hok:HOk X.prog X.w H' s'.heap) (hg:AllBare s'.gens)
   (hch:∀ b∈ch,(b∈X.ex∨X.s₀.heap.objs.size≤b)∧b≠X.env.locals∧(∀ x c,X.env.cells.lookup x=some c→c≠b)∧∀ p∈X.pn ++ pins,p.1≠b):Inv X pins σ H' s':=by
 obtain ⟨h',g',d',t',o'⟩:=s';have e:o'=s.os:=ho;subst e;exact I.call (g':=g') (t':=t') (d':=d') u hok hg hch
end
noncomputable abbrev XK:=Value→Option Addr→Hp→Prop
noncomputable abbrev St:=List (Option V)
noncomputable abbrev VK:=V→Hp→Prop
noncomputable abbrev TE:=St→Hp→VK→Prop
noncomputable abbrev TT:=St→Hp→(Bool→Hp→Prop)→Prop
noncomputable abbrev TA:=St→Hp→(List V→Hp→Prop)→Prop
structure FN where
 nx:St→Hp→Prop
 rt:VK
 bk:St→Hp→Prop:=fun _ _=>False
 ct:St→Hp→Prop:=fun _ _=>False
noncomputable abbrev TS:=FN→St→Hp→Prop
def EP (X:Cx) (pins:List (Addr×Obj)) (σ:St) (Q:VK) (u:Value) (s':Shared):Prop:= ∃ v H',Inv X pins σ H' s'∧aN v u∧Q v H'
def TP (X:Cx) (pins:List (Addr×Obj)) (σ:St) (Q:Bool→Hp→Prop) (b:Bool) (s':Shared):Prop:= ∃ H',Inv X pins σ H' s'∧Q b H'
def AP (X:Cx) (pins:List (Addr×Obj)) (σ:St) (Q:List V→Hp→Prop) (us:List Value) (s':Shared):Prop:= ∃ vs H',Inv X pins σ H' s'∧aJ vs us∧Q vs H'
noncomputable def SP (X:Cx) (pins:List (Addr×Obj)) (D:FN) (f:Flow) (s':Shared):Prop :=
 match f with
 | .next=>∃ σ' H',Inv X pins σ' H' s'∧D.nx σ' H'
 | .brk=>∃ σ' H',Inv X pins σ' H' s'∧D.bk σ' H'
 | .cont=>∃ σ' H',Inv X pins σ' H' s'∧D.ct σ' H'
 | .ret u=>∃ v σ' H',Inv X pins σ' H' s'∧aN v u∧D.rt v H'
noncomputable def PE (X:Cx) (e:Expr) (t:TE):Prop :=
 ∀ (pins:List (Addr×Obj)) (s:Shared) (σ:St) (H:Hp) (Q:VK),Inv X pins σ H s→t σ H Q→wpAny (model X.prog X.w) X.A (eval e X.env) (EP X pins σ Q) X.xe s
noncomputable def PT (X:Cx) (e:Expr) (t:TT):Prop :=
 ∀ (pins:List (Addr×Obj)) (s:Shared) (σ:St) (H:Hp) (Q:Bool→Hp→Prop),Inv X pins σ H s→t σ H Q→wpAny (model X.prog X.w) X.A (isTrue e X.env (eval e X.env)) (TP X pins σ Q) X.xe s
noncomputable def PW (X:Cx) (e:Expr) (t:TT):Prop :=
 ∀ (whole:Sem Value) (pins:List (Addr×Obj)) (s:Shared) (σ:St) (H:Hp) (Q:Bool→Hp→Prop),Inv X pins σ H s→t σ H Q→wpAny (model X.prog X.w) X.A (isTrue e X.env whole) (TP X pins σ Q) X.xe s
theorem PW.pt {X:Cx} {e:Expr} {t:TT} (h:PW X e t):PT X e t:=h _
noncomputable def PA (X:Cx) (es:List Expr) (t:TA):Prop :=
 ∀ (pos:Pos) (pins:List (Addr×Obj)) (s:Shared) (σ:St) (H:Hp) (Q:List V→Hp→Prop),Inv X pins σ H s→t σ H Q→wpAny (model X.prog X.w) X.A (spliced (backTo pos (starEach es X.env))) (AP X pins σ Q) X.xe s
noncomputable def PS (X:Cx) (st:Stmt) (t:TS):Prop :=
 ∀ (pins:List (Addr×Obj)) (s:Shared) (σ:St) (H:Hp) (D:FN),Inv X pins σ H s→t D σ H→wpAny (model X.prog X.w) X.A (exec st X.env) (SP X pins D) X.xe s
noncomputable def PSs (X:Cx) (st:List Stmt) (t:TS):Prop :=
 ∀ (pins:List (Addr×Obj)) (s:Shared) (σ:St) (H:Hp) (D:FN),Inv X pins σ H s→t D σ H→wpAny (model X.prog X.w) X.A (execs st X.env) (SP X pins D) X.xe s
theorem thn {α:Type} {t:Sem α} {Q Q':α→Shared→Prop} {M:Model} {A:Around} {E:Value→Shared→Prop} {s:Shared} (h:wpAny M A t Q E s) (hQ:∀ a s,Q a s→Q' a s):wpAny M A t Q' E s:=wpAny_mono h hQ fun _ _ x=>x
section
variable {X:Cx}
theorem bin {a b:Expr} {ta tb:TE} (ha:PE X a ta) (hb:PE X b tb) {pins:List (Addr×Obj)} {s:Shared} {σ:St} {H:Hp} {R:V→V→Hp→Prop} (I:Inv X pins σ H s) (h:ta σ H fun x H1=>tb σ H1 fun y H2=>R x y H2)
   {α:Type} {Q:α→Shared→Prop} {f:Value→Value→Sem α}
   (hf:∀ v u s2 x y H2,Inv X pins σ H2 s2→aN x v→aN y u→R x y H2→wpAny (model X.prog X.w) X.A (f v u) Q X.xe s2) :
   wpAny (model X.prog X.w) X.A (eval a X.env) (fun v s₁=>wpAny (model X.prog X.w) X.A (eval b X.env) (fun u s₂=>wpAny (model X.prog X.w) X.A (f v u) Q X.xe s₂) X.xe s₁) X.xe s:=by
 refine thn (ha pins s σ H _ I h) fun v s1 zz=>?_;obtain ⟨x,H1,I1,r1,q1⟩:=zz;refine thn (hb pins s1 σ H1 _ I1 q1) fun u s2 zz=>?_;obtain ⟨y,H2,I2,r2,q2⟩:=zz;exact hf v u s2 x y H2 I2 r1 r2 q2
def aIE (i:Nat):TE:=fun σ H Q=>∃ v,σ[i]? =some (some v)∧Q v H
def tC (v:V):TE:=fun _ H Q=>Q v H
theorem UK {i:Nat} {x:Str} {pos:Pos} (hN:X.N[i]? =some x) (hv:Vis X.env.scope x) (hd:(x == ("__debug__":Str))=false:=by decide) (hcd:(x == ("__classdict__":Str))=false:=by decide):PE X (.Name x pos) (aIE i):=by
 intro pins s σ H Q I h;obtain ⟨v,e,h⟩:=h;obtain ⟨m,hn,hl⟩:=I.loc;obtain ⟨u,r,l⟩:=hl i x v hN e hv;have fin:EP X pins σ Q u s:=⟨v,H,I,r,h⟩;rcases l with ⟨hk,hm⟩ | ⟨hk,c,hc,hcell⟩
 · exact wpAny_Name (wpAny_loadName_local I.ok.kind hk hn hm fin) hd
 · rcases hk with hk | hk
   · exact wpAny_Name (wpAny_loadName_cell I.ok.kind hk hc hcell fin) hd
   · exact wpAny_Name (wpAny_loadName_free I.ok.kind hk hc hcell fin hcd) hd
theorem BY {i j pos}:PE X (.Constant (.int i) j pos) (tC (.int i)):=fun _ _ _ H _ I h=>wpAny_Constant_int ⟨.int i,H,I.tok _,⟨_,rfl⟩,h⟩
theorem aHW {b j pos}:PE X (.Constant (.bool b) j pos) (tC (.bl b)):=fun _ _ _ H _ I h=>Constant_bool ⟨.bl b,H,I,rfl,h⟩
theorem aGd {j pos}:PE X (.Constant .none j pos) (tC .non):=fun _ _ _ H _ I h=>Constant_none ⟨.non,H,I,rfl,h⟩
theorem aDx {x j pos}:PE X (.Constant (.str x) j pos) (tC (.str x)):=fun _ _ _ H _ I h=>Calls.Constant_str ⟨.str x,H,I.tok _,⟨_,rfl⟩,h⟩
def Gl (X:Cx) (x:Str):Prop:=X.env.kindOf x=some .globalImplicit
theorem lK {E:Value→Shared→Prop} {pins:List (Addr×Obj)} {s:Shared} {σ:St} {H:Hp} {x:Str} {u:Value} {pos:Pos} {Q:Value→Shared→Prop} (I:Inv X pins σ H s) (hg:Gl X x) (hm:X.mg x=some u) (h:Q u s)
   (hd:(x == ("__debug__":Str))=false:=by decide):wpAny (model X.prog X.w) X.A (eval (.Name x pos) X.env) Q E s :=
 Calls.Name_function_global I.ok.kind hg (Calls.loadGlobal_global (by rw [I.ok.glob]; exact I.mod.glob.keeps I.bk) hm h) hd
theorem mV {E:Value→Shared→Prop} {pins:List (Addr×Obj)} {s:Shared} {σ:St} {H:Hp} {x:Str} {u:Value} {pos:Pos} {Q:Value→Shared→Prop} (I:Inv X pins σ H s) (hg:Gl X x) (hm:X.mg x=none) (hv:bootBuiltins x=some u) (h:Q u s)
   (hn:x≠"__name__":=by decide) (hd:(x == ("__debug__":Str))=false:=by decide):wpAny (model X.prog X.w) X.A (eval (.Name x pos) X.env) Q E s:=by
 obtain ⟨mb,h1,h2⟩:=I.mod.blt;exact Calls.Name_function_global I.ok.kind hg (Calls.loadGlobal_builtin (by rw [I.ok.glob]; exact I.mod.glob.keeps I.bk) hm (by rw [I.ok.blt]; exact h1.keeps I.bk) ((h2 x hn).trans hv) h) hd
theorem aBP {x:Str} {v:V} {u:Value} {pos:Pos} (hg:Gl X x) (hm:X.mg x=some u) (r:aN v u) (hd:(x == ("__debug__":Str))=false:=by decide):PE X (.Name x pos) (tC v) :=
 fun _ _ _ H _ I h=>lK I hg hm ⟨v,H,I,r,h⟩ hd
theorem aA8 {x:Str} {v:V} {u:Value} {pos:Pos} (hg:Gl X x) (hm:X.mg x=none) (hv:bootBuiltins x=some u) (r:aN v u) (hn:x≠"__name__":=by decide) (hd:(x == ("__debug__":Str))=false:=by decide):PE X (.Name x pos) (tC v) :=
 fun _ _ _ H _ I h=>mV I hg hm hv ⟨v,H,I,r,h⟩ hn hd
variable {a b:Expr} {ta tb:TE} {pos:Pos}
variable {tA tB':TT} {cR:List Expr}
def aGW (t u:TT):TT:=fun σ H Q=>t σ H fun c H1=>if c=true then u σ H1 Q else Q false H1
def tOr (t u:TT):TT:=fun σ H Q=>t σ H fun c H1=>if c=true then Q true H1 else u σ H1 Q
def aJa (t:TT):TT:=fun σ H Q=>t σ H fun c H1=>Q (!c) H1
theorem aAo (ha:PT X a tA):PW X (.BoolOp .And [a] pos) tA:=by
 intro wh pins s σ H Q I h;refine isTrue_and (thn (ha pins s σ H Q I h) fun c s1 e=>?_);cases c with
 | true=>exact isTrue_and_nil e
 | false=>exact e
theorem aGl (ha:PT X a tA):PW X (.BoolOp .Or [a] pos) tA:=by
 intro wh pins s σ H Q I h;refine isTrue_or (thn (ha pins s σ H Q I h) fun c s1 e=>?_);cases c with
 | false=>exact isTrue_or_nil e
 | true=>exact e
theorem aDo (ha:PT X a tA) (hb:PW X (.BoolOp .And (b :: cR) pos) tB'):PW X (.BoolOp .And (a :: b :: cR) pos) (aGW tA tB'):=by
 intro wh pins s σ H Q I h;refine isTrue_and (thn (ha pins s σ H _ I h) fun c s1 zz=>?_);obtain ⟨H1,I1,q1⟩:=zz;cases c with
 | true=>exact hb wh pins s1 σ H1 Q I1 q1
 | false=>exact ⟨H1,I1,q1⟩
theorem aI4 (ha:PT X a tA) (hb:PW X (.BoolOp .Or (b :: cR) pos) tB'):PW X (.BoolOp .Or (a :: b :: cR) pos) (tOr tA tB'):=by
 intro wh pins s σ H Q I h;refine isTrue_or (thn (ha pins s σ H _ I h) fun c s1 zz=>?_);obtain ⟨H1,I1,q1⟩:=zz;cases c with
 | true=>exact ⟨H1,I1,q1⟩
 | false=>exact hb wh pins s1 σ H1 Q I1 q1
theorem aDC (ha:PT X a tA):PT X (.UnaryOp .Not a pos) (aJa tA):=by
 intro pins s σ H Q I h;exact isTrue_not (ha pins s σ H (fun c H1=>Q (!c) H1) I h)
theorem aFA {op} {t:TE} (h:PE X a t):PE X (.BoolOp op [a] pos) t:=fun pins s σ H Q I hw=>BoolOp_one (h pins s σ H Q I hw)
def tIf (t:TT) (ta tb:TE):TE:=fun σ H Q=>t σ H fun c H1=>if c=true then ta σ H1 Q else tb σ H1 Q
theorem RS {c:Expr} (hc:PT X c tA) (ha:PE X a ta) (hb:PE X b tb):PE X (.IfExp c a b pos) (tIf tA ta tb):=by
 intro pins s σ H Q I h;refine wpAny_IfExp (thn (hc pins s σ H _ I h) fun d s1 zz=>?_);obtain ⟨H1,I1,q1⟩:=zz;cases d with
 | true=>exact ha pins s1 σ H1 Q I1 q1
 | false=>exact hb pins s1 σ H1 Q I1 q1
end
noncomputable def SqL (K:W.Frag) (H:Hp) (a:Addr) (xs:List V):Prop :=
 Rd H a (.lst xs)∨
   ∃ (o:Obj) (its:Array Value) (n:Nat),K.lookup a=some o∧o.cls= .type "list"∧o.dict=none∧o.data= .seq its n∧its.size≤sizeLine∧aJ xs its.toList
noncomputable def SqT (K:W.Frag) (H:Hp) (a:Addr) (xs:List V):Prop :=
 Rd H a (.tup xs)∨
   ∃ (o:Obj) (its:Array Value) (n:Nat),K.lookup a=some o∧o.cls= .type "tuple"∧o.data= .seq its n∧its.size≤sizeLine∧aJ xs its.toList∧o.dict=none
noncomputable def aJh:Value→Option V
 | .none=>some .non
 | .bool b=>some (.bl b)
 | .int i _=>some (.int i)
 | .str x _=>some (.str x)
 | .bytes b _=>some (.byt b)
 | .float b _=>some (.flt b)
 | .ref a=>some (.ref a)
 | .type n=>some (.ty n)
 | _=>none
theorem aN.abs {x:V} {u:Value} (r:aN x u):aJh u=some x:=by
 cases x with
 | non=>cases r; rfl
 | bl _=>cases r; rfl
 | int _=>obtain ⟨t,rfl⟩:=r; rfl
 | str _=>obtain ⟨t,rfl⟩:=r; rfl
 | byt _=>obtain ⟨t,rfl⟩:=r; rfl
 | flt _=>obtain ⟨t,rfl⟩:=r; rfl
 | ref _=>cases r; rfl
 | ty _=>cases r; rfl
theorem aN.inj {x y:V} {u:Value} (r:aN x u) (q:aN y u):x=y:=Option.some.inj (r.abs.symm.trans q.abs)
theorem aJ.inj:∀ {xs ys:List V} {us:List Value},aJ xs us→aJ ys us→xs=ys
 | _,_,_,.nil,.nil=>rfl
 | _,_,_,.cons r t,.cons r' t'=>by rw [r.inj r',aJ.inj t t']
section
variable {X:Cx} {pins:List (Addr×Obj)} {σ:St} {H:Hp} {s:Shared} {a:Addr} {xs ys:List V}
theorem SqL.of {K:W.Frag} (h:H a=some (.lst xs)):SqL K H a xs:=.inl (.inl h)
theorem SqT.of {K:W.Frag} (h:H a=some (.tup xs)):SqT K H a xs:=.inl (.inl h)
theorem Inv.list (I:Inv X pins σ H s) (h:SqL X.K H a xs):∃ its:List Value,aJ xs its∧PlainL s.heap a its.toArray∧xs.length≤sizeLine:=by
 rcases h with h | ⟨o,its,n,hk,hc,hd,hs,hz,r⟩
 · obtain ⟨z,its,n,r,e⟩:=h.ok I.hok;exact ⟨its,r,⟨_,n,e,rfl,rfl,rfl⟩,z⟩
 · refine ⟨its.toList,r,⟨o,n,I.kIn a o hk,hc,hd,by simpa using hs⟩, ?_⟩;have e:=r.length;simp only [Array.length_toList] at e;omega
theorem Inv.tuple (I:Inv X pins σ H s) (h:SqT X.K H a xs):∃ its:List Value,aJ xs its∧IsTup s.heap a its.toArray∧xs.length≤sizeLine:=by
 rcases h with h | ⟨o,its,n,hk,hc,hs,hz,r,_⟩
 · obtain ⟨z,its,r,p⟩:=h.ok I.hok;exact ⟨its,r,p.1,z⟩
 · refine ⟨its.toList,r,⟨o,I.kIn a o hk,hc,n,by simpa using hs⟩, ?_⟩;have e:=r.length;simp only [Array.length_toList] at e;omega
theorem Inv.list_inj (I:Inv X pins σ H s) (h:SqL X.K H a xs) (h':SqL X.K H a ys):xs=ys:=by
 obtain ⟨its,r,⟨o,n,e,_,_,d⟩,_⟩:=I.list h;obtain ⟨its',r',⟨o',n',e',_,_,d'⟩,_⟩:=I.list h';rw [e] at e'; cases e';rw [d] at d';injection d' with d1 _;have:its=its':=by simpa using congrArg Array.toList d1
 subst this;exact r.inj r'
theorem Inv.tuple_inj (I:Inv X pins σ H s) (h:SqT X.K H a xs) (h':SqT X.K H a ys):xs=ys:=by
 obtain ⟨its,r,⟨o,e,_,n,d⟩,_⟩:=I.tuple h;obtain ⟨its',r',⟨o',e',_,n',d'⟩,_⟩:=I.tuple h';rw [e] at e'; cases e';rw [d] at d';injection d' with d1 _;have:its=its':=by simpa using congrArg Array.toList d1
 subst this;exact r.inj r'
end
noncomputable abbrev Cx.wish (X:Cx) (E:Value→Shared→Prop):Cx:={ X with xe:=E }
noncomputable abbrev Cx.nox (X:Cx):Cx:=X.wish fun _ _=>False
theorem Cx.Ok.wish {X:Cx} (ok:X.Ok) (E:Value→Shared→Prop):(X.wish E).Ok :=
 ⟨ok.mod,ok.kind,ok.glob,ok.blt,ok.above,ok.inj,ok.has,ok.cab,ok.hd,ok.frames,ok.stk,ok.exf,ok.bs,ok.bsz,ok.noex,ok.exfs,ok.funs,ok.frf⟩
theorem Cx.Ok.unwish {X:Cx} {E:Value→Shared→Prop} (ok:(X.wish E).Ok):X.Ok :=
 ⟨ok.mod,ok.kind,ok.glob,ok.blt,ok.above,ok.inj,ok.has,ok.cab,ok.hd,ok.frames,ok.stk,ok.exf,ok.bs,ok.bsz,ok.noex,ok.exfs,ok.funs,ok.frf⟩
section
variable {X:Cx} {pins:List (Addr×Obj)} {σ:St} {H:Hp} {s:Shared} {E:Value→Shared→Prop}
theorem Inv.wish (I:Inv X pins σ H s) (E:Value→Shared→Prop):Inv (X.wish E) pins σ H s:=⟨I.ok.wish E,I.os,I.bare,I.base,I.loc,I.cell,I.free,I.freeC,I.pin,I.hok,I.len⟩
theorem Inv.unwish (I:Inv (X.wish E) pins σ H s):Inv X pins σ H s:=⟨I.ok.unwish,I.os,I.bare,I.base,I.loc,I.cell,I.free,I.freeC,I.pin,I.hok,I.len⟩
theorem SP.unwish {D:FN} {f:Flow} {s':Shared} (h:SP (X.wish E) pins D f s'):SP X pins D f s':=by
 cases f with
 | next=>obtain ⟨σ',H',I,q⟩:=h; exact ⟨σ',H',I.unwish,q⟩
 | brk=>obtain ⟨σ',H',I,q⟩:=h; exact ⟨σ',H',I.unwish,q⟩
 | cont=>obtain ⟨σ',H',I,q⟩:=h; exact ⟨σ',H',I.unwish,q⟩
 | ret u=>obtain ⟨v,σ',H',I,r,q⟩:=h; exact ⟨v,σ',H',I.unwish,r,q⟩
theorem PSs.nox {st:List Stmt} {t:TS} (h:PSs X.nox st t):PSs X st t:=fun pins s σ H D I hw =>
 wpAny_mono (h pins s σ H D (I.wish _) hw) (fun _ _ q=>q.unwish) fun _ _ z=>False.elim z
end
section
variable {X:Cx} {st:Stmt} {cR:List Stmt} {t u:TS} {e:Expr} {te:TE} {pos:Pos}
def RD:TS:=fun D σ H=>D.nx σ H
def aJi (t u:TS):TS:=fun D σ H=>t { D with nx:=u D } σ H
theorem aBL:PSs X [] RD:=fun _ _ σ H _ I h=>wpAny_execs_nil ⟨σ,H,I,h⟩
theorem ZN (h1:PS X st t) (h2:PSs X cR u):PSs X (st :: cR) (aJi t u):=by
 intro pins s σ H D I h;refine wpAny_execs_cons (thn (h1 pins s σ H { D with nx:=u D } I h) fun f s1 q=>?_);cases f with
 | next =>
   obtain ⟨σ',H',I',q⟩:=q;exact h2 pins s1 σ' H' D I' q
 | ret v=>exact q
 | brk=>exact q
 | cont=>exact q
theorem aAW (h1:PS X st t):PSs X [st] t:=by
 intro pins s σ H D I h;refine wpAny_execs_cons (thn (h1 pins s σ H D I h) fun f s1 q=>?_);cases f with
 | next=>exact wpAny_execs_nil q
 | ret v=>exact q
 | brk=>exact q
 | cont=>exact q
theorem aAS:PS X (.Pass pos) RD:=fun _ _ σ H _ I h=>wpAny_Pass ⟨σ,H,I,h⟩
theorem Inv.quiet {pins:List (Addr×Obj)} {σ:St} {H:Hp} {s:Shared} (I:Inv X pins σ H s):interactive X.env=false:=by simp [interactive,I.ok.kind]
theorem aDg {x j pos pos'}:PS X (.Expr (.Constant (.str x) j pos) pos') RD:=fun _ s σ H _ I h=>wpAny_Expr (Calls.Constant_str (show SP X _ _ .next { s with toks:=s.toks + 1 } from ⟨σ,H,I.tok _,h⟩)) I.quiet
def aHE (te:TE):TS:=fun D σ H=>te σ H fun _ H1=>D.nx σ H1
theorem aBA (he:PE X e te) (hs:swapsWith e none pos.line X.env=pure false:=by rfl):PS X (.Expr e pos) (aHE te):=by
 intro pins s σ H D I h;exact wpAny_Expr_any (thn (he pins s σ H _ I h) <|by rintro v s1 ⟨x,H1,I1,r1,q1⟩;exact ⟨σ,H1,I1,q1⟩) I.quiet hs
def aKe (te:TE):TS:=fun D σ H=>te σ H D.rt
theorem aDc (he:PE X e te):PS X (.Return (some e) pos) (aKe te):=by
 intro pins s σ H D I h;exact wpAny_Return_some (thn (he pins s σ H _ I h) <|by rintro v s1 ⟨x,H1,I1,r1,q1⟩;exact ⟨x,σ,H1,I1,r1,q1⟩)
def aIT:TS:=fun D _ H=>D.rt .non H
theorem aAk:PS X (.Return none pos) aIT:=fun _ _ σ H _ I h=>wpAny_Return_none ⟨.non,σ,H,I,rfl,h⟩
def aJ1 (c:TT) (t u:TS):TS:=fun D σ H=>c σ H fun b H1=>if b=true then t D σ H1 else u D σ H1
theorem aG8 {c:Expr} {a b:List Stmt} {tc:TT} (hc:PT X c tc) (ha:PSs X a t) (hb:PSs X b u):PS X (.If c a b pos) (aJ1 tc t u):=by
 intro pins s σ H D I h;refine wpAny_If (thn (hc pins s σ H _ I h) fun d s1 zz=>?_);obtain ⟨H1,I1,q1⟩:=zz;cases d with
 | true=>exact ha pins s1 σ H1 D I1 q1
 | false=>exact hb pins s1 σ H1 D I1 q1
def ZE:TS:=fun _ _ _=>False
theorem YY:PS X st ZE:=fun _ _ _ _ _ _ h=>h.elim
theorem NA {sts:List Stmt}:PSs X sts ZE:=fun _ _ _ _ _ _ h=>h.elim
end
noncomputable abbrev TG:=V→St→Hp→(St→Hp→Prop)→Prop
noncomputable abbrev TGs:=List V→St→Hp→(St→Hp→Prop)→Prop
noncomputable def PG (X:Cx) (target:Expr) (t:TG):Prop :=
 ∀ (pins:List (Addr×Obj)) (s:Shared) (σ:St) (H:Hp) (v:V) (u:Value) (Q:St→Hp→Prop),Inv X pins σ H s→aN v u→t v σ H Q→
   wpAny (model X.prog X.w) X.A (assign target X.env u) (fun _ s'=>∃ σ' H',Inv X pins σ' H' s'∧Q σ' H') X.xe s
noncomputable def PGs (X:Cx) (ts:List Expr) (t:TGs):Prop :=
 ∀ (pins:List (Addr×Obj)) (s:Shared) (σ:St) (H:Hp) (vs:List V) (us:List Value) (Q:St→Hp→Prop),Inv X pins σ H s→aJ vs us→t vs σ H Q→
   wpAny (model X.prog X.w) X.A (assignInOrder ((assignEach ts X.env).map (·.2)) us) (fun _ s'=>∃ σ' H',Inv X pins σ' H' s'∧Q σ' H') X.xe s
noncomputable abbrev aAx:=V→V→V→Hp→(Hp→Prop)→Prop
noncomputable def aFv (X:Cx) (t:aAx):Prop :=
 ∀ (pins:List (Addr×Obj)) (s:Shared) (σ:St) (H:Hp) (o i v:V) (ov iv u:Value) (Q:Hp→Prop),Inv X pins σ H s→aN o ov→aN i iv→aN v u→t o i v H Q→
   wpAny (model X.prog X.w) X.A (setItem ov iv u) (fun _ s'=>∃ H',Inv X pins σ H' s'∧Q H') X.xe s
section
variable {X:Cx} {pos:Pos}
def TW (i:Nat):TG:=fun v σ H Q=>Q (σ.set i (some v)) H
theorem LN {i:Nat} {x:Str} (hN:X.N.Nodup) (hi:X.N[i]? =some x) (hx:Loc X.env.scope x) (hf:X.fn x=true∨X.env.scope.names.lookup x=some .local:=by first | exact .inl rfl | exact .inr rfl | assumption):PG X (.Name x pos) (TW i):=by
 intro pins s σ H v u Q I r h;exact wpAny_assign_Name (vD I hN hi hx r (fun s' I'=>⟨_,H,I',h⟩) hf)
noncomputable def aKf:TGs:=fun vs σ H Q=>vs=[]∧Q σ H
noncomputable def aH8 (t:TG) (u:TGs):TGs:=fun vs σ H Q=>∃ v r,vs=v :: r∧t v σ H fun σ' H'=>u r σ' H' Q
theorem aBj:PGs X [] aKf:=by
 intro pins s σ H vs us Q I r h;obtain ⟨e,h⟩:=h;subst e;cases r;exact assignInOrder_nil ⟨σ,H,I,h⟩
theorem RQ {e:Expr} {es:List Expr} {t:TG} {u:TGs} (h1:PG X e t) (h2:PGs X es u)
   (hs:(assignEach (e :: es) X.env).map (·.2)=assign e X.env :: (assignEach es X.env).map (·.2):=by rfl):PGs X (e :: es) (aH8 t u):=by
 intro pins s σ H vs us Q I r h;obtain ⟨v,vr,e1,h⟩:=h;subst e1;cases r with
 | cons r rr =>
   rw [hs];refine assignInOrder_cons (thn (h1 pins s σ H _ _ _ I r h) fun _ s1 zz=>?_);obtain ⟨σ1,H1,I1,q1⟩:=zz;exact h2 pins s1 σ1 H1 _ _ Q I1 rr q1
def aJq (K:W.Frag) (n:Nat) (t:TGs):TG:=fun v σ H Q=>∃ a xs,v= .ref a∧SqT K H a xs∧xs.length=n∧t xs σ H Q
theorem aDh {es:List Expr} {k:Nat} {t:TGs} {n:Nat} (hc:X.calm=true) (h:PGs X es t)
   (hn:(assignEach es X.env).length=n:=by rfl) (hst:(assignEach es X.env).findIdx? (·.1)=none:=by rfl):PG X (.Tuple es k pos) (aJq X.K n t):=by
 intro pins s σ H v u Q I r hw;obtain ⟨a,xs,e1,hq,hl,hw⟩:=hw;subst e1;cases r;obtain ⟨its,rv,ht,hz⟩:=I.tuple hq;refine assign_Tuple_tuple (I.ok.hd hc) ht (by simp [hn,←hl,rv.length]) hst fun h' hx=>?_;have I1:Inv X pins σ H { s with heap:=h' }:=I.kept (t':=s.toks) fun b o e=>hx b o (Nat.ne_of_lt (Heap.lt_size e)) e;exact h pins _ σ H xs _ Q I1 (by simpa using rv) hw
def aJT (to ti:TE) (t:aAx):TG:=fun v σ H Q=>to σ H fun o H1=>ti σ H1 fun i H2=>t o i v H2 fun H3=>Q σ H3
theorem aFr {o i:Expr} {to ti:TE} {t:aAx} (ho:PE X o to) (hi:PE X i ti) (hs:aFv X t)
   (ha:∀ v,assign (.Subscript o i pos) X.env v=(do
     let ov ←holding [v] (eval o X.env)
     let iv ←holding [v,ov] (eval i X.env)
     standAt pos
     holding [v,ov,iv] (setItem ov iv v)
     release [v,ov,iv] []):=by intro _; rfl):PG X (.Subscript o i pos) (aJT to ti t):=by
 intro pins s σ H v u Q I r h;rw [ha];refine wAq (wpAny_holding (thn (ho pins s σ H _ I h) fun ov s1 zz=>?_));obtain ⟨x,H1,I1,r1,q1⟩:=zz;refine wAq (wpAny_holding (thn (hi pins s1 σ H1 _ I1 q1) fun iv s2 zz=>?_));obtain ⟨y,H2,I2,r2,q2⟩:=zz;refine wAq (wpAny_standAt (wAq (wpAny_holding (thn (hs pins s2 σ H2 x y v ov iv u _ I2 r1 r2 r q2) fun _ s3 zz=>?_))));obtain ⟨H3,I3,q3⟩:=zz;exact wpAny_release ⟨σ,H3,I3,q3⟩
def aEK (te:TE) (g:TG):TS:=fun D σ H=>te σ H fun x H1=>g x σ H1 D.nx
theorem SR {tg e:Expr} {te:TE} {g:TG} (he:PE X e te) (hg:PG X tg g) (hs:swapsWithSole [tg] e pos.line X.env=pure false:=by rfl) (hw:swappedStores [tg] e X.env=pure none:=by rfl)
   (h1:(assignEach [tg] X.env).map (·.2)=[assign tg X.env]:=by rfl):PS X (.Assign [tg] e pos) (aEK te g):=by
 intro pins s σ H D I h;refine wpAny_Assign_stores (thn (he pins s σ H _ I h) fun v s1 zz=>?_) hs hw;obtain ⟨x,H1,I1,r1,q1⟩:=zz;rw [h1];exact thn (hg pins s1 σ H1 x v _ I1 r1 q1) fun _ s2 q=>q
def aKy (i j:Nat) (ta:TA):TS:=fun D σ H=>ta σ H fun vs H1=>∃ v w,vs=[v,w]∧D.nx ((σ.set i (some v)).set j (some w)) H1
theorem aEY {i j:Nat} {x y:Str} {a b:Expr} {ta:TA} {px py pt:Pos} {kt k2 pt2} (hc:X.calm=true) (hN:X.N.Nodup) (hi:X.N[i]? =some x) (hj:X.N[j]? =some y) (hij:i≠j)
   (hx:X.env.scope.names.lookup x=some .local) (hy:X.env.scope.names.lookup y=some .local) (ha:PA X [a,b] ta)
   (hw:swappedStores [.Tuple [.Name x px,.Name y py] kt pt] (.Tuple [a,b] k2 pt2) X.env=pure (some [x,y]))
   (hs:swapsWithSole [.Tuple [.Name x px,.Name y py] kt pt] (.Tuple [a,b] k2 pt2) pos.line X.env=pure false:=by rfl) :
   PS X (.Assign [.Tuple [.Name x px,.Name y py] kt pt] (.Tuple [a,b] k2 pt2) pos) (aKy i j ta):=by
 intro pins s σ H D I h;rw [exec_Assign_arm];refine wAq (wpAny_standAt ?_);rw [hs];refine wAq (wBq ?_);rw [if_neg (by decide)];refine wAq (Tuple_ (thn (ha _ pins s σ H _ I h) fun us s1 zz=>?_));obtain ⟨vs,H1,I1,r1,q1⟩:=zz;obtain ⟨v,w,e1,q1⟩:=q1;subst e1;obtain ⟨u1,u2,rfl,rv,rw'⟩:∃ u1 u2,us=[u1,u2]∧aN v u1∧aN w u2:=by
   cases r1 with
   | cons p q =>
     cases q with
     | cons p' q' =>
       cases q';exact ⟨_,_,rfl,p,p'⟩
 refine wpAny_newObj_type ?_ (by show 2≤sizeLine; decide);have I2:Inv X pins σ H1 { s1 with heap:=s1.heap.push { cls:=.type "tuple",data:=.seq [u1,u2].toArray } }:=I1.kept (t':=s1.toks) fun b o e=>wEq _ e;rw [hw];refine wAq (wBq ?_);show wpAny (model X.prog X.w) X.A (do rule "assign.swapped-stores"; let items ←unpackItems (.ref s1.heap.objs.size) 2 none; assignInOrder [fun v=>bindName X.env y v,fun v=>bindName X.env x v] items.reverse; pure Flow.next) _ _ _;refine wAq (wpAny_rule (wAq (unpackItems_tuple (items:= #[u1,u2]) (I.ok.hd hc) (IsTup.new s1.heap _) fun h' hx'=>?_)));have I3:=I2.kept (h':=h') (t':=s1.toks) fun b o e=>hx' b o (Nat.ne_of_lt (Heap.lt_size e)) e;show wpAny _ _ (assignInOrder [fun v=>bindName X.env y v,fun v=>bindName X.env x v] [u2,u1] >>= fun _=>pure Flow.next) _ _ _;refine wAq (assignInOrder_cons (wpAny_bindName (vD I3 hN hj (.inl hy) rw' (fun s2 I4=>?_) (.inr hy))));refine assignInOrder_cons (wpAny_bindName (vD I4 hN hi (.inl hx) rv (fun s3 I5=>assignInOrder_nil (wBq ?_)) (.inr hx)));rw [List.set_comm _ _ (Ne.symm hij)] at I5;exact ⟨_,H1,I5,q1⟩
end
section
variable {X:Cx} {pos:Pos}
def aEm (c:TT) (tb:TS):TS:=fun D σ H=>∃ W:Nat→St→Hp→Prop,(∃ m,W m σ H)∧∀ m σ H,W m σ H→
 c σ H fun b H1=>if b=true then ∃ N:St→Hp→Prop,(∀ σ' H',N σ' H'→∃ m',m' < m∧W m' σ' H')∧tb { D with nx:=N,ct:=N,bk:=D.nx } σ H1 else D.nx σ H1
theorem VM {c:Expr} {body:List Stmt} {tc:TT} {tb:TS} (hp:PassesOwn (model X.prog X.w) X.A X.env X.xe) (hc:PT X c tc) (hb:PSs X body tb):PS X (.While c body [] pos) (aEm tc tb):=by
 intro pins s σ H D I h;obtain ⟨W,⟨m0,w0⟩,turn⟩:=h;refine wpAny_While (codeAny_whileLoop (fun n s'=>∃ σ' H',Inv X pins σ' H' s'∧W n σ' H') ?_ m0 ⟨σ,H,I,w0⟩);rintro n s1 ⟨σ1,H1,I1,w1⟩;refine wpAny_passesOwn hp (thn (hc pins s1 σ1 H1 _ I1 (turn n σ1 H1 w1)) fun b s2 zz=>?_);obtain ⟨H2,I2,q2⟩:=zz;cases b with
 | true =>
   obtain ⟨N,hN,q2⟩:=q2;rw [if_pos rfl];refine wpAny_passesOwn hp (thn (hb pins s2 σ1 H2 _ I2 q2) fun f s3 q3=>?_);cases f with
   | next =>
     obtain ⟨σ3,H3,I3,n3⟩:=q3;obtain ⟨m',hm,w3⟩:=hN σ3 H3 n3;exact ⟨m',hm,σ3,H3,I3,w3⟩
   | cont =>
     obtain ⟨σ3,H3,I3,n3⟩:=q3;obtain ⟨m',hm,w3⟩:=hN σ3 H3 n3;exact ⟨m',hm,σ3,H3,I3,w3⟩
   | brk=>exact q3
   | ret v=>exact q3
 | false =>
   rw [if_neg Bool.false_ne_true];exact wpAny_execs_nil ⟨σ1,H2,I2,q2⟩
end
structure It where
 go:Nat→Hp→Prop
 yld:Nat→Hp→V→Hp→Prop
 stop:Nat→Hp→Prop
noncomputable def xD (X:Cx) (pins:List (Addr×Obj)) (H:Hp) (b:Addr):Prop :=
 H b=none∧b≠X.env.locals∧b∉ X.fs∧(b∈X.ex∨X.s₀.heap.objs.size≤b)∧(∀ x c,X.env.cells.lookup x=some c→c≠b)∧∀ p∈X.pn ++ pins,p.1≠b
theorem Inv.fpOk {X:Cx} {pins:List (Addr×Obj)} {σ:St} {H H':Hp} {s:Shared} {b:Addr} (I:Inv X pins σ H s) (hb:s.heap.objs.size≤b) (hn:H' b=none):xD X pins H' b:=by
 refine ⟨hn,Nat.ne_of_gt (wFq I.lt hb),I.nofs hb,.inr (Nat.le_trans I.sz hb),fun x c e z=>?_,fun p hp z=>?_⟩
 · obtain ⟨v,q⟩:=I.cell x c e;exact absurd (wFq q.lt (by rw [z]; exact hb)) (Nat.lt_irrefl _)
 · exact absurd (wFq (Heap.lt_size (I.pin p hp).1) (by rw [z]; exact hb)) (Nat.lt_irrefl _)
structure HZ (P:Program) (w:World) (K:W.Frag) (tg:Expr) (J:It) (fp:List Addr) (it:Addr) (tn:Nat→Heap→Prop):Prop where
 mem:it∈fp
 obj:∀ i h,tn i h→∀ b∈fp,∃ o,h.get? b=some o∧∀ v,o.data≠.cell v
 keep:∀ i h h',tn i h→(∀ b∈fp,∀ o,h.get? b=some o→h'.get? b=some o)→tn i h'
 item :∀ (X:Cx),X.prog=P→X.w=w→X.K=K→X.calm=true→∀ (i:Nat) (pins:List (Addr×Obj)) (s:Shared) (σ:St) (H:Hp) (E:Value→Shared→Prop),Inv X pins σ H s→(∀ b∈fp,xD X pins H b)→tn i s.heap→J.go i H→
   wpAny (model P w) X.A (pyNext (.ref it)) (fun r s1=>∃ u,r=some u∧
     wpAny (model P w) X.A (letOwnedTupleGo tg (.ref it) u) (fun _ s2=>∃ x H',Inv X pins σ H' s2∧aN x u∧J.yld i H x H'∧tn (i + 1) s2.heap∧∀ b∈fp,H' b=none) E s1) E s
 done:∀ (X:Cx),X.prog=P→X.w=w→X.K=K→X.calm=true→∀ (i:Nat) (pins:List (Addr×Obj)) (s:Shared) (σ:St) (H:Hp) (E:Value→Shared→Prop),Inv X pins σ H s→(∀ b∈fp,xD X pins H b)→tn i s.heap→J.stop i H→
   wpAny (model P w) X.A (pyNext (.ref it)) (fun r s1=>r=none∧Inv X pins σ H s1) E s
 self:∀ (A:Around) (i:Nat) (s:Shared) (Q:Value→Shared→Prop) (E:Value→Shared→Prop),tn i s.heap→Q (.ref it) s→wpAny (model P w) A (pyIter (.ref it)) Q E s
noncomputable abbrev TI:=St→Hp→(It→Hp→Prop)→Prop
noncomputable def PIE (X:Cx) (pins:List (Addr×Obj)) (σ:St) (tg:Expr) (R:It→Hp→Prop) (itv:Value) (s2:Shared):Prop :=
 ∃ (it:Addr) (fp:List Addr) (tn:Nat→Heap→Prop) (J:It) (H':Hp),itv= .ref it∧Inv X pins σ H' s2∧HZ X.prog X.w X.K tg J fp it tn∧tn 0 s2.heap∧(∀ b∈fp,xD X pins H' b)∧R J H'
noncomputable def PI (X:Cx) (tg iter:Expr) (wi:TI):Prop :=
 ∀ (pins:List (Addr×Obj)) (s:Shared) (σ:St) (H:Hp) (R:It→Hp→Prop),Inv X pins σ H s→wi σ H R→
   wpAny (model X.prog X.w) X.A (eval iter X.env) (fun v s1=>wpAny (model X.prog X.w) X.A (pyIter v) (PIE X pins σ tg R) X.xe s1) X.xe s
theorem YM {M:Model} {A:Around} {E:Value→Shared→Prop} {s:Shared} {tg:Expr} {it:Addr} {u:Value} {o:Obj} {n:String} {vs:Array Value} {Q:Unit→Shared→Prop} (ho:s.heap.get? it=some o) (hc:o.cls= .type n) (hd:o.data= .fields vs)
   (hn: ["enumerate","zip","dict_itemiterator","dict_reverseitemiterator","odict_iterator","itertools.zip_longest","itertools.pairwise"].contains n=false) (hQ:Q () s):wpAny M A (letOwnedTupleGo tg (.ref it) u) Q E s:=by
 unfold letOwnedTupleGo;cases tg <;> first
   | exact wBq hQ
   | (cases u <;> first
       | exact wBq hQ
       | (refine wAq (wpAny_load ho ?_)
          rw [hc,hd];show wpAny M A (if (["enumerate","zip","dict_itemiterator","dict_reverseitemiterator","odict_iterator","itertools.zip_longest","itertools.pairwise"].contains n && vs[0]? == some (rawInt _))=true then _ else _) Q E s;rw [if_neg (by intro h; rw [hn,Bool.false_and] at h; cases h)];exact wBq hQ))
noncomputable def Itl (K:W.Frag) (a:Addr):It :=
 ⟨fun i H=>∃ xs x,SqL K H a xs∧xs[i]? =some x,fun i H x H'=>H'=H∧∀ xs,SqL K H a xs→xs[i]? =some x,fun i H=>∃ xs,SqL K H a xs∧xs.length≤i⟩
noncomputable def Itt (K:W.Frag) (a:Addr):It :=
 ⟨fun i H=>∃ xs x,SqT K H a xs∧xs[i]? =some x,fun i H x H'=>H'=H∧∀ xs,SqT K H a xs→xs[i]? =some x,fun i H=>∃ xs,SqT K H a xs∧xs.length≤i⟩
noncomputable def Itr (lo:Int) (n:Nat):It:=⟨fun i _=>i < n,fun i H x H'=>H'=H∧x= .int (lo + i),fun i _=>n≤i⟩
theorem NF {P:Program} {w:World} {K:W.Frag} {tg:Expr} (a it:Addr):HZ P w K tg (Itl K a) [it] it (fun i h=>h.IsListIter it a i) where
 mem:=by simp
 obj:=fun i h st b hb=>by
   have e:b=it:=by simpa using hb
   subst e;obtain ⟨o,e,c,d⟩:=st;exact ⟨o,e,fun v z=>by rw [d] at z; cases z⟩
 keep:=fun i h h' st k=>st.at fun o e=>k it (by simp) o e
 item:=by
   intro X hP hw hK hc i pins s σ H E I hf st hg;subst hP hw hK;obtain ⟨xs,x,hq,hx⟩:=hg;obtain ⟨its,rv,p,hz⟩:=I.list hq;obtain ⟨u,hu,ru⟩:=rv.get hx;obtain ⟨f0,f1,f2,f3,f4,f5⟩:=hf it (by simp);refine wpAny_pyNext_list_item st p.isList (x:=u) (by simpa using hu) fun h' st' sb=>?_;have I1:Inv X pins σ H { s with heap:=h' }:=I.turned (t':=s.toks) (fun b o hb e=>(sb.2 b hb).trans e) f0 f1 f3 f4 f5;obtain ⟨o,e,c,d⟩:=id st';exact ⟨u,rfl,YM (s:={ s with heap:=h' }) e c d (by decide) ⟨x,H,I1,ru,⟨rfl,fun ys hy=>by rw [I.list_inj hy hq]; exact hx⟩,st',fun b hb=>(hf b hb).1⟩⟩
 done:=by
   intro X hP hw hK hc i pins s σ H E I hf st hg;subst hP hw hK;obtain ⟨xs,hq,hx⟩:=hg;obtain ⟨its,rv,p,hz⟩:=I.list hq;obtain ⟨f0,f1,f2,f3,f4,f5⟩:=hf it (by simp);have hl:=rv.length;exact wpAny_pyNext_list_end (I.ok.hd hc) st p.isList (by simp; omega) fun h' eb=>⟨rfl,I.turned (t':=s.toks) (fun b o hb e=>eb b o hb e) f0 f1 f3 f4 f5⟩
 self:=fun _ _ _ _ _ st h=>wpAny_pyIter_listiter st h
theorem IS {P:Program} {w:World} {K:W.Frag} {tg:Expr} (a it:Addr):HZ P w K tg (Itt K a) [it] it (fun i h=>h.IsTupleIter it a i) where
 mem:=by simp
 obj:=fun i h st b hb=>by
   have e:b=it:=by simpa using hb
   subst e;obtain ⟨o,e,c,d⟩:=st;exact ⟨o,e,fun v z=>by rw [d] at z; cases z⟩
 keep:=fun i h h' st k=>st.at fun o e=>k it (by simp) o e
 item:=by
   intro X hP hw hK hc i pins s σ H E I hf st hg;subst hP hw hK;obtain ⟨xs,x,hq,hx⟩:=hg;obtain ⟨its,rv,p,hz⟩:=I.tuple hq;obtain ⟨u,hu,ru⟩:=rv.get hx;obtain ⟨f0,f1,f2,f3,f4,f5⟩:=hf it (by simp);refine wpAny_pyNext_tuple_item st (show s.heap.IsTuple a its.toArray from p) (x:=u) (by simpa using hu) fun h' st' sb=>?_;have I1:Inv X pins σ H { s with heap:=h' }:=I.turned (t':=s.toks) (fun b o hb e=>(sb.2 b hb).trans e) f0 f1 f3 f4 f5;obtain ⟨o,e,c,d⟩:=id st';exact ⟨u,rfl,YM (s:={ s with heap:=h' }) e c d (by decide) ⟨x,H,I1,ru,⟨rfl,fun ys hy=>by rw [I.tuple_inj hy hq]; exact hx⟩,st',fun b hb=>(hf b hb).1⟩⟩
 done:=by
   intro X hP hw hK hc i pins s σ H E I hf st hg;subst hP hw hK;obtain ⟨xs,hq,hx⟩:=hg;obtain ⟨its,rv,p,hz⟩:=I.tuple hq;obtain ⟨f0,f1,f2,f3,f4,f5⟩:=hf it (by simp);have hl:=rv.length;exact wpAny_pyNext_tuple_end (I.ok.hd hc) st (show s.heap.IsTuple a its.toArray from p) (by simp; omega) fun h' eb=>⟨rfl,I.turned (t':=s.toks) (fun b o hb e=>eb b o hb e) f0 f1 f3 f4 f5⟩
 self:=fun _ _ _ _ _ st h=>wpAny_pyIter_tupleiter st h
theorem JL {P:Program} {w:World} {K:W.Frag} {tg:Expr} (it:Addr) (lo:Int) (n:Nat):HZ P w K tg (Itr lo n) [it] it (fun i h=>IsRangeIter h it (lo + (i:Nat) * 1) ((n:Int) - (i:Nat)) 1) where
 mem:=by simp
 obj :=fun i h st b hb=>by
   have e:b=it:=by simpa using hb
   subst e;exact ⟨_,st,fun v z=>by
     have z':Data.fields _=Data.cell v:=z;cases z'⟩
 keep:=fun i h h' st k=>k it (by simp) _ st
 item:=by
   intro X hP hw hK hc i pins s σ H E I hf st hg;subst hP hw hK;obtain ⟨f0,f1,f2,f3,f4,f5⟩:=hf it (by simp);have W:=Walks.range (prog:=X.prog) (w:=X.w) (I.ok.hd hc) it lo 1 n;refine W.item i s _ _ hg st fun v h' tk hv st' kk=>?_;obtain ⟨t,rfl⟩:=hv;have I1:Inv X pins σ H { s with heap:=h',toks:=tk }:=I.turned (fun b o hb e=>kk b o (by simpa using hb) e) f0 f1 f3 f4 f5;refine ⟨_,rfl,YM (s:={ s with heap:=h',toks:=tk }) (n:="range_iterator") st' rfl rfl (by decide) ⟨.int (lo + i),H,I1,⟨t, ?_⟩,⟨rfl,rfl⟩,st',fun b hb=>(hf b hb).1⟩⟩;rw [Int.mul_one]
 done:=by
   intro X hP hw hK hc i pins s σ H E I hf st hg;subst hP hw hK;obtain ⟨f0,f1,f2,f3,f4,f5⟩:=hf it (by simp);exact wpAny_pyNext_range_end (I.ok.hd hc) st (by have:n≤i:=hg; omega) fun h' eb=>⟨rfl,I.turned (t':=s.toks) (fun b o hb e=>eb b o hb e) f0 f1 f3 f4 f5⟩
 self:=fun _ _ _ _ _ st h=>wpAny_pyIter_rangeiter st h
section
variable {X:Cx} {tg:Expr}
theorem CH {pins:List (Addr×Obj)} {σ:St} {H:Hp} {s:Shared} {R:It→Hp→Prop} {E:Value→Shared→Prop} {lo hi:Int} {t u v:Tok} {tk:Nat} (I:Inv X pins σ H s) (h1: -(2 ^ 62)≤lo) (h2:lo < 2 ^ 62) (h3: -(2 ^ 62)≤hi) (h4:hi < 2 ^ 62)
   (q:R (Itr lo (hi - lo).toNat) H):wpAny (model X.prog X.w) X.A (pyIter (.ref s.heap.objs.size)) (PIE X pins σ tg R) E { s with heap:=s.heap.push { cls:=.type "range",data:=.fields #[.int lo t,.int hi u,.int 1 v] },toks:=tk }:=by
 refine wpAny_pyIter_range (IsRange.new ..) (small_one h1 h2 h3 h4) ?_;have I1:Inv X pins σ H { s with heap:=s.heap.push { cls:=.type "range",data:=.fields #[.int lo t,.int hi u,.int 1 v] },toks:=tk }:=I.kept fun b o e=>wEq _ e;refine ⟨(s.heap.push { cls:=.type "range",data:=.fields #[.int lo t,.int hi u,.int 1 v] }).objs.size,[(s.heap.push { cls:=.type "range",data:=.fields #[.int lo t,.int hi u,.int 1 v] }).objs.size],_,_,H,rfl,
   I1.kept (t':=tk) fun b o e=>wEq _ e,JL _ lo (hi - lo).toNat, ?_,fun b hb=>?_,q⟩
 · have e1:lo + ((0:Nat):Int) * 1=lo:=by simp
   have e2:(((hi - lo).toNat:Nat):Int) - ((0:Nat):Int)=Builtin.Range.rangeSize lo hi 1:=by rw [rangeSize_one]; split <;> omega
   show IsRangeIter _ _ (lo + ((0:Nat):Int) * 1) ((((hi - lo).toNat:Nat):Int) - ((0:Nat):Int)) 1;rw [e1,e2];exact wGq _ rfl
 · have e:b=(s.heap.push { cls:=.type "range",data:=.fields #[.int lo t,.int hi u,.int 1 v] }).objs.size:=by simpa using hb
   subst e;exact I1.fpOk (Nat.le_refl _) (I1.hok.fresh (Nat.le_refl _))
def aGQ (ta:TA):TI:=fun σ H R=>ta σ H fun vs H1=>∃ j:Int,vs=[.int j]∧ -(2 ^ 62)≤j∧j < 2 ^ 62∧R (Itr 0 j.toNat) H1
def aIG (ta:TA):TI:=fun σ H R=>ta σ H fun vs H1=>∃ i j:Int,vs=[.int i,.int j]∧(-(2 ^ 62)≤i∧i < 2 ^ 62∧ -(2 ^ 62)≤j∧j < 2 ^ 62)∧R (Itr i (j - i).toNat) H1
theorem PJ {a:Expr} {ta:TA} {p pos:Pos} (hg:Gl X "range") (hm:X.mg "range"=none) (ha:PA X [a] ta) (hs:starEach [a] X.env=[(false,eval a X.env)]:=by rfl):PI X tg (.Call (.Name "range" p) [a] [] pos) (aGQ ta):=by
 intro pins s σ H R I h;refine Call_ (mV I hg hm boot_range (PyProof.Rows.callWith_type1 (thn (ha pos pins s σ H _ I h) fun us s1 zz=>?_) hs rfl));obtain ⟨vs,H1,I1,r1,q1⟩:=zz;obtain ⟨j,e,q1,q2,q⟩:=q1;subst e;cases r1 with
 | cons r rr =>
   cases rr;obtain ⟨t,rfl⟩:=r;exact call_range_1 (CH I1 (by omega) (by omega) q1 q2 (by simpa using q))
theorem PC {a b:Expr} {ta:TA} {p pos:Pos} (hg:Gl X "range") (hm:X.mg "range"=none) (ha:PA X [a,b] ta) (hs:starEach [a,b] X.env=[(false,eval a X.env),(false,eval b X.env)]:=by rfl) (hs2:starEach [b] X.env=[(false,eval b X.env)]:=by rfl) :
   PI X tg (.Call (.Name "range" p) [a,b] [] pos) (aIG ta):=by
 intro pins s σ H R I h;refine Call_ (mV I hg hm boot_range (PyProof.Rows.callWith_type1 (thn (ha pos pins s σ H _ I h) fun us s1 ⟨vs,H1,I1,r1,q1⟩=>?_) (by rw [hs,hs2]) (by rw [hs2]; rfl)));obtain ⟨i,j,e,⟨q1,q2,q3,q4⟩,q⟩:=q1;subst e;cases r1 with
 | cons r rr =>
   cases rr with
   | cons r' rr =>
     cases rr;obtain ⟨t,rfl⟩:=r;obtain ⟨t',rfl⟩:=r';exact call_range_2 (CH I1 q1 q2 q3 q4 q)
def aJW (wi:TI) (g:TG) (tb:TS):TS:=fun D σ H=>wi σ H fun J H1=>∃ W:Nat→Nat→St→Hp→Prop,(∃ m,W 0 m σ H1)∧∀ i m σ H,W i m σ H→
 (J.stop i H∧D.nx σ H)∨(J.go i H∧∃ N:St→Hp→Prop,(∀ σ' H',N σ' H'→∃ m',m' < m∧W (i + 1) m' σ' H')∧∀ x H',J.yld i H x H'→g x σ H' fun σ2 H2=>tb { D with nx:=N,ct:=N,bk:=D.nx } σ2 H2)
noncomputable def vL (fp:List Addr) (h:Heap):List (Addr×Obj):=fp.filterMap fun b=>(h.get? b).map fun o=>(b,o)
theorem jG {fp:List Addr} {h:Heap} {b:Addr} {o:Obj} (hb:b∈fp) (e:h.get? b=some o):(b,o)∈vL fp h:=List.mem_filterMap.mpr ⟨b,hb,by rw [e]; rfl⟩
theorem QP {fp:List Addr} {h:Heap} {p:Addr×Obj} (hp:p∈vL fp h):p.1∈fp∧h.get? p.1=some p.2:=by
 obtain ⟨b,hb,e⟩:=List.mem_filterMap.mp hp;cases q:h.get? b with
 | none=>rw [q] at e; cases e
 | some o =>
   rw [q] at e;have e':(b,o)=p:=Option.some.inj e;subst e';exact ⟨hb,q⟩
theorem Inv.pinned {pins:List (Addr×Obj)} {σ:St} {H:Hp} {s:Shared} {fp:List Addr} (I:Inv X pins σ H s) (hf:∀ b∈fp,xD X pins H b) (ho:∀ b∈fp,∃ o,s.heap.get? b=some o∧∀ v,o.data≠.cell v):Inv X (pins ++ vL fp s.heap) σ H s :=
 I.pins_of fun p hp=>(List.mem_append.mp hp).elim (fun z=>I.pin p (List.mem_append_right _ z)) fun z=>by
   obtain ⟨hb,e⟩:=QP z;obtain ⟨f0,f1,f2,_⟩:=hf p.1 hb;obtain ⟨o,e',d⟩:=ho p.1 hb;rw [e] at e'; cases e';exact ⟨e,f0,f1,f2,d⟩
theorem Inv.unpinned {pins pl:List (Addr×Obj)} {σ:St} {H:Hp} {s:Shared} (I:Inv X (pins ++ pl) σ H s):Inv X pins σ H s:=I.pins_of fun p hp=>I.pin p (List.mem_append_right _ (List.mem_append_left _ hp))
theorem aFQ {iter:Expr} {body:List Stmt} {wi:TI} {g:TG} {tb:TS} {pos:Pos} (hp:PassesOwn (model X.prog X.w) X.A X.env X.xe) (hc:X.calm=true) (hi:PI X tg iter wi) (hg:PG X tg g) (hb:PSs X body tb)
   (hs:∀ x,foldedSetIterable iter X.env x=pure x:=by intro _; rfl):PS X (.For tg iter body [] pos) (aJW wi g tb):=by
 intro pins s σ H D I h;refine wpAny_For (thn (hi pins s σ H _ I h) fun v s1 h1=>thn h1 fun itv s2 h2=>?_) hs;obtain ⟨it,fp,tn,J,H2,e,I2,T,st2,f2,W,⟨m0,w0⟩,turn⟩:=h2;subst e;have stat:∀ {H':Hp},(∀ b∈fp,H' b=none)→∀ b∈fp,xD X pins H' b:=fun hn b hb=>⟨hn b hb,(f2 b hb).2⟩;refine codeAny_forLoop_any (fun n s'=>∃ i σ' H',Inv X pins σ' H' s'∧tn i s'.heap∧(∀ b∈fp,H' b=none)∧W i n σ' H') ?_ m0 ⟨0,σ,H2,I2,st2,fun b hb=>(f2 b hb).1,w0⟩;rintro n s3 ⟨i,σ3,H3,I3,st3,fr3,w3⟩;rcases turn i n σ3 H3 w3 with ⟨stop,qn⟩ | ⟨go,N,hN,step⟩
 · refine wpAny_passesOwn hp (thn (T.done X rfl rfl rfl hc i pins s3 σ3 H3 X.xe I3 (stat fr3) st3 stop) fun r s4 zz=>?_);obtain ⟨hr,I4⟩:=zz;subst hr;exact wpAny_execs_nil ⟨σ3,H3,I4,qn⟩
 · refine wpAny_passesOwn hp (thn (T.item X rfl rfl rfl hc i pins s3 σ3 H3 X.xe I3 (stat fr3) st3 go) fun r s4 zz=>?_);obtain ⟨u,hr,h4⟩:=zz;subst hr;refine wpAny_passesOwn hp (thn h4 fun _ s5 zz=>?_);obtain ⟨x,H5,I5,r5,y5,st5,fr5⟩:=zz;have I5':=I5.pinned (stat fr5) (T.obj _ _ st5);refine wpAny_passesOwn hp (thn (hg _ s5 σ3 H5 x u _ I5' r5 (step x H5 y5)) fun _ s6 zz=>?_);obtain ⟨σ6,H6,I6,q6⟩:=zz;refine wpAny_passesOwn hp (thn (hb _ s6 σ6 H6 _ I6 q6) fun f s7 q7=>?_);have again:∀ {σ7:St} {H7:Hp},Inv X (pins ++ vL fp s5.heap) σ7 H7 s7→N σ7 H7→∃ m,m < n∧∃ i σ' H',Inv X pins σ' H' s7∧tn i s7.heap∧(∀ b∈fp,H' b=none)∧W i m σ' H':=fun {σ7 H7} I7 n7=>by
     obtain ⟨m',hm,w7⟩:=hN σ7 H7 n7;refine ⟨m',hm,i + 1,σ7,H7,I7.unpinned,T.keep _ _ _ st5 fun b hb o e=>(I7.pin (b,o) (List.mem_append_right _ (List.mem_append_right _ (jG hb e)))).1,fun b hb=>?_,w7⟩;obtain ⟨o,e,d⟩:=T.obj _ _ st5 b hb;exact (I7.pin (b,o) (List.mem_append_right _ (List.mem_append_right _ (jG hb e)))).2.1
   cases f with
   | next=>obtain ⟨σ7,H7,I7,n7⟩:=q7; exact again I7 n7
   | cont=>obtain ⟨σ7,H7,I7,n7⟩:=q7; exact again I7 n7
   | brk=>obtain ⟨σ7,H7,I7,q7⟩:=q7; exact ⟨σ7,H7,I7.unpinned,q7⟩
   | ret v=>obtain ⟨x7,σ7,H7,I7,r7,q7⟩:=q7; exact ⟨x7,σ7,H7,I7.unpinned,r7,q7⟩
end
noncomputable abbrev R2:=V→V→Hp→VK→Prop
noncomputable def OpR (X:Cx) (f:Value→Value→Sem Value) (r:R2):Prop :=
 ∀ (pins:List (Addr×Obj)) (s:Shared) (σ:St) (H:Hp) (x y:V) (v u:Value) (Q:VK),Inv X pins σ H s→aN x v→aN y u→r x y H Q→
   wpAny (model X.prog X.w) X.A (f v u) (EP X pins σ Q) X.xe s
noncomputable def UnR (X:Cx) (f:Value→Sem Value) (r:V→Hp→VK→Prop):Prop :=
 ∀ (pins:List (Addr×Obj)) (s:Shared) (σ:St) (H:Hp) (x:V) (v:Value) (Q:VK),Inv X pins σ H s→aN x v→r x H Q→
   wpAny (model X.prog X.w) X.A (f v) (EP X pins σ Q) X.xe s
noncomputable def bE (X:Cx) (f:Value) (r:List V→Hp→VK→Prop):Prop :=
 ∀ (pins:List (Addr×Obj)) (s:Shared) (σ:St) (H:Hp) (xs:List V) (us:List Value) (Q:VK),Inv X pins σ H s→aJ xs us→r xs H Q→
   wpAny (model X.prog X.w) X.A (call f us) (EP X pins σ Q) X.xe s
noncomputable def aJb (X:Cx) (r:V→Hp→(Bool→Hp→Prop)→Prop):Prop :=
 ∀ (pins:List (Addr×Obj)) (s:Shared) (σ:St) (H:Hp) (x:V) (v:Value) (Q:Bool→Hp→Prop),Inv X pins σ H s→aN x v→r x H Q→
   wpAny (model X.prog X.w) X.A (truthy v) (TP X pins σ Q) X.xe s
def tOp (r:R2) (ta tb:TE):TE:=fun σ H Q=>ta σ H fun x H1=>tb σ H1 fun y H2=>r x y H2 Q
def tUn (r:V→Hp→VK→Prop) (ta:TE):TE:=fun σ H Q=>ta σ H fun x H1=>r x H1 Q
def rI (C:Int→Int→Prop) (g:Int→Int→V):R2:=fun x y H Q=>∃ i j,x= .int i∧y= .int j∧C i j∧Q (g i j) H
def rI0 (g:Int→Int→V):R2:=fun x y H Q=>∃ i j,x= .int i∧y= .int j∧Q (g i j) H
noncomputable def rU (g:Int→V):V→Hp→VK→Prop:=fun x H Q=>∃ i,x= .int i∧Q (g i) H
section
variable {X:Cx} {a b c:Expr} {ta tb tc:TE} {pos:Pos}
theorem aD9 (ha:PE X a ta) (hb:PE X b tb) {pins:List (Addr×Obj)} {s:Shared} {σ:St} {H:Hp} {R:V→V→Hp→Prop} (I:Inv X pins σ H s)
   (h:ta σ H fun x H1=>tb σ H1 fun y H2=>R x y H2) {Q:Value→Shared→Prop} {f:Value→Value→Sem Value}
   (hf:∀ v u s2 x y H2,Inv X pins σ H2 s2→aN x v→aN y u→R x y H2→wpAny (model X.prog X.w) X.A (f v u) Q X.xe s2) :
   wpAny (model X.prog X.w) X.A (eval a X.env) (fun v s₁=>wpAny (model X.prog X.w) X.A (eval b X.env) (fun u s₂=>wpAny (model X.prog X.w) X.A (f v u) Q X.xe s₂) X.xe s₁) X.xe s:=by
 refine thn (ha pins s σ H _ I h) fun v s1 zz=>?_;obtain ⟨x,H1,I1,r1,q1⟩:=zz;refine thn (hb pins s1 σ H1 _ I1 q1) fun u s2 zz=>?_;obtain ⟨y,H2,I2,r2,q2⟩:=zz;exact hf v u s2 x y H2 I2 r1 r2 q2
theorem aG2 {op:Operator} {r:R2} (ho:OpR X (binaryOp op) r) (ha:PE X a ta) (hb:PE X b tb):PE X (.BinOp a op b pos) (tOp r ta tb):=by
 intro pins s σ H Q I h;exact wpAny_BinOp (aD9 ha hb I h fun v u s2 x y H2 I2 rx ry q=>ho pins s2 σ H2 x y v u Q I2 rx ry q)
theorem aGE {op:UnaryOp} {r:V→Hp→VK→Prop} (ho:UnR X (unaryOp op) r) (ha:PE X a ta):PE X (.UnaryOp op a pos) (tUn r ta):=by
 intro pins s σ H Q I h;exact UnaryOp_ (thn (ha pins s σ H _ I h) <|by rintro v s1 ⟨x,H1,I1,r1,q1⟩;exact ho pins s1 σ H1 x v Q I1 r1 q1)
theorem opI {f:Value→Value→Sem Value} {C:Int→Int→Prop} {g:Int→Int→Int}
   (rule:∀ (i j:Int) (t u:Tok) (s:Shared) (Q:Value→Shared→Prop) (E:Value→Shared→Prop),C i j→Q (.int (g i j) s.toks) { s with toks:=s.toks + 1 }→wpAny (model X.prog X.w) X.A (f (.int i t) (.int j u)) Q E s) :
   OpR X f (rI C fun i j=>.int (g i j)):=by
 intro pins s σ H x y v u Q I rx ry h;obtain ⟨i,j,rfl,rfl,hc,q⟩:=h;obtain ⟨t,rfl⟩:=rx;obtain ⟨t',rfl⟩:=ry;exact rule i j t t' s _ _ hc ⟨.int (g i j),H,I.tok _,⟨_,rfl⟩,q⟩
theorem aIp {f:Value→Value→Sem Value} {g:Int→Int→Int}
   (rule:∀ (i j:Int) (t u:Tok) (s:Shared) (Q:Value→Shared→Prop) (E:Value→Shared→Prop),Q (.int (g i j) s.toks) { s with toks:=s.toks + 1 }→wpAny (model X.prog X.w) X.A (f (.int i t) (.int j u)) Q E s) :
   OpR X f (rI0 fun i j=>.int (g i j)):=by
 intro pins s σ H x y v u Q I rx ry h;obtain ⟨i,j,rfl,rfl,q⟩:=h;obtain ⟨t,rfl⟩:=rx;obtain ⟨t',rfl⟩:=ry;exact rule i j t t' s _ _ ⟨.int (g i j),H,I.tok _,⟨_,rfl⟩,q⟩
theorem aAV {f:Value→Value→Sem Value} {g:Int→Int→Bool}
   (rule:∀ (i j:Int) (t u:Tok) (s:Shared) (Q:Value→Shared→Prop) (E:Value→Shared→Prop),Q (.bool (g i j)) s→wpAny (model X.prog X.w) X.A (f (.int i t) (.int j u)) Q E s) :
   OpR X f (rI0 fun i j=>.bl (g i j)):=by
 intro pins s σ H x y v u Q I rx ry h;obtain ⟨i,j,rfl,rfl,q⟩:=h;obtain ⟨t,rfl⟩:=rx;obtain ⟨t',rfl⟩:=ry;exact rule i j t t' s _ _ ⟨.bl (g i j),H,I,rfl,q⟩
def SQ (i j:Int):Prop:=0≤j∧j≤1000000∧i.natAbs < 2 ^ 64
theorem aFJ:OpR X (binaryOp .Add) (rI0 fun i j=>.int (i + j)):=aIp fun _ _ _ _ _ _ _ q=>add_int q
theorem aE6:OpR X (binaryOp .Sub) (rI0 fun i j=>.int (i - j)):=aIp fun _ _ _ _ _ _ _ q=>sub_int q
theorem aEq:OpR X (binaryOp .Mod) (rI (fun _ j=>0 < j) fun i j=>.int (i % j)):=opI fun i j _ _ _ _ _ hc q=>by
 have h1:(0:Int) < j:=hc;exact mod_int' (by omega) (by rw [Int.fmod_eq_emod_of_nonneg i (by omega)]; exact q)
theorem aEC:OpR X (binaryOp .Pow) (rI SQ fun i j=>.int (i ^ j.toNat)):=opI fun _ _ _ _ _ _ _ hc q=>pow_int_small hc.1 hc.2.1 hc.2.2 q
theorem aFU:OpR X (binaryOp .LShift) (rI SQ fun i j=>.int (i * 2 ^ j.toNat)):=opI fun _ _ _ _ _ _ _ hc q=>lshift_int_small hc.1 hc.2.1 hc.2.2 q
theorem unI {f:Value→Sem Value} {g:Int→Int}
   (rule:∀ (i:Int) (t:Tok) (s:Shared) (Q:Value→Shared→Prop) (E:Value→Shared→Prop),Q (.int (g i) s.toks) { s with toks:=s.toks + 1 }→wpAny (model X.prog X.w) X.A (f (.int i t)) Q E s) :
   UnR X f (rU fun i=>.int (g i)):=by
 intro pins s σ H x v Q I rx h;obtain ⟨i,rfl,q⟩:=h;obtain ⟨t,rfl⟩:=rx;exact rule i t s _ _ ⟨.int (g i),H,I.tok _,⟨_,rfl⟩,q⟩
theorem aEd:UnR X (unaryOp .USub) (rU fun i=>.int (-i)):=unI fun _ _ _ _ _ q=>neg_int q
end
theorem aAM {i j:Int}:decide (V.int i=V.int j)=(i == j):=by
 rw [Bool.eq_iff_iff];simp
theorem aA1 {i j:Str}:decide (V.str i=V.str j)=(i == j):=by
 rw [Bool.eq_iff_iff];simp
section
variable {X:Cx} {a b c:Expr} {ta tb tc:TE} {pos:Pos}
theorem XB {pins:List (Addr×Obj)} {σ:St} {H:Hp} {s:Shared} {Q:VK} {k k':Bool} (I:Inv X pins σ H s) (q:Q (.bl k) H) (e:k=k'):EP X pins σ Q (.bool k') s:=by
 subst e;exact ⟨.bl k,H,I,rfl,q⟩
theorem aGX:OpR X (compareOp .Lt) (rI0 fun i j=>.bl (decide (i < j))):=aAV fun _ _ _ _ _ _ _ q=>lt_int q
theorem aI1:OpR X (compareOp .LtE) (rI0 fun i j=>.bl (decide (i≤j))):=aAV fun _ _ _ _ _ _ _ q=>le_int q
theorem aIL:OpR X (compareOp .Gt) (rI0 fun i j=>.bl (decide (j < i))):=aAV fun _ _ _ _ _ _ _ q=>gt_int q
theorem aIu:OpR X (compareOp .GtE) (rI0 fun i j=>.bl (decide (j≤i))):=aAV fun _ _ _ _ _ _ _ q=>ge_int q
theorem aDq:OpR X (compareOp .Is) (fun x y H Q=>y= .non∧Q (.bl (decide (x= .non))) H):=by
 intro pins s σ H x y v u Q I rx ry h;obtain ⟨rfl,q⟩:=h;cases ry;refine is_none_gen (XB I q ?_);cases x <;> first
   | (cases rx; rfl)
   | (obtain ⟨t,rfl⟩:=rx; rfl)
theorem aBM:OpR X (compareOp .IsNot) (fun x y H Q=>y= .non∧Q (.bl (!decide (x= .non))) H):=by
 intro pins s σ H x y v u Q I rx ry h;obtain ⟨rfl,q⟩:=h;cases ry;refine isnot_none_gen (XB I q ?_);cases x <;> first
   | (cases rx; rfl)
   | (obtain ⟨t,rfl⟩:=rx; rfl)
theorem OpR.or {f:Value→Value→Sem Value} {r r':R2} (h:OpR X f r) (h':OpR X f r'):OpR X f (fun x y H Q=>r x y H Q∨r' x y H Q):=by
 intro pins s σ H x y v u Q I rx ry q;rcases q with q | q
 · exact h pins s σ H x y v u Q I rx ry q
 · exact h' pins s σ H x y v u Q I rx ry q
theorem LJ {op:CmpOp} {r:R2} (ho:OpR X (compareOp op) r) (ha:PE X a ta) (hb:PE X b tb) (hm:behindInMarks op b=false):PE X (.Compare a [op] [b] pos) (tOp r ta tb):=by
 intro pins s σ H Q I h;exact wpAny_Compare1 (aD9 ha hb I h fun v u s2 x y H2 I2 rx ry q=>ho pins s2 σ H2 x y v u Q I2 rx ry q) hm
def aCM (t:TE):TT:=fun σ H Q=>t σ H fun x H'=>∃ k,x= .bl k∧Q k H'
theorem LU {op:CmpOp} {r:R2} (ho:OpR X (compareOp op) r) (ha:PE X a ta) (hb:PE X b tb) (hm:behindInMarks op b=false):PT X (.Compare a [op] [b] pos) (aCM (tOp r ta tb)):=by
 intro pins s σ H Q I h;refine wpAny_isTrue_Compare1 (thn (ha pins s σ H _ I h) fun v s1 ⟨x,H1,I1,r1,q1⟩=>thn (hb pins s1 σ H1 _ I1 q1) fun u s2 ⟨y,H2,I2,r2,q2⟩ =>
   thn (ho pins s2 σ H2 x y v u _ I2 r1 r2 q2) fun c s3 ⟨z,H3,I3,r3,k,e,q3⟩=>?_) hm
 subst e;cases r3;exact wpAny_truthy_bool ⟨H3,I3,q3⟩
def GS (r r':R2) (ta tb tc:TE):TE:=fun σ H Q=>ta σ H fun x H1=>tb σ H1 fun y H2=>r x y H2 fun z H3=>∃ k,z= .bl k∧
 (if k=true then tc σ H3 fun w' H4=>r' y w' H4 Q else Q (.bl false) H3)
theorem YA {op op':CmpOp} {r r':R2} (ho:OpR X (compareOp op) r) (ho':OpR X (compareOp op') r') (ha:PE X a ta) (hb:PE X b tb) (hc:PE X c tc)
   (hm:lastMarks [op,op'] [b,c]=false:=by with_unfolding_all rfl):PE X (.Compare a [op,op'] [b,c] pos) (GS r r' ta tb tc):=by
 intro pins s σ H Q I h;refine Compare_chain (thn (ha pins s σ H _ I h) fun v s1 ⟨x,H1,I1,r1,q1⟩=>chain_link (thn (hb pins s1 σ H1 _ I1 q1) fun u s2 ⟨y,H2,I2,r2,q2⟩ =>
   thn (ho pins s2 σ H2 x y v u _ I2 r1 r2 q2) fun d s3 ⟨z,H3,I3,r3,k,e,q3⟩=>?_)) hm
 subst e;cases r3;refine wpAny_truthy_bool ?_;cases k with
 | false=>exact ite_ff ⟨.bl false,H3,I3,rfl,q3⟩
 | true=>exact ite_tt (chain_last (thn (hc pins s3 σ H3 _ I3 q3) <|by rintro w' s4 ⟨z',H4,I4,r4,q4⟩;exact ho' pins s4 σ H4 y z' u w' Q I4 r2 r4 q4))
theorem XJ {op op':CmpOp} {r r':R2} (ho:OpR X (compareOp op) r) (ho':OpR X (compareOp op') r') (ha:PE X a ta) (hb:PE X b tb) (hc:PE X c tc)
   (hm:lastMarks [op,op'] [b,c]=false:=by with_unfolding_all rfl):PT X (.Compare a [op,op'] [b,c] pos) (aCM (GS r r' ta tb tc)):=by
 intro pins s σ H Q I h;refine isTrue_chain (thn (ha pins s σ H _ I h) fun v s1 ⟨x,H1,I1,r1,q1⟩=>test_link (thn (hb pins s1 σ H1 _ I1 q1) fun u s2 ⟨y,H2,I2,r2,q2⟩ =>
   thn (ho pins s2 σ H2 x y v u _ I2 r1 r2 q2) fun d s3 ⟨z,H3,I3,r3,k,e,q3⟩=>?_)) hm
 subst e;cases r3;refine wpAny_truthy_bool ?_;cases k with
 | false =>
   obtain ⟨k',e',q'⟩:=q3;cases e';exact ite_ff ⟨H3,I3,q'⟩
 | true =>
   refine ite_tt (test_last (thn (hc pins s3 σ H3 _ I3 q3) fun w' s4 ⟨z',H4,I4,r4,q4⟩=>thn (ho' pins s4 σ H4 y z' u w' _ I4 r2 r4 q4) fun d' s5 zz=>?_));obtain ⟨z2,H5,I5,r5,k2,e2,q5⟩:=zz;subst e2;cases r5;exact wpAny_truthy_bool ⟨H5,I5,q5⟩
noncomputable def QT (K:W.Frag) (x:V) (H:Hp) (k:Bool):Prop :=
 match x with
 | .non=>k=false
 | .bl b=>k=b
 | .int i=>k=(i != 0)
 | .str y=>y.length≤sizeLine∧k=((y.length:Int) != 0)
 | .byt y=>y.size≤sizeLine∧k=((y.size:Int) != 0)
 | .ref p=>(∃ xs,SqL K H p xs∧k= !xs.isEmpty)∨(∃ xs,SqT K H p xs∧k= !xs.isEmpty)∨∃ kvs,H p=some (.dK kvs)∧k= !kvs.isEmpty
 | _=>False
theorem HV {κ:Type} {kvs:List (κ×V)} {vs:List (κ×Value)} (r:KV kvs vs):(!vs.isEmpty)= !kvs.isEmpty:=by
 cases r <;> rfl
theorem wU {xs:List V} {its:List Value} (r:aJ xs its):(!its.toArray.isEmpty)= !xs.isEmpty:=by
 cases r <;> simp
theorem mM:(sizeLine:Nat) < 2 ^ 63:=by rw [sizeLine_eq]; decide
theorem zS:aJb X (fun x H Q=>∃ k,QT X.K x H k∧Q k H):=by
 intro pins s σ H x v Q I rx h;obtain ⟨k,e,q⟩:=h;have hl:=mM;have hs:sizeLine=16777216:=sizeLine_eq;cases x with
 | non =>
   cases rx;have e':k=false:=e;subst e';exact truthy_none ⟨H,I,q⟩
 | bl b =>
   cases rx;have e':k=b:=e;subst e';exact wpAny_truthy_bool ⟨H,I,q⟩
 | int i =>
   obtain ⟨t,rfl⟩:=rx;have e':k=(i != 0):=e;subst e';exact PySem.P.truthy_int ⟨H,I,q⟩
 | str y =>
   obtain ⟨t,rfl⟩:=rx;obtain ⟨hy,e'⟩:y.length≤sizeLine∧k=((y.length:Int) != 0):=e;subst e';exact PySem.P.truthy_str (by omega) ⟨H,I.tok _,q⟩
 | byt y =>
   obtain ⟨t,rfl⟩:=rx;obtain ⟨hy,e'⟩:y.size≤sizeLine∧k=((y.size:Int) != 0):=e;subst e';exact W.truthy_bytes (by omega) ⟨H,I.tok _,q⟩
 | ref p =>
   cases rx;have e':(∃ xs,SqL X.K H p xs∧k= !xs.isEmpty)∨(∃ xs,SqT X.K H p xs∧k= !xs.isEmpty)∨∃ kvs,H p=some (.dK kvs)∧k= !kvs.isEmpty:=e;rcases e' with ⟨xs,hx,e'⟩ | ⟨xs,hx,e'⟩ | ⟨kvs,hx,e'⟩
   · subst e';obtain ⟨its,r,pl,hz⟩:=I.list hx;have hlen:=r.length;exact wpAny_truthy_list pl.isList (by simp only [wIq]; omega) ⟨H,I.tok _,by rw [wU r]; exact q⟩
   · subst e';obtain ⟨its,r,pl,hz⟩:=I.tuple hx;have hlen:=r.length;exact truthy_tuple pl (by simp only [wIq]; omega) ⟨H,I.tok _,by rw [wU r]; exact q⟩
   · subst e';obtain ⟨hz,hS,vs,r,m⟩:kvs.length≤sizeLine∧(p == sysModules)=false∧∃ vs,KV kvs vs∧s.heap.DictOf (dN X.prog X.w) p vs:=I.hok p _ hx;have hlen:kvs.length=vs.length:=Paired.length r;exact wpAny_truthy_dict hS m (by omega) ⟨H,I.tok _,by rw [HV r]; exact q⟩
 | _=>exact (show False from e).elim
theorem YU (ha:PE X a ta) (he:∀ whole,isTrue a X.env whole=(do let v ←whole; standAt a.pos; holding [v] (truthy v))) :
   PT X a (fun σ H Q=>ta σ H fun x H'=>∃ k,QT X.K x H' k∧Q k H'):=by
 intro pins s σ H Q I h;exact isTrue_plain (thn (ha pins s σ H _ I h) <|by rintro v s1 ⟨x,H1,I1,r1,q1⟩;exact zS pins s1 σ H1 x v Q I1 r1 q1) (he _)
theorem HI:OpR X (binaryOp .Add) (fun x y H Q=>∃ i j,x= .str i∧y= .str j∧i.length + j.length≤sizeLine∧Q (.str (i ++ j)) H):=by
 intro pins s σ H x y v u Q I rx ry h;obtain ⟨i,j,rfl,rfl,hz,q⟩:=h;obtain ⟨t,rfl⟩:=rx;obtain ⟨t',rfl⟩:=ry;exact add_str (fun t' tk=>⟨.str (i ++ j),H,I.tok _,⟨_,rfl⟩,q⟩) hz
theorem fG {x:V} {us:List Value} (r:aJ [x] us):∃ u,us=[u]∧aN x u:=by
 cases r with
 | cons r1 r2=>cases r2; exact ⟨_,rfl,r1⟩
theorem JP {x y:V} {us:List Value} (r:aJ [x,y] us):∃ u w',us=[u,w']∧aN x u∧aN y w':=by
 cases r with
 | cons r1 r2 =>
   cases r2 with
   | cons r3 r4=>cases r4; exact ⟨_,_,rfl,r1,r3⟩
theorem XW:bE X (.builtin "abs") (fun xs H Q=>∃ i,xs=[.int i]∧Q (.int (if i < 0 then -i else i)) H):=by
 intro pins s σ H xs us Q I r h;obtain ⟨i,rfl,q⟩:=h;obtain ⟨u,rfl,t,rfl⟩:=fG r;exact call_abs_int fun u tk=>⟨.int (if i < 0 then -i else i),H,I.tok _,⟨_,rfl⟩,q⟩
theorem NJ (hc:X.calm=true):bE X (.builtin "max") (fun xs H Q=>∃ i j,xs=[.int i,.int j]∧Q (.int (if j > i then j else i)) H):=by
 intro pins s σ H xs us Q I r h;obtain ⟨i,j,rfl,q⟩:=h;obtain ⟨u,w',rfl,⟨t,rfl⟩,⟨t',rfl⟩⟩:=JP r;refine max_two_ints (I.ok.hd hc) fun h' tk k=>⟨_,H,I.kept k, ?_,q⟩;by_cases hj:j > i
 · rw [if_pos hj,if_pos hj]; exact ⟨_,rfl⟩
 · rw [if_neg hj,if_neg hj]; exact ⟨_,rfl⟩
theorem NO (hc:X.calm=true):bE X (.builtin "min") (fun xs H Q=>∃ i j,xs=[.int i,.int j]∧Q (.int (if j < i then j else i)) H):=by
 intro pins s σ H xs us Q I r h;obtain ⟨i,j,rfl,q⟩:=h;obtain ⟨u,w',rfl,⟨t,rfl⟩,⟨t',rfl⟩⟩:=JP r;refine min_two_ints (I.ok.hd hc) fun h' tk k=>⟨_,H,I.kept k, ?_,q⟩;by_cases hj:j < i
 · rw [if_pos hj,if_pos hj]; exact ⟨_,rfl⟩
 · rw [if_neg hj,if_neg hj]; exact ⟨_,rfl⟩
theorem MZ:bE X (.type "int") (fun xs H Q=>(∃ i,xs=[.int i]∧Q (.int i) H)∨∃ k,xs=[.bl k]∧Q (.int (if k then 1 else 0)) H):=by
 intro pins s σ H xs us Q I r h;rcases h with ⟨i,rfl,q⟩ | ⟨k,rfl,q⟩
 · obtain ⟨u,rfl,t,rfl⟩:=fG r;exact call_int_int ⟨.int i,H,I,⟨_,rfl⟩,q⟩
 · obtain ⟨u,rfl,r1⟩:=fG r;cases r1;exact call_int_bool ⟨.int (if k then 1 else 0),H,I.tok _,⟨_,rfl⟩,q⟩
end
structure GG (h:Heap) (x dx C:Addr) (mA:Str→Option Value):Prop where
 obj:h.get? x=some (W.instObj C dx)
 ns:h.Ns1 dx mA
 ne:dx≠x
theorem OS {h:Heap} {dx:Addr} {mA:Str→Option Value} (n:h.Ns1 dx mA):∃ od,h.get? dx=some od∧∀ name,W.lookIn name od=some (mA name):=by
 obtain ⟨o,es,ep,ho,hd,hk,_,hm⟩:=n;refine ⟨o,ho,fun name=>?_⟩;have e:=hm name;unfold nsFind findBy at e;rw [←Array.find?_toList] at e;unfold W.lookIn;rw [hd];dsimp only;split
 · rename_i y q;rw [q] at e;exact congrArg some e
 · rename_i q;rw [q] at e;have a:es.toList.any (·.refKey)=false:=by
     rw [List.any_eq_false];intro y hy;obtain ⟨z,t,hkey⟩:=hk y (Array.mem_toList_iff.mp hy);simp [DictEntry.refKey,hkey]
   have a':¬es.toList.any (·.refKey)=true:=by rw [a]; exact Bool.false_ne_true
   rw [if_neg a'];exact congrArg some e
theorem GG.look {h:Heap} {x dx C:Addr} {mA:Str→Option Value} (I:GG h x dx C mA):∃ od,W.InstAt h x (W.instObj C dx) C (some od)∧∀ name,W.lookIn name od=some (mA name) :=
 let ⟨od,ho,hl⟩:=OS I.ns
 ⟨od,⟨I.obj,rfl,rfl,ho⟩,hl⟩
section
variable {prog:Program} {w:World} {A:Around} {E:Value→Shared→Prop} {s:Shared} {K:W.Frag} {x dx C f:Addr} {mA:Str→Option Value} {name:Str} {v:Value}
theorem aBG {expr:Bool} {Q:Value→Shared→Prop} (X:K.In s.heap) (I:GG s.heap x dx C mA) (hg:W.plainGet K C name=true) (hh:W.hasDictIn K C=true)
   (ha:W.findIn K (.ref C) name=some none) (hv:mA name=some v) (hv':W.handedIn v=true) (h:Q v { s with toks:=s.toks + 1 }) :
   wpAny (model prog w) A (getAttr (.ref x) name expr) Q E s:=by
 obtain ⟨od,J,hl⟩:=I.look;exact W.get_value X J (W.plainGet_of hg).1 (W.findObj_own hh ha rfl (by rw [hl,hv])) hv' h
theorem UF {pl:Sem Bool} {Q:Value×List Value→Shared→Prop} (X:K.In s.heap) (I:GG s.heap x dx C mA) (hg:W.plainGet K C name=true)
   (hf:W.findIn K (.ref C) name=some (some (.ref f))) (ht:W.isFn K (.ref f)=true) (hv:mA name=none) (h:Q (.ref f,[.ref x]) s) :
   wpAny (model prog w) A (getMethod (.ref x) name pl) Q E s:=by
 obtain ⟨od,J,hl⟩:=I.look;exact W.method_fn X J (W.plainGet_of hg).1 (W.plainGet_of hg).2 hf (beq_iff_eq.mp ht) (by show (W.lookIn name od).map (·.isSome)=some false; rw [hl,hv]; rfl) h
theorem aAs {ns:List Str} {Q:Unit→Shared→Prop} (X:K.In s.heap) (I:GG s.heap x dx C mA)
   (hs:W.findIn K (.ref C) "__setattr__"=some (some (.builtin "object.__setattr__"))) (hp:W.plainOver K C=true) (ht:W.takerIn K C name=some none) (hh:W.hasDictIn K C=true)
   (hw:PySem.Within mA ns) (hsz:ns.length≤sizeLine)
   (h:∀ h',GG h' x dx C (fun y=>if y=name then some v else mA y)→Heap.SameBut dx s.heap h'→Q () { s with heap:=h',toks:=s.toks + 2 }) :
   wpAny (model prog w) A (setAttr (.ref x) name v) Q E s:=by
 obtain ⟨od,J,hl⟩:=I.look;refine W.set_plain X J hs (W.osa_open (s:={ s with toks:=s.toks + 1 }) (r:=none) X J hp ht fun b=>?_);obtain ⟨cd,hc,hd'⟩:=W.any_some hh;have hx:s.heap.get? x=some ⟨.ref C,some dx,.plain, #[]⟩:=I.obj;refine wAq (wBq (wAq (wAq (wpAny_loadPart hx (wAq (W.Looks.here (s:={ s with toks:=s.toks + 1 }) (W.looks_clsIn X hc) ?_))))));rw [hd'];refine wBq (a:=some dx) (wAq (wBq (wAq ?_)));refine wpAny_nsSet1 (s:={ s with toks:=s.toks + 1 }) I.ns fun h' hn2 hs2=>?_;obtain ⟨oD,esD,epD,hoD,hdD,hcD⟩:=hn2.count (PySem.Within.cons name v hw);refine wAq (wpAny_lookBehind hoD (by rw [hdD]; exact pastItsLine_dict (Nat.le_trans hcD (by rw [List.length_cons]; omega))) ?_);exact wBq (h _ ⟨(hs2.2 _ (Ne.symm I.ne)).trans I.obj,hn2,I.ne⟩ hs2)
theorem EW {R:Result→Shared→Prop} {vs:List Value} {kw:List (Str×Value)} (X:K.In s.heap) (hm:W.makesIn K C=true)
   (hi:W.findIn K (.ref C) "__init__"=some (some (.ref f))) (hf:W.typeIn K (.ref f)=some (.type "function"))
   (h :codeAny (model prog w) (A.under (.builtin "type.__call__" ⟨.ref C :: vs,kw⟩)) (.call (.ref f) ⟨.ref (s.heap.objs.size + 1) :: vs,kw⟩) (W.InitBack (s.heap.objs.size + 1) R)
     { s with heap:=(s.heap.push W.emptyDict).push (W.instObj C s.heap.objs.size) }) :
   codeAny (model prog w) A (.call (.ref C) ⟨vs,kw⟩) R s:=by
 obtain ⟨hh,g,d,t,os⟩:=s;exact W.make_core (W.makes_of X hm) (W.looks_findIn X hi) (fun self=>W.bind_fn X self hf) (.inl rfl) h
end
noncomputable def jC (f:Str) (v:V):List (Str×V)→List (Str×V)
 | []=>[(f,v)]
 | (g,x) :: r=>if g=f then (g,v) :: r else (g,x) :: jC f v r
theorem sH (f g:Str) (v:V):∀ fs:List (Str×V),(jC f v fs).lookup g=if g=f then some v else fs.lookup g
 | [] =>by
   show List.lookup g [(f,v)]=_;by_cases h:g=f
   · have hb:(g == f)=true:=beq_iff_eq.mpr h;simp only [List.lookup,hb,if_pos h]
   · have hb:(g == f)=false:=beq_eq_false_iff_ne.mpr h;simp only [List.lookup,hb,if_neg h]
 | (k, x) :: r=>by
   have ih:=sH f g v r;rw [show jC f v ((k,x) :: r)=(if k=f then (k,v) :: r else (k,x) :: jC f v r) from rfl];by_cases hk:k=f
   · rw [if_pos hk];by_cases h:g=k
     · have hb:(g == k)=true:=beq_iff_eq.mpr h;simp only [List.lookup,hb,if_pos (h.trans hk)]
     · have hb:(g == k)=false:=beq_eq_false_iff_ne.mpr h;simp only [List.lookup,hb,if_neg (fun e:g=f=>h (e.trans hk.symm))]
   · rw [if_neg hk];by_cases h:g=k
     · have hb:(g == k)=true:=beq_iff_eq.mpr h;simp only [List.lookup,hb,if_neg (fun e:g=f=>hk (h.symm.trans e))]
     · have hb:(g == k)=false:=beq_eq_false_iff_ne.mpr h;simp only [List.lookup,hb];exact ih
theorem pJ (f:Str) (v:V):∀ fs:List (Str×V),f∈(jC f v fs).map (·.1)∧∀ g,g∈fs.map (·.1)→g∈(jC f v fs).map (·.1)
 | []=>⟨by simp [jC],fun g h=>by simp at h⟩
 | (k, x) :: r=>by
   obtain ⟨i1,i2⟩:=pJ f v r;rw [show jC f v ((k,x) :: r)=(if k=f then (k,v) :: r else (k,x) :: jC f v r) from rfl];by_cases hk:k=f
   · rw [if_pos hk];subst hk;exact ⟨by simp,fun g h=>by simpa using h⟩
   · rw [if_neg hk];refine ⟨?_,fun g h=>?_⟩
     · rw [List.map_cons];exact wCq _ i1
     · rw [List.map_cons] at h ⊢;rcases List.mem_cons.mp h with e | e
       · exact List.mem_cons.mpr (.inl e)
       · exact wCq _ (i2 g e)
theorem sG (f:Str) (v:V):∀ fs:List (Str×V),(jC f v fs).length≤fs.length + 1
 | []=>by simp [jC]
 | (k,x) :: r=>by
   have ih:=sG f v r;rw [show jC f v ((k,x) :: r)=(if k=f then (k,v) :: r else (k,x) :: jC f v r) from rfl];by_cases hk:k=f
   · rw [if_pos hk,List.length_cons,List.length_cons]; omega
   · rw [if_neg hk,List.length_cons,List.length_cons]; omega
theorem nU.some_of {v:V} {o:Option Value} (r:nU (some v) o):∃ u,o=some u∧aN v u:=by
 cases o with
 | none=>exact (show False from r).elim
 | some u=>exact ⟨u,rfl,r⟩
theorem nU.none_of {o:Option Value} (r:nU none o):o=none:=by
 cases o with
 | none=>rfl
 | some u=>exact (show False from r).elim
theorem NK {v:V} {u:Value} (r:aN v u):W.handedIn u=true:=by
 cases v with
 | non=>cases (show u=Value.none from r); rfl
 | bl b=>cases (show u=Value.bool b from r); rfl
 | int i=>obtain ⟨t,e⟩:=(show ∃ t,u=Value.int i t from r); cases e; rfl
 | str x=>obtain ⟨t,e⟩:=(show ∃ t,u=Value.str x t from r); cases e; rfl
 | byt b=>obtain ⟨t,e⟩:=(show ∃ t,u=Value.bytes b t from r); cases e; rfl
 | flt b=>obtain ⟨t,e⟩:=(show ∃ t,u=Value.float b t from r); cases e; rfl
 | ref a=>cases (show u=Value.ref a from r); rfl
 | ty n=>cases (show u=Value.type n from r); rfl
section
variable {P:Program} {w:World} {H H':Hp} {h h':Heap} {a C dx:Addr} {fs fs':List (Str×V)}
theorem nQ (hok:HOk P w H h) (e:H a=some (.ins C dx fs)):∃ mA,GG h a dx C mA∧(∀ f,nU (fs.lookup f) (mA f))∧PySem.Within mA (fs.map (·.1))∧fs.length≤1000∧H dx=some (.own a):=by
 obtain ⟨d,z,ne,ob,mA,n,r,q⟩:=(show bZ P w H h a (.ins C dx fs) from hok a _ e);exact ⟨mA,⟨ob,n,ne⟩,r,q,z,d⟩
end
structure Cls (K:W.Frag) (C:Addr):Prop where
 pg:W.plainGet K C Str.empty=true
 hd:W.hasDictIn K C=true
 po:W.plainOver K C=true
 sa:W.findIn K (.ref C) "__setattr__"=some (some (.builtin "object.__setattr__"))
theorem Cls.get {K:W.Frag} {C:Addr} (c:Cls K C) (f:Str):W.plainGet K C f=true:=c.pg
def cX (K:W.Frag) (C:Addr) (f:Str):Prop:=W.findIn K (.ref C) f=some none
theorem cX.taker {K:W.Frag} {C:Addr} {f:Str} (n:cX K C f):W.takerIn K C f=some none:=by
 unfold W.takerIn;rw [show W.findIn K (.ref C) f=some none from n];rfl
structure fO (K:W.Frag) (C:Addr) (m:Str) (f:Addr):Prop where
 at_:W.findIn K (.ref C) m=some (some (.ref f))
 fn:W.isFn K (.ref f)=true
 kp:W.keepIn K (.ref f)=true
section
variable {X:Cx} {pins:List (Addr×Obj)} {σ:St} {H:Hp} {s:Shared} {a C dx:Addr} {fs:List (Str×V)} {f:Str} {v:V} {A:Around} {E:Value→Shared→Prop}
theorem wG {b:Bool} {Q:Value→Shared→Prop} (I:Inv X pins σ H s) (e:H a=some (.ins C dx fs)) (c:Cls X.K C) (n:cX X.K C f) (l:fs.lookup f=some v)
   (h:∀ u s',Inv X pins σ H s'→aN v u→Q u s'):wpAny (model X.prog X.w) A (getAttr (.ref a) f b) Q E s:=by
 obtain ⟨mA,O,r,_,_,_⟩:=nQ I.hok e;obtain ⟨u,hu,ru⟩:=nU.some_of (v:=v) (o:=mA f) (by rw [←l]; exact r f);exact aBG I.kIn O (c.get f) c.hd n hu (NK ru) (h u _ (I.tok _) ru)
theorem vG {m:Str} {g:Addr} {pl:Sem Bool} {Q:Value×List Value→Shared→Prop} (I:Inv X pins σ H s) (e:H a=some (.ins C dx fs)) (c:Cls X.K C) (k:fO X.K C m g) (l:fs.lookup m=none)
   (h:Q (.ref g,[.ref a]) s):wpAny (model X.prog X.w) A (getMethod (.ref a) m pl) Q E s:=by
 obtain ⟨mA,O,r,_,_,_⟩:=nQ I.hok e;have hn:mA m=none:=nU.none_of (by rw [←l]; exact r m);exact UF I.kIn O (c.get m) k.at_ k.fn hn h
theorem uE {y:V} {u:Value} {Q:Unit→Shared→Prop} (I:Inv X pins σ H s) (e:H a=some (.ins C dx fs)) (c:Cls X.K C) (n:cX X.K C f) (hl:fs.length < 1000) (ry:aN y u)
   (h:∀ s',Inv X pins σ (upd H a (.ins C dx (jC f y fs))) s'→Q () s'):wpAny (model X.prog X.w) A (setAttr (.ref a) f u) Q E s:=by
 obtain ⟨mA,O,r,wi,_,ho⟩:=nQ I.hok e;have hz:(fs.map (·.1)).length≤sizeLine:=by rw [List.length_map,sizeLine_eq]; omega
 refine aAs I.kIn O c.sa c.po n.taker c.hd wi hz fun h' O' sb=>h _ ?_;have hd:∃ o,h'.get? dx=some o:=let ⟨o,_,_,e',_⟩:=O'.ns; ⟨o,e'⟩
 refine I.write (x:=a) (e:=dx) (by rw [e]; exact True.intro) (.inr ho) (fun b q hb z=>(sb.2 b hb).trans z) hd ?_;refine ⟨by rw [aI O.ne]; exact ho, ?_,O.ne,O'.obj,_,O'.ns,fun g=>?_,fun g hg=>?_⟩
 · have:=sG f y fs; omega
 · show nU ((jC f y fs).lookup g) (if g=f then some u else mA g);rw [sH];by_cases q:g=f
   · rw [if_pos q,if_pos q]; exact ry
   · rw [if_neg q,if_neg q]; exact r g
 · by_cases q:g=f
   · rw [q]; exact (pJ f y fs).1
   · refine (pJ f y fs).2 g (wi g fun z=>hg ?_);show (if g=f then some u else mA g)=none;rw [if_neg q]; exact z
theorem Inv.made (I:Inv X pins σ H s):Inv X pins σ (upd (upd H s.heap.objs.size (.own (s.heap.objs.size + 1))) (s.heap.objs.size + 1) (.ins C s.heap.objs.size []))
   { s with heap:=(s.heap.push W.emptyDict).push (W.instObj C s.heap.objs.size) }:=by
 have e1:(s.heap.push W.emptyDict).get? s.heap.objs.size=some W.emptyDict:=wGq s.heap rfl;have e2:((s.heap.push W.emptyDict).push (W.instObj C s.heap.objs.size)).get? (s.heap.objs.size + 1)=some (W.instObj C s.heap.objs.size):=by
   have:=wGq (s.heap.push W.emptyDict) (o:=W.instObj C s.heap.objs.size) rfl
   rwa [Heap.size_push] at this
 have e3:(s.heap.push W.emptyDict).Ns s.heap.objs.size (fun _=>none):=⟨W.emptyDict, #[],_,e1,rfl,(fun e he=>absurd he (by simp)),fun _=>rfl⟩;have I1:=I.laid (a:=s.heap.objs.size) (o:=.own (s.heap.objs.size + 1)) (h':=s.heap.push W.emptyDict) (t':=s.toks) (fun b u q=>wEq _ q) (Nat.le_refl _) ⟨_,e1⟩;refine I1.laid (a:=s.heap.objs.size + 1) (o:=.ins C s.heap.objs.size []) (t':=s.toks) (fun b u q=>wEq _ q) (Nat.le_of_eq (Heap.size_push _ _)) ?_;have ne:s.heap.objs.size≠s.heap.objs.size + 1:=Nat.ne_of_lt (Nat.lt_succ_self _);refine ⟨by rw [aI ne,aW],Nat.zero_le _,ne,e2,fun _=>none,(Heap.Ns1.of_empty e3).at fun o q=>wEq _ q,fun _=>True.intro,fun y hy=>absurd rfl hy⟩
theorem aAm {prog:Program} {w:World} {env:Env} {e:Expr} {f:Str} {pos:Pos} {s:Shared} {Q:Value→Shared→Prop} (hb:attributeBase e f env (eval e env)=eval e env)
   (h:wpAny (model prog w) A (eval e env) (fun o s₁=>wpAny (model prog w) A (getAttr o f true) Q E s₁) E s):wpAny (model prog w) A (eval (.Attribute e f pos) env) Q E s :=
 Attribute_any_ h (by rw [arm_eval_Attribute,hb])
end
def aJA (K:W.Frag) (ta:TE) (f:Str):TE:=fun σ H Q=>ta σ H fun x H1=>∃ a C dx fs v,x= .ref a∧H1 a=some (.ins C dx fs)∧Cls K C∧cX K C f∧fs.lookup f=some v∧Q v H1
def aJ9 (K:W.Frag) (ta tv:TE) (f:Str):TS:=fun D σ H=>tv σ H fun y H1=>ta σ H1 fun x H2=>∃ a C dx fs,x= .ref a∧H2 a=some (.ins C dx fs)∧Cls K C∧cX K C f∧fs.length < 1000∧
 D.nx σ (upd H2 a (.ins C dx (jC f y fs)))
noncomputable def aHv (X:Cx) (op:Operator) (rd:V→V→Hp→VK→Prop):Prop :=
 ∀ (pins:List (Addr×Obj)) (s:Shared) (σ:St) (H:Hp) (x y:V) (u v:Value) (Q:VK),Inv X pins σ H s→aN x u→aN y v→rd x y H Q→wpAny (model X.prog X.w) X.A (inplaceOp op u v) (EP X pins σ Q) X.xe s
def aAK (K:W.Frag) (ta tv:TE) (rd:V→V→Hp→VK→Prop) (f:Str):TS:=fun D σ H=>ta σ H fun x H1=>∃ a C dx fs v,x= .ref a∧H1 a=some (.ins C dx fs)∧Cls K C∧cX K C f∧fs.lookup f=some v∧
 tv σ H1 fun y H2=>rd v y H2 fun z H3=>∃ dx' fs',H3 a=some (.ins C dx' fs')∧fs'.length < 1000∧D.nx σ (upd H3 a (.ins C dx' (jC f z fs')))
section
variable {X:Cx} {o e value:Expr} {f:Str} {pos pos' tpos:Pos} {ta tv:TE}
theorem aDf (he:PE X e ta) (hb:attributeBase e f X.env (eval e X.env)=eval e X.env):PE X (.Attribute e f pos) (aJA X.K ta f):=by
 intro pins s σ H Q I h;refine aAm hb (thn (he pins s σ H _ I h) fun u s1 zz=>?_);obtain ⟨x,H1,I1,rx,a,C,dx,fs,v,ex,ea,c,n,l,q⟩:=zz;subst ex;obtain rfl:u=Value.ref a:=rx;exact wG I1 ea c n l fun u' s2 I2 ru=>⟨v,H1,I2,ru,q⟩
theorem aEU (ha:PE X o ta) (hv:PE X value tv) (hs:swapsWith value (some (.Attribute o f pos')) pos.line X.env=pure false):PS X (.Assign [.Attribute o f pos'] value pos) (aJ9 X.K ta tv f):=by
 intro pins s σ H D I h;refine plainObj_wpAny_Assign_Attribute (thn (hv pins s σ H _ I h) fun u s1 ⟨y,H1,I1,ry,q⟩=>thn (ha pins s1 σ H1 _ I1 q) fun ov s2 zz=>?_) hs;obtain ⟨x,H2,I2,rx,a,C,dx,fs,ex,ea,c,n,l,q2⟩:=zz;subst ex;obtain rfl:ov=Value.ref a:=rx;exact uE I2 ea c n l ry fun s3 I3=>⟨σ,_,I3,q2⟩
theorem PF {op:Operator} {rd:V→V→Hp→VK→Prop} (ha:PE X o ta) (hv:PE X value tv) (hop:aHv X op rd):PS X (.AugAssign (.Attribute o f tpos) op value pos) (aAK X.K ta tv rd f):=by
 intro pins s σ H D I h;refine wpAny_AugAssign_AttributeAny (thn (ha pins s σ H _ I h) fun ov s1 zz=>?_);obtain ⟨x,H1,I1,rx,a,C,dx,fs,v,ex,ea,c,n,l,q⟩:=zz;subst ex;obtain rfl:ov=Value.ref a:=rx;refine wG I1 ea c n l fun u s2 I2 ru=>thn (hv pins s2 σ H1 _ I2 q) fun w3 s3 ⟨y,H2,I3,ry,q3⟩=>thn (hop pins s3 σ H2 v y u w3 _ I3 ru ry q3) fun w4 s4 zz=>?_;obtain ⟨z,H3,I4,rz,dx',fs',ea',l',q4⟩:=zz;exact uE I4 ea' c n l' rz fun s5 I5=>⟨σ,_,I5,q4⟩
noncomputable def aJS:V→V→Hp→VK→Prop:=fun x y H Q=>∃ i j,x= .int i∧y= .int j∧Q (.int (i + j)) H
theorem aD6:aHv X .Add aJS:=by
 rintro pins s σ H x y u v Q I rx ry ⟨i,j,rfl,rfl,q⟩;obtain ⟨t,rfl⟩:=(show ∃ t,u=Value.int i t from rx);obtain ⟨t',rfl⟩:=(show ∃ t',v=Value.int j t' from ry);exact PyProof.Rows.iadd_int ⟨.int (i + j),H,I.tok _,⟨_,rfl⟩,q⟩
end
section
variable {X:Cx} {pins:List (Addr×Obj)} {σ:St} {H:Hp} {s:Shared} {A:Around} {E:Value→Shared→Prop} {Q:Value→Shared→Prop} {c:Value} {b:Bool}
inductive rF (K:W.Frag) (H:Hp):V→Value→Prop where
 | non:rF K H .non (.type "NoneType")
 | bl (x:Bool):rF K H (.bl x) (.type "bool")
 | int (i:Int):rF K H (.int i) (.type "int")
 | str (x:Str):rF K H (.str x) (.type "str")
 | flt (x:UInt64):rF K H (.flt x) (.type "float")
 | lst {a:Addr} {xs:List V} (e:H a=some (.lst xs)):rF K H (.ref a) (.type "list")
 | frz {a:Addr} {o:Obj} {xs:List V} (e:H a=some (.frz o (.lst xs))):rF K H (.ref a) (.type "list")
 | tup {a:Addr} {xs:List V} (e:H a=some (.tup xs)):rF K H (.ref a) (.type "tuple")
 | dK {a:Addr} {kvs:List (Key×V)} (e:H a=some (.dK kvs)):rF K H (.ref a) (.type "dict")
 | dT {a:Addr} {kvs:List (List Key×V)} (e:H a=some (.dT kvs)):rF K H (.ref a) (.type "dict")
 | ins {a C dx:Addr} {fs:List (Str×V)} (e:H a=some (.ins C dx fs)) (cl:Cls K C) (ha:W.findIn K (.ref C) "__class__"=some (some (.builtin "object.__class__")))
     (hn:W.specialIn K (.builtin "object.__class__") "__get__"=some (some (.builtin "getset_descriptor.__get__"))) (htk:W.takesIn K (.builtin "object.__class__")=some true)
     (hm:W.mroIn K C (.type "object")=some true):rF K H (.ref a) (.ref C)
theorem yD {x:V} {u t:Value} (I:Inv X pins σ H s) (rx:aN x u) (ty:rF X.K H x t) (e:W.kitOne X.K t c=some b) (h:∀ tk,Q (.bool b) { s with toks:=tk }) :
   wpAny (model X.prog X.w) A (call (.builtin "isinstance") [u,c]) Q E s:=by
 cases ty with
 | non=>cases (show u=Value.none from rx); exact W.kia_one W.kitx_none I.kIn True.intro e (fun z=>nomatch z) h
 | bl y=>cases (show u=Value.bool y from rx); exact W.kia_one W.kitx_bool I.kIn True.intro e (fun z=>nomatch z) h
 | int i=>obtain ⟨t,q⟩:=(show ∃ t,u=Value.int i t from rx); cases q; exact W.kia_one W.kitx_int I.kIn True.intro e (fun z=>nomatch z) h
 | str y=>obtain ⟨t,q⟩:=(show ∃ t,u=Value.str y t from rx); cases q; exact W.kia_one W.kitx_str I.kIn True.intro e (fun z=>nomatch z) h
 | flt y=>obtain ⟨t,q⟩:=(show ∃ t,u=Value.float y t from rx); cases q; exact W.kia_one W.kitx_float I.kIn True.intro e (fun z=>nomatch z) h
 | @lst a xs ea =>
   cases (show u=Value.ref a from rx);obtain ⟨_,_,n,_,h1⟩:=(show bZ X.prog X.w H s.heap a (.lst xs) from I.hok a _ ea);exact W.kia_one W.kitx_list I.kIn ⟨_,h1,rfl⟩ e (fun z=>nomatch z) h
 | @frz a ob xs ea =>
   cases (show u=Value.ref a from rx);obtain ⟨_,_,_,n,_,h1⟩:=(show bZ X.prog X.w H s.heap a (.frz ob (.lst xs)) from I.hok a _ ea);exact W.kia_one W.kitx_list I.kIn ⟨_,h1,rfl⟩ e (fun z=>nomatch z) h
 | @tup a xs ea =>
   cases (show u=Value.ref a from rx);obtain ⟨_,_,_,p⟩:=(show bZ X.prog X.w H s.heap a (.tup xs) from I.hok a _ ea);obtain ⟨o,h1,h2,_⟩:=p.1;exact W.kia_one W.kitx_tuple I.kIn ⟨o,h1,h2⟩ e (fun z=>nomatch z) h
 | @dK a kvs ea =>
   cases (show u=Value.ref a from rx);obtain ⟨_,_,vs,_,p⟩:=(show bZ X.prog X.w H s.heap a (.dK kvs) from I.hok a _ ea);obtain ⟨o,es,ep,h1,h2,_⟩:=p;exact W.kia_one W.kitx_dict I.kIn ⟨o,h1,h2.1⟩ e (fun z=>nomatch z) h
 | @dT a kvs ea =>
   cases (show u=Value.ref a from rx);obtain ⟨_,_,xs,_,o,es,ep,h1,h2,_⟩:=(show bZ X.prog X.w H s.heap a (.dT kvs) from I.hok a _ ea);exact W.kia_one W.kitx_dict I.kIn ⟨o,h1,h2.1⟩ e (fun z=>nomatch z) h
 | @ins a C dx fs ea cl ha hn htk hm =>
   cases (show u=Value.ref a from rx);obtain ⟨mA,O,_⟩:=nQ I.hok ea;obtain ⟨od,J,_⟩:=O.look;exact W.kia_one (W.kitx_own (cl.get _) cl.hd ha hn htk hm) I.kIn J e (fun z=>nomatch z) h
end
structure bF (k:Nat) (A:Around):Prop where
 hd:40≤k→A.handled=none
 dp:A.depth + 3 * k + 5 < recursionLimit
 un:A.units + 16 * k + 200 < cLine
 gd:80≤k→A.guards=some []
theorem bF.mono {j k:Nat} {A:Around} (r:bF k A) (h:j≤k):bF j A:=⟨fun z=>r.hd (Nat.le_trans z h),by have:=r.dp; omega,by have:=r.un; omega,fun z=>r.gd (Nat.le_trans z h)⟩
theorem bF.deeper {k:Nat} {A:Around} (r:bF (k + 1) A) (env:Env):bF k (A.deeper env) :=
 ⟨fun z=>r.hd (Nat.le_succ_of_le z),by have:=r.dp; show A.depth + 1 + 3 * k + 5 < _; omega,by have:=r.un; show A.units + 3 + 16 * k + 200 < _; omega,fun z=>r.gd (Nat.le_succ_of_le z)⟩
theorem bF.in1 {k:Nat} {A:Around} (r:bF (k + 1) A):bF k A.in1 :=
 ⟨fun z=>r.hd (Nat.le_succ_of_le z),by have:=r.dp; show A.depth + 3 * k + 5 < _; omega,by have:=r.un; show A.units + 1 + 16 * k + 200 < _; omega,fun z=>r.gd (Nat.le_succ_of_le z)⟩
theorem HN {A:Around} {C:Addr} {us:List Value} {kw:List (Str×Value)}:(A.under (.builtin "type.__call__" ⟨.ref C :: us,kw⟩)).depth=A.depth + 1:=by
 first | rfl | simp [Around.under,Code.weight,Code.isCreation,Code.isGuard,Code.isCaller,Code.frames,Code.isFrame,guardIds]
theorem GY {A:Around} {C:Addr} {us:List Value} {kw:List (Str×Value)}:(A.under (.builtin "type.__call__" ⟨.ref C :: us,kw⟩)).units=A.units + 1:=by
 first | rfl | simp [Around.under,Code.cUnits,Code.frames,Code.isFrame]
theorem bF.make {k:Nat} {A:Around} (r:bF (k + 1) A) (C:Addr) (us:List Value) (kw:List (Str×Value)):bF k (A.under (.builtin "type.__call__" ⟨.ref C :: us,kw⟩)) :=
 ⟨fun z=>r.hd (Nat.le_succ_of_le z),by have:=r.dp; rw [HN]; omega,by have:=r.un; rw [GY]; omega,fun z=>by
   have e:=r.gd (Nat.le_succ_of_le z);first | exact e | (simp only [Around.under,Code.isGuard,guardIds]; simpa using e)⟩
theorem bF.depth {k:Nat} {A:Around} (r:bF k A):A.depth < recursionLimit:=by have:=r.dp; omega
theorem bF.units {k:Nat} {A:Around} (r:bF k A):A.units + 64 < cLine:=by have:=r.un; omega
theorem bF.units0 {k:Nat} {A:Around} (r:bF k A):A.units < cLine:=by have:=r.un; omega
def aHa:TA:=fun _ H Q=>Q [] H
def aCS (ta:TE) (tr:TA):TA:=fun σ H Q=>ta σ H fun x H1=>tr σ H1 fun xs H2=>Q (x :: xs) H2
section
variable {X:Cx} {e:Expr} {es:List Expr} {te:TE} {t:TA} {pos:Pos}
theorem hW:PA X [] aHa:=fun _ _ _ _ H Q I h=>Calls.spliced_nil ⟨[],H,I,.nil,h⟩
theorem dM (ha:PE X e te) (hr:PA X es t) (hs:starEach (e :: es) X.env=(false,eval e X.env) :: starEach es X.env:=by rfl):PA X (e :: es) (aCS te t):=by
 intro pos pins s σ H Q I h;rw [hs];show wpAny _ _ (spliced ((false,eval e X.env) :: backTo pos (starEach es X.env))) _ _ s;refine Calls.spliced_cons (thn (ha pins s σ H _ I h) fun u s1 zz=>?_);obtain ⟨x,H1,I1,r1,q1⟩:=zz;exact thn (hr pos pins s1 σ H1 _ I1 q1) <|by rintro us s2 ⟨xs,H2,I2,r2,q2⟩;exact ⟨x :: xs,H2,I2,.cons r1 r2,q2⟩
def aKh (t:TA):TE:=fun σ H Q=>t σ H fun xs H1=>xs.length≤sizeLine∧∀ p,H1 p=none→Q (.ref p) (upd H1 p (.tup xs))
def aJk (t:TA):TE:=fun σ H Q=>t σ H fun xs H1=>xs.length≤sizeLine∧∀ p,H1 p=none→Q (.ref p) (upd H1 p (.lst xs))
theorem aFO {x1} (h:PA X es t):PE X (.Tuple es x1 pos) (aKh t):=by
 intro pins s σ H Q I hq;refine wpAny_Tuple_spliced (thn (h pos pins s σ H _ I hq) fun us s1 ⟨xs,H1,I1,r,z,q⟩=>⟨by rw [←r.length]; exact z, ?_⟩);have hf:H1 s1.heap.objs.size=none:=I1.hok.fresh (Nat.le_refl _);refine ⟨.ref s1.heap.objs.size,upd H1 s1.heap.objs.size (.tup xs),I1.laid (t':=s1.toks) (fun b u e=>wEq _ e) (Nat.le_refl _) ?_,rfl,q _ hf⟩;exact ⟨z,us,r,gC.new _ _⟩
theorem aFF (h:PA X es t):PE X (.List es pos) (aJk t):=by
 intro pins s σ H Q I hq;refine wpAny_List_spliced (thn (h pos pins s σ H _ I hq) fun us s1 ⟨xs,H1,I1,r,z,q⟩=>⟨by rw [←r.length]; exact z, ?_⟩);have hf:H1 s1.heap.objs.size=none:=I1.hok.fresh (Nat.le_refl _);refine ⟨.ref s1.heap.objs.size,upd H1 s1.heap.objs.size (.lst xs),I1.laid (t':=s1.toks) (fun b u e=>wEq _ e) (Nat.le_refl _) ?_,rfl,q _ hf⟩;exact ⟨z,us,0,r,wGq _ rfl⟩
end
noncomputable abbrev Sp:=List V→Hp→VK→XK→Prop
noncomputable abbrev CXT:=List Env→Hp→Shared→XK→Value→Shared→Prop
structure rK (P:Program) (w:World) (K:W.Frag) (mg:Str→Option Value) (base:Heap) (A:Around) (outer:List Env) (s:Shared) (H:Hp):Prop where
 frames:A.frames=some outer
 mod:Mod K mg base
 bs:∀ b o,base.get? b=some o→s.heap.get? b=some o∧H b=none
 bsz:base.objs.size≤s.heap.objs.size
 funs:s.heap.FunFrames base outer
 frf:∀ b∈frs outer,H b=none
 hok:HOk P w H s.heap
 bare:AllBare s.gens
noncomputable def CE (outer:List Env) (P:Program) (w:World) (H:Hp) (s:Shared) (Q:VK) (u:Value) (s':Shared):Prop :=
 ∃ v H',s'.os=s.os∧AllBare s'.gens∧Un (frs outer) [] H H' s.heap s'.heap∧HOk P w H' s'.heap∧aN v u∧Q v H'
noncomputable def CR (CX:CXT) (outer:List Env) (P:Program) (w:World) (H:Hp) (s:Shared) (Q:VK) (E:XK) (r:Result) (s':Shared):Prop :=
 match r with
 | .ok (.ret u)=>CE outer P w H s Q u s'
 | .ok _=>False
 | .error e=>CX outer H s E e s'
structure bN (P:Program) (w:World) (K:W.Frag) (mg:Str→Option Value) (base:Heap) (CX:CXT) (k:Nat) (f:Addr) (fd:FuncData) (ps:List Str) (sp:Sp):Prop where
 len:∀ vs H Q E,sp vs H Q E→vs.length=ps.length
 run:∀ (A:Around) (outer:List Env) (s:Shared) (H:Hp) (args:Args) (us:List Value) (vs:List V) (Q:VK) (E:XK),bF k A→rK P w K mg base A outer s H→BindsTo s fd args (ps.zip us)→aJ vs us→sp vs H Q E→
   codeAny (model P w) A (.call (.ref f) args) (CR CX outer P w H s Q E) s
theorem bN.mono {P:Program} {w:World} {K:W.Frag} {mg:Str→Option Value} {base:Heap} {CX:CXT} {j k:Nat} {f:Addr} {fd:FuncData} {ps:List Str} {sp:Sp} (F:bN P w K mg base CX j f fd ps sp) (h:j≤k) :
   bN P w K mg base CX k f fd ps sp:=⟨F.len,fun A outer s H args us vs Q E hr=>F.run A outer s H args us vs Q E (hr.mono h)⟩
theorem bN.imp {P:Program} {w:World} {K:W.Frag} {mg:Str→Option Value} {base:Heap} {CX:CXT} {k:Nat} {f:Addr} {fd:FuncData} {ps:List Str} {sp sp':Sp} (F:bN P w K mg base CX k f fd ps sp)
   (h:∀ vs H Q E,sp' vs H Q E→sp vs H Q E):bN P w K mg base CX k f fd ps sp' :=
 ⟨fun vs H Q E q=>F.len vs H Q E (h _ _ _ _ q),fun A outer s H args us vs Q E hr he hb hv hs=>F.run A outer s H args us vs Q E hr he hb hv (h _ _ _ _ hs)⟩
theorem rK.make {P:Program} {w:World} {K:W.Frag} {mg:Str→Option Value} {base:Heap} {A:Around} {outer:List Env} {s:Shared} {H:Hp} (e:rK P w K mg base A outer s H) (C:Addr) (us:List Value) (kw:List (Str×Value)) :
   rK P w K mg base (A.under (.builtin "type.__call__" ⟨.ref C :: us,kw⟩)) outer s H:=⟨by first | exact e.frames | (simpa [Around.under,Code.envs,Code.isFrame,pushEnvs] using e.frames),e.mod,e.bs,e.bsz,e.funs,e.frf,e.hok,e.bare⟩
theorem rK.in1 {P:Program} {w:World} {K:W.Frag} {mg:Str→Option Value} {base:Heap} {A:Around} {outer:List Env} {s:Shared} {H:Hp} (e:rK P w K mg base A outer s H) :
   rK P w K mg base A.in1 outer s H:=⟨e.frames,e.mod,e.bs,e.bsz,e.funs,e.frf,e.hok,e.bare⟩
section
variable {X:Cx} {pins:List (Addr×Obj)} {σ:St} {H:Hp} {s s':Shared}
theorem Inv.env0 (I:Inv X pins σ H s):rK X.prog X.w X.K X.mg X.base X.A X.stack s H :=
 ⟨I.ok.frames,I.ok.mod,I.bs,Nat.le_trans I.ok.bsz I.sz,I.stack,I.stkFree,I.hok,I.bare⟩
theorem Inv.after {Q:VK} {u:Value} (I:Inv X pins σ H s) (h:CE X.stack X.prog X.w H s Q u s'):EP X pins σ Q u s':=by
 obtain ⟨v,H',os,bare,un,hok,r,q⟩:=h;obtain ⟨hh,g,d,t,os'⟩:=s';obtain rfl:os'=s.os:=os;exact ⟨v,H',I.call (h':=hh) (g':=g) (d':=d) (t':=t) (ch:=[]) un hok bare (fun b z=>absurd z (by simp)),r,q⟩
end
def aGV (sp:Sp) (dvs:List V) (E:XK) (t:TA):TE:=fun σ H Q=>t σ H fun vs H1=>sp (vs ++ dvs) H1 Q E
def aGy (C:Addr) (sp:Sp) (dvs:List V) (E:XK) (t:TA):TE:=fun σ H Q=>t σ H fun vs H1=>∀ x dx,H1 x=none→H1 dx=none→dx≠x→
 sp (.ref x :: (vs ++ dvs)) (upd (upd H1 dx (.own x)) x (.ins C dx [])) (fun v H2=>v= .non∧Q (.ref x) H2) E
noncomputable def aH (K:W.Frag) (fd:FuncData) (ps:List Str) (ds:List Value):Prop :=
 ∀ (s:Shared) (us:List Value),K.In s.heap→(us ++ ds).length=ps.length→BindsTo s fd ⟨us,[]⟩ (ps.zip (us ++ ds))
def jI (CX:CXT) (X:Cx) (E:XK):Prop:= ∀ (pins:List (Addr×Obj)) (σ:St) (H:Hp) (s:Shared) (e:Value) (s':Shared),Inv X pins σ H s→CX X.stack H s E e s'→X.xe e s'
section
variable {X:Cx} {CX:CXT} {k:Nat} {f C:Addr} {fd:FuncData} {ps:List Str} {sp:Sp} {dvs:List V} {ds:List Value} {E:XK} {x m:Str} {p pos apos:Pos} {e o:Expr} {es:List Expr} {ta:TE} {t:TA}
theorem aEn {pins:List (Addr×Obj)} {σ:St} {H:Hp} {s:Shared} {Q:VK} {us:List Value} {vs:List V} (F:bN X.prog X.w X.K X.mg X.base CX k f fd ps sp) (hr:bF k X.A) (hb:aH X.K fd ps ds) (hd:aJ dvs ds) (hx:jI CX X E)
   (I:Inv X pins σ H s) (r:aJ vs us) (h:sp (vs ++ dvs) H Q E):wpAny (model X.prog X.w) X.A (call (.ref f) us) (EP X pins σ Q) X.xe s:=by
 have r2:aJ (vs ++ dvs) (us ++ ds):=r.append hd;have hl:(us ++ ds).length=ps.length:=by rw [←r2.length]; exact F.len _ _ _ _ h
 refine wpAny_call (codeAny_mono (F.run X.A X.stack s H ⟨us,[]⟩ (us ++ ds) (vs ++ dvs) Q E hr I.env0 (hb s us I.kIn hl) r2 h) fun r s' hq=>?_);cases r with
 | error e=>exact hx pins σ H s e s' I hq
 | ok fl =>
   cases fl with
   | ret u=>exact I.after hq
   | next=>exact False.elim hq
   | brk=>exact False.elim hq
   | cont=>exact False.elim hq
theorem aA9 (F:bN X.prog X.w X.K X.mg X.base CX k f fd ps sp) (hr:bF k X.A) (hg:Gl X x) (hm:X.mg x=some (.ref f)) (hk:W.keepIn X.K (.ref f)=true) (hb:aH X.K fd ps ds) (hd:aJ dvs ds) (hx:jI CX X E)
   (ha:PA X (e :: es) t) (hdb:(x == ("__debug__":Str))=false:=by decide) (he:starEach (e :: es) X.env=(false,eval e X.env) :: starEach es X.env:=by rfl) (hpl:(backTo pos (starEach es X.env)).any (·.1)=false:=by rfl) :
   PE X (.Call (.Name x p) (e :: es) [] pos) (aGV sp dvs E t):=by
 intro pins s σ H Q I h;refine wpAny_Call_Name_kw (lK I hg hm ?_ hdb);refine W.callWith_K (h₀:=X.base) I.ok.mod.kin hk (thn (ha pos pins s σ H _ I h) fun us s1 ⟨vs,H1,I1,r,q⟩=>⟨I1.kIn, ?_⟩) he hpl;exact aEn F hr hb hd hx I1 r q
structure Mk (K:W.Frag) (C f:Addr):Prop where
 makes:W.makesIn K C=true
 init:W.findIn K (.ref C) "__init__"=some (some (.ref f))
 fn:W.isFn K (.ref f)=true
 kp:W.keepIn K (.ref C)=true
theorem WZ {pins:List (Addr×Obj)} {σ:St} {H:Hp} {s:Shared} {Q:VK} {us:List Value} {vs:List V} (M:Mk X.K C f) (F:bN X.prog X.w X.K X.mg X.base CX k f fd ps sp) (hr:bF (k + 1) X.A) (hb:aH X.K fd ps ds) (hd:aJ dvs ds)
   (hx:jI CX X E) (I:Inv X pins σ H s) (r:aJ vs us)
   (h:∀ x dx,H x=none→H dx=none→dx≠x→sp (.ref x :: (vs ++ dvs)) (upd (upd H dx (.own x)) x (.ins C dx [])) (fun v H2=>v= .non∧Q (.ref x) H2) E) :
   wpAny (model X.prog X.w) X.A (call (.ref C) us) (EP X pins σ Q) X.xe s:=by
 have hq:=h (s.heap.objs.size + 1) s.heap.objs.size (I.hok.fresh (Nat.le_succ _)) (I.hok.fresh (Nat.le_refl _)) (Nat.ne_of_lt (Nat.lt_succ_self _));have I2:=Inv.made (C:=C) I;have r2:aJ (V.ref (s.heap.objs.size + 1) :: (vs ++ dvs)) (Value.ref (s.heap.objs.size + 1) :: (us ++ ds)):=.cons rfl (r.append hd);have hl:(Value.ref (s.heap.objs.size + 1) :: us ++ ds).length=ps.length:=by
   have e:=r2.length;rw [F.len _ _ _ _ hq] at e;exact e.symm
 refine wpAny_call (EW (f:=f) I.kIn M.makes M.init (beq_iff_eq.mp M.fn) (codeAny_mono (F.run _ X.stack _ _ ⟨Value.ref (s.heap.objs.size + 1) :: us,[]⟩ (Value.ref (s.heap.objs.size + 1) :: (us ++ ds)) _ _ E (hr.make C us [])
   (I2.env0.make C us []) (hb _ (Value.ref (s.heap.objs.size + 1) :: us) I2.kIn hl) r2 hq) fun r s' hq'=>?_))
 cases r with
 | error e=>exact hx pins σ _ _ e s' I2 hq'
 | ok fl =>
   cases fl with
   | ret u =>
     obtain ⟨v,H',I3,rv,ev,q3⟩:=I2.after hq';subst ev;exact ⟨rv,⟨V.ref (s.heap.objs.size + 1),H',I3,rfl,q3⟩⟩
   | next=>exact False.elim hq'
   | brk=>exact False.elim hq'
   | cont=>exact False.elim hq'
theorem ZV (M:Mk X.K C f) (F:bN X.prog X.w X.K X.mg X.base CX k f fd ps sp) (hr:bF (k + 1) X.A) (hg:Gl X x) (hm:X.mg x=some (.ref C)) (hb:aH X.K fd ps ds) (hd:aJ dvs ds) (hx:jI CX X E)
   (ha:PA X (e :: es) t) (hdb:(x == ("__debug__":Str))=false:=by decide) (he:starEach (e :: es) X.env=(false,eval e X.env) :: starEach es X.env:=by rfl) (hpl:(backTo pos (starEach es X.env)).any (·.1)=false:=by rfl) :
   PE X (.Call (.Name x p) (e :: es) [] pos) (aGy C sp dvs E t):=by
 intro pins s σ H Q I h;refine wpAny_Call_Name_kw (lK I hg hm ?_ hdb);refine W.callWith_K (h₀:=X.base) I.ok.mod.kin M.kp (thn (ha pos pins s σ H _ I h) fun us s1 ⟨vs,H1,I1,r,q⟩=>⟨I1.kIn, ?_⟩) he hpl;exact WZ M F hr hb hd hx I1 r q
end
noncomputable def PK (X:Cx) (kws:List Keyword) (t:TA):Prop :=
 ∀ (pos:Pos) (pins:List (Addr×Obj)) (s:Shared) (σ:St) (H:Hp) (Q:List V→Hp→Prop),Inv X pins σ H s→t σ H Q→wpAny (model X.prog X.w) X.A (evalAll ((backToKw pos (keywordEach kws X.env)).map (·.2))) (AP X pins σ Q) X.xe s
section
variable {X:Cx} {CX:CXT} {k:Nat} {f C:Addr} {fd:FuncData} {ps ks:List Str} {sp:Sp} {E:XK} {x m:Str} {p pos apos kpos:Pos} {e o:Expr} {es:List Expr} {kws:List Keyword} {te ta:TE} {t tk:TA} {nm:Option Str}
theorem aED:PK X [] aHa:=fun _ _ _ _ H Q I h=>wpAny_evalAll_nil ⟨[],H,I,.nil,h⟩
theorem aBc (ha:PE X e te) (hr:PK X kws t):PK X (⟨nm,e,kpos⟩ :: kws) (aCS te t):=by
 intro pos pins s σ H Q I h;show wpAny _ _ (evalAll ((do let v ←eval e X.env; standAt pos; pure v) :: (backToKw pos (keywordEach kws X.env)).map (·.2))) _ _ s;refine wpAny_evalAll_cons (wAq (thn (ha pins s σ H _ I h) fun u s1 ⟨x,H1,I1,r1,q1⟩=>wAq (wpAny_standAt (wBq ?_))));exact thn (hr pos pins s1 σ H1 _ I1 q1) <|by rintro us s2 ⟨xs,H2,I2,r2,q2⟩;exact ⟨x :: xs,H2,I2,.cons r1 r2,q2⟩
variable {g:List Value→List Value→List Value} {gV:List V→List V→List V}
end
structure BH (N P:List Str) (sc:Scope):Prop where
 kind:sc.kind= .function
 co:sc.isCoroutine=false
 gen:sc.isGenerator=false
 nd:N.Nodup
 pre:N.take P.length=P
 par:∀ x∈P,sc.names.lookup x=some .local∨sc.names.lookup x=some .cell
 nofree:∀ y∈sc.names,y.2≠.free
theorem zI {kindOf:Str→Option NameKind} {x:Str}:∀ {binds:List (Str×Value)} {m:Str→Option Value},(∀ v,(x,v)∉ binds)→bindL kindOf binds m x=m x
 | [],_,_=>rfl
 | (n,v) :: r,m,h=>by
   unfold bindL;rw [zI fun w hw=>h w (wCq _ hw)];split
   · have:x≠n:=by rintro rfl; exact h v wDq
     simp [this]
   · rfl
theorem yZ {kindOf:Str→Option NameKind} {x:Str}:∀ {binds:List (Str×Value)} {m:Str→Option Value},(∀ v,(x,v)∉ binds)→bindC kindOf binds m x=m x
 | [],_,_=>rfl
 | (n,v) :: r,m,h=>by
   unfold bindC;rw [yZ fun w hw=>h w (wCq _ hw)];split
   · rfl
   · have:x≠n:=by rintro rfl; exact h v wDq
     simp [this]
theorem yL {kindOf:Str→Option NameKind} {x:Str} {v:Value}:∀ {P:List Str} {vs:List Value} {i:Nat} {m:Str→Option Value},P.Nodup→P[i]? =some x→vs[i]? =some v→kindOf x=some .local→
   bindL kindOf (P.zip vs) m x=some v
 | [],_,_,_,_,h,_,_=>by simp at h
 | _ :: _,[],_,_,_,_,h,_=>by simp at h
 | p :: P,w :: vs,0,m,nd,h1,h2,hk=>by
   simp at h1 h2; subst h1; subst h2
   show bindL kindOf ((p,w) :: P.zip vs) m p=_;unfold bindL;rw [zI fun v hv=>(List.nodup_cons.mp nd).1 (List.of_mem_zip hv).1,if_pos hk];simp
 | p :: P,w :: vs,i + 1,m,nd,h1,h2,hk=>by
   show bindL kindOf ((p,w) :: P.zip vs) m x=_;unfold bindL;exact yL (i:=i) (List.nodup_cons.mp nd).2 (by simpa using h1) (by simpa using h2) hk
theorem yX {kindOf:Str→Option NameKind} {x:Str} {v:Value}:∀ {P:List Str} {vs:List Value} {i:Nat} {m:Str→Option Value},P.Nodup→P[i]? =some x→vs[i]? =some v→kindOf x≠some .local→
   bindC kindOf (P.zip vs) m x=some v
 | [],_,_,_,_,h,_,_=>by simp at h
 | _ :: _,[],_,_,_,_,h,_=>by simp at h
 | p :: P,w :: vs,0,m,nd,h1,h2,hk=>by
   simp at h1 h2; subst h1; subst h2
   show bindC kindOf ((p,w) :: P.zip vs) m p=_;unfold bindC;rw [yZ fun v hv=>(List.nodup_cons.mp nd).1 (List.of_mem_zip hv).1,if_neg hk];simp
 | p :: P,w :: vs,i + 1,m,nd,h1,h2,hk=>by
   show bindC kindOf ((p,w) :: P.zip vs) m x=_;unfold bindC;exact yX (i:=i) (List.nodup_cons.mp nd).2 (by simpa using h1) (by simpa using h2) hk
noncomputable def start (N:List Str) (vs:List V):St:=vs.map some ++ List.replicate (N.length - vs.length) none
noncomputable def NE (CX:CXT) (P:Program) (w:World) (K:W.Frag) (mg:Str→Option Value) (base:Heap) (N:List Str) (qual:Str) (scope:Scope) (f:Addr) (cd:Value) (A:Around) (outer:List Env) (s:Shared) (H:Hp) (E:XK):Cx where
 prog:=P
 w:=w
 K:=K
 mg:=mg
 base:=base
 A:=A.deeper (envOfC qual scope s.heap.objs.size f cd)
 N:=N
 s₀:=s
 H₀:=H
 env:=envOfC qual scope s.heap.objs.size f cd
 outer:=outer
 stack:=envOfC qual scope s.heap.objs.size f cd :: outer
 ex:=[]
 calm:=A.handled.isNone
 fn:=fun _=>true
 pn:=[]
 xe:=fun e s'=>wpAny (model P w) (A.deeper (envOfC qual scope s.heap.objs.size f cd)) (leaving (envOfC qual scope s.heap.objs.size f cd) e) (fun _ s''=>CX outer H s E e s'') (fun e' s''=>CX outer H s E e' s'') s'
theorem wO {sc:Scope} {n:Nat} {x:Str} (h:sc.names.lookup x=some .cell):∃ c,(cellsFrom n sc.names []).lookup x=some c:=by
 have q:=W.cellsFrom_some sc.names n [] (.inl h);exact Option.isSome_iff_exists.mp q
theorem OG {CX:CXT} {P:Program} {w:World} {K:W.Frag} {mg:Str→Option Value} {base:Heap} {N ps:List Str} {qual:Str} {scope:Scope} {f:Addr} {cd:Value} {A:Around} {outer:List Env} {s s1:Shared} {H:Hp} {E:XK} {us:List Value} {vs:List V}
   (S:BH N ps scope) (e0:rK P w K mg base A outer s H) (hl:vs.length=ps.length) (r:aJ vs us)
   (x:InCallC s s.heap.objs.size (bindL (envOfC qual scope s.heap.objs.size f cd).kindOf (ps.zip us) fun _=>none) (cellsFrom (s.heap.objs.size + 1) scope.names []) (bindC (envOfC qual scope s.heap.objs.size f cd).kindOf (ps.zip us) fun _=>none) s1) :
   Inv (NE CX P w K mg base N qual scope f cd A outer s H E) [] (start N vs) H s1:=by
 have hpl:ps.length≤N.length:=by have:=congrArg List.length S.pre; rw [List.length_take] at this; omega
 obtain ⟨h1,tk,rfl,hk⟩:=x.done;have noA:∀ b:Addr,b∉ (NE CX P w K mg base N qual scope f cd A outer s H E).ex:=fun b z=>absurd (show b∈([]:List Addr) from z) (by simp);refine ⟨⟨e0.mod,S.kind,rfl,rfl,Nat.le_refl _,fun y z c h1 h2=>?_,fun y hy=>?_,fun y c _ h=>?_,fun z=>Option.isNone_iff_eq_none.mp z,Around.frames_deeper e0.frames,.inr ⟨rfl,rfl⟩,fun b z=>absurd z (noA b),e0.bs,e0.bsz,fun b _ _=>noA b,fun b z=>absurd z (noA b),e0.funs,e0.frf⟩,
   rfl,e0.bare,Un.kept hk,⟨_,x.toInCall.ns,fun i y v h1 h2 h3=>?_⟩,fun y c h=>⟨_,x.cell y c h⟩,e0.hok.fresh (Nat.le_refl _),fun y c h=>?_,fun p hp=>absurd (show p∈([]:List (Addr×Obj)) from hp) (by simp),e0.hok.kept hk, ?_⟩
 · exact name_of_addr x.apart (PySem.mem_of_lookup h1) (PySem.mem_of_lookup h2)
 · have hy:scope.names.lookup y=some .cell∨scope.names.lookup y=some .free:=hy;rcases hy with hy | hy
   · exact wO hy
   · exact absurd rfl (S.nofree _ (PySem.mem_of_lookup hy))
 · exact Nat.le_of_lt (x.above y c (PySem.mem_of_lookup h))
 · have hi:i < vs.length:=by
     unfold start at h2;by_cases hi:i < vs.length
     · exact hi
     · rw [List.getElem?_append_right (by simpa using hi)] at h2;rw [List.getElem?_replicate] at h2;split at h2 <;> cases h2
   have ha:vs[i]? =some v:=by
     unfold start at h2;rw [List.getElem?_append_left (by simpa using hi),List.getElem?_map] at h2;cases e:vs[i]? with
     | none=>rw [e] at h2; cases h2
     | some a=>rw [e] at h2; cases h2; rfl
   obtain ⟨u,hu,rv⟩:=r.get ha;have hp:ps[i]? =some y:=by
     rw [←S.pre,List.getElem?_take_of_lt (by omega)]; exact h1
   have ndP:ps.Nodup:=by rw [←S.pre]; exact S.nd.sublist (List.take_sublist _ _)
   refine ⟨u,rv, ?_⟩;rcases S.par y (List.mem_of_getElem? hp) with k | k
   · exact .inl ⟨k,yL ndP hp hu k⟩
   · obtain ⟨c,e⟩:=wO (n:=s.heap.objs.size + 1) k;refine .inr ⟨.inl k,c,e, ?_⟩;have q:=x.cell y c e;rw [yX ndP hp hu (by show scope.names.lookup y≠_; rw [k]; decide)] at q;exact q
 · exact e0.hok.fresh (Nat.le_of_lt (x.above y c (PySem.mem_of_lookup h)))
 · unfold start;show _=N.length;rw [List.length_append,List.length_map,List.length_replicate];omega
theorem aHF {CX:CXT} {P:Program} {w:World} {K:W.Frag} {mg:Str→Option Value} {base:Heap} {k:Nat} {f:Addr} {name qual:Str} {params:Arguments} {body:List Stmt} {scope:Scope} {dV kV doc pm cdv ct oc:Value} {an od:Option Addr}
   {osl:Array (Option Value)} {N ps:List Str} {sp:Sp} (lk:K.lookup f=some ⟨oc,od,.func (W.fnOf name qual params body scope dV kV doc pm an cdv ct),osl⟩) (hcd:W.codeIn K cdv qual=true) (S:BH N ps scope)
   (len:∀ vs H Q E,sp vs H Q E→vs.length=ps.length)
   (hbody:∀ (A:Around) (outer:List Env) (s:Shared) (H:Hp) (vs:List V) (Q:VK) (E:XK),bF k (A.deeper (envOfC qual scope s.heap.objs.size f cdv))→sp vs H Q E→
     ∃ t,PSs (NE CX P w K mg base N qual scope f cdv A outer s H E) body t∧t { nx:=fun _ H'=>Q .non H',rt:=Q } (start N vs) H) :
   bN P w K mg base CX (k + 1) f (W.fnOf name qual params body scope dV kV doc pm an cdv ct) ps sp:=by
 refine ⟨len,fun A outer s H args us vs Q E hr e0 hb r hsp=>?_⟩;have hl:=len _ _ _ _ hsp;have KX:K.In s.heap:=e0.mod.kin.keeps fun b o e=>(e0.bs b o e).1;have lim:s.heap.NoLimit:=e0.mod.nolimit.keeps fun b o e=>(e0.bs b o e).1;have hkind:∀ y∈ps.zip us,scope.names.lookup y.1=some .local∨(scope.names.lookup y.1=some .cell∧((cellsFrom (s.heap.objs.size + 1) scope.names []).lookup y.1).isSome=true):=by
   rintro ⟨n,v⟩ hy;rcases S.par n (List.of_mem_zip hy).1 with q | q
   · exact .inl q
   · exact .inr ⟨q,W.cellsFrom_some _ _ _ (.inl q)⟩
 refine codeAny_call_function hr.depth (KX _ _ lk) rfl S.co S.gen rfl (W.codeRec_of KX hcd) (hb _ _ _ _ ?_);refine wpAny_newFunctionEnv_cells S.kind hkind fun env he s1 x=>?_;subst he;refine ⟨lim.keeps x.toInCall.keep,codeAny_func ?_⟩;obtain ⟨t,ht,hq⟩:=hbody A outer s H vs Q E (hr.deeper _) hsp;have I:Inv (NE CX P w K mg base N qual scope f cdv A outer s H E) [] (start N vs) H s1:=OG S e0 hl r x;refine wpAny_mono (ht [] s1 (start N vs) H _ I hq) (fun fl s' hs=>?_) fun e s' hs=>hs;have fin:∀ {σ':St} {H':Hp} {v:V} {u:Value},Inv (NE CX P w K mg base N qual scope f cdv A outer s H E) [] σ' H' s'→aN v u→Q v H'→CE outer P w H s Q u s' :=
   fun {σ' H' v u} J rv q=>⟨v,H',J.os,J.bare,J.base,J.hok,rv,q⟩
 cases fl with
 | ret u =>
   obtain ⟨v,σ',H',J,rv,q⟩:=hs;exact fin J rv q
 | next =>
   obtain ⟨σ',H',J,q⟩:=hs;exact fin (v:=V.non) (u:=Value.none) J rfl q
 | brk =>
   obtain ⟨_,_,_,q⟩:=hs;exact False.elim q
 | cont =>
   obtain ⟨_,_,_,q⟩:=hs;exact False.elim q
section
variable {X:Cx} {x:Str} {p pos:Pos} {e:Expr} {es:List Expr} {t:TA} {id T:String} {r:List V→Hp→VK→Prop}
def tCB (r:List V→Hp→VK→Prop) (t:TA):TE:=fun σ H Q=>t σ H fun vs H1=>r vs H1 Q
theorem vM (hc:bE X (.builtin id) r) (hg:Gl X x) (hm:X.mg x=none) (hv:bootBuiltins x=some (.builtin id)) (ha:PA X (e :: es) t) (hn:x≠"__name__":=by decide) (hdb:(x == ("__debug__":Str))=false:=by decide)
   (he:starEach (e :: es) X.env=(false,eval e X.env) :: starEach es X.env:=by rfl) (hpl:(backTo pos (starEach es X.env)).any (·.1)=false:=by rfl):PE X (.Call (.Name x p) (e :: es) [] pos) (tCB r t):=by
 intro pins s σ H Q I h;refine wpAny_Call_Name_kw (mV I hg hm hv ?_ hn hdb);exact PyProof.Rows.callWith_builtin1 (thn (ha pos pins s σ H _ I h) <|by rintro us s1 ⟨vs,H1,I1,r1,q1⟩;exact hc pins s1 σ H1 vs us Q I1 r1 q1) he hpl
theorem lL (hc:bE X (.type T) r) (hg:Gl X x) (hm:X.mg x=none) (hv:bootBuiltins x=some (.type T)) (ha:PA X (e :: es) t) (hn:x≠"__name__":=by decide) (hdb:(x == ("__debug__":Str))=false:=by decide)
   (he:starEach (e :: es) X.env=(false,eval e X.env) :: starEach es X.env:=by rfl) (hpl:(backTo pos (starEach es X.env)).any (·.1)=false:=by rfl):PE X (.Call (.Name x p) (e :: es) [] pos) (tCB r t):=by
 intro pins s σ H Q I h;refine wpAny_Call_Name_kw (mV I hg hm hv ?_ hn hdb);exact PyProof.Rows.callWith_type1 (thn (ha pos pins s σ H _ I h) <|by rintro us s1 ⟨vs,H1,I1,r1,q1⟩;exact hc pins s1 σ H1 vs us Q I1 r1 q1) he hpl
end
end L2
namespace HT
open PySem PyProof.Rows
noncomputable def yH:List Int→List Int→Bool
 | [],[]=>false
 | [],_ :: _=>true
 | _ :: _,[]=>false
 | x :: xs,y :: ys=>if x=y then yH xs ys else decide (x < y)
theorem aDR (x y:Int) (xs ys:List Int):yH (x :: xs) (y :: ys)=if x=y then yH xs ys else decide (x < y):=rfl
theorem ZP:yH [] []=false:=rfl
theorem RF (y:Int) (ys:List Int):yH [] (y :: ys)=true:=rfl
theorem SI (x:Int) (xs:List Int):yH (x :: xs) []=false:=rfl
section
open PySem.SeqAt
open PySem.AutoSeq1 (wpAny_loadPart')
open PySem.MeetsSeq PySem.MeetsSeq2 PySem.MeetsSeq3
end
section
variable {prog:Program} {w:World} {A:Around} {E:Value→Shared→Prop} {s:Shared}
theorem aBC {t b:Addr} {vs ws:List Value} {Q:Value→Shared→Prop} (ht:IsTup s.heap t vs.toArray) (hb:IsTup s.heap b ws.toArray) (hv:vs≠ [])
   (h1:ws=[]→Q (.ref t) s) (h2:ws≠ []→Q (.ref s.heap.objs.size) { s with heap:=s.heap.push { cls:=.type "tuple",data:=.seq (vs ++ ws).toArray } })
   (hsz:vs.length + ws.length≤sizeLine):wpAny (model prog w) A (binaryOp .Add (.ref t) (.ref b)) Q E s:=by
 obtain ⟨⟨cls,dd,data,sl⟩,ho,hc,n,hd⟩:=id ht;obtain ⟨⟨cls2,dd2,data2,sl2⟩,ho2,hc2,n2,hd2⟩:=id hb;simp only at hc hd hc2 hd2;subst hc hd hc2 hd2;have e:vs.toArray ++ ws.toArray=(vs ++ ws).toArray:=by simp
 by_cases hw:ws=[]
 · exact concat_meets ⟨_,ho,rfl⟩ ⟨_,ho2,rfl⟩ noFill_tuple_add seq_tuple_add PySem.F.slot_tuple_add PySem.F.entry_tuple_add (PySem.F.args_tuple_add_2 _ _)
     (tuple_addW1 t b vs.toArray ws.toArray n n2 dd dd2 sl sl2 (by simpa using hv) (by simp [hw])) ⟨ho,ho2,h1 hw⟩
 · refine concat_meets ⟨_,ho,rfl⟩ ⟨_,ho2,rfl⟩ noFill_tuple_add seq_tuple_add PySem.F.slot_tuple_add PySem.F.entry_tuple_add (PySem.F.args_tuple_add_2 _ _)
     (tuple_addW2 t b vs.toArray ws.toArray n n2 dd dd2 sl sl2 (by simpa using hv) (by simpa using hw) (by rw [wIq,wIq]; exact hsz)) ⟨ho,ho2, ?_⟩
   rw [e];exact h2 hw
noncomputable def sIx (n d:Nat):Option Int→Nat
 | none=>d
 | some v=>if v < 0 then (v + (n:Int)).toNat else min v.toNat n
theorem EE (n d:Nat):sIx n d none=d:=rfl
theorem tQ (n d k:Nat):sIx n d (some (k:Int))=min k n:=by
 show (if (k:Int) < 0 then ((k:Int) + (n:Int)).toNat else min (k:Int).toNat n)=min k n;rw [if_neg (by omega),Int.toNat_natCast]
theorem aFd (n d:Nat) (hd:d≤n) (o:Option Int):sIx n d o≤n:=by
 cases o with
 | none=>exact hd
 | some v =>
   show (if v < 0 then (v + (n:Int)).toNat else min v.toNat n)≤n;by_cases hv:v < 0
   · rw [if_pos hv]; omega
   · rw [if_neg hv]; exact Nat.min_le_right _ _
theorem MD (v:Int) (n d:Nat):(if v < 0 then max (v + (n:Int)) 0 else min v (n:Int))=((sIx n d (some v):Nat):Int):=by
 show (if v < 0 then max (v + (n:Int)) 0 else min v (n:Int))=(((if v < 0 then (v + (n:Int)).toNat else min v.toNat n):Nat):Int);by_cases hv:v < 0
 · simp only [if_pos hv]; omega
 · simp only [if_neg hv]; omega
theorem IN (lo hi:Option Int) (n:Nat):Builtin.Slice.sliceAdjust lo hi 1 (n:Int)=(((sIx n 0 lo:Nat):Int),((sIx n n hi:Nat):Int)):=by
 have h1:¬((1:Int) < 0):=by omega
 unfold Builtin.Slice.sliceAdjust;simp only [h1,if_false];refine Prod.ext ?_ ?_
 · cases lo with
   | none=>rfl
   | some v=>exact MD v n 0
 · cases hi with
   | none=>rfl
   | some v=>exact MD v n n
theorem IA (i j:Nat):Builtin.Slice.slicePlaces (i:Int) (j:Int) 1=j - i:=by
 unfold Builtin.Slice.slicePlaces;have h1:(1:Int) > 0:=by omega
 simp only [h1,if_true,Int.ediv_one];split <;> omega
theorem wR {v:Value} {o:Option Int} {Q:Option Int→Shared→Prop} (p:IsPart v o) (h:Q o s):wpAny (model prog w) A (Builtin.Slice.slicePartIndex v) Q E s:=by
 cases p with
 | none=>exact slicePart_none h
 | int i t=>exact slicePart_int h
theorem iM {sl:Addr} {vl vu:Value} {lo hi:Option Int} {n:Nat} {Q:Int×Int×Nat→Shared→Prop} (hs:s.heap.IsSliceOf sl vl vu .none) (pl:IsPart vl lo) (pu:IsPart vu hi)
   (h:Q (((sIx n 0 lo:Nat):Int),1,sIx n n hi - sIx n 0 lo) s):wpAny (model prog w) A (Builtin.Slice.sliceApplied (.ref sl) (pure (n:Int))) Q E s:=by
 obtain ⟨os,hos,hcs,hds⟩:=id hs;unfold Builtin.Slice.sliceApplied Builtin.Slice.sliceFields;refine wAq (wAq (wpAny_field hos hds (x:=vl) rfl (wAq (wpAny_field hos hds (x:=vu) rfl (wAq (wpAny_field hos hds (x:=.none) rfl (wBq ?_)))))));refine wAq (slicePart_none ?_);show wpAny _ _ (if ((1:Int) == 0)=true then _ else _) _ _ s;rw [if_neg (by decide)];refine wAq (wR pl (wAq (wR pu (wAq (wBq ?_)))));show wpAny _ _ (match Builtin.Slice.sliceAdjust lo hi 1 (n:Int) with | (lo,hi)=>pure (lo,(1:Int),Builtin.Slice.slicePlaces lo hi 1)) _ _ s;rw [IN lo hi n];show wpAny _ _ (pure (((sIx n 0 lo:Nat):Int),(1:Int),Builtin.Slice.slicePlaces ((sIx n 0 lo:Nat):Int) ((sIx n n hi:Nat):Int) 1)) _ _ s;rw [IA];exact wBq h
theorem VC (xs:Array Value) (i k:Nat):((List.range k).filterMap fun (m:Nat)=>xs[((i:Int) + (m:Int) * 1).toNat]?).toArray=((xs.toList.drop i).take k).toArray:=by
 have e:(fun (m:Nat)=>xs[((i:Int) + (m:Int) * 1).toNat]?)=fun m=>xs[i + m]? :=by
   funext m
   have:((i:Int) + (m:Int) * 1).toNat=i + m:=by omega
   rw [this]
 rw [e];have:=pick_run xs i k;rw [List.filterMap_map] at this;have e2:((fun x=>xs[x]?) ∘ fun x=>i + x)=fun m=>xs[i + m]? :=rfl;rw [e2] at this;rw [this]
theorem nE {t sl:Addr} {items:Array Value} {vl vu:Value} {lo hi:Option Int} {Q:Value→Shared→Prop} (ht:IsTup s.heap t items) (hs:s.heap.IsSliceOf sl vl vu .none) (pl:IsPart vl lo) (pu:IsPart vu hi)
   (hw:¬(sIx items.size 0 lo=0∧sIx items.size items.size hi=items.size))
   (h:Q (.ref s.heap.objs.size) { s with heap:=s.heap.push { cls:=.type "tuple",data:=.seq ((items.toList.drop (sIx items.size 0 lo)).take (sIx items.size items.size hi - sIx items.size 0 lo)).toArray } })
   (hsz:items.size≤sizeLine):wpAny (model prog w) A (getItem (.ref t) (.ref sl)) Q E s:=by
 have htake:sizeOk (.seq ((items.toList.drop (sIx items.size 0 lo)).take (sIx items.size items.size hi - sIx items.size 0 lo)).toArray):=by
   show ((items.toList.drop (sIx items.size 0 lo)).take (sIx items.size items.size hi - sIx items.size 0 lo)).toArray.size≤sizeLine;rw [wIq,List.length_take,List.length_drop,Array.length_toList];omega
 have hj:sIx items.size items.size hi≤items.size:=aFd _ _ (Nat.le_refl _) hi;obtain ⟨os,hos,hcs,hds⟩:=id hs;have hTs:s.TypeIs (.ref sl) "slice":=⟨os,hos,hcs⟩;unfold getItem
 try with_reducible refine wpAny_holding ?_
 first | refine wAq (wBq ?_) | skip
 refine wAq (wpAny_sequenceKey ht.typeIs (by decide) ?_);refine wAq (wpAny_callSpecial?_slot (name:=Str.ofString "__getitem__") ht.typeIs PyProof.Rows.slot_tuple_getitem
   (wpAny_call_entry PyProof.Rows.slot_tuple_getitem ht.typeIs entry_tuple_getitem ?_ (args_tuple_getitem _ _)))
 show wpAny _ _ (Builtin.Tuple.tupleItemsOf (.ref t) >>= _) _ _ s;refine wAq (tupleItemsOf_ ht ?_);refine wAq (wpAny_typeOf hTs ?_);rw [if_pos (by decide)];refine wAq (iM hs pl pu ?_);have hno:¬((((sIx items.size 0 lo:Nat):Int) == 0 && (1:Int) == 1 && (sIx items.size items.size hi - sIx items.size 0 lo) == items.size)=true):=by
   intro q;rw [Bool.and_eq_true,Bool.and_eq_true] at q;have q1:((sIx items.size 0 lo:Nat):Int)=0:=eq_of_beq q.1.1;have q2:sIx items.size items.size hi - sIx items.size 0 lo=items.size:=eq_of_beq q.2;exact hw ⟨by omega,by omega⟩
 show wpAny _ _ (if (((sIx items.size 0 lo:Nat):Int) == 0 && (1:Int) == 1 && (sIx items.size items.size hi - sIx items.size 0 lo) == items.size)=true then _ else _) _ _ s;rw [if_neg hno,VC];first
   | exact wAq (m:=Builtin.Tuple.tupleExact _) (wpAny_newObj_type (wBq ⟨_,rfl,wBq h⟩) htake)
   | exact wAq (m:=Builtin.Tuple.tupleExact _) (wpAny_newObj_type (wAq (wBq (wBq ⟨_,rfl,wBq h⟩))) htake)
   | exact wAq (wAq (m:=Builtin.Tuple.tupleExact _) (wpAny_newObj_type (wBq (wBq ⟨_,rfl,wBq h⟩)) htake))
   | exact wAq (wAq (m:=Builtin.Tuple.tupleExact _) (wpAny_newObj_type (wBq ⟨_,rfl,wBq h⟩) htake))
end
end HT
namespace L2
open PySem PySem.Spec PyProof.Rows
noncomputable abbrev TO:=St→Hp→(Option Int→Hp→Prop)→Prop
noncomputable def PO (X:Cx) (e:Option Expr) (t:TO):Prop :=
 ∀ (pins:List (Addr×Obj)) (s:Shared) (σ:St) (H:Hp) (Q:Option Int→Hp→Prop),Inv X pins σ H s→t σ H Q→
   wpAny (model X.prog X.w) X.A (evalPart e X.env) (fun u s'=>∃ o H',Inv X pins σ H' s'∧IsPart u o∧Q o H') X.xe s
noncomputable def aBN:TO:=fun _ H Q=>Q none H
noncomputable def aIW (t:TE):TO:=fun σ H Q=>t σ H fun x H1=>∃ i,x= .int i∧Q (some i) H1
theorem wD {ns:List Int}:∀ {us:List Value},aJ (ns.map V.int) us→IntsAre us ns:=by
 induction ns with
 | nil=>intro us r; rw [List.map_nil] at r; cases r; exact .nil
 | cons n ns ih =>
   intro us r;rw [List.map_cons] at r;cases r with
   | cons r1 r2 =>
     obtain ⟨t,e⟩:=r1;subst e;exact .cons n t (ih r2)
section
variable {X:Cx} {e:Expr} {te:TE} {lo hi:Option Expr} {tl th:TO} {pos p2:Pos}
theorem aBO:PO X none aBN:=by
 intro pins s σ H Q I h;rw [evalPart_none];exact wBq ⟨none,H,I,.none,h⟩
theorem tO (h:PE X e te):PO X (some e) (aIW te):=by
 intro pins s σ H Q I hw;rw [evalPart_some];refine thn (h pins s σ H _ I hw) fun u s1 zz=>?_;obtain ⟨x,H1,I1,r1,q1⟩:=zz;obtain ⟨i,rfl,q⟩:=q1;obtain ⟨t,rfl⟩:=r1;exact ⟨some i,H1,I1,.int i t,q⟩
noncomputable def SlR (X:Cx) (r:V→Option Int→Option Int→Hp→VK→Prop):Prop :=
 ∀ (pins:List (Addr×Obj)) (s:Shared) (σ:St) (H:Hp) (x:V) (v vl vu:Value) (lo hi:Option Int) (sl:Addr) (Q:VK),Inv X pins σ H s→aN x v→s.heap.IsSliceOf sl vl vu .none→IsPart vl lo→IsPart vu hi→r x lo hi H Q→
   ∃ T id,typeLookup (.type T) "__getitem__"=pure (some (.builtin id))∧s.TypeIs v T∧wpAny (model X.prog X.w) X.A (getItem v (.ref sl)) (EP X pins σ Q) X.xe s
theorem SlR.or {r r':V→Option Int→Option Int→Hp→VK→Prop} (h:SlR X r) (h':SlR X r'):SlR X (fun x lo hi H Q=>r x lo hi H Q∨r' x lo hi H Q):=by
 intro pins s σ H x v vl vu lo hi sl Q I rx hs pl pu q;rcases q with q | q
 · exact h pins s σ H x v vl vu lo hi sl Q I rx hs pl pu q
 · exact h' pins s σ H x v vl vu lo hi sl Q I rx hs pl pu q
def tSl (r:V→Option Int→Option Int→Hp→VK→Prop) (te:TE) (tl th:TO):TE:=fun σ H Q=>te σ H fun x H1=>tl σ H1 fun l H2=>th σ H2 fun u H3=>r x l u H3 Q
theorem TM {r:V→Option Int→Option Int→Hp→VK→Prop} (hr:SlR X r) (he:PE X e te) (hl:PO X lo tl) (hu:PO X hi th):PE X (.Subscript e (.Slice lo hi none p2) pos) (tSl r te tl th):=by
 intro pins s σ H Q I h;refine Subscript_ (thn (he pins s σ H _ I h) fun v s1 zz=>?_);obtain ⟨x,H1,I1,r1,q1⟩:=zz;refine wpAny_Slice (thn (hl pins s1 σ H1 _ I1 q1) fun vl s2 ⟨l,H2,I2,pl,q2⟩=>thn (hu pins s2 σ H2 _ I2 q2) fun vu s3 zz=>?_);obtain ⟨u,H3,I3,pu,q3⟩:=zz;rw [evalPart_none];refine wBq ?_;have I4:Inv X pins σ H3 { s3 with heap:=s3.heap.push { cls:=.type "slice",data:=.fields #[vl,vu,.none] } }:=I3.kept (t':=s3.toks) fun b ob q=>wEq _ q;obtain ⟨T,id,hT,ht,hg⟩:=hr pins { s3 with heap:=s3.heap.push { cls:=.type "slice",data:=.fields #[vl,vu,.none] } } σ H3 x v vl vu l u s3.heap.objs.size Q I4 r1 (Heap.IsSliceOf.new ..) pl pu q3;show wpAny (model X.prog X.w) X.A (subscriptTail e (.Slice lo hi none p2) v (.ref s3.heap.objs.size)) (EP X pins σ Q) X.xe { s3 with heap:=s3.heap.push { cls:=.type "slice",data:=.fields #[vl,vu,.none] } };exact tail_any (ops:=[.ref s3.heap.objs.size,v]) ht hT hg (by with_unfolding_all rfl)
noncomputable def GA (xs:List V) (lo hi:Option Int):List V:=(xs.drop (HT.sIx xs.length 0 lo)).take (HT.sIx xs.length xs.length hi - HT.sIx xs.length 0 lo)
theorem sF (xs:List V) (lo hi:Option Int):(GA xs lo hi).length≤xs.length:=by
 unfold GA;rw [List.length_take,List.length_drop];omega
noncomputable def aJY (K:W.Frag):V→Option Int→Option Int→Hp→VK→Prop:=fun x lo hi H Q=>∃ a xs,x= .ref a∧SqT K H a xs∧
 ¬(HT.sIx xs.length 0 lo=0∧HT.sIx xs.length xs.length hi=xs.length)∧∀ p,H p=none→Q (.ref p) (upd H p (.tup (GA xs lo hi)))
theorem aEi:SlR X (aJY X.K):=by
 intro pins s σ H x v vl vu lo hi sl Q I rx hs pl pu h;obtain ⟨a,xs,rfl,hx,hw,q⟩:=h;cases rx;obtain ⟨its,r,ht,hz⟩:=I.tuple hx;have hlen:its.toArray.size=xs.length:=by rw [wIq]; exact r.length.symm
 refine ⟨"tuple",_,PyProof.Rows.slot_tuple_getitem.lookup,ht.typeIs, ?_⟩;refine HT.nE ht hs pl pu (by rw [hlen]; exact hw) ?_ (by rw [hlen]; exact hz);rw [hlen];refine ⟨.ref s.heap.objs.size,_,I.laid (t':=s.toks) (o:=.tup (GA xs lo hi)) (fun b ob q=>wEq _ q) (Nat.le_refl _) ?_,rfl,q _ (I.hok.fresh (Nat.le_refl _))⟩;exact ⟨Nat.le_trans (sF xs lo hi) hz,_,(r.drop (HT.sIx xs.length 0 lo)).take (HT.sIx xs.length xs.length hi - HT.sIx xs.length 0 lo),gC.new _ _⟩
def aHo (K:W.Frag):R2:=fun x y H Q=>∃ a b xs ys,x= .ref a∧y= .ref b∧SqT K H a xs∧SqT K H b ys∧xs≠ []∧xs.length + ys.length≤sizeLine∧
 (ys=[]→Q (.ref a) H)∧(ys≠ []→∀ p,H p=none→Q (.ref p) (upd H p (.tup (xs ++ ys))))
theorem aJ.nil_iff {xs:List V} {us:List Value} (r:aJ xs us):us=[]↔xs=[]:=by
 cases r with
 | nil=>simp
 | cons _ _=>simp
theorem aBQ:OpR X (binaryOp .Add) (aHo X.K):=by
 intro pins s σ H x y v u Q I rx ry h;obtain ⟨a,b,xs,ys,rfl,rfl,ha,hb,hx,hz,q1,q2⟩:=h;cases rx;cases ry;obtain ⟨its,r1,p1,_⟩:=I.tuple ha;obtain ⟨its2,r2,p2,_⟩:=I.tuple hb;refine HT.aBC p1 p2 (fun z=>hx (r1.nil_iff.mp z)) (fun z=>⟨.ref a,H,I,rfl,q1 (r2.nil_iff.mp z)⟩) (fun z=>?_) (by rw [←r1.length,←r2.length]; exact hz);refine ⟨.ref s.heap.objs.size,_,I.laid (t':=s.toks) (o:=.tup (xs ++ ys)) (fun b ob q=>wEq _ q) (Nat.le_refl _) ?_,rfl,q2 (fun w=>z (r2.nil_iff.mpr w)) _ (I.hok.fresh (Nat.le_refl _))⟩;exact ⟨by rw [List.length_append]; exact hz,_,r1.append r2,gC.new _ _⟩
end
noncomputable def ixN (n:Nat) (i:Int):Option Nat:=if 0≤i then (if i < n then some i.toNat else none) else if -(n:Int)≤i then some (i + n).toNat else none
noncomputable def atI {α:Type} (xs:List α) (i:Int):Option α:=(ixN xs.length i).bind fun j=>xs[j]?
theorem JN {n:Nat} {i:Int} {j:Nat} (h:ixN n i=some j):seqIndex? i n=some j∧j < n∧ -(n:Int)≤i∧i < n:=by
 unfold ixN at h;by_cases h0:0≤i
 · rw [if_pos h0] at h;by_cases h1:i < n
   · rw [if_pos h1] at h;have e:i.toNat=j:=Option.some.inj h;exact ⟨by rw [seqIndex_of h0 h1,e],by omega,by omega,h1⟩
   · rw [if_neg h1] at h; cases h
 · rw [if_neg h0] at h;by_cases h1: -(n:Int)≤i
   · rw [if_pos h1] at h;have e:(i + n).toNat=j:=Option.some.inj h;exact ⟨by rw [seqIndex_neg (by omega) h1,e],by omega,h1,by omega⟩
   · rw [if_neg h1] at h; cases h
theorem zT {α:Type} {xs:List α} {i:Int} {v:α} (h:atI xs i=some v):∃ j,seqIndex? i xs.length=some j∧xs[j]? =some v∧j < xs.length∧ -(xs.length:Int)≤i∧i < xs.length:=by
 unfold atI at h;cases e:ixN xs.length i with
 | none=>rw [e] at h; cases h
 | some j =>
   rw [e] at h;obtain ⟨h1,h2,h3,h4⟩:=JN e;exact ⟨j,h1,h,h2,h3,h4⟩
theorem dD {α:Type} {xs:List α} {j:Nat} {v:α} (h:xs[j]? =some v):atI xs (j:Int)=some v:=by
 have hj:j < xs.length:=(List.getElem?_eq_some_iff.mp h).1;have e:ixN xs.length (j:Int)=some j:=by
   unfold ixN;rw [if_pos (by omega),if_pos (by omega)]; simp
 unfold atI; rw [e]; exact h
def BD (b:Expr):Prop:= ∀ o i,subscripted b false o i=operate [o,i] (getItem o i)
noncomputable def IxR (X:Cx) (r:R2):Prop :=
 ∀ (value slice:Expr) (pins:List (Addr×Obj)) (s:Shared) (σ:St) (H:Hp) (x y:V) (v u:Value) (Q:VK),Inv X pins σ H s→aN x v→aN y u→r x y H Q→
   subscripted slice false v u=operate [v,u] (getItem v u)→wpAny (model X.prog X.w) X.A (subscriptTail value slice v u) (EP X pins σ Q) X.xe s
noncomputable def MtR (X:Cx) (id:String) (r:V→List V→Hp→VK→Prop):Prop :=
 ∀ (pins:List (Addr×Obj)) (s:Shared) (σ:St) (H:Hp) (x:V) (xs:List V) (v:Value) (us:List Value) (Q:VK),Inv X pins σ H s→aN x v→aJ xs us→r x xs H Q→
   wpAny (model X.prog X.w) X.A (call (.builtin id) (v :: us)) (EP X pins σ Q) X.xe s
section
variable {X:Cx} {a b:Expr} {ta tb:TE} {pos:Pos}
theorem IxR.or {r r':R2} (h:IxR X r) (h':IxR X r'):IxR X (fun x y H Q=>r x y H Q∨r' x y H Q):=by
 intro value slice pins s σ H x y v u Q I rx ry q hs;rcases q with q | q
 · exact h value slice pins s σ H x y v u Q I rx ry q hs
 · exact h' value slice pins s σ H x y v u Q I rx ry q hs
theorem aIt {r:R2} (hr:IxR X r) (ha:PE X a ta) (hb:PE X b tb) (hs:BD b):PE X (.Subscript a b pos) (tOp r ta tb):=by
 intro pins s σ H Q I h;exact Subscript_ (aD9 ha hb I h fun v u s2 x y H2 I2 rx ry q=>hr a b pins s2 σ H2 x y v u Q I2 rx ry q (hs _ _))
def aGT (K:W.Frag):R2:=fun x y H Q=>∃ p xs i v,x= .ref p∧y= .int i∧SqL K H p xs∧atI xs i=some v∧Q v H
def aGB (K:W.Frag):R2:=fun x y H Q=>∃ p xs i v,x= .ref p∧y= .int i∧SqT K H p xs∧atI xs i=some v∧Q v H
def aHI:R2:=fun x y H Q=>∃ z i c,x= .str z∧y= .int i∧z.length≤sizeLine∧atI z.cps.toList i=some c∧Q (.str ⟨#[c]⟩) H
theorem aAi:IxR X (aGT X.K):=by
 intro value slice pins s σ H x y v u Q I rx ry h hs;obtain ⟨p,xs,i,z,rfl,rfl,hq,he,q⟩:=h;cases rx;obtain ⟨t,rfl⟩:=ry;obtain ⟨its,r,pl,hz⟩:=I.list hq;obtain ⟨j,h1,h2,h3,h4,h5⟩:=zT he;obtain ⟨w,ew,rw'⟩:=r.get h2;have hl:=r.length;have hn:=mM;have fin:EP X pins σ Q w s:=⟨z,H,I,rw',q⟩;by_cases h0:0≤i
 · have hj:i.toNat=j:=by
     rw [seqIndex_of h0 h5] at h1;exact Option.some.inj h1
   exact item_listR pl.isList h0 (by omega) (by rw [hj]; simpa using ew) fin hs
 · have hj:(i + (its.toArray.size:Int)).toNat=j:=by
     rw [seqIndex_neg (by omega) h4] at h1;rw [wIq,←hl];exact Option.some.inj h1
   exact subscriptTail_builtinR (x:=w) pl.isList.typeIs slot_list_getitem.lookup
     (wpAny_getItem_list_neg (Q:=fun r s'=>r=w∧EP X pins σ Q r s') pl.isList (by omega) (by rw [wIq] <;> omega) (by omega) (by rw [hj]; simpa using ew) ⟨rfl,fin⟩) hs
theorem aDr:IxR X (aGB X.K):=by
 intro value slice pins s σ H x y v u Q I rx ry h hs;obtain ⟨p,xs,i,z,rfl,rfl,hq,he,q⟩:=h;cases rx;obtain ⟨t,rfl⟩:=ry;obtain ⟨its,r,pl,hz⟩:=I.tuple hq;obtain ⟨j,h1,h2,h3,h4,h5⟩:=zT he;obtain ⟨w,ew,rw'⟩:=r.get h2;have hl:=r.length;have hn:=mM;have fin:EP X pins σ Q w s:=⟨z,H,I,rw',q⟩;exact subscriptTail_builtinR (x:=w) pl.typeIs slot_tuple_getitem.lookup
   (getItem_tuple (j:=j) (Q:=fun r s'=>r=w∧EP X pins σ Q r s') pl (by omega) (by omega) (by rw [wIq,←hl]; exact h1) (by simpa using ew) ⟨rfl,fin⟩) hs
theorem aFH:IxR X aHI:=by
 intro value slice pins s σ H x y v u Q I rx ry h hs;obtain ⟨z,i,c,rfl,rfl,hz,he,q⟩:=h;obtain ⟨t,rfl⟩:=rx;obtain ⟨t',rfl⟩:=ry;obtain ⟨j,h1,h2,h3,h4,h5⟩:=zT he;have hl:z.cps.toList.length=z.length:=by simp [Str.length]
 rw [hl] at h1 h4 h5;have hn:=mM;exact tail_any (typeIs_str s z t) slot_str_getitem.lookup (getItem_str (c:=c) (by
   have e1:decide (i < -(2 ^ 63:Int))=false:=decide_eq_false (by omega);have e2:decide (i ≥ 2 ^ 63)=false:=decide_eq_false (by omega);rw [e1,e2,Bool.or_false]) (by rw [h1]; simpa using h2) ⟨.str ⟨#[c]⟩,H,I.tok _,⟨_,rfl⟩,q⟩) hs
def rIx (K:W.Frag):R2:=fun x y H Q=>aGT K x y H Q∨aGB K x y H Q∨aHI x y H Q
theorem aEW:IxR X (rIx X.K):=aAi.or (aDr.or aFH)
theorem GZ (its:List Value) (n j:Nat) (u:Value):Obj.mapSeq (·.setIfInBounds j u) { cls:=.type "list",data:=.seq its.toArray n }={ cls:=.type "list",data:=.seq (its.set j u).toArray n }:=by
 simp [Obj.mapSeq]
theorem Inv.lst {pins:List (Addr×Obj)} {σ:St} {H:Hp} {s:Shared} {p:Addr} {xs:List V} (I:Inv X pins σ H s) (h:H p=some (.lst xs)) :
   ∃ (its:List Value) (n:Nat),aJ xs its∧s.heap.get? p=some { cls:=.type "list",data:=.seq its.toArray n }∧xs.length≤sizeLine:=by
 obtain ⟨z,its,n,r,e⟩:=I.hok p _ h;exact ⟨its,n,r,e,z⟩
theorem Inv.lstUpd {pins:List (Addr×Obj)} {σ:St} {H:Hp} {s:Shared} {p:Addr} {xs ys:List V} {its its':List Value} {n n':Nat} {f:Obj→Obj} (I:Inv X pins σ H s) (h:H p=some (.lst xs))
   (ho:s.heap.get? p=some { cls:=.type "list",data:=.seq its.toArray n }) (hf:f { cls:=.type "list",data:=.seq its.toArray n }={ cls:=.type "list",data:=.seq its'.toArray n' }) (r:aJ ys its') (hz:ys.length≤sizeLine) (t:Nat) :
   Inv X pins σ (upd H p (.lst ys)) { s with heap:=s.heap.update p f,toks:=t }:=by
 have e:(s.heap.update p f).get? p=some { cls:=.type "list",data:=.seq its'.toArray n' }:=by
   rw [Heap.get?_update_self f ho (by rw [hf] <;> rfl),hf]
 refine I.write (x:=p) (e:=p) (by rw [h]; trivial) (.inl rfl) (fun b u hb q=>(Heap.get?_update_other _ _ (Ne.symm hb)).trans q) ⟨_,e⟩ ?_;exact ⟨hz,its',n',r,e⟩
noncomputable def aGI:V→V→V→Hp→(Hp→Prop)→Prop:=fun o i v H Q=>∃ p xs k j,o= .ref p∧i= .int k∧H p=some (.lst xs)∧ixN xs.length k=some j∧Q (upd H p (.lst (xs.set j v)))
theorem YT:aFv X aGI:=by
 intro pins s σ H o i v ov iv u Q I ro ri rv h;obtain ⟨p,xs,k,j,rfl,rfl,hp,hj,q⟩:=h;cases ro;obtain ⟨t,rfl⟩:=ri;obtain ⟨its,n,r,ho,hz⟩:=I.lst hp;obtain ⟨h1,h2,h3,h4⟩:=JN hj;have hl:=r.length;have hn:=mM;have I':Inv X pins σ (upd H p (.lst (xs.set j v))) { s with heap:=s.heap.update p (Obj.mapSeq (·.setIfInBounds j u)) } :=
   I.lstUpd hp ho (GZ its n j u) (r.set rv j) (by rw [List.length_set]; exact hz) s.toks
 by_cases h0:0≤k
 · have hk:k.toNat=j:=by
     rw [seqIndex_of h0 h4] at h1;exact Option.some.inj h1
   exact W.ki_setAt ho h0 (by omega) (by rw [wIq,←hl]; exact h4) (by rw [hk]; exact ⟨_,I',q⟩)
 · have hk:(k + (its.toArray.size:Int)).toNat=j:=by
     rw [seqIndex_neg (by omega) h3] at h1;rw [wIq,←hl];exact Option.some.inj h1
   exact W.ki_setBack ho (by omega) (by rw [wIq,←hl]; exact h3) (by omega) (by rw [hk]; exact ⟨_,I',q⟩)
theorem zX (lo hi:Option Int) (n:Nat):(sliceBounds lo hi none n).1=((HT.sIx n 0 lo:Nat):Int)∧(sliceBounds lo hi none n).2.1=((HT.sIx n n hi:Nat):Int)∧(sliceBounds lo hi none n).2.2=1:=by
 refine ⟨?_, ?_,rfl⟩
 · cases lo with
   | none=>simp [sliceBounds,HT.sIx]
   | some i =>
     simp only [sliceBounds,HT.sIx,Option.getD_none,show (1:Int) > 0 by decide,if_true];by_cases h:i < 0
     · simp only [h,if_true] <;> omega
     · simp only [h,if_false] <;> omega
 · cases hi with
   | none=>simp [sliceBounds,HT.sIx]
   | some i =>
     simp only [sliceBounds,HT.sIx,Option.getD_none,show (1:Int) > 0 by decide,if_true];by_cases h:i < 0
     · simp only [h,if_true] <;> omega
     · simp only [h,if_false] <;> omega
theorem xJ (its:List Value) (lo hi:Option Int):slicePick its.toArray lo hi none=((its.drop (HT.sIx its.length 0 lo)).take (HT.sIx its.length its.length hi - HT.sIx its.length 0 lo)).toArray:=by
 obtain ⟨h1,h2,h3⟩:=zX lo hi its.toArray.size;unfold slicePick;rw [h1,h2,h3];simp only [sliceRange_one,pick_run,wIq] <;> rfl
noncomputable def aJV (K:W.Frag):V→Option Int→Option Int→Hp→VK→Prop:=fun x lo hi H Q=>∃ a xs,x= .ref a∧SqL K H a xs∧∀ p,H p=none→Q (.ref p) (upd H p (.lst (GA xs lo hi)))
theorem aBH:SlR X (aJV X.K):=by
 intro pins s σ H x v vl vu lo hi sl Q I rx hs pl pu h;obtain ⟨a,xs,rfl,hx,q⟩:=h;cases rx;obtain ⟨its,r,ht,hz⟩:=I.list hx;have hlen:=r.length;refine ⟨"list",_,slot_list_getitem.lookup,ht.isList.typeIs, ?_⟩;refine wpAny_getItem_list_slice ht.isList hs pl pu .none (by simp) ?_ (by rw [wIq] <;> omega);rw [xJ,←hlen];refine ⟨.ref s.heap.objs.size,_,I.laid (t':=s.toks) (o:=.lst (GA xs lo hi)) (fun b ob q=>wEq _ q) (Nat.le_refl _) ?_,rfl,q _ (I.hok.fresh (Nat.le_refl _))⟩;exact ⟨Nat.le_trans (sF xs lo hi) hz,_,0,(r.drop (HT.sIx xs.length 0 lo)).take (HT.sIx xs.length xs.length hi - HT.sIx xs.length 0 lo),wGq _ rfl⟩
noncomputable def mH:V→Bool
 | .non=>true
 | .bl _=>true
 | .int _=>true
 | .str _=>true
 | _=>false
noncomputable def eqV:V→V→Bool
 | .non,.non=>true
 | .bl a,.bl b=>a == b
 | .bl a,.int b=>(if a then 1 else 0) == b
 | .int a,.bl b=>a == (if b then 1 else 0)
 | .int a,.int b=>a == b
 | .str a,.str b=>a == b
 | _,_=>false
theorem aF2 {A:Around} {s:Shared} {y x:V} {u v:Value} (ry:aN y u) (rx:aN x v) (fy:mH y=true) (fx:mH x=true):SeqAt.EqAt A s u v (eqV y x):=by
 cases y with
 | non =>
   cases ry;cases x with
   | non=>cases rx; exact SeqAt.EqAt.same _
   | bl b=>cases rx; exact SeqAt.EqAt.none_bool b
   | int b=>obtain ⟨t,rfl⟩:=rx; exact SeqAt.EqAt.none_int b t
   | str b=>obtain ⟨t,rfl⟩:=rx; exact SeqAt.EqAt.none_str b t
   | _=>exact absurd (show false=true from fx) Bool.false_ne_true
 | bl a =>
   cases ry;cases x with
   | non=>cases rx; exact SeqAt.EqAt.bool_none a
   | bl b=>cases rx; exact SeqAt.EqAt.bool_bool a b
   | int b=>obtain ⟨t,rfl⟩:=rx; exact SeqAt.EqAt.bool_int a b t
   | str b=>obtain ⟨t,rfl⟩:=rx; exact SeqAt.EqAt.bool_str a b t
   | _=>exact absurd (show false=true from fx) Bool.false_ne_true
 | int a =>
   obtain ⟨t',rfl⟩:=ry;cases x with
   | non=>cases rx; exact SeqAt.EqAt.int_none a t'
   | bl b=>cases rx; exact SeqAt.EqAt.int_bool a t' b
   | int b=>obtain ⟨t,rfl⟩:=rx; exact SeqAt.EqAt.int_int a t' b t
   | str b=>obtain ⟨t,rfl⟩:=rx; exact SeqAt.EqAt.int_str a t' b t
   | _=>exact absurd (show false=true from fx) Bool.false_ne_true
 | str a =>
   obtain ⟨t',rfl⟩:=ry;cases x with
   | non=>cases rx; exact SeqAt.EqAt.str_none a t'
   | bl b=>cases rx; exact SeqAt.EqAt.str_bool a t' b
   | int b=>obtain ⟨t,rfl⟩:=rx; exact SeqAt.EqAt.str_int a t' b t
   | str b=>obtain ⟨t,rfl⟩:=rx; exact SeqAt.EqAt.str_str a t' b t
   | _=>exact absurd (show false=true from fx) Bool.false_ne_true
 | _=>exact absurd (show false=true from fy) Bool.false_ne_true
noncomputable def eqU (x:V) (u:Value):Bool:=match u with
 | .none=>eqV .non x
 | .bool b=>eqV (.bl b) x
 | .int i _=>eqV (.int i) x
 | .str z _=>eqV (.str z) x
 | _=>false
theorem UC {x y:V} {u:Value} (r:aN y u) (f:mH y=true):eqU x u=eqV y x:=by
 cases y with
 | non=>cases r; rfl
 | bl b=>cases r; rfl
 | int i=>obtain ⟨t,rfl⟩:=r; rfl
 | str z=>obtain ⟨t,rfl⟩:=r; rfl
 | _=>exact absurd (show false=true from f) Bool.false_ne_true
theorem nP {x:V}:∀ {xs:List V} {us:List Value},aJ xs us→xs.all mH=true→us.any (eqU x)=xs.any fun y=>eqV y x
 | _,_,.nil,_=>rfl
 | y :: xs,u :: us,.cons r t,f=>by
   rw [List.all_cons,Bool.and_eq_true] at f;rw [List.any_cons,List.any_cons,UC r f.1,nP t f.2]
theorem kX {A:Around} {s:Shared} {x:V} {v:Value} (rx:aN x v) (fx:mH x=true):∀ {xs:List V} {us:List Value},aJ xs us→xs.all mH=true→∀ u∈us,SeqAt.EqAt A s u v (eqU x u)
 | _,_,.nil,_=>fun u hu=>by cases hu
 | y :: xs,u :: us,.cons r t,f=>fun u' hu=>by
   rw [List.all_cons,Bool.and_eq_true] at f;rcases List.mem_cons.mp hu with rfl | hu
   · rw [UC r f.1]; exact aF2 r rx f.1 fx
   · exact kX rx fx t f.2 u' hu
noncomputable def inV (x:V) (xs:List V):Bool:=xs.any fun y=>eqV y x
def rIn (K:W.Frag) (neg:Bool):R2:=fun x y H Q=>∃ p xs,y= .ref p∧(SqL K H p xs∨SqT K H p xs)∧mH x=true∧xs.all mH=true∧Q (.bl (if neg then !inV x xs else inV x xs)) H
theorem QE:OpR X (compareOp .In) (rIn X.K false):=by
 intro pins s σ H x y v u Q I rx ry h;obtain ⟨p,xs,rfl,hq,fx,fs,q⟩:=h;cases ry;rcases hq with hq | hq
 · obtain ⟨its,r,pl,hz⟩:=I.list hq;refine SeqAt.in_listAt (eqU x) pl.isList (fun w hw=>kX rx fx r fs w (by simpa using hw)) ⟨.bl _,H,I,rfl, ?_⟩;rw [show its.toArray.any (eqU x)=its.any (eqU x) by simp,nP r fs];exact q
 · obtain ⟨its,r,pl,hz⟩:=I.tuple hq;refine SeqAt.in_tupleAt (eqU x) pl (fun w hw=>kX rx fx r fs w (by simpa using hw)) ⟨.bl _,H,I,rfl, ?_⟩;rw [show its.toArray.any (eqU x)=its.any (eqU x) by simp,nP r fs];exact q
theorem AG:OpR X (compareOp .NotIn) (rIn X.K true):=by
 intro pins s σ H x y v u Q I rx ry h;obtain ⟨p,xs,rfl,hq,fx,fs,q⟩:=h;cases ry;rcases hq with hq | hq
 · obtain ⟨its,r,pl,hz⟩:=I.list hq;refine SeqAt.notIn_listAt (eqU x) pl.isList (fun w hw=>kX rx fx r fs w (by simpa using hw)) ⟨.bl _,H,I,rfl, ?_⟩;rw [show its.toArray.any (eqU x)=its.any (eqU x) by simp,nP r fs];exact q
 · obtain ⟨its,r,pl,hz⟩:=I.tuple hq;refine SeqAt.notIn_tupleAt (eqU x) pl (fun w hw=>kX rx fx r fs w (by simpa using hw)) ⟨.bl _,H,I,rfl, ?_⟩;rw [show its.toArray.any (eqU x)=its.any (eqU x) by simp,nP r fs];exact q
theorem AA:bE X (.builtin "len") (fun xs H Q=>∃ p ys,xs=[.ref p]∧(SqL X.K H p ys∨SqT X.K H p ys)∧Q (.int ys.length) H):=by
 intro pins s σ H xs us Q I r h;obtain ⟨p,ys,rfl,hq,q⟩:=h;obtain ⟨u,rfl,rx⟩:=fG r;cases rx;have hn:=mM;rcases hq with hq | hq
 · obtain ⟨its,r',pl,hz⟩:=I.list hq;have hlen:=r'.length;exact Calls.call_len_list pl.isList (by simp only [wIq] <;> omega) ⟨.int ys.length,H,I.tok _,⟨s.toks + 1,by rw [wIq,hlen]⟩,q⟩
 · obtain ⟨its,r',pl,hz⟩:=I.tuple hq;have hlen:=r'.length;exact len_tuple pl (by simp only [wIq] <;> omega) ⟨.int ys.length,H,I.tok _,⟨s.toks + 1,by rw [wIq,hlen]⟩,q⟩
theorem zW:bE X (.builtin "len") (fun xs H Q=>∃ z,xs=[.str z]∧z.length≤sizeLine∧Q (.int z.length) H):=by
 intro pins s σ H xs us Q I r h;obtain ⟨z,rfl,hz,q⟩:=h;obtain ⟨u,rfl,t,rfl⟩:=fG r;have hn:=mM;exact len_str (by omega) ⟨.int z.length,H,I.tok _,⟨_,rfl⟩,q⟩
theorem bE.or {f:Value} {r r':List V→Hp→VK→Prop} (h:bE X f r) (h':bE X f r'):bE X f (fun xs H Q=>r xs H Q∨r' xs H Q):=by
 intro pins s σ H xs us Q I rs q;rcases q with q | q
 · exact h pins s σ H xs us Q I rs q
 · exact h' pins s σ H xs us Q I rs q
theorem BE:bE X (.type "list") (fun xs H Q=>∃ p ys,xs=[.ref p]∧(SqL X.K H p ys∨SqT X.K H p ys)∧∀ l,H l=none→Q (.ref l) (upd H l (.lst ys))):=by
 intro pins s σ H xs us Q I r h;obtain ⟨p,ys,rfl,hq,q⟩:=h;obtain ⟨u,rfl,rx⟩:=fG r;cases rx;have fin:∀ (its:List Value),aJ ys its→ys.length≤sizeLine→∀ (h':Heap) (c':Nat),(∀ b o',s.heap.get? b=some o'→h'.get? b=some o')→
     h'.get? s.heap.objs.size=some { cls:=.type "list",dict:=none,data:=.seq its.toArray c',slots:= #[] }→EP X pins σ Q (.ref s.heap.objs.size) { s with heap:=h' }:=fun its r' hz h' c' kp e =>
   ⟨.ref s.heap.objs.size,_,I.laid (t':=s.toks) kp (Nat.le_refl _) (show bZ X.prog X.w _ h' _ (.lst ys) from ⟨hz,its,c',r',e⟩),rfl,q _ (I.hok.fresh (Nat.le_refl _))⟩
 rcases hq with hq | hq
 · obtain ⟨its,r',pl,hz⟩:=I.list hq;have hlen:=r'.length;obtain ⟨o,ho,hc,n,hd⟩:=pl.isList;exact call_list_seq p (.inl rfl) ho hc hd (fun h' c' kp e=>fin its r' hz h' c' kp e) (by simp only [wIq] <;> omega)
 · obtain ⟨its,r',pl,hz⟩:=I.tuple hq;have hlen:=r'.length;obtain ⟨o,ho,hc,n,hd⟩:=pl;exact call_list_seq p (.inr rfl) ho hc hd (fun h' c' kp e=>fin its r' hz h' c' kp e) (by simp only [wIq] <;> omega)
theorem xO:bE X (.type "tuple") (fun xs H Q=>∃ p ys,xs=[.ref p]∧((SqL X.K H p ys∧∀ l,H l=none→Q (.ref l) (upd H l (.tup ys)))∨(SqT X.K H p ys∧Q (.ref p) H))):=by
 intro pins s σ H xs us Q I r h;obtain ⟨p,ys,rfl,h⟩:=h;obtain ⟨u,rfl,rx⟩:=fG r;cases rx;rcases h with ⟨hq,q⟩ | ⟨hq,q⟩
 · obtain ⟨its,r',pl,hz⟩:=I.list hq;have hlen:=r'.length;refine call_tuple_list pl.isList (fun h' kp=>?_) (by simp only [wIq] <;> omega);have I1:Inv X pins σ H { s with heap:=h' }:=I.kept (t':=s.toks) kp;have I2:Inv X pins σ (upd H h'.objs.size (.tup ys)) { s with heap:=h'.push { cls:=.type "tuple",data:=.seq its.toArray } } :=
     I1.laid (t':=s.toks) (fun b o e=>wEq _ e) (Nat.le_refl _) (show bZ X.prog X.w _ _ _ (.tup ys) from ⟨hz,its,r',gC.new _ _⟩)
   exact ⟨.ref h'.objs.size,_,I2,rfl,q _ (I1.hok.fresh (Nat.le_refl _))⟩
 · obtain ⟨its,r',pl,hz⟩:=I.tuple hq;exact call_tuple_same pl ⟨.ref p,H,I,rfl,q⟩
def tyV (K:W.Frag) (T:String) (x:V) (H:Hp):Prop:=match x with
 | .str _=>T="str"
 | .int _=>T="int"
 | .ref p=>(T="list"∧∃ xs,SqL K H p xs)∨(T="tuple"∧∃ o,K.lookup p=some o∧o.cls= .type "tuple"∧o.dict=none)∨
     (T="dict"∧((∃ kvs,H p=some (.dK kvs))∨∃ kvs,H p=some (.dT kvs)))∨(T="set"∧∃ S n,H p=some (.set S n))
 | _=>False
theorem aFN {pins:List (Addr×Obj)} {σ:St} {H:Hp} {s:Shared} {T:String} {x:V} {v:Value} (I:Inv X pins σ H s) (r:aN x v) (ty:tyV X.K T x H) :
   s.TypeIs v T∧∀ a,v= .ref a→∃ ob,s.heap.get? a=some ob∧ob.dict=none:=by
 cases x with
 | str z =>
   obtain ⟨t,rfl⟩:=r;cases (show T="str" from ty);exact ⟨typeIs_str s z t,fun _ e=>nomatch e⟩
 | int i =>
   obtain ⟨t,rfl⟩:=r;cases (show T="int" from ty);exact ⟨typeIs_int s i t,fun _ e=>nomatch e⟩
 | ref p =>
   cases r;rcases ty with ⟨rfl,xs,hq⟩ | ⟨rfl,o,hk,hc,hd⟩ | ⟨rfl,hk⟩ | ⟨rfl,S,n,hk⟩
   · obtain ⟨its,_,pl,_⟩:=I.list hq;refine ⟨pl.isList.typeIs,fun a e=>?_⟩;cases e;obtain ⟨o,n,e,c,hd,_⟩:=pl;exact ⟨o,e,hd⟩
   · refine ⟨⟨o,I.kIn p o hk,hc⟩,fun a e=>?_⟩;cases e;exact ⟨o,I.kIn _ o hk,hd⟩
   · have z:∃ o,s.heap.get? p=some o∧o.ExactDict:=by
       rcases hk with ⟨kvs,hk⟩ | ⟨kvs,hk⟩
       · obtain ⟨_,_,_,_,o,_,_,e,ex,_⟩:=I.hok p _ hk;exact ⟨o,e,ex⟩
       · obtain ⟨_,_,_,_,o,_,_,e,ex,_⟩:=I.hok p _ hk;exact ⟨o,e,ex⟩
     obtain ⟨o,e,ex⟩:=z;refine ⟨⟨o,e,ex.1⟩,fun a e2=>?_⟩;cases e2;exact ⟨o,e,ex.2.1⟩
   · obtain ⟨o,_,_,_,e,ex,_⟩:=I.hok p _ hk;refine ⟨⟨o,e,ex.1⟩,fun a e2=>?_⟩;cases e2;exact ⟨o,e,ex.2.1⟩
 | _=>exact False.elim ty
def tBM (K:W.Frag) (T:String) (r:V→List V→Hp→VK→Prop) (to:TE) (t:TA):TE:=fun σ H Q=>to σ H fun x H1=>tyV K T x H1∧t σ H1 fun xs H2=>r x xs H2 Q
variable {o e:Expr} {es:List Expr} {to:TE} {t:TA} {name:Str} {apos cpos:Pos} {T id:String} {r:V→List V→Hp→VK→Prop}
theorem aC2 (pa:PlainAttrs T) (slot:Slot T name id) (hty:typeOf (.builtin id)=pure (.type "method_descriptor")) (hm:MtR X id r) (ho:PE X o to) (ha:PA X (e :: es) t)
   (hbase:attributeBase o name X.env (eval o X.env)=eval o X.env:=by rfl)
   (hfew:((backTo cpos (starEach (e :: es) X.env)).all (fun x=> !x.1) && (backToKw cpos (keywordEach [] X.env)).all (fun x=>x.1.isSome)
     && decide ((e :: es).length + ([]:List Keyword).length + (if ([]:List Keyword).isEmpty then 0 else 1) < 30))=true:=by rfl)
   (hline:(apos.endLine == cpos.line)=true:=by rfl) (hs:starEach (e :: es) X.env=(false,eval e X.env) :: starEach es X.env:=by rfl) (hplain:(backTo cpos (starEach es X.env)).any (·.1)=false:=by rfl) :
   PE X (.Call (.Attribute o name apos) (e :: es) [] cpos) (tBM X.K T r to t):=by
 intro pins s σ H Q I h;refine wpAny_Call_method_late hbase hfew hline rfl (thn (ho pins s σ H _ I h) fun v s1 zz=>?_);obtain ⟨x,H1,I1,r1,ty,q1⟩:=zz;obtain ⟨h1,h2⟩:=aFN I1 r1 ty;refine ⟨T,id,pa,slot,hty,h1,h2, ?_⟩;have hA:=ha cpos pins s1 σ H1 _ I1 q1;rw [hs] at hA ⊢;refine Calls.callWith_builtin (by show (false || (backTo cpos (starEach es X.env)).any (·.1))=false; rw [hplain] <;> rfl) (Calls.evalArgs_plain ?_);exact thn hA <|by rintro us s2 ⟨vs,H2,I2,r2,q2⟩;exact hm pins s2 σ H2 x vs v us Q I2 r1 r2 q2
end
noncomputable def MtM (X:Cx) (id:String) (r:V→List V→Hp→VK→Prop):Prop :=
 ∀ (pins:List (Addr×Obj)) (s:Shared) (σ:St) (H:Hp) (x:V) (xs:List V) (v:Value) (us:List Value) (Q:VK),Inv X pins σ H s→aN x v→aJ xs us→r x xs H Q→
   wpAny (model X.prog X.w) X.A (call (.builtin id) (v :: us)) (EP X pins σ Q) X.xe s
theorem aJ.one:∀ {x:V} {us:List Value},aJ [x] us→∃ u,us=[u]∧aN x u
 | _,_,.cons r .nil=>⟨_,rfl,r⟩
theorem aJ.eraseIdx:∀ {xs:List V} {us:List Value} (i:Nat),aJ xs us→aJ (xs.eraseIdx i) (us.eraseIdx i)
 | _,_,_,.nil=>.nil
 | _,_,0,.cons _ t=>t
 | _,_,i + 1,.cons r t=>.cons r (aJ.eraseIdx i t)
theorem zH {α:Type}:∀ (l:List α) (i:Nat),(l.eraseIdx i).length≤l.length
 | [],_=>Nat.le_refl _
 | _ :: _,0=>Nat.le_succ _
 | _ :: r,i + 1=>Nat.succ_le_succ (zH r i)
section
variable {X:Cx} {pins:List (Addr×Obj)} {σ:St} {H:Hp} {s:Shared} {l b:Addr} {xs ys zs:List V}
theorem Inv.lset {its its':List Value} {n:Nat} {f:Array Value→Array Value} {t':Nat} (I:Inv X pins σ H s) (hH:H l=some (.lst xs))
   (e:s.heap.get? l=some { cls:=.type "list",data:=.seq its.toArray n }) (hf:f its.toArray=its'.toArray) (hv:aJ ys its') (hz:ys.length≤sizeLine) :
   Inv X pins σ (upd H l (.lst ys)) { s with heap:=s.heap.update l (Obj.mapSeq f),toks:=t' }:=by
 have q:=PySem.IsL.update e f;rw [hf] at q;refine I.write (x:=l) (e:=l) (by rw [hH]; exact trivial) (.inl rfl) (fun b' u hb hu=>(Heap.get?_update_other s.heap (Obj.mapSeq f) (Ne.symm hb)).trans hu) ⟨_,q⟩ ?_;exact ⟨hz,its',_,hv,q⟩
theorem Inv.lnew {its:List Value} {t':Nat} (I:Inv X pins σ H s) (hv:aJ ys its) (hz:ys.length≤sizeLine) :
   Inv X pins σ (upd H s.heap.objs.size (.lst ys)) { s with heap:=s.heap.push { cls:=.type "list",data:=.seq its.toArray },toks:=t' } :=
 I.laid (fun _ _ q=>wEq _ q) (Nat.le_refl _) ⟨hz,its,0,hv,wGq _ rfl⟩
theorem Inv.fresh (I:Inv X pins σ H s):H s.heap.objs.size=none:=I.hok.fresh (Nat.le_refl _)
theorem Inv.lstM (I:Inv X pins σ H s) (hH:H l=some (.lst xs)):xs.length≤sizeLine∧∃ (its:List Value) (n:Nat),aJ xs its∧xs.length=its.length∧s.heap.get? l=some { cls:=.type "list",data:=.seq its.toArray n }:=by
 obtain ⟨z,its,n,r,e⟩:=I.hok l _ hH;exact ⟨z,its,n,r,r.length,e⟩
end
section
variable {X:Cx}
noncomputable def aBR:V→List V→Hp→VK→Prop:=fun x vs H Q=>∃ l xs y,x= .ref l∧vs=[y]∧H l=some (.lst xs)∧xs.length < sizeLine∧Q .non (upd H l (.lst (xs ++ [y])))
theorem yT:MtM X "list.append" aBR:=by
 intro pins s σ H x vs v us Q I rx rv h;obtain ⟨l,xs,y,rfl,rfl,hH,hz,q⟩:=h;cases rx;obtain ⟨u,rfl,ru⟩:=rv.one;obtain ⟨z,its,n,r,hl,e⟩:=I.lstM hH;refine call_meets F.slot_list_append ⟨_,e,rfl⟩ F.entry_list_append (F.args_list_append_2 _ _) (PySem.list_append l its.toArray n u (by rw [wIq]; omega)) ⟨e, ?_⟩;refine ⟨.non,_,I.lset (its':=its ++ [u]) hH e (by simp) (r.append (.cons ru .nil)) ?_,rfl,q⟩;rw [List.length_append,List.length_singleton];omega
noncomputable def aDk:V→List V→Hp→VK→Prop:=fun x vs H Q=>∃ l xs i k y,x= .ref l∧vs=[.int i]∧H l=some (.lst xs)∧ -(2 ^ 63)≤i∧i < 2 ^ 63∧seqIndex? i xs.length=some k∧xs[k]? =some y∧Q y (upd H l (.lst (xs.eraseIdx k)))
theorem UX:MtM X "list.pop" aDk:=by
 intro pins s σ H x vs v us Q I rx rv h;obtain ⟨l,xs,i,k,y,rfl,rfl,hH,h1,h2,hk,hy,q⟩:=h;cases rx;obtain ⟨u,rfl,ru⟩:=rv.one;obtain ⟨t,rfl⟩:=ru;obtain ⟨z,its,n,r,hl,e⟩:=I.lstM hH;obtain ⟨w,hw,rw'⟩:=r.get hy;refine call_meets F.slot_list_pop ⟨_,e,rfl⟩ F.entry_list_pop (F.args_list_pop_2 _ _)
   (MeetsSeq.list_pop_at l its.toArray n i t k w (fitsIndex_both h1 h2) (by rw [wIq,←hl]; exact hk) (by rw [←Array.getElem?_toList]; exact hw) (by rw [wIq]; omega)) ⟨e, ?_⟩
 refine ⟨y,_,I.lset (its':=its.eraseIdx k) hH e ?_ (r.eraseIdx k) ?_,rw',q⟩
 · show its.toArray.eraseIdxIfInBounds k=(its.eraseIdx k).toArray;rw [List.eraseIdxIfInBounds_toArray]
 · have:=zH xs k;omega
def aIx:R2:=fun x y H Q=>∃ l b xs zs,x= .ref l∧y= .ref b∧H l=some (.lst xs)∧H b=some (.lst zs)∧xs.length + zs.length≤sizeLine∧∀ p,H p=none→Q (.ref p) (upd H p (.lst (xs ++ zs)))
theorem aFV:OpR X (binaryOp .Add) aIx:=by
 intro pins s σ H x y v u Q I rx ry h;obtain ⟨l,b,xs,zs,rfl,rfl,hH,hB,hz,q⟩:=h;cases rx;cases ry;obtain ⟨z,its,n,r,hl,e⟩:=I.lstM hH;obtain ⟨z2,its2,n2,r2,hl2,e2⟩:=I.lstM hB;refine PySem.P.add_list e e2 ?_ (by rw [wIq,wIq]; omega);have ea:its.toArray ++ its2.toArray=(its ++ its2).toArray:=by simp
 rw [ea];exact ⟨.ref _,_,I.lnew (t':=s.toks) (r.append r2) (by rw [List.length_append]; omega),rfl,q _ I.fresh⟩
end
section
variable {prog:Program} {w:World} {A:Around} {E:Value→Shared→Prop} {s:Shared}
end
section
variable {X:Cx}
end
end L2
namespace Att
open PySem PySem.W PySem.Calls PyProof.Rows
theorem tF {P:Params} {h:Heap}:∀ (ns:List Int) (vs:List Value),WellAll P h vs (ns.map WData.int)→IntsAre vs ns:=by
 intro ns;induction ns with
 | nil =>
   intro vs w;rw [List.map_nil] at w;cases w;exact .nil
 | cons n ns ih =>
   intro vs w;rw [List.map_cons] at w;cases w with
   | cons a b =>
     cases a;exact .cons _ _ (ih _ b)
theorem PH {l:OpenLaw} {n:Nat} (hn:l.most=some n) {P:Params} {h:Heap} {args:List WData} {vals:List Value}
   (hpre:l.row.toRowW.claim.pre args=true) (hwl:WellAll P h vals args) :
   ∃ a vs ns,vals=[Value.ref a]∧args=[WData.list (ns.map WData.int)]∧h.get? a=some { cls:=.type "list",data:=.seq vs.toArray }∧IntsAre vs ns∧ns.length≤n:=by
 have hsh:WShape.hasAll [] args [.list .int]=true:=(pre_splitW hpre).1;have hc:l.pre.holds [] { args:=args }=true:=(pre_splitW hpre).2;obtain ⟨d,r,rfl,h1,h2⟩:=hasAllW_cons hsh;obtain rfl:=hasAllW_nil h2;obtain ⟨xs,rfl,h3⟩:=hasW_list h1;obtain ⟨ns,rfl⟩:=items_int h3;have hlen:ns.length≤n:=by
   unfold OpenLaw.pre at hc;have h4:(WTm.not (.lt (.lit (.int (n:Int))) (.len (.arg 0)))).holds [] { args:=[.list (ns.map .int)] }=true:=by
     have h4:=(holds_andW hc).1;rw [hn] at h4;exact h4
   have h5:=condW_of h4 (w_not (w_lt w_lit (w_len_list (w_arg rfl))));rw [List.length_map] at h5;refine Nat.le_of_not_lt fun q=>?_;have q':(n:Int) < ((ns.length:Nat):Int):=by omega
   first
     | (rw [decide_eq_true q'] at h5; exact absurd h5 (by decide))
     | (simp at h5; omega)
 cases hwl with
 | cons w1 w2 =>
   cases w2;cases w1 with
   | list ho hall=>exact ⟨_,_,ns,rfl,rfl,ho,tF ns _ hall,hlen⟩
theorem OE (l:OpenLaw) (args:List WData):l.row.toRowW.claim.post args (.bool true) args=true :=
 postW_of (r:=l.row.toRowW) (X:=(true == true))
   (show WShape.has [] (.bool true) .bool=true by first | rfl | decide | simp [WShape.has,WShape.arms,WShape.armsAll])
   (show (WTm.eq .res (.lit (.bool true))).value [] { args:=args,res:=some (.bool true),after:=args }=some (.bool (true == true)) from w_eq_bool (w_res rfl) w_lit) rfl
theorem DK {l:OpenLaw} {n:Nat} {q:Program} {loose:List Str} {XP:(Str→Option Value)→Heap→Prop} {YP:World→Heap→Prop} {d:DefRec}
   (hn:l.most=some n) (hdf:d.params.defaults=[])
   (call:∀ (w:World) (s₀ s₁:Shared) (mg mb:Str→Option Value) (fa:Addr) (o:Obj) (pm cd doc:Value) (a:Addr) (vs:List Value) (ns:List Int),
     Ground q loose [] XP w s₀ mg mb s₁.heap→YP w s₁.heap→
     s₁.heap.get? fa=some o→o.data= .func (docDef d.name d.params d.body d.scope pm cd doc)→s₁.heap.CodeRec cd d.name→mg d.name=some (.ref fa)→
     s₁.heap.get? a=some { cls:=.type "list",data:=.seq vs.toArray }→IntsAre vs ns→ns.length≤n→s₁.gens= #[]→
     codeAny (model l.prog w) callerA (.call (.ref fa) ⟨[.ref a],[]⟩) (fun r s'=>r= .ok (.ret (.bool true))∧OldK s₁.heap s'.heap∧s'.os=s₁.os∧AllBare s'.gens) s₁) :
   WalkO q loose XP YP l.row.toRowW d [] (fun f vs=>PySem.call f vs):=by
 intro w s₀ s₁ mg mb G Y fa o pm cd doc dV kV ho hd hcd hD hmg hg args vals as hpre hlay hrd hwl hlo;obtain rfl:dV= .none:=Dflts.none hD hdf;obtain rfl:kV= .none:=Dflts.noKw hD;obtain ⟨a,vs,ns,rfl,rfl,hobj,hints,hlen⟩:=PH hn hpre hwl;refine enter_call (codeAny_mono (call w s₀ s₁ mg mb fa o pm cd doc a vs ns G Y ho (fd_plain hd) hcd hmg hobj hints hlen hg) fun r s' hq=>?_);obtain ⟨rfl,h2,h3,h4⟩:=hq;exact ⟨.inl ⟨.bool true,.bool true,[],rfl,fun _=>rfl,.bool true,OE l _,fun _=>⟨List.Pairwise.nil,fun _ hm=>(nomatch hm)⟩⟩,h2,h3,h4⟩
section
variable {prog:Program} {w:World} {A:Around} {E:Value→Shared→Prop} {s:Shared} {K:Frag}
end
end Att
namespace L2
open PySem PySem.Spec PyProof.Rows
theorem zG:∀ {vs:List Value} {ns:List Int},IntsAre vs ns→aJ (ns.map V.int) vs
 | _,_,.nil=>.nil
 | _,_,.cons n t h=>.cons ⟨t,rfl⟩ (zG h)
def YQ (H:Hp):Prop:= ∀ b,H b=none∨∃ o xs,H b=some (.frz o (.lst xs))
theorem YI {P:Program} {w:World} {K:W.Frag} {mg mb:Str→Option Value} {CX:CXT} {k:Nat} {fa a:Addr} {fd:FuncData} {x:Str} {sp:Sp} {s₁:Shared} {vs:List Value} {ns:List Int}
   (KX:K.In s₁.heap) (hns:s₁.heap.Ns mainGlobals mg) (hb:s₁.heap.Ns builtinsNs mb) (hbb:∀ x:Str,x≠"__name__"→mb x=bootBuiltins x) (hlim:s₁.heap.NoLimit) (hg:s₁.gens= #[])
   (ha:s₁.heap.get? a=some { cls:=.type "list",data:=.seq vs.toArray }) (hi:IntsAre vs ns) (hl:ns.length≤sizeLine) (hr:bF k callerA)
   (F:∀ base:Heap,K.In base→base.Ns mainGlobals mg→bN P w K mg base CX k fa fd [x] sp) (hbind:∀ (s:Shared) (u:Value),BindsTo s fd ⟨[u],[]⟩ [(x,u)])
   (hsp:∀ H:Hp,YQ H→SqL K H a (ns.map V.int)→sp [.ref a] H (fun v _=>v= .bl true) fun _ _ _=>False)
   (hCX:∀ H e s',CX [] H s₁ (fun _ _ _=>False) e s'→False) :
   codeAny (model P w) callerA (.call (.ref fa) ⟨[.ref a],[]⟩) (fun r s'=>r= .ok (.ret (.bool true))∧OldK s₁.heap s'.heap∧s'.os=s₁.os∧AllBare s'.gens) s₁:=by
 have rv:=zG hi;have lenV:=hi.length;have core :∀ H:Hp,YQ H→SqL K H a (ns.map V.int)→HOk P w H s₁.heap→(∀ b,H b≠none→b=a)→(H a≠none→K.lookup a=none)→
     codeAny (model P w) callerA (.call (.ref fa) ⟨[.ref a],[]⟩) (fun r s'=>r= .ok (.ret (.bool true))∧OldK s₁.heap s'.heap∧s'.os=s₁.os∧AllBare s'.gens) s₁:=by
   intro H hO hS hok hA hK;have base_of:∀ {b:Addr} {o:Obj},s₁.heap.get? b=some o→H b=none→(AO s₁.heap H).get? b=some o:=fun e n=>XO e n;have noA:∀ {b:Addr} {o:Obj} {es:Array DictEntry} {ep:Nat},s₁.heap.get? b=some o→o.data= .dict es ep→H b=none:=fun {b o es ep} e d=>by
     cases q:H b with
     | none=>rfl
     | some u =>
       have e':b=a:=hA b (by rw [q]; simp);subst e';rw [ha] at e; cases e;have d':Data.seq vs.toArray _=Data.dict es ep:=d;cases d'
   have nsK:∀ {b:Addr} {m:Str→Option Value},s₁.heap.Ns b m→(AO s₁.heap H).Ns b m:=fun {b m} ⟨o,es,ep,e,d,r⟩=>⟨o,es,ep,base_of e (noA e d),d,r⟩;have hKb:K.In (AO s₁.heap H):=fun b o e=>base_of (KX b o e) (by
     cases q:H b with
     | none=>rfl
     | some u =>
       have e':b=a:=hA b (by rw [q]; simp);subst e';rw [hK (by rw [q]; simp)] at e; cases e)
   have hM:Mod K mg (AO s₁.heap H):=⟨hKb,nsK hns,⟨mb,nsK hb,hbb⟩,let ⟨mc,h1,h2⟩:=hlim; ⟨mc,nsK h1,h2⟩⟩;have e0:rK P w K mg (AO s₁.heap H) callerA [] s₁ H:=⟨rfl,hM,fun b o e=>aBx e,Nat.le_of_eq (NN _ _),trivial,fun b hb=>absurd (show b∈([]:List Addr) from hb) (by simp),hok,.of_eq hg⟩;refine codeAny_mono ((F _ hKb (nsK hns)).run callerA [] s₁ H ⟨[.ref a],[]⟩ [.ref a] [.ref a] _ _ hr e0 (hbind s₁ (.ref a)) (.cons rfl .nil) (hsp H hO hS)) fun r s' h=>?_;cases r with
   | error e=>exact (hCX H e s' h).elim
   | ok fl =>
     cases fl with
     | next=>exact False.elim h
     | brk=>exact False.elim h
     | cont=>exact False.elim h
     | ret u =>
       obtain ⟨v,H',os,bare,un,hok',r',q⟩:=h;have q':v= .bl true:=q;subst q';obtain rfl:u=Value.bool true:=r';refine ⟨rfl,OldK.of_keep fun b o e=>?_,os,bare⟩;cases q:H b with
       | none=>exact un.keep b o e q (by intro z; exact absurd (show b∈([]:List Addr) from z) (by simp)) (by simp)
       | some u =>
         rcases hO b with z | ⟨ob,xs,z⟩
         · rw [q] at z; cases z
         · have z2:=un.frzs b ob _ z;obtain ⟨e1,_⟩:=hok b _ z;obtain ⟨e2,_⟩:=hok' b _ z2;rw [e] at e1; cases e1;exact e2
 cases hk:K.lookup a with
 | some o =>
   have e:=KX a o hk;rw [ha] at e;cases e;refine core (fun _=>none) (fun _=>.inl rfl) (.inr ⟨_,vs.toArray,_,hk,rfl,rfl,rfl,by rw [wIq,lenV]; exact hl,by simpa using rv⟩) (fun b u z=>by have z':(none:Option HO)=some u:=z; cases z') (fun b z=>absurd rfl z) fun z=>absurd rfl z
 | none =>
   refine core (fun b=>if b=a then some (.frz { cls:=.type "list",data:=.seq vs.toArray } (.lst (ns.map V.int))) else none) (fun b=>?_) (.inl (.inr ⟨{ cls:=.type "list",data:=.seq vs.toArray },if_pos rfl⟩)) (fun b u z=>?_) (fun b z=>?_) fun _=>hk
   · by_cases hb:b=a
     · exact .inr ⟨_,_,if_pos hb⟩
     · exact .inl (if_neg hb)
   · by_cases hb:b=a
     · have z':=(if_pos hb).symm.trans z;cases z';subst hb;exact ⟨ha,by rw [List.length_map]; exact hl,vs,_,rv,ha⟩
     · have z':=(if_neg hb).symm.trans z;cases z'
   · by_cases hb:b=a
     · exact hb
     · exact absurd (if_neg hb) z
theorem aBv {l:W.OpenLaw} {n k:Nat} {q:Program} {loose:List Str} {XP:(Str→Option Value)→Heap→Prop} {YP:World→Heap→Prop} {d:DefRec} {K:Params→W.Frag} {CX:World→CXT} {sp:World→Sp} {x:Str}
   (hn:l.most=some n) (hn2:n≤sizeLine) (hdf:d.params.defaults=[]) (hr:bF k callerA)
   (hY:∀ (w:World) (h:Heap),YP w h→(K w.params).In h)
   (F : ∀ (w:World) (mg:Str→Option Value) (fa:Addr) (h:Heap),(K w.params).In h→h.Ns mainGlobals mg→mg d.name=some (.ref fa)→
     ∃ fd:FuncData,(∀ (s:Shared) (u:Value),BindsTo s fd ⟨[u],[]⟩ [(x,u)])∧
       ∀ base:Heap,(K w.params).In base→base.Ns mainGlobals mg→bN l.prog w (K w.params) mg base (CX w) k fa fd [x] (sp w))
   (hsp:∀ (w:World) (H:Hp) (a:Addr) (ns:List Int),ns.length≤n→YQ H→SqL (K w.params) H a (ns.map V.int)→sp w [.ref a] H (fun v _=>v= .bl true) fun _ _ _=>False)
   (hCX:∀ (w:World) (H:Hp) (s:Shared) (e:Value) (s':Shared),CX w [] H s (fun _ _ _=>False) e s'→False) :
   W.WalkO q loose XP YP l.row.toRowW d [] (fun f vs=>PySem.call f vs):=by
 refine Att.DK hn hdf fun w s₀ s₁ mg mb fa o pm cd doc a vs ns G Y ho hd hcd hmg hobj hints hlen hg=>?_;have KX:=hY w _ Y;obtain ⟨fd,hb,hF⟩:=F w mg fa _ KX G.T.g hmg;exact YI KX G.T.g G.T.b G.T.builtins G.T.nolimit hg hobj hints (Nat.le_trans hlen hn2) hr hF hb (fun H hO hS=>hsp w H a ns hlen hO hS) fun H e s'=>hCX w H s₁ e s'
theorem ZK {l:W.OpenLaw} {n k:Nat} {q:Program} {loose:List Str} {XP:(Str→Option Value)→Heap→Prop} {YP:World→Heap→Prop} {d:DefRec} {K:Params→W.Frag} {CX:CXT} {sp:W.Frag→Sp} {x:Str}
   (hn:l.most=some n) (hn2:n≤sizeLine) (hdf:d.params.defaults=[]) (hr:bF k callerA)
   (hY:∀ (w:World) (h:Heap),YP w h→(K w.params).In h)
   (F : ∀ (w:World) (mg:Str→Option Value) (fa:Addr) (h:Heap),(K w.params).In h→h.Ns mainGlobals mg→mg d.name=some (.ref fa)→
     ∃ fd:FuncData,(∀ (s:Shared) (u:Value),BindsTo s fd ⟨[u],[]⟩ [(x,u)])∧
       ∀ base:Heap,(K w.params).In base→base.Ns mainGlobals mg→bN l.prog w (K w.params) mg base CX k fa fd [x] (sp (K w.params)))
   (hsp:∀ (K:W.Frag) (H:Hp) (a:Addr) (ns:List Int),ns.length≤n→YQ H→SqL K H a (ns.map V.int)→sp K [.ref a] H (fun v _=>v= .bl true) fun _ _ _=>False)
   (hCX:∀ (H:Hp) (s:Shared) (e:Value) (s':Shared),CX [] H s (fun _ _ _=>False) e s'→False) :
   W.WalkO q loose XP YP l.row.toRowW d [] (fun f vs=>PySem.call f vs) :=
 aBv (K:=K) (CX:=fun _=>CX) (sp:=fun w=>sp (K w.params)) hn hn2 hdf hr hY F (fun w H a ns h1 h2 h3=>hsp (K w.params) H a ns h1 h2 h3) fun _ H s e s'=>hCX H s e s'
noncomputable def aU (s:Stmt) (j:Nat):Stmt:=match s with
 | .ClassDef _ _ _ body _ _ _ _ _ _ _=>body.getD j (.Pass ⟨0,0,0,0⟩)
 | _=>.Pass ⟨0,0,0,0⟩
noncomputable def gX (s:Stmt):Arguments:=match s with
 | .FunctionDef _ a _ _ _ _ _ _ _ _=>a
 | _=>{ posonlyargs:=[],args:=[],vararg:=none,kwonlyargs:=[],kw_defaults:=[],kwarg:=none,defaults:=[] }
noncomputable def aC (s:Stmt):List Stmt:=match s with
 | .FunctionDef _ _ b _ _ _ _ _ _ _=>b
 | _=>[]
noncomputable def aB (s:Stmt):Scope:=match s with
 | .FunctionDef _ _ _ _ _ _ sc _ _ _=>sc
 | _=>{ kind:=.function,names:=[],isGenerator:=false,isCoroutine:=false }
noncomputable abbrev CX0:CXT:=fun _ _ _ _ _ _=>False
noncomputable abbrev E0:XK:=fun _ _ _=>False
theorem zB {X:Cx}:jI CX0 X E0:=fun _ _ _ _ _ _ _ h=>h.elim
section
variable {P:Program} {w:World} {K:W.Frag} {mg:Str→Option Value} {base:Heap}
end
section
variable {X:Cx}
theorem pv (i:Nat) {x:Str} {pos:Pos} (hN:X.N[i]? =some x:=by rfl) (hv:Vis X.env.scope x:=by first | exact Or.inl rfl | exact Or.inr (Or.inl rfl) | exact Or.inr (Or.inr rfl)) (hd:(x == ("__debug__":Str))=false:=by decide)
   (hcd:(x == ("__classdict__":Str))=false:=by decide):PE X (.Name x pos) (aIE i):=UK hN hv hd hcd
end
def aM (H H':Hp):Prop:= ∀ b o,H b=some o→H' b=some o
theorem aM.refl (H:Hp):aM H H:=fun _ _ h=>h
theorem aM.trans {H H1 H2:Hp} (a:aM H H1) (b:aM H1 H2):aM H H2:=fun c o h=>b c o (a c o h)
theorem aM.seq {K:W.Frag} {H H':Hp} {a:Addr} {xs:List V} (e:aM H H') (h:SqL K H a xs):SqL K H' a xs:=by
 rcases h with (h | ⟨o,h⟩) | h
 · exact .inl (.inl (e _ _ h))
 · exact .inl (.inr ⟨o,e _ _ h⟩)
 · exact .inr h
end L2
set_option maxHeartbeats 4000000
namespace L2
open PySem PySem.Spec PyProof.Rows
def Sm (k:Nat) (x:Int):Prop:=x.natAbs < 2 ^ k
theorem Sm.mono {k l:Nat} {x:Int} (h:Sm k x) (q:k≤l):Sm l x:=wFq h (Nat.pow_le_pow_right (by decide) q)
theorem Sm.mul {k l:Nat} {x y:Int} (h:Sm k x) (q:Sm l y):Sm (k + l) (x * y):=by
 unfold Sm at *; rw [Int.natAbs_mul,Nat.pow_add]; exact Nat.mul_lt_mul'' h q
theorem Sm.add {k l:Nat} {x y:Int} (h:Sm k x) (q:Sm k y) (e:k + 1≤l):Sm l (x + y):=by
 have a:(x + y).natAbs≤x.natAbs + y.natAbs:=Int.natAbs_add_le x y;have b:2 ^ k + 2 ^ k≤2 ^ l:=by
   have:=Nat.pow_le_pow_right (show 0 < 2 by decide) e;rw [Nat.pow_succ] at this; omega
 unfold Sm at *; omega
theorem Sm.neg {k:Nat} {x:Int} (h:Sm k x):Sm k (-x):=by unfold Sm at *; rw [Int.natAbs_neg]; exact h
theorem Sm.le {k:Nat} {x y:Int} (h:Sm k y) (a:0≤x) (b:x≤y):Sm k x:=by unfold Sm at *; omega
theorem Sm.div {k:Nat} {x y:Int} (h:Sm k x) (hy:0 < y):Sm k (x / y):=by
 rcases Int.le_total 0 x with z | z
 · exact h.le (Int.ediv_nonneg z (by omega)) (Int.ediv_le_self _ z)
 · have a:x≤x / y:=Int.le_ediv_of_mul_le hy (by
     have:=Int.mul_le_mul_of_nonpos_left z (show 1≤y by omega);omega)
   have b:x / y≤0:=by
     have:=Int.ediv_le_ediv hy z;rw [Int.zero_ediv] at this; exact this
   unfold Sm at *; omega
theorem Sm.bits {k:Nat} {x:Int} (h:Sm k x):Builtin.Int.intBits x≤k:=by
 unfold Builtin.Int.intBits;split
 · exact Nat.zero_le _
 · rename_i z;have hz:x.natAbs≠0:=fun e=>z (by rw [Int.natAbs_eq_zero.mp e]; rfl);exact (Nat.log2_lt hz).mpr h
theorem Sm.mulOk {k l:Nat} {x y:Int} (h:Sm k x) (q:Sm l y) (e:k + l≤100000000):IntMulOk x y:=by
 have b1:=h.bits;have b2:=q.bits;unfold IntMulOk;have z:Builtin.Int.intTooBig (((Builtin.Int.intBits x + Builtin.Int.intBits y:Nat):Int))=false:=by
   unfold Builtin.Int.intTooBig;refine decide_eq_false ?_;have:bitsLine=134217728:=by decide
   rw [this]; omega
 have z':Builtin.Int.intTooBig ((Builtin.Int.intBits x:Int) + (Builtin.Int.intBits y:Int))=false:=by
   rw [←z]; congr 1
 rw [z']; simp
theorem Sm.log {k:Nat} {x:Int} (h:Sm k x) (e:k≤9000) (hk:0 < k):x.natAbs.log2 < 9000:=by
 by_cases hz:x.natAbs=0
 · rw [hz]; decide
 · exact wFq ((Nat.log2_lt hz).mpr h) e
section
variable {X:Cx}
def yP (i j:Int):Prop:=IntMulOk i j
theorem VH {i j:Int} (h:Sm 64 i):yP i j:=IntMulOk.of_left h.bits
theorem aIK {i j:Int} (h:Sm 64 j):yP i j:=IntMulOk.of_right h.bits
theorem sC {k l:Nat} {i j:Int} (h:Sm k i) (q:Sm l j) (e:k + l≤100000000:=by decide):yP i j:=h.mulOk q e
def yK (_i j:Int):Prop:=0 < j∧∃ k,Sm k j∧0 < k∧k≤9000
theorem aAE {k:Nat} {i j:Int} (h:0 < j) (q:Sm k j) (e:0 < k:=by decide) (e':k≤9000:=by decide):yK i j:=⟨h,k,q,e,e'⟩
theorem aAG:OpR X (binaryOp .Mult) (rI yP fun i j=>.int (i * j)):=opI fun _ _ _ _ _ _ _ hc q=>by
 exact mul_int q hc
theorem US:OpR X (binaryOp .FloorDiv) (rI yK fun i j=>.int (i / j)):=opI fun i j _ _ _ _ _ hc q=>by
 obtain ⟨h1,k,a,hk,e⟩:=hc;exact floordiv_int (by omega) (by rw [Int.fdiv_eq_ediv_of_nonneg i (by omega)]; exact q) (.inl (PyProof.noPylong_of_log2 (a.log e hk)))
end
section
variable {X:Cx} {CX:CXT} {k:Nat} {f C:Addr} {fd:FuncData} {ps ks:List Str} {sp:Sp} {E:XK} {x m:Str} {p pos apos kpos:Pos} {kws:List Keyword} {tk:TA}
variable {g:List Value→List Value→List Value} {gV:List V→List V→List V}
end
theorem gC.at {h:Heap} {a:Addr} {items:Array Value} {n:Nat} (e:h.get? a=some { cls:=.type "tuple",data:=.seq items n }):gC h a items:=⟨⟨_,e,rfl,n,rfl⟩,fun o q=>by rw [e] at q; cases q; rfl⟩
end L2
namespace LE
open PySem PyProof.Rows
open AutoSeq1 (wpAny_loadPart')
open Builtin
variable {prog:Program} {w:World} {A:Around} {E:Value→Shared→Prop} {s:Shared}
theorem aCE {it l:Addr} {i:Nat} {xs:Array Value} {x:Value} {Q:Value→Shared→Prop} (a:s.heap.IsTupleIter it l i) (b:s.heap.IsTuple l xs) (c:xs[i]? =some x)
   (q:∀ h',h'.IsTupleIter it l (i + 1)→Heap.SameBut it s.heap h'→Q x { s with heap:=h' }):wpAny (model prog w) A (Builtin.SmallTypes.nextOf (.ref it)) Q E s:=by
 obtain ⟨o,ho,hc,hd⟩:=id a;obtain ⟨p,hp,_,n,hn⟩:=b;unfold Builtin.SmallTypes.nextOf;refine wAq (wpAny_callSpecial?_slot (name:=Str.ofString "__next__") a.typeIs F.slot_tuple_iterator_next (wpAny_call_entry F.slot_tuple_iterator_next a.typeIs F.entry_tuple_iterator_next ?_ (F.args_tuple_iterator_next_1 _)));show wpAny _ _ (field (.ref it) 0 >>= _) _ _ _;refine wAq (wpAny_field ho hd (x:=.ref l) rfl ?_);show wpAny _ _ (if (Value.ref l == Value.none)=true then _ else _) _ _ _;rw [if_neg (show ¬((Value.ref l == Value.none)=true) from nofun)];show wpAny _ _ (field (.ref it) 1 >>= _) _ _ _;refine wAq (wpAny_field ho hd (x:=.int i 0) rfl ?_);show wpAny _ _ (seqItems? (.ref l) >>= _) _ _ _;refine wAq (wpAny_seqItems hp hn ?_);simp only [Int.toNat_natCast,c];exact wAq (wpAny_setField ho hd (by simp) (wBq ⟨x,rfl,wBq (q _ ⟨_,Heap.get?_update_self _ ho (Obj.isFreed_of_fields (Obj.data_mapFields hd _)),(Obj.cls_mapFields ..).trans hc,by rw [Obj.data_mapFields hd]; simp [rawInt]⟩ (Heap.SameBut.update ..))⟩))
theorem aER {it l:Addr} {i:Nat} {xs:Array Value} {Q:Value→Shared→Prop} (hh:A.handled=none) (a:s.heap.IsTupleIter it l i) (b:s.heap.IsTuple l xs) (c:xs[i]? =none)
   (q:∀ h' e,Heap.ExtBut it s.heap h'→(∃ o,h'.get? e=some o∧o.cls= .type "StopIteration")→E (.ref e) { s with heap:=h' }):wpAny (model prog w) A (Builtin.SmallTypes.nextOf (.ref it)) Q E s:=by
 obtain ⟨o,ho,hc,hd⟩:=id a;obtain ⟨p,hp,_,n,hn⟩:=b;unfold Builtin.SmallTypes.nextOf;refine wAq (wpAny_callSpecial?_slot (name:=Str.ofString "__next__") a.typeIs F.slot_tuple_iterator_next (wpAny_call_entry F.slot_tuple_iterator_next a.typeIs F.entry_tuple_iterator_next ?_ (F.args_tuple_iterator_next_1 _)));show wpAny _ _ (field (.ref it) 0 >>= _) _ _ _;refine wAq (wpAny_field ho hd (x:=.ref l) rfl ?_);show wpAny _ _ (if (Value.ref l == Value.none)=true then _ else _) _ _ _;rw [if_neg (show ¬((Value.ref l == Value.none)=true) from nofun)];show wpAny _ _ (field (.ref it) 1 >>= _) _ _ _;refine wAq (wpAny_field ho hd (x:=.int i 0) rfl ?_);show wpAny _ _ (seqItems? (.ref l) >>= _) _ _ _;refine wAq (wpAny_seqItems hp hn ?_);simp only [Int.toNat_natCast,c];refine wAq (wpAny_rule (wAq (wpAny_setField ho hd (by simp) ?_)));show wpAny _ _ (newExc (.type "StopIteration") [] >>= _) _ _ _;refine wAq ?_;simp only [newExc,newTuple];refine wAq (wpAny_newObj_type ?_ (by size_fits));refine wAq (m:=firstArgMember _ _) (wpAny_of_eq (a:=Value.none) (by first | rfl | (simp only [firstArgMember]; rfl)) (wpAny_newObj_type ?_ (by size_fits)));simp only [raiseNew];refine wAq (wpAny_handled ?_);first | rw [show A.in1.handled=none from hh] | rw [hh]
 exact wAq (wBq (wpAny_throw (q _ _ (((Heap.SameBut.update ..).extBut.push _).push _) ⟨_,wGq _ rfl,rfl⟩)))
theorem aFG (hh:A.handled=none) (it l:Addr) (hne:l≠it) (xs:Array Value):Draws prog w A it [it,l] xs.size (fun i v=>xs[i]? =some v) (fun i h=>h.IsTupleIter it l i∧h.IsTuple l xs) where
 live:=fun _ _ st=>let ⟨o,ho,_⟩:=st.1; ⟨o,ho⟩
 frame:=fun _ _ _ st hk=>⟨st.1.at fun o e=>hk it (by simp) o e,let ⟨o,e,r⟩:=st.2; ⟨o,hk l (by simp) o e,r⟩⟩
 item:=fun i s Q E hi st hQ=>aCE st.1 st.2 (x:=xs[i]) (by simp [hi]) fun h' a b=>hQ _ h' s.toks (by simp [hi]) ⟨a,st.2.extBut b.extBut hne⟩ b
 done:=fun s Q E st hE=>aER hh st.1 st.2 (by simp) hE
theorem aDJ (hh:A.handled=none) (it l:Addr) (i:Nat) (xs:Array Value) (hx:xs[i]? =none):Draws prog w A it [it,l] i (fun _ _=>True) (fun j h=>j=i∧h.IsTupleIter it l j∧h.IsTuple l xs) where
 live:=fun _ _ st=>let ⟨o,ho,_⟩:=st.2.1; ⟨o,ho⟩
 frame:=fun _ _ _ st hk=>⟨st.1,st.2.1.at fun o e=>hk it (by simp) o e,let ⟨o,e,r⟩:=st.2.2; ⟨o,hk l (by simp) o e,r⟩⟩
 item:=fun j s Q E hi st hQ=>absurd st.1 (Nat.ne_of_lt hi)
 done:=fun s Q E st hE=>aER hh st.2.1 st.2.2 hx hE
theorem aA5 (l:Addr) (items:Array Value) (o:Obj) (ho:o.cls= .type "tuple") (n:Nat) (hd:o.data= .seq items n) :
   Meets (Builtin.«enumerate.__new__» ⟨[.type "enumerate",.ref l],[]⟩) (fun _ R s=>s.heap.get? l=some o∧
     R (.ok (.ret (.ref (s.heap.push { cls:=.type "tuple_iterator",data:=.fields #[.ref l,.int 0 0] }).objs.size)))
       { s with heap:=(s.heap.push { cls:=.type "tuple_iterator",data:=.fields #[.ref l,.int 0 0] }).push { cls:=.type "enumerate",data:=.fields #[.none,.bool false,.ref s.heap.objs.size,rawInt 0,.none,.none] } }) :=
 .of_wp fun prog w A R s h=>by
   obtain ⟨hp,g,d,tk,os⟩:=s;obtain ⟨oc,od,dt,sl⟩:=o
   replace ho:oc= .type "tuple":=ho
   replace hd:dt= .seq items n:=hd
   subst ho hd;obtain ⟨hl,h⟩:=h;have hsub:=sub_enumerate;have hL:Heap.IsTuple (Shared.heap ⟨hp,g,d,tk,os⟩) l items:=⟨_,hl,rfl,n,rfl⟩
   wp_walk using wpAny_loadPart' hl
   refine wpAny_stack_any fun st=>wBq ?_;split
   · rename_i c _ _ _ _ _;cases (c == Value.type "enumerate") <;> (wp_walk using wpAny_loadPart' hl,wpAny_pyIter_tuple hL) <;> exact ⟨_,rfl,h⟩
   · wp_walk using wpAny_loadPart' hl,wpAny_pyIter_tuple hL
     exact ⟨_,rfl,h⟩
theorem QY {l:Addr} {items:Array Value} {Q:Value→Shared→Prop} (hL:s.heap.IsTuple l items)
   (h :∀ h',IsEnum h' (s.heap.objs.size + 1) s.heap.objs.size 0 .none→h'.IsTupleIter s.heap.objs.size l 0→h'.objs.size=s.heap.objs.size + 2→
     (∀ b o,s.heap.get? b=some o→h'.get? b=some o)→Q (.ref (s.heap.objs.size + 1)) { s with heap:=h' }) :
   wpAny (model prog w) A (call (.type "enumerate") [.ref l]) Q E s:=by
 obtain ⟨o,hl,hc,n,hd⟩:=hL;refine callType_new F.called_enumerate (by decide) (F.typeCall_enumerate_1 _) (F.newCall_enumerate_1 _) (fun obj=>F.args_object_init_2 obj _) F.entry_enumerate_new (aA5 l items o hc n hd) ⟨hl, ?_⟩;have hz:(s.heap.push { cls:=.type "tuple_iterator",data:=.fields #[.ref l,.int 0 0] }).objs.size=s.heap.objs.size + 1:=Heap.size_push ..;show _∧_;rw [hz];have he:IsEnum ((s.heap.push { cls:=.type "tuple_iterator",data:=.fields #[.ref l,.int 0 0] }).push
     { cls:=.type "enumerate",data:=.fields #[.none,.bool false,.ref s.heap.objs.size,rawInt 0,.none,.none] }) (s.heap.objs.size + 1) s.heap.objs.size 0 .none:=by
   have:=wGq (s.heap.push { cls:=.type "tuple_iterator",data:=.fields #[.ref l,.int 0 0] })
     (o:={ cls:=.type "enumerate",data:=.fields #[.none,.bool false,.ref s.heap.objs.size,rawInt 0,.none,.none] }) rfl
   rw [hz] at this; exact this
 exact ⟨⟨_,he,rfl⟩,h _ he ⟨_,wEq _ (wGq _ rfl),rfl,rfl⟩ (by rw [Heap.size_push,hz]) fun b o x=>wEq _ (wEq _ x)⟩
end LE
namespace L2
open PySem PySem.Spec PyProof.Rows
section
variable {X:Cx} {pins:List (Addr×Obj)} {σ:St} {H:Hp} {s:Shared} {h':Heap}
theorem Inv.turnNew {t':Nat} {ch:List Addr} {T:Addr} {u:HO} (I:Inv X pins σ H s)
   (hch:∀ b∈ch,(b∈X.ex∨X.s₀.heap.objs.size≤b)∧b≠X.env.locals∧(∀ x c,X.env.cells.lookup x=some c→c≠b)∧∀ p∈X.pn ++ pins,p.1≠b) (hn:∀ b∈ch,H b=none)
   (k:∀ b o,b∉ ch→s.heap.get? b=some o→h'.get? b=some o) (hT:s.heap.objs.size≤T) (new:bZ X.prog X.w (upd H T u) h' T u):Inv X pins σ (upd H T u) { s with heap:=h',toks:=t' }:=by
 have fT:H T=none:=I.hok.fresh hT;have nT:∀ {b o},s.heap.get? b=some o→b≠T:=fun q=>Nat.ne_of_lt (wFq (Heap.lt_size q) hT);have nit:∀ b u,H b=some u→b∉ ch:=fun b u e z=>by rw [hn b z] at e; cases e
 refine I.step (g':=s.gens) (d':=s.drawn) (ch:=ch) hch (fun b o _ _ hc e _=>k b o hc e) (fun b o _ _ hc e _=>⟨o.slots,k b o hc e⟩) (fun b o _ q n=>by rw [aI (nT q)]; exact n)
   (fun b o hc e=>⟨o,k b o hc e⟩) (fun b xs e=>by rw [aI (aL e fT)]; exact e) (fun b o v e=>by rw [aI (aL e fT)]; exact e) (fun b ps e=>⟨#[],by rw [aI (aL e fT),e]; simp⟩) (fun m hm=>?_) (fun b v e=>?_) I.bare
 · obtain ⟨o,es,ep,ho,r⟩:=hm;exact ⟨o,es,ep,k _ o (fun z=>(hch _ z).2.1 rfl) ho,r⟩
 · by_cases hb:b=T
   · subst hb;rw [aW] at e;cases e;exact new
   · rw [aI hb] at e;refine (I.hok b v e).stay (fun c v hc q=>k c v ?_ q) (fun c q=>by rw [aI (aL q fT)]; exact q) fun c xs q=>by rw [aI (aL q fT)]; exact q
     rcases hc with z | z
     · rw [z]; exact nit b _ e
     · exact nit c _ z
noncomputable def Ite (K:W.Frag) (a:Addr):It :=
 ⟨fun i H=>∃ xs x,SqT K H a xs∧xs[i]? =some x,fun i H x H'=>∃ T v,x= .ref T∧H T=none∧H'=upd H T (.tup [.int i,v])∧∀ xs,SqT K H a xs→xs[i]? =some v,fun i H=>∃ xs,SqT K H a xs∧xs.length≤i⟩
theorem NS {P:Program} {w:World} {K:W.Frag} {es:List Expr} {x1} {tp:Pos} (a e it:Addr) (hei:e≠it) (hai:a≠it) (hae:a≠e) :
   HZ P w K (.Tuple es x1 tp) (Ite K a) [e,it] e (fun i h=>(∃ old,IsEnum h e it ((i:Nat):Int) old)∧h.IsTupleIter it a i) where
 mem:=by simp
 obj :=fun i h st b hb=>by
   obtain ⟨⟨old,h1⟩,o,h2,c,d⟩:=st;rcases List.mem_cons.mp hb with rfl | hb
   · exact ⟨_,h1,fun v z=>by have z':Data.fields _=Data.cell v:=z; cases z'⟩
   · have e':b=it:=by simpa using hb
     subst e';exact ⟨o,h2,fun v z=>by rw [d] at z; cases z⟩
 keep:=fun i h h' st k=>⟨let ⟨old,q⟩:=st.1; ⟨old,k e (by simp) _ q⟩,st.2.at fun o q=>k it (by simp) o q⟩
 item := by
   intro X hP hw hK hc i pins s σ H E I hf st hg;subst hP hw hK;obtain ⟨xs,x,hq,hx⟩:=hg;obtain ⟨its,rv,p,hz⟩:=I.tuple hq;obtain ⟨u,hu,ru⟩:=rv.get hx;obtain ⟨⟨old,he⟩,hit⟩:=st;have hi:i < its.toArray.size:=by
     have:=(List.getElem?_eq_some_iff.mp hu).1;simpa using this
   have D:=LE.aFG (prog:=X.prog) (w:=X.w) (A:=X.A.in1) (I.ok.hd hc) it a hai its.toArray;refine wpAny_pyNext_enum_itemD (A:=X.A) D he ⟨hit,(show s.heap.IsTuple a its.toArray from p)⟩ hi hei (by simp [hei,Ne.symm hae]) fun y h1 tk hy ho hs' hT hsz hk=>?_;refine ⟨_,rfl,wpAny_letOwnedTupleGo_enum ho fun h2 he2 sb=>?_⟩;have hy':y=u:=by
     have z:its.toArray[i]? =some u:=by simpa using hu
     exact Option.some.inj (hy.symm.trans z)
   subst hy';have hTe:s.heap.objs.size≠e:=Nat.ne_of_gt (Heap.lt_size he);have gT:h2.get? s.heap.objs.size=some { cls:=.type "tuple",data:=.seq #[.int i tk,y] }:=(sb.2 _ hTe).trans hT;refine ⟨.ref s.heap.objs.size,upd H s.heap.objs.size (.tup [.int i,x]),I.turnNew (ch:=[e,it]) (h':=h2) (fun b hb=>?_) (fun b hb=>(hf b hb).1) (fun b o hb q=>?_) (Nat.le_refl _) ?_,rfl,⟨_,x,rfl,I.hok.fresh (Nat.le_refl _),rfl,fun ys hy=>by rw [I.tuple_inj hy hq]; exact hx⟩,⟨⟨_,by simpa using he2⟩, ?_⟩,fun b hb=>?_⟩
   · obtain ⟨f0,f1,f2,f3,f4,f5⟩:=hf b hb;exact ⟨f3,f1,f4,f5⟩
   · simp only [List.mem_cons,List.not_mem_nil,or_false,not_or] at hb;exact (sb.2 b hb.1).trans (hk b o hb.1 hb.2 q)
   · exact ⟨by show 2≤sizeLine; decide,[.int i tk,y],.cons ⟨tk,rfl⟩ (.cons ru .nil),gC.at gT⟩
   · exact hs'.1.at fun o q=>(sb.2 it (Ne.symm hei)).trans q
   · have hl:∀ b,b∈ [e,it]→b≠s.heap.objs.size:=fun b hb z=>by
       rcases List.mem_cons.mp hb with r | r
       · exact hTe (z▸r)
       · obtain ⟨o,q,_⟩:=hit;have r':b=it:=by simpa using r
         have l:=Heap.lt_size q;rw [←r',z] at l;exact absurd l (Nat.lt_irrefl _)
     rw [aI (hl b hb)];exact (hf b hb).1
 done:=by
   intro X hP hw hK hc i pins s σ H E I hf st hg;subst hP hw hK;obtain ⟨xs,hq,hx⟩:=hg;obtain ⟨its,rv,p,hz⟩:=I.tuple hq;obtain ⟨⟨old,he⟩,hit⟩:=st;obtain ⟨f0,f1,f2,f3,f4,f5⟩:=hf it (by simp);have hl:=rv.length;have hx':its.toArray[i]? =none:=by simp; omega
   refine wpAny_pyNext_enum_endD (A:=X.A) (LE.aDJ (prog:=X.prog) (w:=X.w) (A:=X.A.in1) (I.ok.hd hc) it a i its.toArray hx') he ⟨rfl,hit,(show s.heap.IsTuple a its.toArray from p)⟩ fun h' eb=>⟨rfl,I.turned (t':=s.toks) (fun b o hb e=>eb b o hb e) f0 f1 f3 f4 f5⟩
 self:=fun _ _ _ _ _ st h=>let ⟨_,q⟩:=st.1; wpAny_pyIter_enum q h
def aG6 (K:W.Frag) (ta:TA):TI:=fun σ H R=>ta σ H fun vs H1=>∃ a,vs=[.ref a]∧(∃ xs,SqT K H1 a xs)∧R (Ite K a) H1
theorem aBd {es:List Expr} {x1} {tp:Pos} {e:Expr} {ta:TA} {p pos:Pos} (hg:Gl X "enumerate") (hm:X.mg "enumerate"=none) (ha:PA X [e] ta) (hs:starEach [e] X.env=[(false,eval e X.env)]:=by rfl) :
   PI X (.Tuple es x1 tp) (.Call (.Name "enumerate" p) [e] [] pos) (aG6 X.K ta):=by
 intro pins s σ H R I h;refine Call_ (mV I hg hm boot_enumerate (PyProof.Rows.callWith_type1 (thn (ha pos pins s σ H _ I h) fun us s1 zz=>?_) hs rfl));obtain ⟨vs,H1,I1,r1,q1⟩:=zz;obtain ⟨a,e,⟨xs,hq⟩,q⟩:=q1;subst e;obtain ⟨u,rfl,r⟩:=fG r1;cases r;obtain ⟨its,rv,ht,hz⟩:=I1.tuple hq;have ht':s1.heap.IsTuple a its.toArray:=ht;have hl:a < s1.heap.objs.size:=let ⟨o,e,_⟩:=ht'; Heap.lt_size e
 refine LE.QY ht' fun h' he hit hsz k=>?_;have I2:Inv X pins σ H1 { s1 with heap:=h' }:=I1.kept (t':=s1.toks) k;refine wpAny_pyIter_enum (s:={ s1 with heap:=h' }) he ?_;refine ⟨s1.heap.objs.size + 1,[s1.heap.objs.size + 1,s1.heap.objs.size],_,_,H1,rfl,I2,NS a _ _ (Nat.succ_ne_self _) (Nat.ne_of_lt hl) (Nat.ne_of_lt (Nat.lt_succ_of_lt hl)),⟨⟨_,he⟩,hit⟩,fun b hb=>?_,q⟩;have hb':s1.heap.objs.size≤b:=by
   rcases List.mem_cons.mp hb with z | z
   · rw [z]; exact Nat.le_succ _
   · have z':b=s1.heap.objs.size:=by simpa using z
     exact Nat.le_of_eq z'.symm
 exact I1.fpOk hb' (I1.hok.fresh hb')
end
section
variable {X:Cx}
theorem IxR.imp {r r':R2} (h:IxR X r) (f:∀ x y H Q,r' x y H Q→r x y H Q):IxR X r':=fun value slice pins s σ H x y v u Q I rx ry q hs=>h value slice pins s σ H x y v u Q I rx ry (f _ _ _ _ q) hs
theorem bE.imp {g:Value} {r r':List V→Hp→VK→Prop} (h:bE X g r) (f:∀ x H Q,r' x H Q→r x H Q):bE X g r':=fun pins s σ H xs us Q I rs q=>h pins s σ H xs us Q I rs (f _ _ _ q)
theorem PG.imp {e:Expr} {t t':TG} (h:PG X e t) (f:∀ v σ H Q,t' v σ H Q→t v σ H Q):PG X e t':=fun pins s σ H v u Q I r q=>h pins s σ H v u Q I r (f _ _ _ _ q)
theorem PI.imp {tg it:Expr} {t t':TI} (h:PI X tg it t) (f:∀ σ H R,t' σ H R→t σ H R):PI X tg it t':=fun pins s σ H R I q=>h pins s σ H R I (f _ _ _ q)
end
theorem aG4 {n:Nat}:ixN (n + 1) 0=some 0:=by unfold ixN; rw [if_pos (by decide),if_pos (by omega)]; rfl
theorem aCX {n:Nat}:ixN (n + 2) 1=some 1:=by unfold ixN; rw [if_pos (by decide),if_pos (by omega)]; rfl
theorem aBX {n:Nat}:ixN (n + 3) 2=some 2:=by unfold ixN; rw [if_pos (by decide),if_pos (by omega)]; rfl
theorem gM {H:Hp} {p q:Addr} {o u:HO} (h:H q=some u) (n:H p=none):upd H p o q=some u:=by rw [aI (aL h n)]; exact h
theorem bG {H:Hp} {p:Addr} (h:H p=none) (o:HO):aM H (upd H p o):=fun b u q=>gM q h
noncomputable def tyN (H:Hp):V→Option String
 | .non=>some "NoneType"
 | .bl _=>some "bool"
 | .int _=>some "int"
 | .str _=>some "str"
 | .ref a=>match H a with
   | some (.lst _)=>some "list"
   | some (.tup _)=>some "tuple"
   | some (.dK _)=>some "dict"
   | _=>none
 | _=>none
noncomputable def AK (n T:String):Bool:=n == T || (n == "bool" && T == "int")
noncomputable def mP:List String:=["int","bool","tuple","str","list","dict"]
noncomputable def NV:List String:=["NoneType","bool","int","str","list","tuple","dict"]
theorem aGm {K:W.Frag} {H:Hp} {x:V} {n:String} (h:tyN H x=some n):rF K H x (.type n):=by
 unfold tyN at h;split at h
 · cases h; exact .non
 · cases h; exact .bl _
 · cases h; exact .int _
 · cases h; exact .str _
 · split at h
   · rename_i e; cases h; exact .lst e
   · rename_i e; cases h; exact .tup e
   · rename_i e; cases h; exact .dK e
   · cases h
 · cases h
theorem aGi (K:W.Frag):∀ n∈NV,∀ T∈mP,W.kitOne K (.type n) (.type T)=some (AK n T):=by
 intro n hn T hT;simp only [NV,mP,List.mem_cons,List.not_mem_nil,or_false] at hn hT;rcases hn with rfl | rfl | rfl | rfl | rfl | rfl | rfl <;> rcases hT with rfl | rfl | rfl | rfl | rfl | rfl <;> rfl
theorem OpR.imp {X:Cx} {f:Value→Value→Sem Value} {r r':R2} (h:OpR X f r) (g:∀ x y H Q,r' x y H Q→r x y H Q):OpR X f r':=fun pins s σ H x y v u Q I rx ry q=>h pins s σ H x y v u Q I rx ry (g _ _ _ _ q)
theorem aKt (i:Int):(if i < 0 then -i else i)=(i.natAbs:Int):=by split <;> omega
theorem OC {X:Cx}:bE X (.builtin "abs") (fun xs H Q=>∃ i,xs=[.int i]∧Q (.int (i.natAbs:Int)) H):=XW.imp <|by rintro _ _ _ ⟨i,a,q⟩;exact ⟨i,a,by rw [aKt]; exact q⟩
theorem aKA:((0:Nat):Int)=0:=rfl
theorem aIz:((1:Nat):Int)=1:=rfl
theorem aIn:((2:Nat):Int)=2:=rfl
theorem aKB:((3:Nat):Int)=3:=rfl
section
variable {prog:Program} {w:World} {A:Around} {R:Result→Shared→Prop} {s:Shared}
noncomputable abbrev NoE:Value→Shared→Prop:=fun _ _=>False
theorem OW {elt target iter:Expr} {ifs:List Expr} {scope:Scope} {pos:Pos} {it acc:Value} {env:Env} (I:Nat→Shared→Prop)
   (turn : ∀ n s,I n s→wpAny (model prog w) A (pyNext it) (fun r s₁=>match r with
     | none=>R (.ok .next) s₁
     | some v=>wpAny (model prog w) A (letOwnedTupleGo target it v) (fun _ s₁'=>wpAny (model prog w) A (assign target env v) (fun _ s₂ =>
         wpAny (model prog w) A (forIn ifs true fun c r=>if r=true then do let ok ←isTrue c env (eval c env); pure (ForInStep.yield ok) else pure (ForInStep.yield r)) (fun ok s₃ =>
           if ok=true then wpAny (model prog w) A (eval elt env) (fun x s₄=>wpAny (model prog w) A (call (.builtin "list.append") [acc,x]) (fun _ s₅=>∃ m,m < n∧I m s₅) NoE s₄) NoE s₃
           else ∃ m,m < n∧I m s₃) NoE s₂) NoE s₁') NoE s₁) NoE s) (n:Nat) (h:I n s) :
   codeAny (model prog w) A (.compLoop (.ListComp elt [⟨target,iter,ifs,0⟩] scope pos) 0 it acc env) R s:=by
 refine codeAny_loop rfl I (fun n s hI=>?_) n h;refine wpAny_noted (m:=compTurn (.ListComp elt [⟨target,iter,ifs,0⟩] scope pos) 0 it acc env) ?_;rw [compTurn_list];refine wAq (wpAny_standAt (wAq (wpAny_mono (turn n s hI) (fun r s₁ h₁=>?_) fun _ _ f=>f.elim)));cases r with
 | none=>exact wBq h₁
 | some v =>
   refine wAq (wpAny_mono h₁ (fun _ s₁' h₁'=>?_) fun _ _ f=>f.elim);refine wAq (wpAny_mono h₁' (fun _ s₂ h₂=>wAq (wpAny_mono h₂ (fun ok s₃ h₃=>?_) fun _ _ f=>f.elim)) fun _ _ f=>f.elim);cases ok with
   | false=>exact wBq ⟨rfl,h₃⟩
   | true =>
     exact wAq (wAq (wpAny_mono h₃ (fun x s₄ h₄=>wAq (wpAny_mono h₄ (fun _ s₅ h₅=>wBq (wBq ⟨rfl,h₅⟩)) fun _ _ f=>f.elim)) fun _ _ f=>f.elim))
end
noncomputable def mR (cl cells:List (Str×Addr)):List (Str×NameKind)→Prop
 | []=>True
 | (n,k) :: r=>(k= .free→∃ c,cl.lookup n=some c∧cells.lookup n=some c)∧mR cl cells r
noncomputable def xB (cells:List (Str×Addr)):List (Str×Addr)→Prop
 | []=>True
 | (n,c) :: r=>cells.lookup n=some c∧xB cells r
theorem xB.look {cells:List (Str×Addr)}:∀ {cl:List (Str×Addr)} {x:Str} {c:Addr},xB cells cl→cl.lookup x=some c→cells.lookup x=some c
 | [],_,_,_,h=>by cases h
 | (n,c') :: r,x,c,ok,h=>by
   cases hx:x == n with
   | true =>
     rw [List.lookup_cons,hx] at h;cases h;rw [beq_iff_eq.mp hx]; exact ok.1
   | false =>
     rw [List.lookup_cons,hx] at h;exact xB.look ok.2 h
theorem mR.look {cl cells:List (Str×Addr)} {f:Str×NameKind→Str×NameKind} (hf:∀ y,(f y).1=y.1∧((f y).2= .cell∨(f y).2= .free→y.2= .cell∨y.2= .free)):∀ {names:List (Str×NameKind)} {x:Str},mR cl cells names→
   ((names.map f).lookup x=some .cell∨(names.map f).lookup x=some .free)→(∃ c,cl.lookup x=some c)∨(x,NameKind.cell)∈names
 | [],_,_,h=>by rcases h with h | h <;> cases h
 | (n, k) :: r,x,ok,h=>by
   have h1:=hf (n,k);rw [List.map_cons] at h;cases hx:x == (f (n,k)).1 with
   | true =>
     have e:List.lookup x (f (n,k) :: r.map f)=some (f (n,k)).2:=by rw [List.lookup_cons,hx]
     rw [e] at h;have hk:k= .cell∨k= .free:=h1.2 (h.imp Option.some.inj Option.some.inj);rcases hk with hk | hk
     · subst hk;rw [beq_iff_eq.mp hx,h1.1];exact .inr (wDq ..)
     · obtain ⟨c,q,_⟩:=ok.1 hk;rw [beq_iff_eq.mp hx,h1.1]; exact .inl ⟨c,q⟩
   | false =>
     have e:List.lookup x (f (n,k) :: r.map f)=List.lookup x (r.map f):=by rw [List.lookup_cons,hx]
     rw [e] at h;exact (mR.look hf ok.2 h).imp_right fun z=>wCq _ z
theorem cQ:∀ (names:List (Str×NameKind)) (n:Nat) (acc:List (Str×Addr)),cellsFrom n names acc=cellsFrom n names [] ++ acc
 | [],_,_=>rfl
 | (y,k) :: r,n,acc=>by
   unfold cellsFrom;split
   · rw [cQ r (n + 1) ((y,n) :: acc),cQ r (n + 1) [(y,n)],List.append_assoc]; rfl
   · exact cQ r n acc
theorem dL:∀ {names:List (Str×NameKind)} {n:Nat} {acc:List (Str×Addr)} {x:Str} {c:Addr},(x,c)∈cellsFrom n names acc→(x,c)∈acc∨((x,NameKind.cell)∈names∧n≤c)
 | [],_,_,_,_,h=>.inl h
 | (y, k) :: r,n,acc,x,c,h=>by
   unfold cellsFrom at h;split at h
   · rename_i hk;rcases dL h with z | ⟨z,l⟩
     · rcases List.mem_cons.mp z with e | z
       · cases e; rw [beq_iff_eq.mp hk]; exact .inr ⟨wDq ..,Nat.le_refl _⟩
       · exact .inl z
     · exact .inr ⟨wCq _ z,Nat.le_of_succ_le l⟩
   · rcases dL h with z | ⟨z,l⟩
     · exact .inl z
     · exact .inr ⟨wCq _ z,l⟩
theorem gY:∀ {names:List (Str×NameKind)} {n:Nat} {acc:List (Str×Addr)} {x:Str},(x,NameKind.cell)∈names∨(∃ c,(x,c)∈acc)→∃ c,(x,c)∈cellsFrom n names acc
 | [],_,_,_,h=>by
   rcases h with h | h
   · cases h
   · exact h
 | (y, k) :: r,n,acc,x,h=>by
   unfold cellsFrom;split
   · refine gY ?_;rcases h with h | ⟨c,h⟩
     · rcases List.mem_cons.mp h with e | h
       · cases e; exact .inr ⟨n,wDq ..⟩
       · exact .inl h
     · exact .inr ⟨c,wCq _ h⟩
   · rename_i hk;refine gY (h.imp_left fun h=>?_);rcases List.mem_cons.mp h with e | h
     · cases e; exact absurd rfl hk
     · exact h
theorem FP {l:List (Str×Addr)} {x:Str}:(∃ c,(x,c)∈l)→∃ c,l.lookup x=some c:=by
 induction l with
 | nil=>rintro ⟨_,h⟩; cases h
 | cons p r ih =>
   rintro ⟨c,h⟩;rw [List.lookup_cons];cases hb:x == p.1 with
   | true=>exact ⟨p.2,rfl⟩
   | false =>
     rcases List.mem_cons.mp h with e | h
     · rw [←e] at hb; rw [beq_self_eq_true] at hb; cases hb
     · exact ih ⟨c,h⟩
theorem eC {n:Nat} {names:List (Str×NameKind)} {cl:List (Str×Addr)} {x:Str} {c:Addr} (h:(cellsFrom n names cl).lookup x=some c):((x,c)∈cellsFrom n names []∧(x,NameKind.cell)∈names∧n≤c)∨cl.lookup x=some c:=by
 rw [cQ,List.lookup_append] at h;cases e:(cellsFrom n names []).lookup x with
 | none=>rw [e] at h; exact .inr h
 | some d =>
   rw [e] at h; cases h;have m:=PySem.mem_of_lookup e;rcases dL m with z | z
   · cases z
   · exact .inl ⟨m,z⟩
theorem pQ {n:Nat} {names:List (Str×NameKind)} {cl:List (Str×Addr)} {x:Str} {c:Addr} (hx:(x,NameKind.cell)∉ names) (h:cl.lookup x=some c):(cellsFrom n names cl).lookup x=some c:=by
 rw [cQ,List.lookup_append];cases e:(cellsFrom n names []).lookup x with
 | none=>exact h
 | some d =>
   rcases dL (PySem.mem_of_lookup e) with z | z
   · cases z
   · exact absurd z.1 hx
theorem yG {n:Nat} {names:List (Str×NameKind)} {cl:List (Str×Addr)} {x:Str} (h:(x,NameKind.cell)∈names):∃ c,(cellsFrom n names cl).lookup x=some c∧n≤c:=by
 obtain ⟨c,e⟩:=FP (gY (n:=n) (acc:=[]) (.inl h));refine ⟨c,by rw [cQ,List.lookup_append,e]; rfl, ?_⟩;rcases dL (PySem.mem_of_lookup e) with z | z
 · cases z
 · exact z.2
noncomputable def aJt (scope:Scope) (x:Str):Bool:=scope.names.contains (x,NameKind.cell)
theorem EM {M:Model} {A:Around} {E:Value→Shared→Prop} {s:Shared} {scope:Scope} {globals:Addr} {cl:List (Str×Addr)} {qual:Str} {env:Env} {Q:Env→Shared→Prop}
   (hQ:Q (newEnv scope s.heap.objs.size globals (cellsFrom (s.heap.objs.size + 1) scope.names cl) qual none .none (some env) builtinsNs) { s with heap:=pushCells (s.heap.push { cls:=.type "dict",data:=.dict #[] }) scope.names }) :
   wpAny M A (newFunctionEnv scope globals cl [] qual none .none (some env)) Q E s:=by
 simp only [newFunctionEnv,Option.isSome_some,if_true];refine wAq (wpAny_alloc ?_);refine wAq (wpAny_layCells _ (fun name kind cells=>by cases hkc:kind == NameKind.cell <;> simp [hkc]) _ _ _ _ ?_);rw [show ({ s with heap:=s.heap.push { cls:=.type "dict",data:=.dict #[] } }:Shared).heap.objs.size=s.heap.objs.size + 1 from Heap.size_push ..];rw [List.forIn_nil];exact wAq (wBq (wBq hQ))
noncomputable def cxC (X:Cx) (N:List Str) (scope:Scope) (cl:List (Str×Addr)) (C:Addr) (s₀:Shared) (H₀:Hp) (ex:List Addr):Cx :=
 { X with N:=N,s₀:=s₀,H₀:=H₀,env:=compEnvC scope (cellsFrom (C + 1) scope.names cl) C X.env,outer:=X.stack,stack:=X.stack,ex:=ex,fn:=aJt scope,pn:=[],xe:=NoE }
noncomputable def WB (js:List (Option Nat)) (σ:St):St:=js.map fun o=>match o with | none=>none | some j=>(σ[j]?).getD none
noncomputable def gA (X:Cx) (scope:Scope) (cl:List (Str×Addr)):List Str→List (Option Nat)→Prop
 | [],[]=>True
 | _ :: N,none :: J=>gA X scope cl N J
 | x :: N,some j :: J=>(X.N[j]? =some x∧X.env.kindOf x=some .cell∧(relabel scope X.env).names.lookup x=some .cell∧∃ c,cl.lookup x=some c∧X.env.cells.lookup x=some c)∧gA X scope cl N J
 | _,_=>False
theorem gA.len {X:Cx} {scope:Scope} {cl:List (Str×Addr)}:∀ {N:List Str} {J:List (Option Nat)},gA X scope cl N J→N.length=J.length
 | [],[],_=>rfl
 | _ :: _,none :: _,h=>congrArg (· + 1) (gA.len (show gA X scope cl _ _ from h))
 | _ :: _,some _ :: _,h=>congrArg (· + 1) (gA.len h.2)
 | [],_ :: _,h=>h.elim
 | _ :: _,[],h=>h.elim
theorem gA.at {X:Cx} {scope:Scope} {cl:List (Str×Addr)}:∀ {N:List Str} {J:List (Option Nat)} {i:Nat} {x:Str} {σ:St} {v:V},gA X scope cl N J→N[i]? =some x→(WB J σ)[i]? =some (some v)→
   ∃ (j:Nat),σ[j]? =some (some v)∧X.N[j]? =some x∧X.env.kindOf x=some .cell∧(relabel scope X.env).names.lookup x=some .cell∧∃ c,cl.lookup x=some c∧X.env.cells.lookup x=some c
 | [],[],_,_,_,_,_,h,_=>by cases h
 | y :: N,none :: J,i,x,σ,v,ok,h,q=>by
   cases i with
   | zero=>cases q
   | succ i=>exact gA.at (show gA X scope cl N J from ok) h q
 | y :: N,some j :: J,i,x,σ,v,ok,h,q=>by
   cases i with
   | zero =>
     cases h;refine ⟨j, ?_,ok.1⟩;have q':some ((σ[j]?).getD none)=some (some v):=q;have q2:=Option.some.inj q';cases e:σ[j]? with
     | none=>rw [e] at q2; cases q2
     | some o=>rw [e] at q2; exact congrArg some q2
   | succ i=>exact gA.at ok.2 h q
 | [],_ :: _,_,_,_,_,ok,_,_=>ok.elim
 | _ :: _,[],_,_,_,_,ok,_,_=>ok.elim
section
variable {X:Cx} {pins:List (Addr×Obj)} {σ:St} {H:Hp} {s:Shared} {N:List Str} {scope:Scope} {cl:List (Str×Addr)} {js:List (Option Nat)} {fp:List Addr}
structure jD (X:Cx) (N:List Str) (scope:Scope) (cl:List (Str×Addr)) (js:List (Option Nat)):Prop where
 clos:closureFor scope X.env=pure cl
 own:∀ x,(x,NameKind.cell)∈scope.names→cl.lookup x=none
 kind:scope.kind= .function
 names:∀ y∈scope.names,y.2= .local→scope.names.lookup y.1=some .local
 free:mR cl X.env.cells scope.names
 cls:xB X.env.cells cl
 cap:gA X scope cl N js
theorem EK (S:jD X N scope cl js) (I:Inv X pins σ H s) (hf:∀ b∈fp,xD X pins H b) (he:∀ b∈fp,b < s.heap.objs.size) {h':Heap} {m:Str→Option Value} {t':Nat} (hn:h'.Ns s.heap.objs.size m)
   (k:∀ b o,s.heap.get? b=some o→h'.get? b=some o) (hc:CellsOk h' (s.heap.objs.size + 1) (cellsFrom (s.heap.objs.size + 1) scope.names [])):Inv (cxC X N scope cl s.heap.objs.size s H fp) [] (WB js σ) H { s with heap:=h',toks:=t' }:=by
 have hcl:∀ x c,cl.lookup x=some c→X.env.cells.lookup x=some c:=fun x c h=>S.cls.look h;have lo:∀ x c,cl.lookup x=some c→c < s.heap.objs.size:=fun x c h=>let ⟨_,q⟩:=I.cell x c (hcl x c h); q.lt
 refine ⟨⟨I.mod, ?_,I.ok.glob,I.ok.blt,Nat.le_refl _,fun x y c a b=>?_,fun x hx=>?_,fun x c z e=>?_,I.ok.hd,I.ok.frames,.inl rfl,fun b hb=>⟨Nat.ne_of_lt (he b hb),fun x c e=>?_⟩,
   I.bs,Nat.le_trans I.ok.bsz I.sz,fun b o e hb=>?_,fun b hb z=>?_,I.stack,I.stkFree⟩,rfl,I.bare,⟨fun b o q _ _ _=>k b o q,fun b o q _ _ _=>⟨o.slots,k b o q⟩,fun _ _ _ n _=>n,fun b o q _=>⟨o,k b o q⟩,fun _ _ q=>q,fun _ _ _ q=>q,fun b ps q=>⟨#[],by rw [show H b=_ from q]; simp⟩⟩, ?_,fun x c e=>?_, ?_,fun x c e=>?_,(fun p hp=>nomatch hp),I.hok.kept k, ?_⟩
 · exact S.kind
 · rcases eC a with ⟨m1,_,l1⟩ | a1 <;> rcases eC b with ⟨m2,_,l2⟩ | b1
   · exact name_of_addr hc.apart m1 m2
   · exact absurd (wFq (lo y c b1) (Nat.le_of_succ_le l1)) (Nat.lt_irrefl _)
   · exact absurd (wFq (lo x c a1) (Nat.le_of_succ_le l2)) (Nat.lt_irrefl _)
   · exact I.ok.inj x y c (hcl x c a1) (hcl y c b1)
 · have q:=mR.look (f:=fun y=>if (y.2 == .free && X.env.scope.kind == .function && X.env.kindOf y.1 == some .cell) then (y.1,.cell) else (y.1,y.2)) (fun y=>by
     by_cases hc:(y.2 == .free && X.env.scope.kind == .function && X.env.kindOf y.1 == some .cell)=true
     · rw [if_pos hc];refine ⟨rfl,fun _=>.inr ?_⟩;rw [Bool.and_eq_true,Bool.and_eq_true] at hc;exact beq_iff_eq.mp hc.1.1
     · rw [if_neg hc];exact ⟨rfl,fun z=>z⟩) S.free hx
   rcases q with ⟨c,q⟩ | q
   · refine ⟨c,pQ (fun z=>?_) q⟩;rw [S.own x z] at q; cases q
   · obtain ⟨c,e,_⟩:=yG (n:=s.heap.objs.size + 1) (cl:=cl) q;exact ⟨c,e⟩
 · have z':(x,NameKind.cell)∈scope.names:=List.contains_iff_mem.mp z;rcases eC e with ⟨_,_,l⟩ | q
   · exact Nat.le_of_succ_le l
   · rw [S.own x z'] at q; cases q
 · rcases eC e with ⟨_,_,l⟩ | q
   · exact Nat.ne_of_gt (wFq (he b hb) (Nat.le_of_succ_le l))
   · exact (hf b hb).2.2.2.2.1 x c (hcl x c q)
 · obtain ⟨_,n2⟩:=I.bs b o e;rcases (hf b hb).2.2.2.1 with z | z
   · exact I.ok.noex b o e z
   · exact absurd (wFq (Heap.lt_size (I.ok.bs b o e).1) z) (Nat.lt_irrefl _)
 · obtain ⟨_,f1,f2,_⟩:=hf b hb;exact (List.mem_cons.mp (I.stkSub b z)).elim f1 f2
 · obtain ⟨mX,hnX,hl⟩:=I.loc;refine ⟨m,hn,fun i x v e1 e2 e3=>?_⟩;obtain ⟨j,q1,q2,q3,q4,c,q5,q6⟩:=S.cap.at e1 e2;obtain ⟨u,r,l⟩:=hl j x v q2 q1 (.inr (.inl q3));refine ⟨u,r,.inr ⟨.inl q4,c,pQ (fun z=>?_) q5, ?_⟩⟩
   · rw [S.own x z] at q5; cases q5
   rcases l with ⟨l,_⟩ | ⟨_,c',e',z⟩
   · rw [q3] at l; cases l
   · rw [q6] at e'; cases e';obtain ⟨o,ho,hd⟩:=z;exact ⟨o,k _ _ ho,hd⟩
 · rcases eC e with ⟨m1,_,_⟩ | q
   · exact ⟨none,(hc.empty x c m1).1⟩
   · obtain ⟨v,o,ho,hd⟩:=I.cell x c (hcl x c q);exact ⟨v,o,k _ _ ho,hd⟩
 · exact I.hok.fresh (Nat.le_refl _)
 · rcases eC e with ⟨_,_,l⟩ | q
   · exact I.hok.fresh (Nat.le_of_succ_le l)
   · exact I.freeC x c (hcl x c q)
 · show (js.map _).length=N.length;rw [List.length_map]; exact S.cap.len.symm
end
noncomputable def PTs (X:Cx) (ifs:List Expr) (t:TT):Prop :=
 ∀ (pins:List (Addr×Obj)) (s:Shared) (σ:St) (H:Hp) (Q:Bool→Hp→Prop),Inv X pins σ H s→t σ H Q→
   wpAny (model X.prog X.w) X.A (forIn ifs true fun c r=>if r=true then do let ok ←isTrue c X.env (eval c X.env); pure (ForInStep.yield ok) else pure (ForInStep.yield r)) (TP X pins σ Q) X.xe s
theorem ZX {X:Cx}:PTs X [] (fun _ H Q=>Q true H):=fun pins s σ H Q I h=>wpAny_tests_nil ⟨H,I,h⟩
theorem aA6 {X:Cx} {c:Expr} {t:TT} (h:PT X c t):PTs X [c] t:=fun pins s σ H Q I q=>wpAny_tests_one (h pins s σ H Q I q)
def SZ (J:It) (D:Addr) (g:TG) (ts:TT) (te:TE) (Q:VK) (σ:St) (H:Hp):Prop:= ∃ W:Nat→Nat→St→Hp→Prop,(∃ m,W 0 m σ H)∧∀ i m σ' H',W i m σ' H'→
 (J.stop i H'∧Q (.ref D) H')∨(J.go i H'∧∃ N:St→Hp→Prop,(∀ σ2 H2,N σ2 H2→∃ m',m' < m∧W (i + 1) m' σ2 H2)∧∀ x H2,J.yld i H' x H2→g x σ' H2 fun σ3 H3=>ts σ3 H3 fun ok H4=>if ok=true then te σ3 H4 fun y H5 =>
   ∃ ys,H5 D=some (.lst ys)∧ys.length < sizeLine∧N σ3 (upd H5 D (.lst (ys ++ [y]))) else N σ3 H4)
def RM (wi:TI) (g:TG) (ts:TT) (te:TE) (js:List (Option Nat)):TE:=fun σ H Q=>wi σ H fun J H1=>∀ D,H1 D=none→SZ J D g ts te Q (WB js σ) (upd H1 D (.lst []))
section
variable {X:Cx} {pins:List (Addr×Obj)} {σ:St} {H:Hp} {s:Shared} {N:List Str} {scope:Scope} {cl:List (Str×Addr)} {js:List (Option Nat)} {fp:List Addr} {tg elt iter:Expr} {ifs:List Expr} {pos:Pos} {J:It} {it:Addr} {tn:Nat→Heap→Prop}
 {g:TG} {ts:TT} {te:TE}
structure aDb (X:Cx) (pins:List (Addr×Obj)) (σ:St) (Q:VK) (D C:Addr) (s':Shared):Prop where
 ex:∃ H' m,Inv X pins σ H' s'∧s'.heap.Ns C m∧H' C=none∧C≠X.env.locals∧C∉ X.fs∧X.s₀.heap.objs.size≤C∧(∀ x c,X.env.cells.lookup x=some c→c≠C)∧(∀ p∈X.pn ++ pins,p.1≠C)∧Q (.ref D) H'
theorem EQ (S:jD X N scope cl js) (hc:X.calm=true) (I:Inv X pins σ H s) (T:HZ X.prog X.w X.K tg J fp it tn) (st:tn 0 s.heap) (hf:∀ b∈fp,xD X pins H b)
   (hg:∀ C s₀ H₀ ex,PG (cxC X N scope cl C s₀ H₀ ex) tg g) (ht:∀ C s₀ H₀ ex,PTs (cxC X N scope cl C s₀ H₀ ex) ifs ts) (he:∀ C s₀ H₀ ex,PE (cxC X N scope cl C s₀ H₀ ex) elt te) {Q:VK}
   (q:∀ D,H D=none→SZ J D g ts te Q (WB js σ) (upd H D (.lst [])))
   {RR:Value→Addr→Result→Shared→Prop} (hR:∀ D C s',aDb X pins σ Q D C s'→RR (.ref D) C (.ok .next) s') {E:Value→Shared→Prop} :
   wpAny (model X.prog X.w) X.A (newList []) (fun acc s₃=>wpAny (model X.prog X.w) X.A (newFunctionEnv scope X.env.globals cl [] X.env.qual none .none (some X.env)) (fun cenv s₄ =>
     codeAny (model X.prog X.w) X.A (.compStart (.ListComp elt [⟨tg,iter,ifs,0⟩] scope pos) 0 (.ref it) acc { cenv with scope:=relabel scope X.env }) (RR acc cenv.locals) s₄) E s₃) E s:=by
 refine wpAny_newObj_type (EM ?_);have fD:H s.heap.objs.size=none:=I.hok.fresh (Nat.le_refl _);have I3:Inv X pins σ (upd H s.heap.objs.size (.lst [])) { s with heap:=s.heap.push { cls:=.type "list",dict:=none,data:=.seq ([]:List Value).toArray },toks:=s.toks } :=
   I.laid (t':=s.toks) (fun b u e=>wEq _ e) (Nat.le_refl _) ⟨Nat.zero_le _,[],0,.nil,wGq _ rfl⟩
 have lt:∀ b∈fp,b < s.heap.objs.size:=fun b hb=>let ⟨o,e,_⟩:=T.obj _ _ st b hb; Heap.lt_size e
 have hf3:∀ b∈fp,xD X pins (upd H s.heap.objs.size (.lst [])) b:=fun b hb=>⟨by rw [aI (Nat.ne_of_lt (lt b hb))]; exact (hf b hb).1,(hf b hb).2⟩;dsimp only;generalize hH2:s.heap.push { cls:=.type "list",dict:=none,data:=.seq ([]:List Value).toArray }=H2 at I3 ⊢;have hns₁:(pushCells (H2.push { cls:=.type "dict",data:=.dict #[] }) scope.names).Ns H2.objs.size (fun _=>none):=(Heap.Ns.new H2 (.type "dict")).keeps (pushCells_keeps _ _);have hco:CellsOk (pushCells (H2.push { cls:=.type "dict",data:=.dict #[] }) scope.names) (H2.objs.size + 1) (cellsFrom (H2.objs.size + 1) scope.names []):=by
   have ok:=cellsFrom_ok scope.names (H2.push { cls:=.type "dict",data:=.dict #[] }) (H2.objs.size + 1) [] ⟨fun _ _ hm=>(nomatch hm),List.Pairwise.nil⟩ (by rw [Heap.size_push]; exact Nat.le_refl _);rw [Heap.size_push] at ok;exact ok
 have keep:∀ b o,H2.get? b=some o→(pushCells (H2.push { cls:=.type "dict",data:=.dict #[] }) scope.names).get? b=some o:=fun b o e=>pushCells_keeps _ _ b o (wEq _ e);generalize pushCells (H2.push { cls:=.type "dict",data:=.dict #[] }) scope.names=h₁ at hns₁ hco keep ⊢;have hC:H2.objs.size=s.heap.objs.size + 1:=by rw [←hH2,Heap.size_push]
 have Ic:=EK (t':=s.toks) S I3 hf3 (fun b hb=>by show b < H2.objs.size; rw [hC]; exact Nat.lt_succ_of_lt (lt b hb)) hns₁ keep hco;obtain ⟨W,⟨m0,w0⟩,turn⟩:=q _ fD;have stat:∀ {H':Hp},(∀ b∈fp,H' b=none)→∀ b∈fp,xD (cxC X N scope cl H2.objs.size { s with heap:=H2,toks:=s.toks } (upd H s.heap.objs.size (.lst [])) fp) [] H' b:=fun hn b hb =>
   ⟨hn b hb,Nat.ne_of_lt (by rw [hC]; exact Nat.lt_succ_of_lt (lt b hb)),fun z=>(List.mem_cons.mp (I.stkSub b z)).elim (hf b hb).2.1 (hf b hb).2.2.1,.inl hb,fun x c e=>(eC e).elim (fun z=>Nat.ne_of_gt (wFq (lt b hb) (Nat.le_trans (by rw [hC]; omega) z.2.2))) fun q=>(hf b hb).2.2.2.2.1 x c (S.cls.look q),(fun p hp=>nomatch hp)⟩
 have st1:tn 0 h₁:=T.keep _ _ _ st fun b hb o e=>keep b o (by rw [←hH2]; exact wEq _ e);have loop:codeAny (model X.prog X.w) X.A (.compLoop (.ListComp elt [⟨tg,iter,ifs,0⟩] scope pos) 0 (.ref it) (.ref s.heap.objs.size) (compEnvC scope (cellsFrom (H2.objs.size + 1) scope.names cl) H2.objs.size X.env)) (RR (.ref s.heap.objs.size) H2.objs.size)
     { s with heap:=h₁,toks:=s.toks }:=by
   refine OW (fun n s'=>∃ i σ' H',Inv (cxC X N scope cl H2.objs.size { s with heap:=H2,toks:=s.toks } (upd H s.heap.objs.size (.lst [])) fp) [] σ' H' s'∧tn i s'.heap∧(∀ b∈fp,H' b=none)∧W i n σ' H') ?_ m0
     ⟨0,_,_,Ic,st1,fun b hb=>(hf3 b hb).1,w0⟩
   rintro n s3 ⟨i,σ3,H3,I3',st3,fr3,w3⟩;rcases turn i n σ3 H3 w3 with ⟨stop,qn⟩ | ⟨go,Nx,hN,step⟩
   · refine thn (T.done (cxC X N scope cl H2.objs.size { s with heap:=H2,toks:=s.toks } (upd H s.heap.objs.size (.lst [])) fp) rfl rfl rfl hc i [] s3 σ3 H3 NoE I3' (stat fr3) st3 stop) fun r s4 zz=>?_;obtain ⟨hr,I4⟩:=zz;subst hr;obtain ⟨mC,hnC,_⟩:=I4.loc;have IX:Inv X pins σ H3 s4:=I3.call' (ch:=fp) I4.os I4.base I4.hok I4.bare fun b hb=>by
       obtain ⟨_,f1,_,f3,f4,f5⟩:=hf3 b hb;exact ⟨f3,f1,f4,f5⟩
     have up:s.heap.objs.size≤H2.objs.size:=by rw [hC]; exact Nat.le_succ _
     have fp0:=I.fpOk (H':=H3) up I4.free;exact hR _ _ s4 ⟨⟨H3,mC,IX,hnC,I4.free,fp0.2.1,fp0.2.2.1,Nat.le_trans I.sz up,fp0.2.2.2.2.1,fp0.2.2.2.2.2,qn⟩⟩
   · refine thn (T.item (cxC X N scope cl H2.objs.size { s with heap:=H2,toks:=s.toks } (upd H s.heap.objs.size (.lst [])) fp) rfl rfl rfl hc i [] s3 σ3 H3 NoE I3' (stat fr3) st3 go) fun r s4 zz=>?_;obtain ⟨u,hr,h4⟩:=zz;subst hr;refine thn h4 fun _ s5 zz=>?_;obtain ⟨x,H5,I5,r5,y5,st5,fr5⟩:=zz;have I5':=I5.pinned (stat fr5) (T.obj _ _ st5);refine thn (hg _ _ _ _ _ s5 σ3 H5 x u _ I5' r5 (step x H5 y5)) fun _ s6 zz=>?_;obtain ⟨σ6,H6,I6,q6⟩:=zz;refine thn (ht _ _ _ _ _ s6 σ6 H6 _ I6 q6) fun ok s7 zz=>?_;obtain ⟨H7,I7,q7⟩:=zz;have again:∀ {σ8:St} {H8:Hp} {s8:Shared},Inv (cxC X N scope cl H2.objs.size { s with heap:=H2,toks:=s.toks } (upd H s.heap.objs.size (.lst [])) fp) ([] ++ vL fp s5.heap) σ8 H8 s8→Nx σ8 H8→
         ∃ m,m < n∧∃ i σ' H',Inv (cxC X N scope cl H2.objs.size { s with heap:=H2,toks:=s.toks } (upd H s.heap.objs.size (.lst [])) fp) [] σ' H' s8∧tn i s8.heap∧(∀ b∈fp,H' b=none)∧W i m σ' H':=fun {σ8 H8 s8} I8 n8=>by
       obtain ⟨m',hm,w8⟩:=hN σ8 H8 n8;refine ⟨m',hm,i + 1,σ8,H8,I8.unpinned,T.keep _ _ _ st5 fun b hb o e=>(I8.pin (b,o) (List.mem_append_right _ (List.mem_append_right _ (jG hb e)))).1,fun b hb=>?_,w8⟩;obtain ⟨o,e,d⟩:=T.obj _ _ st5 b hb;exact (I8.pin (b,o) (List.mem_append_right _ (List.mem_append_right _ (jG hb e)))).2.1
     cases ok with
     | false=>exact again I7 q7
     | true =>
       refine thn (he _ _ _ _ _ s7 σ6 H7 _ I7 q7) fun v s8 zz=>?_;obtain ⟨y,H8,I8,r8,ys,e8,l8,q8⟩:=zz;exact thn (yT _ s8 σ6 H8 (.ref s.heap.objs.size) [y] (.ref s.heap.objs.size) [v] (fun _ H9=>Nx σ6 H9) I8 rfl (.cons r8 .nil) ⟨_,ys,y,rfl,rfl,e8,l8,q8⟩) <|by rintro _ s9 ⟨_,H9,I9,_,q9⟩;exact again I9 q9
 exact codeAny_compStart_list loop (T.self _ 0 _ _ _ st1 loop)
theorem aBD {wi:TI} (S:jD X N scope cl js) (hc:X.calm=true) (hi:PI X tg iter wi) (hg:∀ C s₀ H₀ ex,PG (cxC X N scope cl C s₀ H₀ ex) tg g) (ht:∀ C s₀ H₀ ex,PTs (cxC X N scope cl C s₀ H₀ ex) ifs ts) (he:∀ C s₀ H₀ ex,PE (cxC X N scope cl C s₀ H₀ ex) elt te)
   (hs:∀ x,foldedSetIterable iter X.env x=pure x:=by intro _; rfl):PE X (.ListComp elt [⟨tg,iter,ifs,0⟩] scope pos) (RM wi g ts te js):=by
 intro pins s σ H Q I h;rw [eval_ListComp];refine wpAny_comprehension_free (use:=none) (g:=⟨tg,iter,ifs,0⟩) (gs:=[]) rfl hs S.clos S.kind S.names (thn (hi pins s σ H _ I h) fun v s1 h1=>thn h1 fun itv s2 h2=>?_);obtain ⟨it,fp,tn,J,H2,e,I2,T,st2,f2,q⟩:=h2;subst e;refine EQ (RR:=fun acc C=>compPost (model X.prog X.w) X.A X.xe none (EP X pins σ Q) acc C) S hc I2 T st2 f2 hg ht he q ?_;rintro D C s' ⟨H',m,I',hn,f0,f1,_,f3,f4,f5,q'⟩;exact ⟨m,hn,fun h' sb=>⟨.ref D,H',I'.turned (t':=s'.toks) (fun b o hb e=>(sb.2 b hb).trans e) f0 f1 (.inr f3) f4 f5,rfl,q'⟩⟩
theorem ZQ {wi:TI} {i:Nat} {y:Str} {py spos:Pos} (S:jD X N scope cl js) (hc:X.calm=true) (hN:X.N.Nodup) (hi':X.N[i]? =some y) (hy:X.env.scope.names.lookup y=some .local) (hi:PI X tg iter wi)
   (hg:∀ C s₀ H₀ ex,PG (cxC X N scope cl C s₀ H₀ ex) tg g) (ht:∀ C s₀ H₀ ex,PTs (cxC X N scope cl C s₀ H₀ ex) ifs ts) (he:∀ C s₀ H₀ ex,PE (cxC X N scope cl C s₀ H₀ ex) elt te)
   (hsw:swapsWith (.ListComp elt [⟨tg,iter,ifs,0⟩] scope pos) (some (.Name y py)) spos.line X.env=pure true:=by rfl)
   (hs:∀ x,foldedSetIterable iter X.env x=pure x:=by intro _; rfl):PS X (.Assign [.Name y py] (.ListComp elt [⟨tg,iter,ifs,0⟩] scope pos) spos) (aEK (RM wi g ts te js) (TW i)):=by
 intro pins s σ H D' I h;rw [exec_Assign_Name_used _ _ _ _ hsw];refine wAq (wpAny_standAt (wAq ?_));show wpAny _ X.A (do let _ ←comprehension (.ListComp elt [⟨tg,iter,ifs,0⟩] scope pos) scope X.env _ (newList []) false (eval iter X.env) (some (assign (.Name y py) X.env))) _ _ s;refine wAq (wpAny_mono (wpAny_comprehension_free (use:=some (assign (.Name y py) X.env)) (g:=⟨tg,iter,ifs,0⟩) (gs:=[]) (Q:=fun _ s'=>SP X pins D' .next s') rfl hs S.clos S.kind S.names
   (thn (hi pins s σ H _ I h) fun v s1 h1=>thn h1 fun itv s2 h2=>?_)) (fun _ s' hq=>wBq (wBq hq)) fun _ _ e=>e)
 obtain ⟨it,fp,tn,J,H2,e,I2,T,st2,f2,q⟩:=h2;subst e;refine EQ (Q:=fun x H1=>TW i x σ H1 D'.nx) (RR:=fun acc C=>compPost (model X.prog X.w) X.A X.xe (some (assign (.Name y py) X.env)) (fun _ s'=>SP X pins D' .next s') acc C) S hc I2 T st2 f2 hg ht he q ?_;rintro D C s' ⟨H',m,I',hn,f0,f1,f2',f3,f4,f5,q'⟩;obtain ⟨oC,es,ep,hoC,hdC,hrC⟩:=hn;have Ip:Inv X (pins ++ [(C,oC)]) σ H' s':=I'.pins_of fun p hp=>(List.mem_append.mp hp).elim (fun z=>I'.pin p (List.mem_append_right _ z)) fun z=>by
   rw [List.mem_singleton.mp z];exact ⟨hoC,f0,f1,f2',fun v z=>by rw [hdC] at z; cases z⟩
 show wpAny _ X.A (assign (.Name y py) X.env (.ref D)) _ _ _;refine thn (LN (i:=i) hN hi' (.inl hy) (.inr hy) _ s' σ H' (.ref D) (.ref D) _ Ip rfl q') fun _ s'' zz=>?_;obtain ⟨σ',H'',I'',q''⟩:=zz;have pc:=I''.pin (C,oC) (List.mem_append_right _ (List.mem_append_right _ (List.mem_singleton.mpr rfl)));refine ⟨m,⟨oC,es,ep,pc.1,hdC,hrC⟩,fun h' sb=>⟨σ',H'', ?_,q''⟩⟩;exact (I''.unpinned).turned (t':=s''.toks) (fun b o hb e=>(sb.2 b hb).trans e) pc.2.1 f1 (.inr f3) f4 f5
end
mutual
inductive RdD (H:Hp):V→PyData→Prop
 | non:RdD H .non .none
 | bl (b:Bool):RdD H (.bl b) (.bool b)
 | int (i:Int):RdD H (.int i) (.int i)
 | str (x:Str):RdD H (.str x) (.str x)
 | tup {a:Addr} {xs:List V} {ds:List PyData}:H a=some (.tup xs)→RdDs H xs ds→RdD H (.ref a) (.tuple ds)
 | lst {a:Addr} {xs:List V} {ds:List PyData}:H a=some (.lst xs)→RdDs H xs ds→RdD H (.ref a) (.list ds)
inductive RdDs (H:Hp):List V→List PyData→Prop
 | nil:RdDs H [] []
 | cons {x:V} {xs:List V} {d:PyData} {ds:List PyData}:RdD H x d→RdDs H xs ds→RdDs H (x :: xs) (d :: ds)
end
section
variable {P:Program} {w:World} {H H':Hp} {h:Heap}
mutual
theorem RdD.reads (ok:HOk P w H h):∀ {x:V} {d:PyData} {u:Value},RdD H x d→aN x u→∃ as,Reads h u d as
 | _,_,_,.non,r=>⟨[],by cases r; exact .none⟩
 | _,_,_,.bl b,r=>⟨[],by cases r; exact .bool b⟩
 | _,_,_,.int i,r=>⟨[],by obtain ⟨t,rfl⟩:=r; exact .int i t⟩
 | _,_,_,.str x,r=>⟨[],by obtain ⟨t,rfl⟩:=r; exact .str x t⟩
 | _,_,_,.tup e rs,r=>by
   cases r;obtain ⟨_,its,rv,⟨o,ho,hc,n,hd⟩,_⟩:=ok _ _ e;obtain ⟨as,q⟩:=RdDs.reads ok rs rv;exact ⟨as,.tuple ho hc hd (by simpa using q)⟩
 | _,_,_,.lst e rs,r=>by
   cases r;obtain ⟨_,its,n,rv,ho⟩:=ok _ _ e;obtain ⟨as,q⟩:=RdDs.reads ok rs rv;exact ⟨_ :: as,.list ho rfl rfl (by simpa using q)⟩
theorem RdDs.reads (ok:HOk P w H h):∀ {xs:List V} {ds:List PyData} {us:List Value},RdDs H xs ds→aJ xs us→∃ as,ReadsAll h us ds as
 | _,_,_,.nil,r=>⟨[],by cases r; exact .nil⟩
 | _, _,_,.cons a b,r=>by
   cases r with
   | cons r1 r2 =>
     obtain ⟨as,q⟩:=RdD.reads ok a r1;obtain ⟨bs,q2⟩:=RdDs.reads ok b r2;exact ⟨as ++ bs,.cons q q2⟩
end
mutual
theorem RdD.same (s:aM H H'):∀ {x:V} {d:PyData},RdD H x d→RdD H' x d
 | _,_,.non=>.non
 | _,_,.bl b=>.bl b
 | _,_,.int i=>.int i
 | _,_,.str x=>.str x
 | _,_,.tup e rs=>.tup (s _ _ e) (RdDs.same s rs)
 | _,_,.lst e rs=>.lst (s _ _ e) (RdDs.same s rs)
theorem RdDs.same (s:aM H H'):∀ {xs:List V} {ds:List PyData},RdDs H xs ds→RdDs H' xs ds
 | _,_,.nil=>.nil
 | _,_,.cons a b=>.cons (RdD.same s a) (RdDs.same s b)
end
end
section
variable {X:Cx}
end
section
variable {X:Cx} {CX:CXT} {k:Nat} {f C:Addr} {fd:FuncData} {ps ks:List Str} {sp:Sp} {E:XK} {pins:List (Addr×Obj)} {σ:St} {H:Hp} {s:Shared} {Q:VK} {us:List Value} {vs:List V} {dvs:List V} {ds:List Value}
theorem wY {A':Around} (F:bN X.prog X.w X.K X.mg X.base CX k f fd ps sp) (hr:bF k A') (e0:rK X.prog X.w X.K X.mg X.base A' X.stack s H) (hb:aH X.K fd ps ds) (hd:aJ dvs ds) (hx:jI CX X E)
   (I:Inv X pins σ H s) (r:aJ vs us) (h:sp (vs ++ dvs) H Q E):wpAny (model X.prog X.w) A' (call (.ref f) us) (EP X pins σ Q) X.xe s:=by
 have r2:aJ (vs ++ dvs) (us ++ ds):=r.append hd;have hl:(us ++ ds).length=ps.length:=by rw [←r2.length]; exact F.len _ _ _ _ h
 refine wpAny_call (codeAny_mono (F.run A' X.stack s H ⟨us,[]⟩ (us ++ ds) (vs ++ dvs) Q E hr e0 (hb s us I.kIn hl) r2 h) fun r s' hq=>?_);cases r with
 | error e=>exact hx pins σ H s e s' I hq
 | ok fl =>
   cases fl with
   | ret u=>exact I.after hq
   | next=>exact False.elim hq
   | brk=>exact False.elim hq
   | cont=>exact False.elim hq
theorem bF.in2 {k:Nat} {A:Around} (r:bF (k + 2) A):bF k A.in1.in1:=(bF.in1 (bF.in1 r))
end
structure TU (K:W.Frag) (C:Addr):Prop where
 cl:Cls K C
 ha:W.findIn K (.ref C) "__class__"=some (some (.builtin "object.__class__"))
 hn:W.specialIn K (.builtin "object.__class__") "__get__"=some (some (.builtin "getset_descriptor.__get__"))
 htk:W.takesIn K (.builtin "object.__class__")=some true
 hm:W.mroIn K C (.type "object")=some true
theorem lF {X:Cx} {pins:List (Addr×Obj)} {σ:St} {H:Hp} {s:Shared} {p C dx:Addr} {fs:List (Str×V)} (I:Inv X pins σ H s) (e:H p=some (.ins C dx fs)):∃ od,W.InstAt s.heap p (W.instObj C dx) C (some od):=by
 obtain ⟨mA,O,_⟩:=nQ I.hok e;obtain ⟨od,J,_⟩:=O.look;exact ⟨od,J⟩
section
variable {X:Cx} {CX:CXT} {k:Nat} {f C:Addr} {fd:FuncData} {sp:Sp}
noncomputable def aGR (C:Addr) (sp:Sp):List V→Hp→VK→Prop:=fun xs H Q=>∃ p dx fs,xs=[.ref p]∧H p=some (.ins C dx fs)∧sp [.ref p] H (fun v H'=>∃ n,v= .int n∧0≤n∧n < 2 ^ 63∧Q (.int n) H') E0
theorem OL (M:fO X.K C "__len__" f) (F:bN X.prog X.w X.K X.mg X.base CX0 k f fd ["self"] sp) (hr:bF (k + 1) X.A) (hb:aH X.K fd ["self"] []):bE X (.builtin "len") (aGR C sp):=by
 rintro pins s σ H xs us Q I r ⟨p,dx,fs,e,ea,q⟩;subst e;obtain ⟨u,rfl,ru⟩:=fG r;cases ru;obtain ⟨od,J⟩:=lF I ea;obtain ⟨m,Fm⟩:=I.fr;refine W.len_K Fm I.ok.mod.kin J M.at_ M.fn (thn (wY (dvs:=[]) (ds:=[]) (vs:=[.ref p]) F hr.in1 I.env0.in1 hb .nil zB I (.cons rfl .nil) q) fun v s' zz=>?_);obtain ⟨x,H',I',rx,n,e,h0,h1,q'⟩:=zz;subst e;obtain ⟨t,rfl⟩:=rx;exact ⟨⟨h0,h1⟩,.int n,H',I'.tok _,⟨_,rfl⟩,q'⟩
noncomputable def aB0 (C:Addr) (sp:Sp):List V→Hp→VK→Prop:=fun xs H Q=>∃ p dx fs,xs=[.ref p]∧H p=some (.ins C dx fs)∧sp [.ref p] H (fun v H'=>∃ x,v= .str x∧Q (.str x) H') E0
theorem IV (M:fO X.K C "__repr__" f) (F:bN X.prog X.w X.K X.mg X.base CX0 k f fd ["self"] sp) (hr:bF (k + 1) X.A) (hb:aH X.K fd ["self"] []):bE X (.builtin "repr") (aB0 C sp):=by
 rintro pins s σ H xs us Q I r ⟨p,dx,fs,e,ea,q⟩;subst e;obtain ⟨u,rfl,ru⟩:=fG r;cases ru;obtain ⟨od,J⟩:=lF I ea;obtain ⟨m,Fm⟩:=I.fr;refine W.repr_K hr.in1.units0 Fm I.ok.mod.kin J M.at_ M.fn (thn (wY (dvs:=[]) (ds:=[]) (vs:=[.ref p]) F hr.in1 I.env0.in1 hb .nil zB I (.cons rfl .nil) q) fun v s' zz=>?_);obtain ⟨x,H',I',rx,y,e,q'⟩:=zz;subst e;obtain ⟨t,rfl⟩:=rx;exact ⟨.str y,H',I',⟨_,rfl⟩,q'⟩
theorem QC (M:fO X.K C "__str__" f) (F:bN X.prog X.w X.K X.mg X.base CX0 k f fd ["self"] sp) (hr:bF (k + 2) X.A) (hb:aH X.K fd ["self"] []):bE X (.type "str") (aB0 C sp):=by
 rintro pins s σ H xs us Q I r ⟨p,dx,fs,e,ea,q⟩;subst e;obtain ⟨u,rfl,ru⟩:=fG r;cases ru;obtain ⟨od,J⟩:=lF I ea;refine W.kso_call hr.in2.units0 I.kIn J M.at_ M.fn (thn (wY (dvs:=[]) (ds:=[]) (vs:=[.ref p]) F hr.in2 I.env0.in1.in1 hb .nil zB I (.cons rfl .nil) q) fun v s' zz=>?_);obtain ⟨x,H',I',rx,y,e,q'⟩:=zz;subst e;obtain ⟨t,rfl⟩:=rx;exact ⟨.str y,H',I',⟨_,rfl⟩,q'⟩
theorem aKk {A':Around} {pins:List (Addr×Obj)} {σ:St} {H:Hp} {s:Shared} {p dx:Addr} {fs:List (Str×V)} {Q:Bool→Hp→Prop} (hB:W.findIn X.K (.ref C) "__bool__"=some none) (M:fO X.K C "__len__" f)
   (F:bN X.prog X.w X.K X.mg X.base CX0 k f fd ["self"] sp) (hr:bF k A'.in1) (e0:rK X.prog X.w X.K X.mg X.base A'.in1 X.stack s H) (hb:aH X.K fd ["self"] []) (I:Inv X pins σ H s) (ea:H p=some (.ins C dx fs))
   (q:sp [.ref p] H (fun v H'=>∃ n,v= .int n∧0≤n∧n < 2 ^ 63∧Q (n != 0) H') E0):wpAny (model X.prog X.w) A' (truthy (.ref p)) (TP X pins σ Q) X.xe s:=by
 obtain ⟨od,J⟩:=lF I ea;have XK:=I.kIn;unfold truthy;refine wAq (m:=callSpecial? (.ref p) (Str.ofString "__bool__")) (wAq (wAq (J.type.here ((W.looks_findIn XK hB).here (wBq ?_)))));refine wAq (wAq (J.type.here ((W.looks_findIn XK M.at_).here ?_)));show wpAny _ _ (if (some (Value.ref f)).isNone=true then _ else _) _ _ _;rw [if_neg (by simp)];refine wAq (wpAny_mono (Q:=fun r s'=>∃ n t,r=Value.int n t∧TP X pins σ Q (n != 0) s') ?_ (fun r s' h'=>?_) fun _ _ e=>e)
 · refine wpAny_runValue (codeAny_builtin entry_len ?_);rw [Around.under_plainId plain_len _];show wpAny _ _ (Builtin.«len» ⟨[.ref p],[]⟩) _ _ _;unfold Builtin.«len»;refine wAq (m:=oneArg "len" _) (wBq ?_);refine wAq (m:=callSpecial? (.ref p) (Str.ofString "__len__")) (W.special_fn XK J M.at_ (beq_iff_eq.mp M.fn) (thn (wY (dvs:=[]) (ds:=[]) (vs:=[.ref p]) F hr e0 hb .nil zB I (.cons rfl .nil) q) fun v s' ⟨x,H',I',rx,n,e,h0,h1,q'⟩=>?_));subst e;obtain ⟨t,rfl⟩:=rx;refine wAq (wpAny_holding (wBq ?_));refine wAq (wpAny_letGo ?_);show wpAny _ _ (if n < 0 then _ else _) _ _ _;rw [if_neg (by omega)];show wpAny _ _ (if n ≥ 2 ^ 63 then _ else _) _ _ _;rw [if_neg (by omega)];exact wAq (wpAny_mkInt (wBq ⟨n,_,rfl,H',I'.tok _,q'⟩))
 · obtain ⟨n,t,rfl,q'⟩:=h';exact wBq q'
theorem FD {prog:Program} {w:World} (p:Addr):MeetsIn prog w (Builtin.«bool.__new__» ⟨[.type "bool",.ref p],[]⟩) (fun A R s=>wpAny (model prog w) A.in1 (truthy (.ref p)) (fun b s'=>R (.ok (.ret (.bool b))) s') (fun e s'=>R (.error e) s') s) :=
 fun A R s h=>by
   obtain ⟨hp,g,d,tk,os⟩:=s;have f1:=PySem.F.conv_sub_bool;have tr:∀ (Q:Bool→Shared→Prop),(∀ b s',R (.ok (.ret (.bool b))) s'→Q b s')→wpAny (model prog w) A.in1 (truthy (.ref p)) Q (fun e s'=>R (.error e) s') ⟨hp,g,d,tk,os⟩:=fun Q hq=>wpAny_mono h hq fun _ _ e=>e
   repeat (any_goals (first | assumption | with_reducible apply tr | wp_step))
   all_goals (intro b s' q; repeat (any_goals (first | assumption | wp_step)))
theorem GJ (hB:W.findIn X.K (.ref C) "__bool__"=some none) (M:fO X.K C "__len__" f) (F:bN X.prog X.w X.K X.mg X.base CX0 k f fd ["self"] sp) (hr:bF (k + 3) X.A) (hb:aH X.K fd ["self"] []) :
   bE X (.type "bool") (fun xs H Q=>∃ p dx fs,xs=[.ref p]∧H p=some (.ins C dx fs)∧sp [.ref p] H (fun v H'=>∃ n,v= .int n∧0≤n∧n < 2 ^ 63∧Q (.bl (n != 0)) H') E0):=by
 rintro pins s σ H xs us Q I r ⟨p,dx,fs,e,ea,q⟩;subst e;obtain ⟨u,rfl,ru⟩:=fG r;cases ru;refine callType_newIn PySem.F.called_bool PySem.F.newNe_bool (PySem.F.typeCall_bool_1 _) (PySem.F.newCall_bool_1 _) (fun obj=>PySem.F.args_object_init_2 obj _) PySem.F.entry_bool_new (FD p) ?_;refine thn (aKk (A':=X.A.in1.in1) (Q:=fun b H'=>Q (.bl b) H') hB M F hr.in1.in1.in1 I.env0.in1.in1.in1 hb I ea q) fun b s2 zz=>?_;obtain ⟨H2,I2,q2⟩:=zz;exact ⟨PySem.typeIs_bool _ _,.bl b,H2,I2,rfl,q2⟩
end
section
variable {X:Cx} {e:Expr} {es:List Expr} {te:TE} {pos:Pos}
end
end L2
namespace LE
open PySem PyProof.Rows
open AutoSeq1 (wpAny_loadPart')
end LE
namespace L2
open PySem PySem.Spec PyProof.Rows
section
variable {X:Cx} {CX:CXT} {k:Nat} {f C:Addr} {fd:FuncData} {ps ks:List Str} {sp:Sp} {E:XK} {x:Str} {p pos:Pos} {kws:List Keyword} {tk:TA} {g:List Value→List Value→List Value} {gV:List V→List V→List V}
end
section
variable {X:Cx} {C:Addr} {f x:Str} {pos pos':Pos} {e o value:Expr} {ta tv:TE} {i:Int}
theorem PE.imp {t t':TE} (h:PE X e t) (g:∀ σ H Q,t' σ H Q→t σ H Q):PE X e t':=fun pins s σ H Q I q=>h pins s σ H Q I (g _ _ _ q)
theorem PS.imp {st:Stmt} {t t':TS} (h:PS X st t) (g:∀ D σ H,t' D σ H→t D σ H):PS X st t':=fun pins s σ H D I q=>h pins s σ H D I (g _ _ _ q)
end
section
variable {X:Cx} {es:List Expr} {te:TE} {t:TA} {pos:Pos}
end
end L2
namespace LZ
open PySem PyProof.Rows
open AutoSeq1 (wpAny_loadPart')
open Builtin
structure Zr where
 it:Addr
 l:Addr
 b:Bool
 xs:Array Value
def ZIt (h:Heap) (r:Zr) (k:Nat):Prop:=if r.b=true then h.IsTupleIter r.it r.l k else h.IsListIter r.it r.l k
def ZAt (h:Heap) (r:Zr):Prop:=if r.b=true then h.IsTuple r.l r.xs else h.IsList r.l r.xs
theorem ZIt.keep {h h':Heap} {r:Zr} {k:Nat} (a:ZIt h r k) (q:∀ o,h.get? r.it=some o→h'.get? r.it=some o):ZIt h' r k:=by
 unfold ZIt at *;split
 · rename_i e; rw [if_pos e] at a; exact a.at fun o z=>q o z
 · rename_i e; rw [if_neg e] at a; exact a.at fun o z=>q o z
theorem ZAt.keep {h h':Heap} {r:Zr} (a:ZAt h r) (q:∀ o,h.get? r.l=some o→h'.get? r.l=some o):ZAt h' r:=by
 unfold ZAt at *;split
 · rename_i e; rw [if_pos e] at a; obtain ⟨o,z,t⟩:=a; exact ⟨o,q o z,t⟩
 · rename_i e; rw [if_neg e] at a; obtain ⟨o,z,t⟩:=a; exact ⟨o,q o z,t⟩
theorem ZIt.lt {h:Heap} {r:Zr} {k:Nat} (a:ZIt h r k):∃ o,h.get? r.it=some o:=by
 unfold ZIt at a;split at a
 · obtain ⟨o,z,_⟩:=a; exact ⟨o,z⟩
 · obtain ⟨o,z,_⟩:=a; exact ⟨o,z⟩
section
variable {prog:Program} {w:World} {A:Around} {E:Value→Shared→Prop} {s:Shared}
theorem aCN {r:Zr} {k:Nat} {x:Value} {Q:Value→Shared→Prop} (a:ZIt s.heap r k) (b:ZAt s.heap r) (c:r.xs[k]? =some x) (q:∀ h',ZIt h' r (k + 1)→Heap.SameBut r.it s.heap h'→Q x { s with heap:=h' }) :
   wpAny (model prog w) A (SmallTypes.nextOf (.ref r.it)) Q E s:=by
 unfold ZIt at a q;unfold ZAt at b;cases e:r.b with
 | true =>
   rw [e,if_pos rfl] at a b;exact LE.aCE a b c fun h' z t=>q h' (by rw [e,if_pos rfl]; exact z) t
 | false =>
   rw [e,if_neg (by decide)] at a b;exact wpAny_nextOf_list_item a b c fun h' z t=>q h' (by rw [e,if_neg (by decide)]; exact z) t
theorem aIN {r:Zr} {k:Nat} {Q:Value→Shared→Prop} (hh:A.handled=none) (a:ZIt s.heap r k) (b:ZAt s.heap r) (c:r.xs[k]? =none)
   (q:∀ h' e,Heap.ExtBut r.it s.heap h'→(∃ o,h'.get? e=some o∧o.cls= .type "StopIteration")→E (.ref e) { s with heap:=h' }):wpAny (model prog w) A (SmallTypes.nextOf (.ref r.it)) Q E s:=by
 unfold ZIt at a;unfold ZAt at b;cases e:r.b with
 | true=>rw [e,if_pos rfl] at a b; exact LE.aER hh a b c q
 | false=>rw [e,if_neg (by decide)] at a b; exact wpAny_nextOf_list_end hh a b c q
theorem aH5 {r:Zr} {Q:Value→Shared→Prop} (b:ZAt s.heap r) (q:∀ h',ZIt h' { r with it:=s.heap.objs.size } 0→h'.objs.size=s.heap.objs.size + 1→(∀ c o,s.heap.get? c=some o→h'.get? c=some o)→Q (.ref s.heap.objs.size) { s with heap:=h' }) :
   wpAny (model prog w) A (pyIter (.ref r.l)) Q E s:=by
 unfold ZIt at q;unfold ZAt at b;cases e:r.b with
 | true =>
   rw [e,if_pos rfl] at b;refine wpAny_pyIter_tuple b (q _ ?_ (Heap.size_push ..) fun c o z=>wEq _ z);rw [if_pos e]; exact ⟨_,wGq _ rfl,rfl,rfl⟩
 | false =>
   rw [e,if_neg (by decide)] at b;refine wpAny_pyIter_list b (q _ ?_ (Heap.size_push ..) fun c o z=>wEq _ z);rw [if_neg (by rw [e]; decide)]; exact ⟨_,wGq _ rfl,rfl,rfl⟩
end
theorem yR {M:Model} {A:Around} {E:Value→Shared→Prop} {α β:Type} {f:α×Nat→β→Sem (ForInStep β)} {u:β} (I:Nat→Shared→Prop):∀ (xs:List α) (j:Nat) (s:Shared) (Q:β→Shared→Prop),I j s→
   (∀ i x s,xs[i]? =some x→I (j + i) s→wpAny M A (f (x,j + i) u) (fun st s'=>st= .yield u∧I (j + i + 1) s') E s)→(∀ s',I (j + xs.length) s'→Q u s')→wpAny M A (forIn (xs.zipIdx j) u f) Q E s
 | [],j,s,Q,h,_,q=>by
   rw [List.zipIdx_nil,List.forIn_nil];exact wBq (q s h)
 | x :: r,j,s,Q,h,hs,q=>by
   rw [List.zipIdx_cons,List.forIn_cons];refine wAq (wpAny_mono (hs 0 x s rfl h) (fun st s' zz=>?_) fun _ _ z=>z);obtain ⟨e,h'⟩:=zz;subst e;exact yR I r (j + 1) s' Q h' (fun i y s hy hi=>by
     have:=hs (i + 1) y s hy (by rw [show j + (i + 1)=j + 1 + i by omega]; exact hi);rw [show j + (i + 1)=j + 1 + i by omega] at this;exact this) fun s' z=>q s' (by rw [List.length_cons,show j + (r.length + 1)=j + 1 + r.length by omega]; exact z)
structure Ap (z TI TO:Addr) (rs:List Zr):Prop where
 nd:(rs.map Zr.it).Nodup
 zi:∀ r∈rs,r.it≠z∧r.it≠TO∧r.it≠TI
 zl:∀ r∈rs,r.l≠z∧r.l≠TO
 li:∀ r∈rs,∀ t∈rs,r.l≠t.it
 zo:TO≠z
 zt:TI≠z
 ot:TI≠TO
def IsT (h:Heap) (a:Addr) (ys:Array Value):Prop:=h.get? a=some { cls:=.type "tuple",data:=.seq ys }
structure Zs (h:Heap) (z TI TO:Addr) (rs:List Zr) (k:Nat):Prop where
 z:IsZip h z TI TO .none
 ti:IsT h TI (rs.map fun r=>Value.ref r.it).toArray
 to_:∃ ys,ys.size=rs.length∧IsT h TO ys
 it:∀ r∈rs,ZIt h r k
end LZ
namespace LZ
open PySem PyProof.Rows
open Builtin
section
variable {prog:Program} {w:World} {A:Around} {E:Value→Shared→Prop} {s:Shared}
theorem upT {a:Addr} {ys:Array Value} {k:Nat} {x:Value} {Q:Unit→Shared→Prop} (h:IsT s.heap a ys) (hz:ys.size≤64) (q:∀ h',IsT h' a (ys.setIfInBounds k x)→Heap.SameBut a s.heap h'→Q () { s with heap:=h' }) :
   wpAny (model prog w) A (updateSeq a (·.setIfInBounds k x)) Q E s:=by
 have hz':ys.size≤sizeLine:=Nat.le_trans hz (by decide);refine wpAny_updateSeq h rfl (q _ ?_ (Heap.SameBut.update ..)) hz' (by rw [Array.size_setIfInBounds]; omega);unfold IsT at *;rw [Heap.get?_update_self _ h rfl];simp [Obj.mapSeq]
structure Mid (h:Heap) (z TI TO:Addr) (rs:List Zr) (k:Nat) (vs:List Value) (j:Nat) (g:Heap):Prop where
 zz:IsZip g z TI TO .ellipsis
 to_:∃ ys,ys.size=rs.length∧IsT g TO ys∧∀ i,i < j→ys[i]? =vs[i]?
 lo:∀ i r,rs[i]? =some r→i < j→ZIt g r (k + 1)
 hi:∀ i r,rs[i]? =some r→j≤i→ZIt g r k
 at_:∀ r∈rs,ZAt g r
 sz:g.objs.size=h.objs.size
 fr:∀ c o,c≠z→c≠TO→(∀ r∈rs,c≠r.it)→h.get? c=some o→g.get? c=some o
theorem XX {rs:List Zr} (nd:(rs.map Zr.it).Nodup) {i j:Nat} {r t:Zr} (hi:rs[i]? =some r) (hj:rs[j]? =some t) (ne:i≠j):r.it≠t.it:=by
 intro e;obtain ⟨hi1,hi2⟩:=List.getElem?_eq_some_iff.mp hi;obtain ⟨hj1,hj2⟩:=List.getElem?_eq_some_iff.mp hj;have hp:=List.pairwise_iff_getElem.mp nd;rcases Nat.lt_or_gt_of_ne ne with q | q
 · exact hp i j (by rw [List.length_map]; exact hi1) (by rw [List.length_map]; exact hj1) q (by simp only [List.getElem_map]; rw [hi2,hj2]; exact e)
 · exact hp j i (by rw [List.length_map]; exact hj1) (by rw [List.length_map]; exact hi1) q (by simp only [List.getElem_map]; rw [hi2,hj2]; exact e.symm)
theorem UH {z TI TO:Addr} {rs:List Zr} {k:Nat} {vs:List Value} {Q:Value→Shared→Prop} (D:Ap z TI TO rs) (hn:rs≠ []) (hl:rs.length≤8) (S:Zs s.heap z TI TO rs k) (at_:∀ r∈rs,ZAt s.heap r) (hv:vs.length=rs.length) (hx:∀ (i:Nat) (r:Zr),rs[i]? =some r→r.xs[k]? =vs[i]?)
   (hQ:∀ h',IsZip h' z TI TO (rawInt s.heap.objs.size)→IsT h' TO vs.toArray→(∀ r∈rs,ZIt h' r (k + 1))→IsT h' s.heap.objs.size vs.toArray→h'.objs.size=s.heap.objs.size + 1→
     (∀ c o,c≠z→c≠TO→(∀ r∈rs,c≠r.it)→s.heap.get? c=some o→h'.get? c=some o)→Q (.ref s.heap.objs.size) { s with heap:=h' }) :
   wpAny (model prog w) A (Builtin.«zip.__next__» ⟨[.ref z],[]⟩) (fun fin s'=>∃ v,fin= .done (.ret v)∧Q v s') E s:=by
 obtain ⟨hz,hTI,⟨ys0,hy0,hTO⟩,hit⟩:=S;have hl64:rs.length≤64:=Nat.le_trans hl (by decide);refine wAq (m:=field (.ref z) 2) (wpAny_field hz rfl (x:=.bool false) rfl ?_);refine wAq (m:=field (.ref z) 3) (wpAny_field hz rfl (x:=.ref TI) rfl ?_);refine wAq (wpAny_seqItems hTI rfl ?_);have ne:((rs.map fun r=>Value.ref r.it).toArray.isEmpty)=false:=by cases rs with | nil=>exact absurd rfl hn | cons a b=>rfl
 simp only [ne,Bool.false_eq_true,if_false];refine wAq (m:=SmallTypes.ownedTupleIsFree (.ref z)) ?_;unfold SmallTypes.ownedTupleIsFree;refine wAq (wpAny_field hz rfl (x:=.none) rfl (wBq ?_));simp only [if_true];refine wAq (wpAny_rule (wAq (wpAny_field hz rfl (x:=.ref TO) rfl (wAq (wpAny_setField_rec hz (by simp) fun h1 hz1 hs1=>?_)))))
 replace hz1:IsZip h1 z TI TO .ellipsis:=hz1
 have m0:Mid s.heap z TI TO rs k vs 0 h1:=⟨hz1,⟨ys0,hy0,hs1.extBut _ _ D.zo hTO,fun i hi=>absurd hi (Nat.not_lt_zero _)⟩,fun i r _ hi=>absurd hi (Nat.not_lt_zero _),
   fun i r hr _=>(hit r (List.mem_of_getElem? hr)).keep fun o q=>hs1.extBut _ _ (D.zi r (List.mem_of_getElem? hr)).1 q,fun r hr=>(at_ r hr).keep fun o q=>hs1.extBut _ _ (D.zl r hr).1 q,hs1.1,fun c o c1 _ _ q=>hs1.extBut _ _ c1 q⟩
 refine wAq (yR (fun j s'=>∃ g,s'={ s with heap:=g }∧Mid s.heap z TI TO rs k vs j g) _ 0 _ _ ⟨h1,rfl,m0⟩ ?_ ?_)
 · rintro i x _ hxi ⟨g,rfl,m⟩;rw [Nat.zero_add] at m ⊢;rw [List.getElem?_map] at hxi;cases hr:rs[i]? with
   | none=>rw [hr] at hxi; cases hxi
   | some r =>
     rw [hr] at hxi;have e:x= .ref r.it:=(Option.some.inj hxi).symm;subst e;have hm:=List.mem_of_getElem? hr;have hi:i < rs.length:=(List.getElem?_eq_some_iff.mp hr).1;have hvi:vs[i]? =some (vs[i]'(by omega)):=by simp
     refine wAq (wpAny_onRaise (wAq (m:=SmallTypes.nextOf (.ref r.it)) (aCN (m.hi i r hr (Nat.le_refl _)) (m.at_ r hm) ((hx i r hr).trans hvi) fun h2 hi2 hs2=>wBq ?_)));obtain ⟨ys,hy,hT,hlo⟩:=m.to_;have hT2:IsT h2 TO ys:=hs2.extBut _ _ (Ne.symm (D.zi r hm).2.1) hT;refine wAq (wpAny_seqItems hT2 rfl (wAq (upT hT2 (by omega) fun h3 hT3 hs3=>wAq (wpAny_letGo (wBq ⟨rfl,h3,rfl, ?_⟩)))));have fr3:∀ c o,c≠TO→c≠r.it→g.get? c=some o→h3.get? c=some o:=fun c o c1 c2 q=>hs3.extBut _ _ c1 (hs2.extBut _ _ c2 q);refine ⟨fr3 _ _ (Ne.symm D.zo) (Ne.symm (D.zi r hm).1) m.zz,⟨_,by rw [Array.size_setIfInBounds]; exact hy,hT3,fun j hj=>?_⟩,fun j t ht hj=>?_,fun j t ht hj=>?_,fun t ht=>(m.at_ t ht).keep fun o q=>fr3 _ _ (D.zl t ht).2 (D.li t ht r hm) q,by rw [hs3.1,hs2.1]; exact m.sz,fun c o c1 c2 c3 q=>fr3 c o c2 (c3 r hm) (m.fr c o c1 c2 c3 q)⟩
     · rw [Array.getElem?_setIfInBounds];by_cases e:i=j
       · subst e; rw [if_pos rfl,if_pos (by omega),hvi]
       · rw [if_neg e]; exact hlo j (by omega)
     · by_cases e:j=i
       · subst e;rw [hr] at ht; cases ht;exact hi2.keep fun o q=>hs3.extBut _ _ (D.zi r hm).2.1 q
       · exact (m.lo j t ht (by omega)).keep fun o q=>fr3 _ _ (D.zi t (List.mem_of_getElem? ht)).2.1 (XX D.nd ht hr e) q
     · exact (m.hi j t ht (by omega)).keep fun o q=>fr3 _ _ (D.zi t (List.mem_of_getElem? ht)).2.1 (XX D.nd ht hr (by omega)) q
 · rintro _ ⟨g,rfl,m⟩;rw [Nat.zero_add,List.length_map] at m;obtain ⟨ys,hy,hT,hlo⟩:=m.to_;have ey:ys=vs.toArray:=by
     refine Array.ext' (List.ext_getElem? fun j=>?_);by_cases hj:j < rs.length
     · have:=hlo j hj; rw [←Array.getElem?_toList] at this; exact this
     · rw [List.getElem?_eq_none (by rw [Array.length_toList]; omega),List.getElem?_eq_none (by rw [List.toList_toArray]; omega)]
   subst ey;refine wAq (m:=seqItems? (.ref TO)) (wpAny_seqItems hT rfl ?_);refine wAq (m:=newTuple _) (wpAny_newTuple ?_ (by rw [List.toList_toArray]; exact Nat.le_trans (by omega:vs.length≤8) (by decide)));have zlt:z < g.objs.size:=Heap.lt_size m.zz;refine wAq (m:=SmallTypes.ownedTupleHandOut (.ref z) (.ref g.objs.size)) ?_;unfold SmallTypes.ownedTupleHandOut;have hz6:IsZip (g.push { cls:=.type "tuple",data:=.seq vs.toArray.toList.toArray }) z TI TO .ellipsis:=wEq _ m.zz;refine wAq (wpAny_setField_rec hz6 (by simp) fun h7 hz7 hs7=>wpAny_setField_rec hz7 (by simp) fun h8 hz8 hs8=>wBq ⟨_,rfl, ?_⟩);have up:∀ c o,c≠z→g.get? c=some o→h8.get? c=some o:=fun c o c1 q=>hs8.extBut _ _ c1 (hs7.extBut _ _ c1 (wEq _ q));have gz:g.objs.size=s.heap.objs.size:=m.sz;have hT8:IsT h8 g.objs.size vs.toArray:=hs8.extBut _ _ (Nat.ne_of_gt zlt) (hs7.extBut _ _ (Nat.ne_of_gt zlt) (wGq _ rfl));have z8:h8.objs.size=g.objs.size + 1:=by rw [hs8.1,hs7.1,Heap.size_push]
   replace hz8:IsZip h8 z TI TO (rawInt g.objs.size):=hz8
   show Q (.ref g.objs.size) _;rw [gz] at hz8 hT8 z8;rw [gz];refine hQ h8 hz8 (up _ _ D.zo hT) (fun r hr=>?_) hT8 z8 fun c o c1 c2 c3 q=>up c o c1 (m.fr c o c1 c2 c3 q);obtain ⟨i,hi,er⟩:=List.getElem_of_mem hr;exact (m.lo i r (by rw [wHq hi,er]) hi).keep fun o q=>up _ o (D.zi r hr).1 q
theorem aBk {z TI TO:Addr} {r:Zr} {rs:List Zr} {k:Nat} {Q:Fin→Shared→Prop} (hh:A.handled=none) (D:Ap z TI TO (r :: rs)) (S:Zs s.heap z TI TO (r :: rs) k) (at_:ZAt s.heap r) (hx:r.xs[k]? =none)
   (hE:∀ h' e,(∀ c o,c≠z→c≠r.it→s.heap.get? c=some o→h'.get? c=some o)→(∃ o,h'.get? e=some o∧o.cls= .type "StopIteration")→E (.ref e) { s with heap:=h' }) :
   wpAny (model prog w) A (Builtin.«zip.__next__» ⟨[.ref z],[]⟩) Q E s:=by
 obtain ⟨hz,hTI,⟨ys0,hy0,hTO⟩,hit⟩:=S;refine wAq (m:=field (.ref z) 2) (wpAny_field hz rfl (x:=.bool false) rfl ?_);refine wAq (m:=field (.ref z) 3) (wpAny_field hz rfl (x:=.ref TI) rfl ?_);refine wAq (wpAny_seqItems hTI rfl ?_);have ne:(((r :: rs).map fun r=>Value.ref r.it).toArray.isEmpty)=false:=rfl;simp only [ne,Bool.false_eq_true,if_false];refine wAq (m:=SmallTypes.ownedTupleIsFree (.ref z)) ?_;unfold SmallTypes.ownedTupleIsFree;refine wAq (wpAny_field hz rfl (x:=.none) rfl (wBq ?_));simp only [if_true];refine wAq (wpAny_rule (wAq (wpAny_field hz rfl (x:=.ref TO) rfl (wAq (wpAny_setField_rec hz (by simp) fun h1 hz1 hs1=>?_)))))
 replace hz1:IsZip h1 z TI TO .ellipsis:=hz1
 refine wAq ?_;simp only [List.map_cons,List.zipIdx_cons,List.forIn_cons];refine wAq (wAq (wpAny_onRaise (wAq (m:=SmallTypes.nextOf (.ref r.it)) (aIN hh ((hit r (wDq ..)).keep fun o q=>hs1.extBut _ _ (D.zi r (wDq ..)).1 q) (at_.keep fun o q=>hs1.extBut _ _ (D.zl r (wDq ..)).1 q) hx fun h2 e hs2 he=>?_))));obtain ⟨oe,hoe,hce⟩:=he;have hz2:IsZip h2 z TI TO .ellipsis:=hs2 _ _ (Ne.symm (D.zi r (wDq ..)).1) hz1;have hez:e≠z:=fun x=>by subst x; rw [hz2] at hoe; cases hoe; simp at hce
 exact wpAny_setField_rec hz2 (by simp) fun h3 _ hs3=>hE h3 e (fun c o c1 c3 x=>hs3.extBut _ _ c1 (hs2 _ _ c3 (hs1.extBut _ _ c1 x))) ⟨oe,hs3.extBut _ _ hez hoe,hce⟩
theorem WO {z TI TO:Addr} {r t:Zr} {rs:List Zr} {k:Nat} {x:Value} {Q:Fin→Shared→Prop} (hh:A.handled=none) (D:Ap z TI TO (r :: t :: rs)) (hl:(r :: t :: rs).length≤8) (S:Zs s.heap z TI TO (r :: t :: rs) k) (ar:ZAt s.heap r) (at_:ZAt s.heap t) (hr:r.xs[k]? =some x) (hx:t.xs[k]? =none)
   (hE:∀ h' e,(∀ c o,c≠z→c≠TO→c≠r.it→c≠t.it→s.heap.get? c=some o→h'.get? c=some o)→(∃ o,h'.get? e=some o∧o.cls= .type "StopIteration")→E (.ref e) { s with heap:=h' }) :
   wpAny (model prog w) A (Builtin.«zip.__next__» ⟨[.ref z],[]⟩) Q E s:=by
 obtain ⟨hz,hTI,⟨ys0,hy0,hTO⟩,hit⟩:=S;have m0:r∈r :: t :: rs:=wDq ..;have m1:t∈r :: t :: rs:=wCq _ (wDq ..);have ne01:t.it≠r.it:=XX D.nd (i:=1) (j:=0) rfl rfl (by decide);refine wAq (m:=field (.ref z) 2) (wpAny_field hz rfl (x:=.bool false) rfl ?_);refine wAq (m:=field (.ref z) 3) (wpAny_field hz rfl (x:=.ref TI) rfl ?_);refine wAq (wpAny_seqItems hTI rfl ?_);have ne:(((r :: t :: rs).map fun r=>Value.ref r.it).toArray.isEmpty)=false:=rfl;simp only [ne,Bool.false_eq_true,if_false];refine wAq (m:=SmallTypes.ownedTupleIsFree (.ref z)) ?_;unfold SmallTypes.ownedTupleIsFree;refine wAq (wpAny_field hz rfl (x:=.none) rfl (wBq ?_));simp only [if_true];refine wAq (wpAny_rule (wAq (wpAny_field hz rfl (x:=.ref TO) rfl (wAq (wpAny_setField_rec hz (by simp) fun h1 hz1 hs1=>?_)))))
 replace hz1:IsZip h1 z TI TO .ellipsis:=hz1
 refine wAq ?_;simp only [List.map_cons,List.zipIdx_cons,List.forIn_cons];refine wAq (wAq (wpAny_onRaise (wAq (m:=SmallTypes.nextOf (.ref r.it)) (aCN ((hit r m0).keep fun o q=>hs1.extBut _ _ (D.zi r m0).1 q) (ar.keep fun o q=>hs1.extBut _ _ (D.zl r m0).1 q) hr fun h2 hi2 hs2=>wBq ?_))));have hT2:IsT h2 TO ys0:=hs2.extBut _ _ (Ne.symm (D.zi r m0).2.1) (hs1.extBut _ _ D.zo hTO);refine wAq (wpAny_seqItems hT2 rfl (wAq (upT hT2 (by rw [hy0]; exact Nat.le_trans hl (by decide)) fun h3 hT3 hs3=>wAq (wpAny_letGo (wBq ?_)))));have fr3:∀ c o,c≠z→c≠TO→c≠r.it→s.heap.get? c=some o→h3.get? c=some o:=fun c o c0 c1 c2 q=>hs3.extBut _ _ c1 (hs2.extBut _ _ c2 (hs1.extBut _ _ c0 q));have hz3:IsZip h3 z TI TO .ellipsis:=hs3.extBut _ _ (Ne.symm D.zo) (hs2.extBut _ _ (Ne.symm (D.zi r m0).1) hz1);refine wAq (wAq (wpAny_onRaise (wAq (m:=SmallTypes.nextOf (.ref t.it)) (aIN hh ((hit t m1).keep fun o q=>fr3 _ _ (D.zi t m1).1 (D.zi t m1).2.1 ne01 q) (at_.keep fun o q=>fr3 _ _ (D.zl t m1).1 (D.zl t m1).2 (D.li t m1 r m0) q) hx fun h4 e hs4 he=>?_))));obtain ⟨oe,hoe,hce⟩:=he;have hz4:IsZip h4 z TI TO .ellipsis:=hs4 _ _ (Ne.symm (D.zi t m1).1) hz3;have hez:e≠z:=fun x=>by subst x; rw [hz4] at hoe; cases hoe; simp at hce
 exact wpAny_setField_rec hz4 (by simp) fun h5 _ hs5=>hE h5 e (fun c o c1 c2 c3 c4 x=>hs5.extBut _ _ c1 (hs4 _ _ c4 (fr3 c o c1 c2 c3 x))) ⟨oe,hs5.extBut _ _ hez hoe,hce⟩
theorem NL {z TI TO:Addr} {rs:List Zr} {k:Nat} {vs:List Value} {Q:Option Value→Shared→Prop} (D:Ap z TI TO rs) (hn:rs≠ []) (hl:rs.length≤8) (S:Zs s.heap z TI TO rs k) (at_:∀ r∈rs,ZAt s.heap r) (hv:vs.length=rs.length) (hx:∀ (i:Nat) (r:Zr),rs[i]? =some r→r.xs[k]? =vs[i]?)
   (hQ:∀ h',IsZip h' z TI TO (rawInt s.heap.objs.size)→IsT h' TO vs.toArray→(∀ r∈rs,ZIt h' r (k + 1))→IsT h' s.heap.objs.size vs.toArray→h'.objs.size=s.heap.objs.size + 1→
     (∀ c o,c≠z→c≠TO→(∀ r∈rs,c≠r.it)→s.heap.get? c=some o→h'.get? c=some o)→Q (some (.ref s.heap.objs.size)) { s with heap:=h' }) :
   wpAny (model prog w) A (pyNext (.ref z)) Q E s:=by
 have hT:s.TypeIs (.ref z) "zip":=⟨_,S.z,rfl⟩;unfold pyNext;exact wAq (wpAny_attempt (wpAny_callSpecial?_slot (name:=Str.ofString "__next__") hT F.slot_zip_next (wpAny_call_entry F.slot_zip_next hT F.entry_zip_next (UH D hn hl S at_ hv hx fun h' a1 a2 a3 a4 a5 a6=>wBq (hQ h' a1 a2 a3 a4 a5 a6)) (F.args_zip_next_1 _))))
theorem WH {z TI TO:Addr} {r:Zr} {rs:List Zr} {k:Nat} {Q:Option Value→Shared→Prop} (hh:A.handled=none) (D:Ap z TI TO (r :: rs)) (S:Zs s.heap z TI TO (r :: rs) k) (at_:ZAt s.heap r) (hx:r.xs[k]? =none)
   (hQ:∀ h',(∀ c o,c≠z→c≠r.it→s.heap.get? c=some o→h'.get? c=some o)→Q none { s with heap:=h' }):wpAny (model prog w) A (pyNext (.ref z)) Q E s:=by
 have hT:s.TypeIs (.ref z) "zip":=⟨_,S.z,rfl⟩;unfold pyNext;refine wAq (wpAny_attempt (wpAny_callSpecial?_slot (name:=Str.ofString "__next__") hT F.slot_zip_next (wpAny_call_entry F.slot_zip_next hT F.entry_zip_next (aBk hh D S at_ hx fun h' e hk ⟨o,ho,hc⟩=>?_) (F.args_zip_next_1 _))));exact wAq (wpAny_isInstance (T:="StopIteration") (b:=true) ⟨o,ho,hc⟩ isSubtype_stop (wBq (hQ _ hk)))
theorem OZ {z TI TO:Addr} {r t:Zr} {rs:List Zr} {k:Nat} {x:Value} {Q:Option Value→Shared→Prop} (hh:A.handled=none) (D:Ap z TI TO (r :: t :: rs)) (hl:(r :: t :: rs).length≤8) (S:Zs s.heap z TI TO (r :: t :: rs) k) (ar:ZAt s.heap r) (at_:ZAt s.heap t) (hr:r.xs[k]? =some x) (hx:t.xs[k]? =none)
   (hQ:∀ h',(∀ c o,c≠z→c≠TO→c≠r.it→c≠t.it→s.heap.get? c=some o→h'.get? c=some o)→Q none { s with heap:=h' }):wpAny (model prog w) A (pyNext (.ref z)) Q E s:=by
 have hT:s.TypeIs (.ref z) "zip":=⟨_,S.z,rfl⟩;unfold pyNext;refine wAq (wpAny_attempt (wpAny_callSpecial?_slot (name:=Str.ofString "__next__") hT F.slot_zip_next (wpAny_call_entry F.slot_zip_next hT F.entry_zip_next (WO hh D hl S ar at_ hr hx fun h' e hk ⟨o,ho,hc⟩=>?_) (F.args_zip_next_1 _))));exact wAq (wpAny_isInstance (T:="StopIteration") (b:=true) ⟨o,ho,hc⟩ isSubtype_stop (wBq (hQ _ hk)))
end
end LZ
namespace LZ
open PySem PyProof.Rows
open Builtin
section
variable {prog:Program} {w:World} {A:Around} {E:Value→Shared→Prop}
theorem DE {f:Value→Array Value→Sem (ForInStep (Array Value))} (hf:∀ x acc,f x acc=(do let v ←holding acc.toList (pyIter x); pure (.yield (acc.push v)))):∀ (rs:List Zr) (acc:Array Value) (s:Shared) (Q:Array Value→Shared→Prop),
   (∀ r∈rs,ZAt s.heap r)→(∀ (j:Nat) (r:Zr),rs[j]? =some r→r.it=s.heap.objs.size + j)→
   (∀ h',h'.objs.size=s.heap.objs.size + rs.length→(∀ r∈rs,ZIt h' r 0)→(∀ c o,s.heap.get? c=some o→h'.get? c=some o)→Q (acc ++ (rs.map fun r=>Value.ref r.it).toArray) { s with heap:=h' })→
   wpAny (model prog w) A (forIn (rs.map fun r=>Value.ref r.l) acc f) Q E s
 | [],acc,s,Q,_,_,q=>by
   rw [List.map_nil,List.forIn_nil];refine wBq ?_;have:=q s.heap rfl (fun _ z=>nomatch z) (fun _ _ z=>z);simpa using this
 | r :: rs,acc,s,Q,hat,hid,q=>by
   rw [List.map_cons,List.forIn_cons,hf];have e0:r.it=s.heap.objs.size:=hid 0 r rfl;refine wAq (wAq (wpAny_holding (aH5 (r:=r) (hat r (wDq ..)) fun h' hi hz hk=>wBq ?_)));have e1:({ r with it:=s.heap.objs.size }:Zr)=r:=by rw [←e0]
   rw [e1] at hi;refine DE hf rs _ _ Q (fun t ht=>(hat t (wCq _ ht)).keep fun o z=>hk _ o z) (fun j t ht=>?_) fun h2 hz2 hi2 hk2=>?_
   · rw [hid (j + 1) t ht]; show _=h'.objs.size + j; rw [hz]; omega
   · have:=q h2 (by rw [List.length_cons,hz2]; show h'.objs.size + _=_; rw [hz]; omega) (fun t ht=>?_) (fun c o z=>hk2 c o (hk c o z))
     · rw [←e0]; simpa using this
     · rcases List.mem_cons.mp ht with z | z
       · subst z; exact hi.keep fun o z=>hk2 _ o z
       · exact hi2 t z
theorem QD (rs:List Zr) (hl:rs.length≤8):Meets (Builtin.«zip.__new__» ⟨.type "zip" :: (rs.map fun r=>Value.ref r.l),[]⟩) (fun _ R s=>(∀ r∈rs,ZAt s.heap r)∧(∀ (j:Nat) (r:Zr),rs[j]? =some r→r.it=s.heap.objs.size + j)∧
     ∀ h',IsZip h' (s.heap.objs.size + rs.length + 2) (s.heap.objs.size + rs.length) (s.heap.objs.size + rs.length + 1) .none→IsT h' (s.heap.objs.size + rs.length) (rs.map fun r=>Value.ref r.it).toArray→IsT h' (s.heap.objs.size + rs.length + 1) (rs.map fun _=>Value.none).toArray→
       (∀ r∈rs,ZIt h' r 0)→h'.objs.size=s.heap.objs.size + rs.length + 3→(∀ c o,s.heap.get? c=some o→h'.get? c=some o)→R (.ok (.ret (.ref (s.heap.objs.size + rs.length + 2)))) { s with heap:=h' }) :=
 .of_wp <|by
   rintro prog w A R s ⟨hat,hid,h⟩;have hl':rs.length≤sizeLine:=Nat.le_trans hl (by decide);have fin:∀ h1,h1.objs.size=s.heap.objs.size + rs.length→(∀ r∈rs,ZIt h1 r 0)→(∀ c o,s.heap.get? c=some o→h1.get? c=some o)→
       R (.ok (.ret (.ref ((h1.push { cls:=.type "tuple",data:=.seq (rs.map fun r=>Value.ref r.it).toArray }).push { cls:=.type "tuple",data:=.seq (rs.map fun _=>Value.none).toArray }).objs.size)))
         { s with heap:=((h1.push { cls:=.type "tuple",data:=.seq (rs.map fun r=>Value.ref r.it).toArray }).push { cls:=.type "tuple",data:=.seq (rs.map fun _=>Value.none).toArray }).push { cls:=.type "zip",data:=.fields #[.none,.bool false,.bool false,.ref h1.objs.size,.ref (h1.push { cls:=.type "tuple",data:=.seq (rs.map fun r=>Value.ref r.it).toArray }).objs.size] } }:=by
     intro h1 hz1 hi1 hk1;have z2:(h1.push { cls:=.type "tuple",data:=.seq (rs.map fun r=>Value.ref r.it).toArray }).objs.size=s.heap.objs.size + rs.length + 1:=by rw [Heap.size_push,hz1]
     have z3:((h1.push { cls:=.type "tuple",data:=.seq (rs.map fun r=>Value.ref r.it).toArray }).push { cls:=.type "tuple",data:=.seq (rs.map fun _=>Value.none).toArray }).objs.size=s.heap.objs.size + rs.length + 2:=by rw [Heap.size_push,z2]
     rw [z3];refine h _ ?_ ?_ ?_ (fun r hr=>(hi1 r hr).keep fun o z=>wEq _ (wEq _ (wEq _ z))) (by rw [Heap.size_push,z3]) fun c o z=>wEq _ (wEq _ (wEq _ (hk1 c o z)))
     · rw [←z3,z2,hz1]; exact wGq _ rfl
     · unfold IsT; rw [←hz1]; exact wEq _ (wEq _ (wGq _ rfl))
     · unfold IsT; rw [←z2]; exact wEq _ (wGq _ rfl)
   have e0:∀ xs,SmallTypes.newClass "zip" ⟨.type "zip" :: xs,[]⟩=pure (.type "zip",xs):=fun xs=>by
     unfold SmallTypes.newClass;show (isType (.type "zip") >>= _)=_;have e1:isType (.type "zip")=pure true:=rfl;rw [e1,pure_bind];show (isSubtype (.type "zip") (.type "zip") >>= _)=_;rw [sub_zip,pure_bind];rfl
   unfold Builtin.«zip.__new__»;rw [e0,pure_bind];show wpAny _ _ (SmallTypes.iterAll _ >>= _) _ _ _;refine wAq (wAq (DE (fun _ _=>rfl) rs #[] s _ hat hid fun h1 hz1 hi1 hk1=>wBq ?_));have en:(#[] ++ (rs.map fun r=>Value.ref r.it).toArray:Array Value).toList=rs.map fun r=>Value.ref r.it:=by simp
   rw [en];refine wAq (wpAny_newTuple (wAq (wpAny_newTuple ?_ (by simpa using hl'))) (by simpa using hl'));have em:(List.map (fun _=>Value.none) (rs.map fun r=>Value.ref r.it))=rs.map fun _=>Value.none:=by rw [List.map_map]; rfl
   rw [em];show wpAny _ _ (newObj (.type "zip") (.fields #[.none,.bool false,.bool false,.ref h1.objs.size,.ref (h1.push { cls:=.type "tuple",data:=.seq (rs.map fun r=>Value.ref r.it).toArray }).objs.size]) none >>= _) _ _ _;refine wAq (wpAny_newObj_type ?_ (by size_fits));exact wBq ⟨_,rfl,fin h1 hz1 hi1 hk1⟩
theorem PZ (a b c:Value):checkTypeCall "zip" ⟨[a,b,c],[]⟩=pure ():=by kernel_rfl
theorem UA (a b c:Value):checkBuiltinCall "zip.__new__" ⟨[.type "zip",a,b,c],[]⟩=pure ():=by kernel_rfl
theorem aGL (a b c d:Value):argsOk "object.__init__" ⟨[a,b,c,d],[]⟩:=by
 unfold argsOk;rw [signature?_of (id:="object.__init__") (n:="__tini__".toList) (o:="tcejbo".toList) (by kernel_rfl) F.owner_object];kernel_rfl
theorem MA {s:Shared} {rs:List Zr} {Q:Value→Shared→Prop} (hl:rs.length≤8) (hat:∀ r∈rs,ZAt s.heap r) (hid:∀ (j:Nat) (r:Zr),rs[j]? =some r→r.it=s.heap.objs.size + j)
   (ct:checkTypeCall "zip" ⟨rs.map fun r=>Value.ref r.l,[]⟩=pure ()) (cn:checkBuiltinCall "zip.__new__" ⟨.type "zip" :: (rs.map fun r=>Value.ref r.l),[]⟩=pure ()) (ok:∀ obj,argsOk "object.__init__" ⟨obj :: (rs.map fun r=>Value.ref r.l),[]⟩)
   (h:∀ h',Zs h' (s.heap.objs.size + rs.length + 2) (s.heap.objs.size + rs.length) (s.heap.objs.size + rs.length + 1) rs 0→h'.objs.size=s.heap.objs.size + rs.length + 3→(∀ c o,s.heap.get? c=some o→h'.get? c=some o)→Q (.ref (s.heap.objs.size + rs.length + 2)) { s with heap:=h' }) :
   wpAny (model prog w) A (call (.type "zip") (rs.map fun r=>Value.ref r.l)) Q E s:=by
 refine callType_new F.called_zip (by decide) ct cn ok F.entry_zip_new (QD rs hl) ⟨hat,hid,fun h' a b c d e f=>?_⟩;exact ⟨⟨_,a,rfl⟩,h h' ⟨a,b,⟨_,by simp,c⟩,d⟩ e f⟩
theorem YD {s:Shared} {rs:List Zr} {Q:Value→Shared→Prop} (hl:rs.length=2∨rs.length=3) (hat:∀ r∈rs,ZAt s.heap r) (hid:∀ (j:Nat) (r:Zr),rs[j]? =some r→r.it=s.heap.objs.size + j)
   (h:∀ h',Zs h' (s.heap.objs.size + rs.length + 2) (s.heap.objs.size + rs.length) (s.heap.objs.size + rs.length + 1) rs 0→h'.objs.size=s.heap.objs.size + rs.length + 3→(∀ c o,s.heap.get? c=some o→h'.get? c=some o)→Q (.ref (s.heap.objs.size + rs.length + 2)) { s with heap:=h' }) :
   wpAny (model prog w) A (call (.type "zip") (rs.map fun r=>Value.ref r.l)) Q E s:=by
 match rs,hl,hat,hid,h with
 | [a,b],_,hat,hid,h =>
   have ct:=F.typeCall_zip_2 (.ref a.l) (.ref b.l);have cn:=F.newCall_zip_2 (.ref a.l) (.ref b.l);have ok:=fun obj=>F.args_object_init_3 obj (.ref a.l) (.ref b.l);exact MA (rs:=[a,b]) (by show 2≤8; decide) hat hid ct cn ok h
 | [a,b,c],_,hat,hid,h =>
   have ct:=PZ (.ref a.l) (.ref b.l) (.ref c.l);have cn:=UA (.ref a.l) (.ref b.l) (.ref c.l);have ok:=fun obj=>aGL obj (.ref a.l) (.ref b.l) (.ref c.l);exact MA (rs:=[a,b,c]) (by show 3≤8; decide) hat hid ct cn ok h
end
end LZ
namespace L2
open PySem PySem.Spec PyProof.Rows LZ
section
variable {X:Cx} {pins:List (Addr×Obj)} {σ:St} {H:Hp} {s:Shared} {h':Heap}
theorem Inv.turns {t':Nat} {ch:List Addr} (I:Inv X pins σ H s)
   (hch:∀ b∈ch,(b∈X.ex∨X.s₀.heap.objs.size≤b)∧b≠X.env.locals∧(∀ x c,X.env.cells.lookup x=some c→c≠b)∧∀ p∈X.pn ++ pins,p.1≠b) (hn:∀ b∈ch,H b=none)
   (k:∀ b o,b∉ ch→s.heap.get? b=some o→h'.get? b=some o):Inv X pins σ H { s with heap:=h',toks:=t' }:=by
 have nit:∀ b u,H b=some u→b∉ ch:=fun b u e z=>by rw [hn b z] at e; cases e
 refine I.step (g':=s.gens) (d':=s.drawn) (ch:=ch) hch (fun b o _ _ hc e _=>k b o hc e) (fun b o _ _ hc e _=>⟨o.slots,k b o hc e⟩) (fun _ _ _ _ n=>n) (fun b o hc e=>⟨o,k b o hc e⟩) (fun _ _ e=>e) (fun _ _ _ e=>e) (fun b ps e=>⟨#[],by rw [e]; simp⟩) (fun m hm=>?_) (fun b u e=>?_) I.bare
 · obtain ⟨o,es,ep,ho,r⟩:=hm;exact ⟨o,es,ep,k _ o (fun z=>(hch _ z).2.1 rfl) ho,r⟩
 · refine (I.hok b u e).stay (fun c v hc q=>k c v ?_ q) (fun c q=>q) fun c xs q=>q;rcases hc with z | z
   · rw [z]; exact nit b _ e
   · exact nit c _ z
noncomputable def hJ (h:Heap) (l:Addr):Array Value:=match h.get? l with
 | some o=>(match o.data with | .seq a _=>a | _=> #[])
 | none=> #[]
theorem UO {h:Heap} {l:Addr} {a:Array Value} (q:h.IsTuple l a):hJ h l=a:=by
 obtain ⟨o,ho,_,n,hd⟩:=q;unfold hJ; rw [ho]; dsimp only; rw [hd]
theorem UB {h:Heap} {l:Addr} {a:Array Value} (q:h.IsList l a):hJ h l=a:=by
 obtain ⟨o,ho,_,n,hd⟩:=q;unfold hJ; rw [ho]; dsimp only; rw [hd]
def sN (K:W.Frag) (H:Hp) (b:Bool) (l:Addr) (xs:List V):Prop:=if b=true then SqT K H l xs else SqL K H l xs
def tY (K:W.Frag) (H:Hp) (rs:List Zr) (xss:List (List V)):Prop:=xss.length=rs.length∧∀ (j:Nat) (r:Zr) (xs:List V),rs[j]? =some r→xss[j]? =some xs→sN K H r.b r.l xs
theorem kO {b:Bool} {l:Addr} {xs:List V} (I:Inv X pins σ H s) (h:sN X.K H b l xs):∃ its:List Value,aJ xs its∧hJ s.heap l=its.toArray∧∀ it,ZAt s.heap ⟨it,l,b,its.toArray⟩:=by
 unfold sN at h;cases b with
 | true =>
   rw [if_pos rfl] at h;obtain ⟨its,rv,p,_⟩:=I.tuple h;have p':s.heap.IsTuple l its.toArray:=p;exact ⟨its,rv,UO p',fun it=>by unfold ZAt; rw [if_pos rfl]; exact p'⟩
 | false =>
   rw [if_neg (by decide)] at h;obtain ⟨its,rv,p,_⟩:=I.list h;exact ⟨its,rv,UB p.isList,fun it=>by unfold ZAt; rw [if_neg Bool.false_ne_true]; exact p.isList⟩
noncomputable def lU (h:Heap) (rs:List Zr):List Zr:=rs.map fun r=>{ r with xs:=hJ h r.l }
theorem GP {h g:Heap} {z TI TO:Addr} {rs:List Zr} {k:Nat} (S:Zs h z TI TO rs k):Zs h z TI TO (lU g rs) k:=by
 refine ⟨S.z, ?_, ?_,fun r hr=>?_⟩
 · unfold lU; rw [List.map_map]; exact S.ti
 · obtain ⟨ys,a,b⟩:=S.to_; exact ⟨ys,by unfold lU; rw [List.length_map]; exact a,b⟩
 · obtain ⟨t,ht,rfl⟩:=List.mem_map.mp hr;exact S.it t ht
theorem IH {g:Heap} {z TI TO:Addr} {rs:List Zr} (D:Ap z TI TO rs):Ap z TI TO (lU g rs):=by
 refine ⟨by unfold lU; rw [List.map_map]; exact D.nd,fun r hr=>?_,fun r hr=>?_,fun r hr t ht=>?_,D.zo,D.zt,D.ot⟩
 · obtain ⟨t,ht,rfl⟩:=List.mem_map.mp hr; exact D.zi t ht
 · obtain ⟨t,ht,rfl⟩:=List.mem_map.mp hr; exact D.zl t ht
 · obtain ⟨u,hu,rfl⟩:=List.mem_map.mp hr; obtain ⟨v,hv,rfl⟩:=List.mem_map.mp ht; exact D.li u hu v hv
noncomputable def Itz (K:W.Frag) (rs:List Zr):It :=
 ⟨fun i H=>∃ (xss:List (List V)) (vs:List V),tY K H rs xss∧vs.length=rs.length∧∀ (j:Nat) (xs:List V),xss[j]? =some xs→xs[i]? =vs[j]?,
  fun i H x H'=>∃ (T:Addr) (vs:List V),x= .ref T∧H T=none∧H'=upd H T (.tup vs)∧vs.length=rs.length∧∀ xss,tY K H rs xss→∀ (j:Nat) (xs:List V),xss[j]? =some xs→xs[i]? =vs[j]?,
  fun i H=>(∃ xs t,tY K H rs (xs :: t)∧xs.length≤i)∨∃ xs ys t,tY K H rs (xs :: ys :: t)∧i < xs.length∧ys.length≤i⟩
theorem aJ.mk {f:Nat→Option Value}:∀ {vs:List V},(∀ (j:Nat) (v:V),vs[j]? =some v→∃ u,f j=some u∧aN v u)→∃ us,aJ vs us∧us.length=vs.length∧∀ (j:Nat),j < vs.length→us[j]? =f j
 | [],_=>⟨[],.nil,rfl,fun j hj=>absurd hj (Nat.not_lt_zero _)⟩
 | v :: vs,h=>by
   obtain ⟨u,e,r⟩:=h 0 v rfl;obtain ⟨us,a,b,c⟩:=aJ.mk (f:=fun j=>f (j + 1)) (vs:=vs) fun j w hw=>h (j + 1) w hw;refine ⟨u :: us,.cons r a,by rw [List.length_cons,List.length_cons,b],fun j hj=>?_⟩;cases j with
   | zero=>exact e.symm
   | succ j=>exact c j (by simpa using hj)
theorem OT {b:Bool} {l:Addr} {xs ys:List V} (I:Inv X pins σ H s) (h:sN X.K H b l xs) (h2:sN X.K H b l ys):xs=ys:=by
 obtain ⟨a1,r1,e1,_⟩:=kO I h;obtain ⟨a2,r2,e2,_⟩:=kO I h2;have:a1=a2:=by have:=e1.symm.trans e2; simpa using this
 subst this;exact r1.inj r2
theorem WY {P:Program} {w:World} {K:W.Frag} {es:List Expr} {x1} {tp:Pos} {z TI TO:Addr} {rs:List Zr} (D:Ap z TI TO rs) (hn:rs≠ []) (hl:rs.length≤8) :
   HZ P w K (.Tuple es x1 tp) (Itz K rs) (z :: TO :: TI :: rs.map Zr.it) z (fun i h=>Zs h z TI TO rs i) where
 mem:=by simp
 obj :=fun i h st b hb=>by
   rcases List.mem_cons.mp hb with rfl | hb
   · exact ⟨_,st.z,fun v q=>by have q':Data.fields _=Data.cell v:=q; cases q'⟩
   rcases List.mem_cons.mp hb with rfl | hb
   · obtain ⟨ys,_,q⟩:=st.to_; exact ⟨_,q,fun v q=>by have q':Data.seq _ _=Data.cell v:=q; cases q'⟩
   rcases List.mem_cons.mp hb with rfl | hb
   · exact ⟨_,st.ti,fun v q=>by have q':Data.seq _ _=Data.cell v:=q; cases q'⟩
   · obtain ⟨r,hr,rfl⟩:=List.mem_map.mp hb;have q:=st.it r hr;unfold ZIt at q;split at q
     · obtain ⟨o,a,_,d⟩:=q; exact ⟨o,a,fun v z=>by rw [d] at z; cases z⟩
     · obtain ⟨o,a,_,d⟩:=q; exact ⟨o,a,fun v z=>by rw [d] at z; cases z⟩
 keep:=fun i h h' st k=>by
   refine ⟨k z (by simp) _ st.z,k TI (by simp) _ st.ti, ?_,fun r hr=>(st.it r hr).keep fun o q=>k r.it (by simp; exact .inr (.inr (.inr ⟨r,hr,rfl⟩))) o q⟩;obtain ⟨ys,a,b⟩:=st.to_;exact ⟨ys,a,k TO (by simp) _ b⟩
 item := by
   intro X hP hw hK hc i pins s σ H E I hf st hg;subst hP hw hK;obtain ⟨xss,vs,hr,hvl,hx⟩:=hg;have hxl:xss.length=rs.length:=hr.1;have at_:∀ r∈lU s.heap rs,ZAt s.heap r:=fun r hr'=>by
     obtain ⟨t,ht,rfl⟩:=List.mem_map.mp hr';obtain ⟨j,hj,ej⟩:=List.getElem_of_mem ht;obtain ⟨its,_,e,q⟩:=kO I (hr.2 j t (xss[j]'(by omega)) (by rw [wHq hj,ej]) (by simp));have:=q t.it;rw [←e] at this; exact this
   obtain ⟨us,rv,ul,hu⟩:=aJ.mk (f:=fun j=>(rs[j]?).bind fun r=>(hJ s.heap r.l)[i]?) (vs:=vs) fun j v hv=>by
     have hj:j < rs.length:=by have:=(List.getElem?_eq_some_iff.mp hv).1; omega
     have er:rs[j]? =some rs[j]:=wHq hj;have ex:xss[j]? =some (xss[j]'(by omega)):=by simp
     obtain ⟨its,rvs,e,_⟩:=kO I (hr.2 j _ _ er ex);obtain ⟨u,hu,ru⟩:=rvs.get ((hx j _ ex).trans hv);refine ⟨u, ?_,ru⟩;show (rs[j]?).bind _=_;rw [er,Option.bind_some,e];simpa using hu
   refine NL (vs:=us) (IH D) (by unfold lU; simpa using hn) (by unfold lU; rw [List.length_map]; exact hl) (GP st) at_ (by unfold lU; rw [List.length_map,ul,hvl]) (fun j r hr'=>?_) fun h1 hz1 hT1 hi1 hN hsz hk=>?_
   · unfold lU at hr';rw [List.getElem?_map] at hr';cases er:rs[j]? with
     | none=>rw [er] at hr'; cases hr'
     | some t =>
       rw [er] at hr';have:r={ t with xs:=hJ s.heap t.l }:=(Option.some.inj hr').symm;subst this;have hj:j < rs.length:=(List.getElem?_eq_some_iff.mp er).1;rw [hu j (by omega)];show _=(rs[j]?).bind _;rw [er]; rfl
   · refine ⟨_,rfl,wpAny_letOwnedTupleGo_zip hz1 fun h2 hz2 sb=>?_⟩;have mem_it:∀ r∈rs,∃ t∈lU s.heap rs,t.it=r.it:=fun r hr=>⟨_,List.mem_map.mpr ⟨r,hr,rfl⟩,rfl⟩;have it_mem:∀ t∈lU s.heap rs,∃ r∈rs,r.it=t.it:=fun t ht=>by obtain ⟨r,hr,rfl⟩:=List.mem_map.mp ht; exact ⟨r,hr,rfl⟩
     have hTz:s.heap.objs.size≠z:=Nat.ne_of_gt (Heap.lt_size st.z);have gT:IsT h2 s.heap.objs.size us.toArray:=(sb.2 _ hTz).trans hN;have lt:∀ b∈z :: TO :: TI :: rs.map Zr.it,b≠s.heap.objs.size:=fun b hb=>by
       have:∃ o,s.heap.get? b=some o:=by
         rcases List.mem_cons.mp hb with rfl | hb
         · exact ⟨_,st.z⟩
         rcases List.mem_cons.mp hb with rfl | hb
         · obtain ⟨ys,_,q⟩:=st.to_; exact ⟨_,q⟩
         rcases List.mem_cons.mp hb with rfl | hb
         · exact ⟨_,st.ti⟩
         · obtain ⟨r,hr,rfl⟩:=List.mem_map.mp hb; exact (st.it r hr).lt
       obtain ⟨o,q⟩:=this;exact Nat.ne_of_lt (Heap.lt_size q)
     refine ⟨.ref s.heap.objs.size,upd H s.heap.objs.size (.tup vs),I.turnNew (ch:=z :: TO :: TI :: rs.map Zr.it) (h':=h2) (fun b hb=>?_) (fun b hb=>(hf b hb).1) (fun b o hb q=>?_) (Nat.le_refl _) ?_,rfl,⟨_,vs,rfl,I.hok.fresh (Nat.le_refl _),rfl,hvl,fun yss hy j xs hxs=>?_⟩, ?_,fun b hb=>?_⟩
     · obtain ⟨f0,f1,f2,f3,f4,f5⟩:=hf b hb;exact ⟨f3,f1,f4,f5⟩
     · have n1:b≠z:=fun e=>hb (by simp [e]);have n2:b≠TO:=fun e=>hb (by simp [e]);exact (sb.2 b n1).trans (hk b o n1 n2 (fun t ht e=>by obtain ⟨r,hr,er⟩:=it_mem t ht; exact hb (by rw [e,←er]; simp; exact .inr (.inr (.inr ⟨r,hr,rfl⟩)))) q)
     · exact ⟨by show vs.length≤sizeLine; rw [hvl]; exact Nat.le_trans hl (by decide),us,rv,gC.at gT⟩
     · have hj:j < rs.length:=by have:=(List.getElem?_eq_some_iff.mp hxs).1; have:=hy.1; omega
       have er:rs[j]? =some rs[j]:=wHq hj;have ex:xss[j]? =some (xss[j]'(by omega)):=by simp
       rw [OT I (hy.2 j _ _ er hxs) (hr.2 j _ _ er ex)];exact hx j _ ex
     · refine ⟨hz2,(sb.2 _ D.zt).trans (hk _ _ D.zt D.ot (fun t ht e=>?_) st.ti),⟨us.toArray,by simp; omega,(sb.2 _ D.zo).trans hT1⟩,fun r hr=>?_⟩
       · obtain ⟨r,hr,er⟩:=it_mem t ht; exact (D.zi r hr).2.2 (er.trans e.symm)
       · obtain ⟨t,ht,et⟩:∃ t∈lU s.heap rs,t={ r with xs:=hJ s.heap r.l }:=⟨_,List.mem_map.mpr ⟨r,hr,rfl⟩,rfl⟩;have q:=hi1 t ht;subst et;have q':ZIt h1 r (i + 1):=q;exact q'.keep fun o z=>(sb.2 _ (D.zi r hr).1).trans z
     · rw [aI (lt b hb)];exact (hf b hb).1
 done :=by
   intro X hP hw hK hc i pins s σ H E I hf st hg;subst hP hw hK;rcases hg with ⟨xs,t,hr,hx⟩ | ⟨xs,ys,t,hr,hi,hy⟩
   rotate_left
   · match rs,hn,hl,D,st,hr,hf with
     | r :: r2 :: cR,_,hl,D,st,hr,hf =>
       obtain ⟨its,rv,e,q⟩:=kO I (hr.2 0 r xs rfl rfl);obtain ⟨its2,rv2,e2,q2⟩:=kO I (hr.2 1 r2 ys rfl rfl);have l1:=rv.length;have l2:=rv2.length;have a0:ZAt s.heap { r with xs:=hJ s.heap r.l }:=by have:=q r.it; rw [←e] at this; exact this
       have a1:ZAt s.heap { r2 with xs:=hJ s.heap r2.l }:=by have:=q2 r2.it; rw [←e2] at this; exact this
       have hx1:(its.toArray)[i]? =some (its[i]'(by omega)):=by simp
       have hx2:(its2.toArray)[i]? =none:=by simp; omega
       have mb:∀ b∈ [z,TO,r.it,r2.it],b∈z :: TO :: TI :: (r :: r2 :: cR).map Zr.it:=fun b hb=>by simp at hb ⊢; rcases hb with z | z | z | z <;> simp [z]
       refine OZ (r:={ r with xs:=hJ s.heap r.l }) (t:={ r2 with xs:=hJ s.heap r2.l }) (rs:=lU s.heap cR) (I.ok.hd hc) (IH (g:=s.heap) D) (by simpa [lU] using hl) (GP (g:=s.heap) st) a0 a1 (by show (hJ s.heap r.l)[i]? =some _; rw [e]; exact hx1) (by show (hJ s.heap r2.l)[i]? =none; rw [e2]; exact hx2) fun h1 hk=>⟨rfl,I.turns (t':=s.toks) (ch:=[z,TO,r.it,r2.it]) (fun b hb=>?_) (fun b hb=>(hf b (mb b hb)).1) fun b o hb q=>hk b o (fun z=>hb (by simp [z])) (fun z=>hb (by simp [z])) (fun z=>hb (by simp [z])) (fun z=>hb (by simp [z])) q⟩;obtain ⟨f0,f1,f2,f3,f4,f5⟩:=hf b (mb b hb);exact ⟨f3,f1,f4,f5⟩
     | [r],_,_,_,_,hr,_=>exact absurd hr.1 (by simp)
   match rs,hn,D,st,hr,hf with
   | r :: cR,_,D,st,hr,hf =>
     obtain ⟨its,rv,e,q⟩:=kO I (hr.2 0 r xs rfl rfl);have hl:=rv.length;have hx':(its.toArray)[i]? =none:=by simp; omega
     have a0:ZAt s.heap { r with xs:=hJ s.heap r.l }:=by have:=q r.it; rw [←e] at this; exact this
     refine WH (r:={ r with xs:=hJ s.heap r.l }) (rs:=lU s.heap cR) (I.ok.hd hc) (IH (g:=s.heap) D) (GP (g:=s.heap) st) a0 (by show (hJ s.heap r.l)[i]? =none; rw [e]; exact hx') fun h1 hk=>⟨rfl,I.turns (t':=s.toks) (ch:=[z,r.it]) (fun b hb=>?_) (fun b hb=>?_) fun b o hb q=>hk b o (fun z=>hb (by simp [z])) (fun z=>hb (by simp [z])) q⟩
     · have hb':b∈z :: TO :: TI :: (r :: cR).map Zr.it:=by simp at hb ⊢; rcases hb with z | z <;> simp [z]
       obtain ⟨f0,f1,f2,f3,f4,f5⟩:=hf b hb';exact ⟨f3,f1,f4,f5⟩
     · have hb':b∈z :: TO :: TI :: (r :: cR).map Zr.it:=by simp at hb ⊢; rcases hb with z | z <;> simp [z]
       exact (hf b hb').1
 self:=fun _ _ _ _ _ st h=>wpAny_pyIter_zip st.z h
end
section
variable {X:Cx} {pins:List (Addr×Obj)} {σ:St} {H:Hp} {s:Shared} {h':Heap}
def aJU (K:W.Frag) (ta:TA):TI:=fun σ H R=>ta σ H fun vs H1=>∃ ls:List (Bool×Addr),vs=ls.map (fun p=>V.ref p.2)∧(ls.length=2∨ls.length=3)∧
 (∃ xss:List (List V),xss.length=ls.length∧∀ (j:Nat) (p:Bool×Addr) (xs:List V),ls[j]? =some p→xss[j]? =some xs→sN K H1 p.1 p.2 xs)∧∀ rs:List Zr,rs.map (fun r=>(r.b,r.l))=ls→R (Itz K rs) H1
theorem zC:∀ {ls:List (Bool×Addr)} {us:List Value},aJ (ls.map fun p=>V.ref p.2) us→us=ls.map fun p=>Value.ref p.2
 | [],_,.nil=>rfl
 | p :: r,_,.cons a b=>by
   have e:=zC (ls:=r) b;cases a;rw [e]; rfl
theorem aC8 {es0:List Expr} {x1} {tp:Pos} {e:Expr} {es:List Expr} {ta:TA} {p pos:Pos} (hg:Gl X "zip") (hm:X.mg "zip"=none) (ha:PA X (e :: es) ta) (hs:starEach (e :: es) X.env=(false,eval e X.env) :: starEach es X.env) (hpl:(backTo pos (starEach es X.env)).any (·.1)=false) :
   PI X (.Tuple es0 x1 tp) (.Call (.Name "zip" p) (e :: es) [] pos) (aJU X.K ta):=by
 intro pins s σ H R I h;refine Call_ (mV I hg hm boot_zip (PyProof.Rows.callWith_type1 (thn (ha pos pins s σ H _ I h) fun us s1 zz=>?_) hs hpl));obtain ⟨vs,H1,I1,r1,q1⟩:=zz;obtain ⟨ls,e,hl,⟨xss,hxl,hx⟩,q⟩:=q1;subst e;have eu:=zC r1;subst eu;obtain ⟨rs,ers⟩:∃ rs:List Zr,rs=ls.zipIdx.map fun p=>⟨s1.heap.objs.size + p.2,p.1.2,p.1.1,hJ s1.heap p.1.2⟩:=⟨_,rfl⟩;have rlen:rs.length=ls.length:=by rw [ers,List.length_map,List.length_zipIdx]
 have rget:∀ (j:Nat) (r:Zr),rs[j]? =some r→∃ p,ls[j]? =some p∧r=⟨s1.heap.objs.size + j,p.2,p.1,hJ s1.heap p.2⟩:=fun j r hr=>by
   rw [ers,List.getElem?_map,List.getElem?_zipIdx] at hr;cases ep:ls[j]? with
   | none=>rw [ep] at hr; cases hr
   | some p =>
     rw [ep] at hr;have:=Option.some.inj hr;exact ⟨p,rfl,by rw [←this]; simp⟩
 have rmem:∀ r∈rs,∃ (j:Nat) (p:Bool×Addr),ls[j]? =some p∧r=⟨s1.heap.objs.size + j,p.2,p.1,hJ s1.heap p.2⟩∧j < ls.length:=fun r hr=>by
   obtain ⟨j,hj,ej⟩:=List.getElem_of_mem hr;obtain ⟨p,a,b⟩:=rget j r (by rw [wHq hj,ej]);exact ⟨j,p,a,b,by omega⟩
 have e1:rs.map (fun r=>(r.b,r.l))=ls:=by
   refine List.ext_getElem? fun j=>?_;rw [ers,List.map_map,List.getElem?_map,List.getElem?_zipIdx];cases ls[j]? <;> rfl
 have e2:(ls.map fun p=>Value.ref p.2)=rs.map fun r=>Value.ref r.l:=by rw [←e1,List.map_map]; rfl
 have at_:∀ r∈rs,ZAt s1.heap r:=fun r hr=>by
   obtain ⟨j,p,a,rfl,hj⟩:=rmem r hr;obtain ⟨its,_,e,q⟩:=kO I1 (hx j p (xss[j]'(by omega)) a (by simp));rw [e]; exact q _
 have lt_:∀ r∈rs,r.l < s1.heap.objs.size:=fun r hr=>by
   have:=at_ r hr;unfold ZAt at this;split at this
   · obtain ⟨o,z,_⟩:=this; exact Heap.lt_size z
   · obtain ⟨o,z,_⟩:=this; exact Heap.lt_size z
 rw [e2];refine YD (by rw [rlen]; exact hl) at_ (fun j r hr=>by obtain ⟨p,_,rfl⟩:=rget j r hr; rfl) fun h2 S hsz hk=>?_;have I2:Inv X pins σ H1 { s1 with heap:=h2 }:=I1.kept (t':=s1.toks) hk;refine wpAny_pyIter_zip (s:={ s1 with heap:=h2 }) S.z ?_;have nn:∀ {m n:Nat},m < n→m≠n:=fun h=>Nat.ne_of_lt h;have D:Ap (s1.heap.objs.size + rs.length + 2) (s1.heap.objs.size + rs.length) (s1.heap.objs.size + rs.length + 1) rs:=by
   refine ⟨?_,fun r hr=>?_,fun r hr=>?_,fun r hr t ht=>?_,Nat.ne_of_lt (by omega),Nat.ne_of_lt (by omega),Nat.ne_of_lt (by omega)⟩
   · rw [ers,List.map_map];refine List.pairwise_iff_getElem.mpr fun i j hi hj hij=>?_;simp only [List.getElem_map,Function.comp,List.getElem_zipIdx];exact Nat.ne_of_lt (by omega)
   · obtain ⟨j,p,a,rfl,hj⟩:=rmem r hr;exact ⟨Nat.ne_of_lt (by show s1.heap.objs.size + j < _; omega),Nat.ne_of_lt (by show s1.heap.objs.size + j < _; omega),Nat.ne_of_lt (by show s1.heap.objs.size + j < _; omega)⟩
   · have:=lt_ r hr;exact ⟨Nat.ne_of_lt (wFq this (by omega)),Nat.ne_of_lt (wFq this (by omega))⟩
   · have:=lt_ r hr;obtain ⟨j,p,a,rfl,hj⟩:=rmem t ht;exact Nat.ne_of_lt (wFq this (Nat.le_add_right _ _))
 refine ⟨s1.heap.objs.size + rs.length + 2,_,_,_,H1,rfl,I2,WY D (by intro z; rw [z] at rlen; simp at rlen; omega) (by omega),S,fun b hb=>?_,q rs e1⟩;have hb':s1.heap.objs.size≤b:=by
   simp only [List.mem_cons,List.mem_map] at hb;rcases hb with rfl | rfl | rfl | ⟨r,hr,rfl⟩
   · exact Nat.le_trans (Nat.le_add_right _ rs.length) (Nat.le_add_right _ 2)
   · exact Nat.le_trans (Nat.le_add_right _ rs.length) (Nat.le_add_right _ 1)
   · exact Nat.le_add_right _ _
   · obtain ⟨j,p,a,rfl,hj⟩:=rmem r hr; exact Nat.le_add_right _ _
 exact I1.fpOk hb' (I1.hok.fresh hb')
end
end L2
namespace L2
open PySem PySem.Spec PyProof.Rows
section
variable {X:Cx}
theorem CV:∀ {bs:List Bool} {us:List Value} {i:Nat} {v:Value},aJ (bs.map V.bl) us→us[i]? =some v→∃ b,bs[i]? =some b∧v= .bool b
 | [],_,_,_,r,h=>by cases r; simp at h
 | b :: bs,_,0,v,r,h=>by
   cases r with
   | cons r1 r2 =>
     simp at h; subst h
     exact ⟨b,rfl,r1⟩
 | b :: bs,_,i + 1,v,r,h=>by
   cases r with
   | cons r1 r2 =>
     obtain ⟨c,e,q⟩:=CV (i:=i) r2 (by simpa using h);exact ⟨c,by simpa using e,q⟩
theorem aAZ {s:Shared} {h':Heap} {o:Obj} (hk:∀ b x,b∉ [s.heap.objs.size]→(s.heap.push o).get? b=some x→h'.get? b=some x):∀ b x,s.heap.get? b=some x→h'.get? b=some x :=
 fun b x e=>hk b x (fun hm=>by rw [List.mem_singleton.mp hm] at e; exact Nat.lt_irrefl _ (Heap.lt_size e)) (wEq _ e)
theorem OB (bs:List Bool):((List.range bs.length).all fun i=>(bs[i]?).getD true)=bs.all id:=by
 rw [Bool.eq_iff_iff,List.all_eq_true,List.all_eq_true];constructor
 · intro h b hb;obtain ⟨i,hi,rfl⟩:=List.getElem_of_mem hb;have:=h i (List.mem_range.mpr hi);simp only [wHq hi,Option.getD_some] at this;exact this
 · intro h i hi;have hi':=List.mem_range.mp hi;simp only [wHq hi',Option.getD_some];exact h _ (List.getElem_mem hi')
theorem NC (hc:X.calm=true):bE X (.builtin "all") (fun xs H Q=>∃ (p:Addr) (bs:List Bool),xs=[.ref p]∧H p=some (.lst (bs.map V.bl))∧Q (.bl (bs.all id)) H):=by
 rintro pins s σ H xs us Q I r ⟨p,bs,e,hp,q⟩;subst e;obtain ⟨u,rfl,ru⟩:=fG r;cases ru;obtain ⟨_,its,n,rv,ho⟩:=I.hok _ _ hp;have hl:s.heap.IsList p its.toArray:=⟨_,ho,rfl,n,rfl⟩;have hlt:p < s.heap.objs.size:=Heap.lt_size ho;refine call_all_walk (wpAny_pyIter_list hl ?_);refine ⟨s.heap.objs.size,[s.heap.objs.size,p],[s.heap.objs.size],its.toArray.size,_,_,fun i=>(bs[i]?).getD true,rfl,Walks.list (A:=X.A.in1) (I.ok.hd hc) _ p (Nat.ne_of_lt hlt) its.toArray,
   ⟨⟨_,wGq _ rfl,rfl,rfl⟩,hl.push _⟩,fun i v s' Q' E' hP hQ=>?_,fun h' tk hk=>?_⟩
 · obtain ⟨b,e,rfl⟩:=CV rv (i:=i) (v:=v) (by simpa using hP);simp only [e,Option.getD_some] at hQ;exact wpAny_truthy_bool hQ
 · have e:((List.range its.toArray.size).all fun i=>(bs[i]?).getD true)=bs.all id:=by
     have:=rv.length;rw [List.length_map] at this;rw [wIq,←this]; exact OB bs
   rw [e];exact ⟨.bl _,H,I.kept (t':=tk) (aAZ hk),rfl,q⟩
theorem PD (hc:X.calm=true):bE X (.builtin "sum") (fun xs H Q=>∃ (p:Addr) (ns:List Int),xs=[.ref p]∧H p=some (.lst (ns.map V.int))∧Q (.int ns.sum) H):=by
 rintro pins s σ H xs us Q I r ⟨p,ns,e,hp,q⟩;subst e;obtain ⟨u,rfl,ru⟩:=fG r;cases ru;obtain ⟨_,its,n,rv,ho⟩:=I.hok _ _ hp;have hl:s.heap.IsList p its.toArray:=⟨_,ho,rfl,n,rfl⟩;have hi:IntsAre its ns:=wD rv;obtain ⟨xs,hx⟩:=hi.allInts.items;have hl':s.heap.IsList p (intItems xs):=hx▸hl;refine sum_intListG (I.ok.hd hc) hl' fun h' tk t' hk=>?_;have e1:ns=xs.toList.map (·.1):=by
   rw [←nums_intItems,←hx];exact (show numsOf its.toArray.toList=ns from hi.numsOf).symm
 have e2:preSum (numAt xs) xs.size=ns.sum:=by
   rw [preSum_eq,List.take_of_length_le (by simp),e1]
 rw [e2];exact ⟨.int _,H,I.kept (t':=tk) hk,⟨_,rfl⟩,q⟩
end
end L2
namespace LX
open PySem PyProof.Rows
section
variable {prog:Program} {w:World} {A:Around} {E:Value→Shared→Prop} {s:Shared}
theorem aBW {it t:Addr} {items:Array Value} (hne:t≠it):∀ (n i:Nat) (s:Shared) (Q:List Value→Shared→Prop),s.heap.IsListIter it t i→s.heap.IsList t items→i + n≤items.size→
   (∀ h',h'.IsListIter it t (i + n)→Heap.SameBut it s.heap h'→Q ((items.toList.drop i).take n) { s with heap:=h' })→wpAny (model prog w) A (draw (.ref it) n) Q E s
 | 0,i,s,Q,hit,_,_,hQ=>by
   show wpAny _ _ (pure []) Q E s;exact wBq (by simpa using hQ s.heap hit (Heap.SameBut.refl ..))
 | n + 1,i,s,Q,hit,ht,hle,hQ=>by
   have hlt:i < items.size:=by omega
   show wpAny _ _ (pyNext (.ref it) >>= _) Q E s;refine wAq (wpAny_pyNext_list_item hit ht (x:=items[i]) (by simp [hlt]) fun h1 hit1 hs1=>?_);refine wAq (wpAny_holding (aBW hne n (i + 1) _ _ hit1 (ht.extBut hs1.extBut hne) (by omega) fun h2 hit2 hs2=>wBq ?_));have hd:items.toList.drop i=items[i] :: items.toList.drop (i + 1):=by simp [List.drop_eq_getElem_cons,hlt]
   have:=hQ h2 (by rw [show i + (n + 1)=i + 1 + n by omega]; exact hit2) (hs1.trans hs2);rw [hd,List.take_succ_cons] at this;exact this
theorem aBa {t:Addr} {items:Array Value} {Q:List Value→Shared→Prop} (hh:A.handled=none) (ht:s.heap.IsList t items)
   (hQ:∀ h',Heap.ExtBut s.heap.objs.size s.heap h'→Q items.toList { s with heap:=h' }):wpAny (model prog w) A (unpackItems (.ref t) items.size none) Q E s:=by
 have hlt:t≠s.heap.objs.size:=by obtain ⟨o,ho,_⟩:=ht; exact Nat.ne_of_lt (Heap.lt_size ho)
 unfold unpackItems;refine wAq ?_;unfold notIterableAtAll;refine wAq (wpAny_specialOf ht.typeIs slot_list_iter.lookup ?_);refine wBq ?_;simp only [Bool.false_eq_true,if_false];refine wAq (wpAny_holding (wpAny_pyIter_list ht ?_));refine wAq (wpAny_holding (aBW hlt items.size 0 _ _ ⟨_,wGq _ rfl,rfl,rfl⟩ (ht.push _) (by omega) fun h1 hit1 hs1=>?_));have hall:List.take items.size (List.drop 0 items.toList)=items.toList:=by
   rw [List.drop_zero]; exact List.take_of_length_le (by simp)
 rw [hall];rw [if_neg (by simp)];have ht1:h1.IsList t items:=(ht.push _).extBut hs1.extBut hlt;refine wAq (wpAny_holding (wpAny_pyNext_list_end hh hit1 ht1 (by simp) fun h2 he2=>?_));simp only [Option.isSome_none,Bool.false_eq_true,if_false];refine wBq (hQ h2 fun b o hb e=>he2 b o hb (hs1.extBut b o hb (wEq _ e)))
theorem aJ2 {env:Env} {elts:List Expr} {x1:Nat} {pos:Pos} {t:Addr} {items:Array Value} {Q:Unit→Shared→Prop} (hh:A.handled=none) (ht:s.heap.IsList t items)
   (hn:(assignEach elts env).length=items.size) (hstar:(assignEach elts env).findIdx? (·.1)=none)
   (h:∀ h',Heap.ExtBut s.heap.objs.size s.heap h'→wpAny (model prog w) A (assignInOrder ((assignEach elts env).map (·.2)) items.toList) Q E { s with heap:=h' }) :
   wpAny (model prog w) A (assign (.Tuple elts x1 pos) env (.ref t)) Q E s:=by
 rw [assign_Tuple];refine wAq (wpAny_standAt ?_);unfold unpack;rw [hn,hstar];exact wAq (wpAny_holding (aBa hh ht h))
end
end LX
namespace L2
open PySem PySem.Spec PyProof.Rows
section
variable {X:Cx} {pos:Pos}
def aKs (n:Nat) (t:TGs):TG:=fun v σ H Q=>∃ a xs,v= .ref a∧H a=some (.lst xs)∧xs.length=n∧t xs σ H Q
theorem aDM {es:List Expr} {k:Nat} {t:TGs} {n:Nat} (hc:X.calm=true) (h:PGs X es t)
   (hn:(assignEach es X.env).length=n) (hst:(assignEach es X.env).findIdx? (·.1)=none):PG X (.Tuple es k pos) (aKs n t):=by
 intro pins s σ H v u Q I r hw;obtain ⟨a,xs,e1,hq,hl,hw⟩:=hw;subst e1;cases r;obtain ⟨_,its,nn,rv,ho⟩:=I.hok _ _ hq;have ht:s.heap.IsList a its.toArray:=⟨_,ho,rfl,nn,rfl⟩;refine LX.aJ2 (I.ok.hd hc) ht (by simp [hn,←hl,rv.length]) hst fun h' hx=>?_;have I1:Inv X pins σ H { s with heap:=h' }:=I.kept (t':=s.toks) fun b o e=>hx b o (Nat.ne_of_lt (Heap.lt_size e)) e;exact h pins _ σ H xs _ Q I1 (by simpa using rv) hw
variable {a b c d:Expr} {ta tb tc td:TE}
theorem PB (hc:X.calm=true):bE X (.builtin "sum") (fun xs H Q=>∃ (p:Addr) (ns:List Int),xs=[.ref p]∧SqT X.K H p (ns.map V.int)∧Q (.int ns.sum) H):=by
 rintro pins s σ H xs us Q I r ⟨p,ns,e,hp,q⟩;subst e;obtain ⟨u,rfl,ru⟩:=fG r;cases ru;obtain ⟨its,rv,ht,_⟩:=I.tuple hp;have hl:s.heap.IsTuple p its.toArray:=ht;have hi:IntsAre its ns:=wD rv;obtain ⟨xs,hx⟩:=hi.allInts.items;have hl':s.heap.IsTuple p (intItems xs):=hx▸hl;refine W.ktm_sumG (I.ok.hd hc) hl' fun h' tk t' hk=>?_;have e1:ns=xs.toList.map (·.1):=by
   rw [←nums_intItems,←hx];exact (show numsOf its.toArray.toList=ns from hi.numsOf).symm
 have e2:preSum (numAt xs) xs.size=ns.sum:=by
   rw [preSum_eq,List.take_of_length_le (by simp),e1]
 rw [e2];exact ⟨.int _,H,I.kept (t':=tk) hk,⟨_,rfl⟩,q⟩
end
section
variable {X:Cx}
theorem NU:bE X (.type "range") (fun xs H Q=>∃ j,xs=[.int j]∧∀ r,H r=none→Q (.ref r) (upd H r (.rng 0 j))):=by
 rintro pins s σ H xs us Q I r ⟨j,e,q⟩;subst e;obtain ⟨u,rfl,t,rfl⟩:=fG r;refine call_range_1 ?_;have kp:∀ b o',s.heap.get? b=some o'→(s.heap.push { cls:=.type "range",data:=.fields #[.int 0 s.toks,.int j t,.int 1 (s.toks + 1)] }).get? b=some o':=fun b o' e=>wEq _ e;exact ⟨.ref s.heap.objs.size,_,I.laid (t':=s.toks + 1 + 1) kp (Nat.le_refl _) (show bZ X.prog X.w _ _ _ (.rng 0 j) from ⟨_,_,_,wGq _ rfl⟩),rfl,q _ (I.hok.fresh (Nat.le_refl _))⟩
end
section
variable {X:Cx} {pos:Pos}
end
end L2
namespace LE
open PySem PyProof.Rows
open AutoSeq1 (wpAny_loadPart')
open MeetsSeq MeetsSeq2 MeetsSeq3 SeqRoads2
end LE
namespace L2
open PySem PySem.Spec PyProof.Rows
section
variable {X:Cx}
end
section
variable {κ:Type} [DecidableEq κ]
noncomputable def valV (kvs:List (κ×V)) (k:κ):Option V:=(kvs.find? fun kv=>decide (kv.1=k)).map (·.2)
theorem aHj {k:κ}:valV ([]:List (κ×V)) k=none:=rfl
theorem uC {p:κ×V} {r:List (κ×V)} {k:κ} (e:p.1=k):valV (p :: r) k=some p.2:=by simp [valV,List.find?_cons,e]
theorem vO {p:κ×V} {r:List (κ×V)} {k:κ} (e:¬p.1=k):valV (p :: r) k=valV r k:=by simp [valV,List.find?_cons,e]
theorem KV.val {kvs:List (κ×V)} {vs:List (κ×Value)} (r:KV kvs vs) (k:κ):nU (valV kvs k) (valueAt vs k):=by
 unfold KV at r;induction r with
 | nil=>exact True.intro
 | @cons p q ps qs h t ih =>
   obtain ⟨h1,h2⟩:=h;by_cases e:p.1=k
   · have e':q.1=k:=h1.symm.trans e;have b:valueAt (q :: qs) k=some q.2:=by simp [valueAt,List.find?_cons,e']
     rw [uC e,b]; exact h2
   · have e':¬q.1=k:=fun z=>e (h1.trans z);have b:valueAt (q :: qs) k=valueAt qs k:=by simp [valueAt,List.find?_cons,e']
     rw [vO e,b]; exact ih
end
theorem aCf {P:Program} {w:World} {k:Key} {u:Value} (r:aN (kV k) u):(dN P w).is k u=true:=by
 cases k with
 | inl i=>obtain ⟨t,e⟩:=(show ∃ t,u=Value.int i t from r); subst e; exact EI P w i t
 | inr x=>obtain ⟨t,e⟩:=(show ∃ t,u=Value.str x t from r); subst e; exact CO P w x t
theorem zF {P:Program} {w:World}:∀ {ks:List Key} {us:List Value},aJ (ks.map kV) us→ItemsAre (dN P w) ks us
 | [],_,r=>by rw [List.map_nil] at r; cases r; exact .nil
 | k :: ks,_,r=>by
   rw [List.map_cons] at r;cases r with
   | cons h t=>exact .cons (aCf h) (zF t)
noncomputable abbrev KT (H:Hp):List (List Key×V)→List (List Key×Addr×Value)→Prop:=Paired fun p q=>p.1=q.1∧H q.2.1=some (.tup (p.1.map kV))∧aN p.2 q.2.2
theorem KT.val {H:Hp} {kvs:List (List Key×V)} {xs:List (List Key×Addr×Value)} (r:KT H kvs xs) (k:List Key):nU (valV kvs k) ((atKey xs k).map (·.2)):=by
 induction r with
 | nil=>exact True.intro
 | @cons p q ps qs h t ih =>
   obtain ⟨h1,_,h2⟩:=h;by_cases e:p.1=k
   · have e':q.1=k:=h1.symm.trans e;have b:atKey (q :: qs) k=some q.2:=by simp [atKey,List.find?_cons,e']
     rw [uC e,b]; exact h2
   · have e':¬q.1=k:=fun z=>e (h1.trans z);have b:atKey (q :: qs) k=atKey qs k:=by simp [atKey,List.find?_cons,e']
     rw [vO e,b]; exact ih
section
variable {P:Program} {w:World} {H:Hp} {h:Heap} {a:Addr}
theorem aCa {u:HO} (ok:HOk P w H h) (e:Rd H a u):bZ P w H h a u:=e.ok ok
theorem aB9 {kvs:List (Key×V)} (ok:HOk P w H h) (e:Rd H a (.dK kvs)):kvs.length≤sizeLine∧(a == sysModules)=false∧∃ vs,KV kvs vs∧h.DictOf (dN P w) a vs :=
 show bZ P w H h a (.dK kvs) from aCa ok e
theorem SU {ks:List Key} (ok:HOk P w H h) (e:H a=some (.tup (ks.map kV))):(tupleKind (dN P w)).is h ks a:=by
 obtain ⟨_,its,r,⟨o,h1,h2,n,h3⟩,_⟩:=(show bZ P w H h a (.tup (ks.map kV)) from ok a _ e);exact ⟨o,its.toArray,n,h1,h2,h3,by simpa using zF r⟩
theorem aCh {kvs:List (List Key×V)} (ok:HOk P w H h) (e:Rd H a (.dT kvs)):kvs.length≤sizeLine∧(a == sysModules)=false∧
   ∃ xs,KT H kvs xs∧h.DictOfH (tupleKind (dN P w)) a xs:=by
 obtain ⟨z,y,xs,r,o,es,ep,h1,h2,h3,h4,h5⟩:=(show bZ P w H h a (.dT kvs) from aCa ok e);refine ⟨z,y,xs,r,o,es,ep,h1,h2,h3,h4,fun x hx=>?_,h5⟩;have all:∀ {l:List (List Key×V)} {m:List (List Key×Addr×Value)},KT H l m→∀ x∈m,(tupleKind (dN P w)).is h x.1 x.2.1:=by
   intro l m q;induction q with
   | nil=>intro x hx; exact nomatch hx
   | @cons p q ps qs hq t ih =>
     intro x hx;rcases List.mem_cons.mp hx with e | hx
     · subst e;exact SU ok (by rw [←hq.1]; exact hq.2.1)
     · exact ih x hx
 exact all r x hx
end
noncomputable def YF (H:Hp) (a:Addr) (y:V) (r:Option V):Prop :=
 (∃ kvs k,Rd H a (.dK kvs)∧y=kV k∧r=valV kvs k)∨∃ kvs k b,Rd H a (.dT kvs)∧y= .ref b∧H b=some (.tup (k.map kV))∧r=valV kvs k
theorem YF.k {H:Hp} {a:Addr} {kvs:List (Key×V)} {k:Key} (e:H a=some (.dK kvs)):YF H a (kV k) (valV kvs k):=.inl ⟨kvs,k,.inl e,rfl,rfl⟩
section
variable {X:Cx} {pins:List (Addr×Obj)} {σ:St} {H:Hp} {s:Shared} {a:Addr} {y v:V} {u r:Value} {o:Option V} {A:Around} {E:Value→Shared→Prop}
theorem QR {Q:Value→Shared→Prop} (hu:A.units + 1 < cLine) (I:Inv X pins σ H s) (g:YF H a y (some v)) (ry:aN y u) (h:∀ w' s',Inv X pins σ H s'→aN v w'→Q w' s') :
   wpAny (model X.prog X.w) A (getItem (.ref a) u) Q E s:=by
 rcases g with ⟨kvs,k,e,ey,l⟩ | ⟨kvs,k,b,e,ey,eb,l⟩
 · subst ey;obtain ⟨z,hd,vs,rel,dd⟩:=aB9 I.hok e;obtain ⟨w',hw,rw'⟩:=nU.some_of (v:=v) (o:=valueAt vs k) (by rw [l]; exact rel.val k);exact wpAny_getItem_of (aCf ry) dd.mapOf hw (h w' _ (I.tok _) rw')
 · subst ey;cases (show u=Value.ref b from ry);obtain ⟨z,hd,xs,rel,dd⟩:=aCh I.hok e;obtain ⟨w',hw,rw'⟩:=nU.some_of (v:=v) (o:=(atKey xs k).map (·.2)) (by rw [l]; exact rel.val k);obtain ⟨p,hp,hp2⟩:=Option.map_eq_some_iff.mp hw;refine wpAny_getItem_heap (tupleKind_room_in1 hu) (SU I.hok eb) dd hp ?_;rw [hp2];exact h w' _ (I.tok _) rw'
end
section
variable {X:Cx} {pins:List (Addr×Obj)} {σ:St} {H:Hp} {s:Shared} {a:Addr} {kvs:List (Key×V)} {k:Key} {u:Value} {A:Around} {E:Value→Shared→Prop}
end
theorem GE {X:Cx} {pins:List (Addr×Obj)} {σ:St} {H:Hp} {s:Shared} {a:Addr} {y:V} {o:Option V} (I:Inv X pins σ H s) (g:YF H a y o):s.TypeIs (.ref a) "dict":=by
 rcases g with ⟨kvs,k,e,_,_⟩ | ⟨kvs,k,b,e,_,_,_⟩
 · obtain ⟨_,_,vs,_,dd⟩:=aB9 I.hok e;exact dd.typeIs
 · obtain ⟨_,_,xs,_,dd⟩:=aCh I.hok e;exact dd.typeIs
section
variable {X:Cx} {o i e value:Expr} {pos pos' tpos:Pos} {td ty tv:TE}
end
section
variable {X:Cx} {pos:Pos}
end
def aJ0:R2:=fun x y H Q=>∃ a v,x= .ref a∧YF H a y (some v)∧Q v H
theorem aBm {X:Cx} {k:Nat} (hr:bF k X.A):IxR X aJ0:=by
 rintro value slice pins s σ H x y v u Q I rx ry ⟨a,z,ex,g,q⟩ hs;subst ex;cases rx;exact tail_any (GE I g) slot_dict_getitem.lookup (QR (by have:=hr.units; omega) I g ry fun w' s' I' r'=>⟨z,H,I',r',q⟩) hs
end L2
namespace LE
open PySem PySem.W PySem.Calls PyProof.Rows Builtin
section
variable {prog:Program} {w:World} {A:Around} {E:Value→Shared→Prop} {s:Shared} {K:Frag} {x C L f:Addr} {h₀:Heap} {m:Str→Option Value} {ox:Obj} {od:Option Obj} {b tb:Value}
theorem OV {M:Model} {T id:String} {name:Str} {args:List Value} {Q:Option Value→Shared→Prop} (X:K.In s.heap) (I:InstAt s.heap x ox C od) (hs:findIn K (.ref C) name=some (some (.builtin id))) (S:Slot T name id)
   (h:wpAny M A (call (.builtin id) (.ref x :: args)) (fun v=>Q (some v)) E s):wpAny M A (callSpecialIfBound? (.ref x) name args) Q E s:=by
 simp only [callSpecialIfBound?,bindSpecialIfBound?];refine wpAny_holding (wAq (wAq (wAq (I.type.here ((looks_findIn X hs).here ?_)))));simp only [S.bind];refine wAq (wpAny_askSetting (wpAny_ite ?_));have fin:wpAny M A (call (.builtin id) ([.ref x] ++ args) >>= fun v=>pure (some v)) Q E s:=wAq (wpAny_mono h (fun v s' h'=>wBq h') fun _ _ h'=>h');split
 · exact wAq (wBq (wBq fin))
 · exact wpAny_tryCatch (wAq (wBq (wBq fin)))
theorem SG {M:Model} {Q:Unit→Shared→Prop} (X:K.In s.heap) (I:InstAt s.heap x ox C od) (hob:subIn K (.ref C) (.type "object")=some true) (hq:Q () s) :
   wpAny M A (checkBuiltinCall "object.__ne__" ⟨[.ref x,b],[]⟩) Q E s:=by
 have ha:=PySem.F.cmpArgs_ne (.ref x) b;simp only [checkBuiltinCall,PySem.F.cmpKind_ne,PySem.F.cmpSplit_ne];refine wAq ?_;unfold isInstance;refine wAq (I.type.here ((looks_subIn X hob).here ?_));simp only [Bool.not_true,Bool.false_eq_true,if_false];cases hsig:Manifest.signature? "object.__ne__" with
 | none=>exact wBq hq
 | some sig =>
   simp only [argsOk,hsig] at ha;have h2:Bind.checkArgs "object.__ne__" sig ⟨[.ref x,b],[]⟩=pure ():=ha;show wpAny M A (Bind.checkArgs "object.__ne__" sig ⟨[.ref x,b],[]⟩) Q E _;rw [h2]; exact wBq hq
theorem aJ6 {Q:Value→Shared→Prop} (hu:A.units + 1 < cLine) (X:K.In s.heap) (I:InstAt s.heap x ox C od) (hb:Looks (model prog w) s.heap (typeOf b) tb) (hn:notFirst K C tb=true) (hne:findIn K (.ref C) "__ne__"=some (some (.builtin "object.__ne__")))
   (hob:subIn K (.ref C) (.type "object")=some true) (hs:findIn K (.ref C) "__eq__"=some (some (.ref f))) (hf:isFn K (.ref f)=true)
   (h:wpAny (model prog w) A.in1 (call (.ref f) [.ref x,b]) (fun v s'=>∃ r,v= .bool r∧Q (.bool (!r)) s') E s):wpAny (model prog w) A (richCompare .NotEq (.ref x) b) Q E s:=by
 have one:wpAny (model prog w) A (tryCompare (.ref x) (cmpInfo .NotEq).2.1 b) (fun r s'=>∃ v,r=some v∧Q v s') E s:=by
   unfold tryCompare;refine wAq (OV (T:="object") X I hne PySem.F.cmp_object.ne ?_);refine wpAny_call (codeAny_call_builtin PySem.F.cmp_object.ne.plain PySem.F.cmpEntry_ne (SG X I hob ?_));unfold Builtin.«object.__ne__»;refine wAq (m:=slotArgs "__ne__" 1 _) (wBq ?_);refine wAq (wpAny_cRoomFor (by show A.units + 1 < cLine; exact hu) ?_);refine wAq (ifBound_K X I hs hf (wpAny_mono h (fun v s' hv=>?_) fun _ _ e=>e));obtain ⟨r,rfl,q⟩:=hv;refine wAq (wpAny_truthy_bool ?_);refine wBq ?_;exact wBq ⟨_,rfl,q⟩
 unfold richCompare;simp only [oneThing_ref];refine wpAny_holding (wAq (wpAny_cRoomFor (by omega) ?_));refine wAq (I.type.here (wAq (hb.here ?_)));split
 · rename_i q;have e:subIn K tb (.ref C)=some false:=by
     rcases Bool.or_eq_true_iff.mp hn with e | e
     · rw [beq_iff_eq.mp e] at q; simp at q
     · exact beq_iff_eq.mp e
   refine wAq ((looks_subIn X e).here ?_);simp only [Bool.false_eq_true,if_false];refine wAq (wpAny_mono one (fun r s' z=>?_) fun _ _ e=>e);obtain ⟨v,rfl,hq⟩:=z;exact wBq hq
 · refine wAq (wBq ?_);simp only [Bool.false_eq_true,if_false];refine wAq (wpAny_mono one (fun r s' z=>?_) fun _ _ e=>e);obtain ⟨v,rfl,hq⟩:=z;exact wBq hq
end
end LE
namespace L2
open PySem PySem.Spec PyProof.Rows
section
variable {X:Cx}
structure NeC (K:W.Frag) (C:Addr):Prop where
 ne:W.findIn K (.ref C) "__ne__"=some (some (.builtin "object.__ne__"))
 ob:W.subIn K (.ref C) (.type "object")=some true
 bo:W.findIn K (.ref C) "__bool__"=some none
def aKl (C:Addr) (sp:Sp):R2:=fun x y H Q=>∃ p dx fs p' dx' fs',x= .ref p∧y= .ref p'∧H p=some (.ins C dx fs)∧H p'=some (.ins C dx' fs')∧sp [.ref p,.ref p'] H (fun v H'=>∃ b,v= .bl b∧Q (.bl (!b)) H') E0
theorem aDW {k:Nat} {f C:Addr} {fd:FuncData} {sp:Sp} (N:NeC X.K C) (M:fO X.K C "__eq__" f) (F:bN X.prog X.w X.K X.mg X.base CX0 k f fd ["self","other"] sp) (hr:bF (k + 1) X.A) (hb:aH X.K fd ["self","other"] []) :
   OpR X (compareOp .NotEq) (aKl C sp):=by
 rintro pins s σ H x y v u Q I rx ry ⟨p,dx,fs,p',dx',fs',e1,e2,ea,eb,q⟩;subst e1 e2;cases rx;cases ry;obtain ⟨od,J⟩:=lF I ea;obtain ⟨od',J'⟩:=lF I eb;refine W.cmp_ofNotEq (LE.aJ6 (by have:=hr.units; omega) I.kIn J J'.type (by unfold W.notFirst; simp) N.ne N.ob M.at_ M.fn
   (thn (wY (dvs:=[]) (ds:=[]) (vs:=[.ref p,.ref p']) F hr.in1 I.env0.in1 hb .nil zB I (.cons rfl (.cons rfl .nil)) q) fun v s' ⟨x,H',I',rx,b,e,q'⟩=>?_))
 subst e;cases rx;exact ⟨b,rfl,.bl (!b),H',I',rfl,q'⟩
end
end L2
namespace LE
open PySem PyProof.Rows
open AutoSeq1 (wpAny_loadPart')
open MeetsSeq MeetsSeq2 MeetsSeq3 SeqRoads2 SeqAt
end LE
namespace HT
open PySem PySem.Spec PyProof.Rows
section
variable {prog:Program} {w:World} {A:Around} {E:Value→Shared→Prop} {s:Shared}
end
end HT
namespace L2
open PySem PySem.Spec PyProof.Rows
section
variable {X:Cx} {pins:List (Addr×Obj)} {σ:St} {H:Hp} {s:Shared} {a:Addr} {xs:List V}
end
section
variable {X:Cx} {o e:Expr} {to te:TE} {pos apos:Pos}
end
section
variable {X:Cx} {a:Addr} {es:Array DictEntry} {n:Nat}
end
section
variable {X:Cx} {pos:Pos}
end
end L2
namespace HT
open PySem PySem.Spec PyProof PyProof.Rows
section
variable {prog:Program} {w:World} {A:Around} {E:Value→Shared→Prop} {s:Shared}
theorem lV {t sl:Addr} {items:Array Value} {vl vu:Value} {lo hi:Option Int} {Q:Value→Shared→Prop} (ht:IsTup s.heap t items) (hs:s.heap.IsSliceOf sl vl vu .none) (pl:IsPart vl lo) (pu:IsPart vu hi)
   (hw:sIx items.size 0 lo=0∧sIx items.size items.size hi=items.size)
   (h:Q (.ref t) s):wpAny (model prog w) A (getItem (.ref t) (.ref sl)) Q E s:=by
 obtain ⟨os,hos,hcs,hds⟩:=id hs;have hTs:s.TypeIs (.ref sl) "slice":=⟨os,hos,hcs⟩;unfold getItem
 try with_reducible refine wpAny_holding ?_
 first | refine wAq (wBq ?_) | skip
 refine wAq (wpAny_sequenceKey ht.typeIs (by decide) ?_);refine wAq (wpAny_callSpecial?_slot (name:=Str.ofString "__getitem__") ht.typeIs PyProof.Rows.slot_tuple_getitem
   (wpAny_call_entry PyProof.Rows.slot_tuple_getitem ht.typeIs entry_tuple_getitem ?_ (args_tuple_getitem _ _)))
 show wpAny _ _ (Builtin.Tuple.tupleItemsOf (.ref t) >>= _) _ _ s;refine wAq (tupleItemsOf_ ht ?_);refine wAq (wpAny_typeOf hTs ?_);rw [if_pos (by decide)];refine wAq (iM hs pl pu ?_);have hno:(((sIx items.size 0 lo:Nat):Int) == 0 && (1:Int) == 1 && (sIx items.size items.size hi - sIx items.size 0 lo) == items.size)=true:=by
   rw [hw.1,hw.2]; simp
 show wpAny _ _ (if (((sIx items.size 0 lo:Nat):Int) == 0 && (1:Int) == 1 && (sIx items.size items.size hi - sIx items.size 0 lo) == items.size)=true then _ else _) _ _ s;rw [if_pos hno];unfold Builtin.Tuple.tupleIsExact;refine wAq (wAq (wpAny_typeOf ht.typeIs (wBq ?_)));rw [if_pos (by decide)];refine wAq (wpAny_rule ?_);first
   | exact wAq (wBq ⟨_,rfl,wBq h⟩)
   | exact wAq (wBq (wBq ⟨_,rfl,wBq h⟩))
   | exact wBq ⟨_,rfl,wBq h⟩
end
end HT
namespace L2
open PySem PySem.Spec PyProof.Rows
section
variable {X:Cx}
noncomputable def aKo (K:W.Frag):V→Option Int→Option Int→Hp→VK→Prop:=fun x lo hi H Q=>∃ a xs,x= .ref a∧SqT K H a xs∧
 (HT.sIx xs.length 0 lo=0∧HT.sIx xs.length xs.length hi=xs.length)∧Q (.ref a) H
theorem aBe:SlR X (aKo X.K):=by
 intro pins s σ H x v vl vu lo hi sl Q I rx hs pl pu h;obtain ⟨a,xs,rfl,hx,hw,q⟩:=h;cases rx;obtain ⟨its,r,ht,hz⟩:=I.tuple hx;have hlen:its.toArray.size=xs.length:=by rw [wIq]; exact r.length.symm
 refine ⟨"tuple",_,PyProof.Rows.slot_tuple_getitem.lookup,ht.typeIs, ?_⟩;exact HT.lV ht hs pl pu (by rw [hlen]; exact hw) ⟨.ref a,_,I,rfl,q⟩
end
noncomputable def ev2 {α:Type}:List α→List α
 | []=>[]
 | [x]=>[x]
 | x :: _ :: r=>x :: ev2 r
theorem uK {α:Type}:∀ (xs:List α),(List.range ((xs.length + 1) / 2)).filterMap (fun k=>xs[2 * k]?)=ev2 xs
 | []=>by simp [ev2]
 | [x]=>by simp [ev2]
 | x :: y :: r=>by
   have e:((x :: y :: r).length + 1) / 2=(r.length + 1) / 2 + 1:=by simp only [List.length_cons]; omega
   rw [e,List.range_succ_eq_map,List.filterMap_cons];show x :: _=x :: _;rw [List.filterMap_map,←uK r]
   congr 1
theorem TF (its:List Value):slicePick its.toArray none none (some 2)=(ev2 its).toArray:=by
 unfold slicePick
 congr 1
 simp only [sliceBounds,Option.getD_some,wIq];rw [if_pos (by decide),if_pos (by decide)];unfold sliceRange;dsimp only;rw [if_pos (by decide)];have c:(if (0:Int) < (its.length:Int) then ((its.length:Int) - 0 + 2 - 1) / 2 else 0).toNat=(its.length + 1) / 2:=by split <;> omega
 rw [c,List.filterMap_map,←uK its]
 congr 1
 funext k
 show its.toArray[((0:Int) + 2 * (k:Int)).toNat]? =_;rw [show ((0:Int) + 2 * (k:Int)).toNat=2 * k by omega];simp
theorem TJ (its:List Value):slicePick its.toArray (some 1) none (some 2)=(ev2 (its.drop 1)).toArray:=by
 unfold slicePick
 congr 1
 simp only [sliceBounds,Option.getD_some,wIq];rw [if_pos (by decide),if_neg (by decide),if_pos (by decide)];unfold sliceRange;dsimp only;rw [if_pos (by decide)];have c:(if max 0 (min (1:Int) (its.length:Int)) < (its.length:Int) then ((its.length:Int) - max 0 (min (1:Int) (its.length:Int)) + 2 - 1) / 2 else 0).toNat=((its.drop 1).length + 1) / 2:=by rw [List.length_drop]; split <;> omega
 rw [c,List.filterMap_map,←uK (its.drop 1)];by_cases h:its=[]
 · subst h; rfl
 have hl:0 < its.length:=List.length_pos_iff.mpr h
 congr 1
 funext k
 show its.toArray[(max 0 (min (1:Int) (its.length:Int)) + 2 * (k:Int)).toNat]? =_;rw [show (max 0 (min (1:Int) (its.length:Int)) + 2 * (k:Int)).toNat=1 + 2 * k by omega,List.getElem?_drop];simp
theorem BJ {α:Type}:∀ (xs:List α),(ev2 xs).length≤xs.length
 | []=>Nat.le_refl _
 | [x]=>Nat.le_refl _
 | x :: y :: r=>by have:=BJ r; simp only [ev2,List.length_cons]; omega
theorem aJ.ev2:∀ {xs:List V} {us:List Value},aJ xs us→aJ (ev2 xs) (ev2 us)
 | _,_,.nil=>.nil
 | _,_,.cons r .nil=>.cons r .nil
 | _,_,.cons r (.cons _ t)=>.cons r (aJ.ev2 t)
theorem aJ.drop1:∀ {xs:List V} {us:List Value},aJ xs us→aJ (xs.drop 1) (us.drop 1)
 | _,_,.nil=>.nil
 | _,_,.cons _ t=>t
section
variable {X:Cx} {e:Expr} {te:TE} {pos:Pos}
theorem HG:bE X (.builtin "len") (fun xs H Q=>∃ r j,xs=[.ref r]∧H r=some (.rng 0 j)∧0≤j∧j < 2 ^ 62∧Q (.int j) H):=by
 rintro pins s σ H xs us Q I r ⟨p,j,e,hp,h1,h2,q⟩;subst e;obtain ⟨u,rfl,ru⟩:=fG r;cases ru;obtain ⟨t,u,v,ho⟩:=I.hok _ _ hp;refine call_len_range (n:=j.toNat) (show IsRange s.heap p 0 j 1 t u v from ho) (by rw [rangeSize_one]; split <;> omega) (by omega) ⟨.int j,H,I.tok _,⟨_,by congr 1; omega⟩,q⟩
def aFW (b:Bool) (te:TE):TE:=fun σ H Q=>te σ H fun x H1=>∃ p xs,x= .ref p∧H1 p=some (.lst xs)∧∀ q,H1 q=none→Q (.ref q) (upd H1 q (.lst (ev2 (if b=true then xs.drop 1 else xs))))
theorem aBg {p1 p3:Pos} {k1} (he:PE X e te):PE X (.Subscript e (.Slice none none (some (.Constant (.int 2) k1 p1)) p3) pos) (aFW false te):=by
 intro pins s σ H Q I h;refine Subscript_ (thn (he pins s σ H _ I h) fun v s1 zz=>?_);obtain ⟨x,H1,I1,r1,p,xs,ex,hp,q⟩:=zz;subst ex;cases r1;refine wpAny_Slice ?_;rw [evalPart_none];refine wBq ?_;refine wBq ?_;refine thn ((tO (BY (X:=X))) pins s1 σ H1 (fun o H2=>o=some 2∧H2=H1) I1 ⟨_,rfl,rfl,rfl⟩) fun vs s2 zz=>?_;obtain ⟨o,H2,I2,ps,eo,eH⟩:=zz;subst eo eH;have I3:Inv X pins σ H2 { s2 with heap:=s2.heap.push { cls:=.type "slice",data:=.fields #[.none,.none,vs] } }:=I2.kept (t':=s2.toks) fun b ob q=>wEq _ q;obtain ⟨its,rv,ht,hz⟩:=I3.list (SqL.of hp);have hlen:=rv.length;refine tail_any (ops:=[.ref p,.ref s2.heap.objs.size]) ht.isList.typeIs slot_list_getitem.lookup ?_ (by with_unfolding_all rfl);refine wpAny_getItem_list_slice (lo:=none) (hi:=none) ht.isList (Heap.IsSliceOf.new ..) .none .none ps (by decide) ?_ (by rw [wIq] <;> omega);rw [TF];refine ⟨.ref _,_,I3.laid (t':=s2.toks) (o:=.lst (ev2 xs)) (fun b ob q=>wEq _ q) (Nat.le_refl _) ?_,rfl,q _ (I3.hok.fresh (Nat.le_refl _))⟩;exact ⟨Nat.le_trans (BJ _) hz,_,0,rv.ev2,wGq _ rfl⟩
theorem ZR {p0 p1 p3:Pos} {k0 k1} (he:PE X e te):PE X (.Subscript e (.Slice (some (.Constant (.int 1) k0 p0)) none (some (.Constant (.int 2) k1 p1)) p3) pos) (aFW true te):=by
 intro pins s σ H Q I h;refine Subscript_ (thn (he pins s σ H _ I h) fun v s1 zz=>?_);obtain ⟨x,H1,I1,r1,p,xs,ex,hp,q⟩:=zz;subst ex;cases r1;refine wpAny_Slice ?_;refine thn ((tO (BY (X:=X))) pins s1 σ H1 (fun o H2=>o=some 1∧H2=H1) I1 ⟨_,rfl,rfl,rfl⟩) fun vl s2 zz=>?_;obtain ⟨o,H2,I2,pl,eo,eH⟩:=zz;subst eo eH;rw [evalPart_none];refine wBq ?_;refine thn ((tO (BY (X:=X))) pins s2 σ H2 (fun o H3=>o=some 2∧H3=H2) I2 ⟨_,rfl,rfl,rfl⟩) fun vs s3 zz=>?_;obtain ⟨o,H3,I3',ps,eo,eH⟩:=zz;subst eo eH;have I3:Inv X pins σ H3 { s3 with heap:=s3.heap.push { cls:=.type "slice",data:=.fields #[vl,.none,vs] } }:=I3'.kept (t':=s3.toks) fun b ob q=>wEq _ q;obtain ⟨its,rv,ht,hz⟩:=I3.list (SqL.of hp);have hlen:=rv.length;refine tail_any (ops:=[.ref p,.ref s3.heap.objs.size]) ht.isList.typeIs slot_list_getitem.lookup ?_ (by with_unfolding_all rfl);refine wpAny_getItem_list_slice (lo:=some 1) (hi:=none) ht.isList (Heap.IsSliceOf.new ..) pl .none ps (by decide) ?_ (by rw [wIq] <;> omega);rw [TJ];refine ⟨.ref _,_,I3.laid (t':=s3.toks) (o:=.lst (ev2 (xs.drop 1))) (fun b ob q=>wEq _ q) (Nat.le_refl _) ?_,rfl,q _ (I3.hok.fresh (Nat.le_refl _))⟩;exact ⟨Nat.le_trans (BJ _) (by rw [List.length_drop]; omega),_,0,rv.drop1.ev2,wGq _ rfl⟩
end
end L2
namespace LR
open PySem PySem.W PyProof PyProof.Rows
section
variable {prog:Program} {w:World} {A:Around} {E:Value→Shared→Prop} {s:Shared} {K:Frag} {x C L f:Addr} {h₀:Heap} {m:Str→Option Value} {ox:Obj} {od:Option Obj} {a:Value}
open PySem.AutoSeq1 (wpAny_loadPart') in
theorem aAM {C dx:Addr} {sl:Array (Option Value)} {i:Int} {u:Tok} {Q':Value→Shared→Prop} (ho:s.heap.get? x=some { cls:=.ref C,dict:=some dx,data:=.plain,slots:=sl }) (q:Q' .notImplemented s) :
   wpAny (model prog w) A (call (.builtin "int.__eq__") [.int i u,.ref x]) Q' E s:=by
 refine wpAny_call_entry PySem.F.slot_int_eq (s:=s) rfl PySem.F.entry_int_eq ?_ (PySem.F.args_int_eq_2 _ _);obtain ⟨hp,g,d,tk,os⟩:=s
 wp_walk using wpAny_loadPart' ho
 exact ⟨_,rfl,q⟩
open PySem.AutoSeq1 (wpAny_loadPart') in
theorem aG0 {C dx:Addr} {sl:Array (Option Value)} {b:Bool} {Q':Value→Shared→Prop} (ho:s.heap.get? x=some { cls:=.ref C,dict:=some dx,data:=.plain,slots:=sl }) (q:Q' .notImplemented s) :
   wpAny (model prog w) A (call (.builtin "int.__eq__") [.bool b,.ref x]) Q' E s:=by
 refine wpAny_call_entry PySem.F.slot_bool_eq (s:=s) rfl PySem.F.entry_int_eq ?_ (PySem.F.args_int_eq_2 _ _);obtain ⟨hp,g,d,tk,os⟩:=s
 wp_walk using wpAny_loadPart' ho
 exact ⟨_,rfl,q⟩
open PySem.AutoSeq1 (wpAny_loadPart') in
theorem aA1 {C dx:Addr} {sl:Array (Option Value)} {z:Str} {u:Tok} {Q':Value→Shared→Prop} (ho:s.heap.get? x=some { cls:=.ref C,dict:=some dx,data:=.plain,slots:=sl }) (q:Q' .notImplemented s) :
   wpAny (model prog w) A (call (.builtin "str.__eq__") [.str z u,.ref x]) Q' E s:=by
 refine wpAny_call_entry PySem.F.slot_str_eq (s:=s) rfl PySem.F.entry_str_eq ?_ (PySem.F.args_str_eq_2 _ _);obtain ⟨hp,g,d,tk,os⟩:=s
 wp_walk using wpAny_loadPart' ho
 exact ⟨_,rfl,q⟩
variable {y D:Addr} {oy:Obj} {oyd:Option Obj}
end
end LR
namespace L2
open PySem PySem.Spec PyProof.Rows
section
variable {X:Cx}
noncomputable def aHd:List String:=["NoneType","bool","int","str","list","tuple","dict"]
structure EqL (K:W.Frag) (C:Addr):Prop where
 nt:∀ T∈aHd,W.subIn K (.ref C) (.type T)=some false
 tn:∀ T∈aHd,W.subIn K (.type T) (.ref C)=some false
structure EqD (K:W.Frag) (C D:Addr):Prop where
 ne:D≠C
 cd:W.subIn K (.ref C) (.ref D)=some false
 dc:W.subIn K (.ref D) (.ref C)=some false
inductive BuV (K:W.Frag) (H:Hp):V→Prop
 | non:BuV K H .non
 | bl (b:Bool):BuV K H (.bl b)
 | int (i:Int):BuV K H (.int i)
 | str (z:Str):BuV K H (.str z)
 | tup {a:Addr} {xs:List V}:SqT K H a xs→BuV K H (.ref a)
 | lst {a:Addr} {xs:List V}:SqL K H a xs→BuV K H (.ref a)
 | dK {a:Addr} {kvs:List (Key×V)}:H a=some (.dK kvs)→BuV K H (.ref a)
end
end L2
namespace LR
open PySem PyProof.Rows
open AutoSeq1 (wpAny_loadPart')
open MeetsSeq MeetsSeq2 MeetsSeq3 SeqRoads2
end LR
namespace L2
open PySem PySem.Spec PyProof.Rows
section
variable {X:Cx}
inductive ItV (X:Cx) (k:Nat) (C p:Addr) (H:Hp):V→List V→Sp→Prop
 | bu {y:V} {f:Addr} {fd:FuncData} {sp:Sp}:BuV X.K H y→EqL X.K C→fO X.K C "__eq__" f→bN X.prog X.w X.K X.mg X.base CX0 k f fd ["self","other"] sp→aH X.K fd ["self","other"] []→ItV X k C p H y [.ref p,y] sp
 | own {a D dx f:Addr} {fs:List (Str×V)} {fd:FuncData} {sp:Sp}:a≠p→H a=some (.ins D dx fs)→(C=D∨W.subIn X.K (.ref C) (.ref D)=some false)→fO X.K D "__eq__" f→bN X.prog X.w X.K X.mg X.base CX0 k f fd ["self","other"] sp→aH X.K fd ["self","other"] []→ItV X k C p H (.ref a) [.ref a,.ref p] sp
end
end L2
namespace LR
open PySem PyProof.Rows
open AutoSeq1 (wpAny_loadPart')
open MeetsSeq MeetsSeq2 MeetsSeq3 SeqRoads2
end LR
namespace L2
open PySem PySem.Spec PyProof.Rows
section
variable {X:Cx}
noncomputable def inT (X:Cx) (k:Nat) (C:Addr) (p:Addr) (Q:Bool→Hp→Prop):List V→Hp→Prop
 | [],H=>Q false H
 | y :: r,H=>(∃ dx fs,H p=some (.ins C dx fs))∧((y= .ref p∧Q true H)∨(∃ vs sp,ItV X k C p H y vs sp∧sp vs H (fun v H'=>∃ b,v= .bl b∧if b=true then Q true H' else inT X k C p Q r H') E0))
end
end L2
namespace L2
open PySem PySem.Spec
open PyProof.Rows hiding St
noncomputable def TN (h:Heap) (lo:Nat) (H:Hp) (e:Addr) (C:Value) (d:Option Addr):Prop :=
 lo ≤e∧H e=none∧∃ oe vs,h.get? e=some oe∧oe.cls=C∧oe.dict=d∧oe.data= .fields vs∧1 < vs.size∧
   ∃ T oT ts fl,vs[1]? =some (.ref T)∧lo≤T∧H T=none∧T≠e∧h.get? T=some oT∧oT.data= .fields ts∧ts[3]? =some fl
noncomputable def aJm (h:Heap) (lo:Nat) (H:Hp) (e:Addr) (C:Value) (d:Option Addr):Prop :=
 lo≤e∧H e=none∧∃ oe vs,h.get? e=some oe∧oe.cls=C∧oe.dict=d∧oe.data= .fields vs∧1 < vs.size∧vs[1]? =some .none
def aHU (h:Heap) (lo:Nat) (H:Hp) (e:Addr) (C:Value) (d:Option Addr):Prop:=aJm h lo H e C d∨TN h lo H e C d
section
variable {M:Model} {A:Around} {E:Value→Shared→Prop} {s:Shared} {base:Heap} {env:Env} {outer:List Env} {L e:Addr} {C:Value} {d:Option Addr} {lo:Nat} {H:Hp}
end
noncomputable def Cx.lo (X:Cx):Nat:=X.pn.foldr (fun p n=>max (p.1 + 1) n) X.s₀.heap.objs.size
section
variable {X:Cx} {pins:List (Addr×Obj)} {σ:St} {H:Hp} {s:Shared}
theorem Inv.lo_le (I:Inv X pins σ H s):X.lo≤s.heap.objs.size:=by
 have h:∀ l:List (Addr×Obj),(∀ p∈l,p.1 < s.heap.objs.size)→l.foldr (fun p n=>max (p.1 + 1) n) X.s₀.heap.objs.size≤s.heap.objs.size:=fun l=>by
   induction l with
   | nil=>intro _; exact I.sz
   | cons p r ih=>intro h; exact Nat.max_le.mpr ⟨h p (wDq ..),ih fun q hq=>h q (wCq _ hq)⟩
 exact h X.pn fun p hp=>Heap.lt_size (I.pin p (List.mem_append_left _ hp)).1
theorem Inv.nopins (I:Inv X pins σ H s):Inv X [] σ H s:=I.pins_of fun _ z=>nomatch z
end
noncomputable def CXo (P:Program) (w:World):CXT:=fun outer H s E e s'=>∃ a C d H',e= .ref a∧s'.os=s.os∧AllBare s'.gens∧Un (frs outer) [] H H' s.heap s'.heap∧HOk P w H' s'.heap∧TN s'.heap s.heap.objs.size H' a C d∧E C d H'
noncomputable def xeO (X:Cx) (E:XK):Value→Shared→Prop:=fun e s'=>∃ a C d σ H',e= .ref a∧Inv X [] σ H' s'∧aHU s'.heap X.lo H' a C d∧E C d H'
structure Own (X:Cx):Prop where
 st:X.stack=X.env :: X.outer
 fr:X.env.frame=some X.env.locals
theorem TN.mono {h:Heap} {lo lo':Nat} {H:Hp} {e:Addr} {C:Value} {d:Option Addr} (x:TN h lo H e C d) (hl:lo'≤lo):TN h lo' H e C d:=by
 obtain ⟨le,he0,oe,vs,he,hc,hdd,hd,hsz,T,oT,ts,fl,h1,lT,r⟩:=x;exact ⟨Nat.le_trans hl le,he0,oe,vs,he,hc,hdd,hd,hsz,T,oT,ts,fl,h1,Nat.le_trans hl lT,r⟩
section
variable {X:Cx} {E:XK}
end
end L2
namespace LX
open PySem PySem.W PyProof.Rows
open PySem.Builtin PySem.Builtin.ObjectAttr
noncomputable def vE:List Value:=[.type "ValueError",.type "Exception",.type "BaseException",.type "object"]
noncomputable def aE:List Value:=[.type "ArithmeticError",.type "Exception",.type "BaseException",.type "object"]
noncomputable def lE:List Value:=[.type "LookupError",.type "Exception",.type "BaseException",.type "object"]
noncomputable def YV:List Value→Bool
 | .ref _ :: r=>YV r
 | l=>l == vE || l == aE || l == lE
noncomputable def KJ (K:Frag) (C:Addr):Bool:=(clsIn K C).any fun cd=>YV cd.mro
section
variable {prog:Program} {w:World} {A:Around} {E:Value→Shared→Prop} {s:Shared} {K:Frag} {x C:Addr} {name:Str} {v:Value} {R:Result→Shared→Prop}
end
end LX
namespace LX
open PySem PySem.W PyProof.Rows
open PySem.Builtin PySem.Builtin.ObjectAttr
noncomputable abbrev exO (C:Value) (d:Option Addr) (t:Addr):Obj:={ cls:=C,dict:=d,data:=.fields #[.ref t,.none,.none,.none,.bool false,.none] }
section
variable {prog:Program} {w:World} {A:Around} {E:Value→Shared→Prop} {h:Heap} {g:Array GenState} {d:Drawn} {t:Nat} {os:OsState}
variable {nm q:Str} {C N:Addr} {bs bm bmB:List Value} {hdct:Bool} {sn:List Str} {sub:List Value} {ab:Bool} {col:Option Bool} {dd:Option Addr} {k0 k1 k2 k3 k5:Option Value} {B newId initId:String}
end
end LX
namespace LX
open PySem PySem.W PyProof.Rows
noncomputable def aEH (K:Frag) (C:Addr) (bmB:List Value) (newId:String) (iv:Option Value):Bool:=match K.lookup C with
 | some ⟨.type "type",_,.cls cd,sl⟩=>(match cd.mro,sl.toList with
   | .ref C' :: bm,[_,_,_,_,some (.builtin n),_]=>C' == C && n == newId && !cd.hasDel && tailIn K bmB bm && nsOkIn K cd.ns && nsIn K cd.ns "__init__" == some iv
   | _,_=>false)
 | _=>false
end LX
namespace L2
open PySem PySem.Spec
open PyProof.Rows hiding St
noncomputable def XN (e C:Addr):Heap→Prop:=fun h=>∃ t,h.get? e=some (LX.exO (.ref C) none t)
noncomputable def XD (e C d:Addr):Heap→Prop:=fun h=>∃ t,h.get? e=some (LX.exO (.ref C) (some d) t)
section
variable {P:Program} {w:World} {H:Hp} {h:Heap} {e C d:Addr}
end
section
variable {X:Cx} {pins:List (Addr×Obj)} {σ:St} {H:Hp} {s:Shared}
end
structure XIn (K:W.Frag) (mg:Str→Option Value) (C f:Addr) (Bn fld:Str):Prop where
 ex :∃ B newId initId bmB BC,ExcBaseFacts B newId initId bmB∧LX.aEH K C bmB newId (some (.ref f))=true∧mg Bn=some (.ref BC)∧W.readsIn K BC (.type "type")=true∧
   W.findCls K (.ref BC) (.type "type") "__init__"=some (.val (.builtin initId))∧W.handedIn (.builtin initId)=true∧W.specialIn K (.ref BC) "__getattribute__"=some (some (.builtin "type.__getattribute__"))
 sa:W.findIn K (.ref C) "__setattr__"=some (some (.builtin "object.__setattr__"))
 ov:LX.KJ K C=true
 na:W.takerIn K C fld=some none
 hd:W.hasDictIn K C=true
 kp:W.keepIn K (.ref C)=true
 fn:W.isFn K (.ref f)=true
section
variable {X:Cx} {C f:Addr} {Bn fld self arg:Str} {p1 p2 p3 p4 p5 p6:Pos} {j:Nat} {t:Str} {i i2:Nat}
end
noncomputable def spI (C:Addr) (fld:Str):Sp:=fun vs H Q _=>∃ e v,vs=[.ref e,v]∧H e=some (.ext (XN e C))∧∀ d,H d=none→Q .non (upd (upd H e (.ext (XD e C d))) d (.xd [(fld,v)]))
section
variable {X:Cx} {C f:Addr} {Bn fld x:Str} {np cpos pos:Pos} {e:Expr} {te:TE} {k:Nat} {fd:FuncData} {ps:List Str} {EX:XK}
end
noncomputable def Cx.pin (X:Cx) (pins:List (Addr×Obj)):Cx:={ X with pn:=X.pn ++ pins }
section
variable {X:Cx} {pins:List (Addr×Obj)} {σ:St} {H:Hp} {s:Shared} {e:Value}
end
end L2
namespace LX
open PySem PySem.W PyProof.Rows
noncomputable def aFx (K:Frag) (c:Addr):Bool:=(clsIn K c).isSome
noncomputable def aHK (K:Frag) (c:Addr):Bool:=aFx K c && subIn K (.ref c) (.type "BaseException") == some true
noncomputable def aCU (K:Frag) (Ca:Addr):List Addr→Option Bool
 | []=>some false
 | c :: r=>match subIn K (.ref Ca) (.ref c) with
   | some true=>some true
   | some false=>aCU K Ca r
   | none=>none
section
variable {M:Model} {A:Around} {E:Value→Shared→Prop} {s:Shared} {K:Frag}
end
end LX
namespace L2
open PySem PySem.Spec
open PyProof.Rows hiding St
noncomputable def XC (a:Addr) (C:Value) (d:Option Addr):Heap→Prop:=fun h=>∃ oe vs,h.get? a=some oe∧oe.cls=C∧oe.dict=d∧oe.data= .fields vs
theorem aDA {env:Env} {q:Str×Pos×Addr} {l:List (Str×Pos×Addr)}:starEach (.Name q.1 q.2.1 :: l.map fun q=>Expr.Name q.1 q.2.1) env=(false,eval (.Name q.1 q.2.1) env) :: starEach (l.map fun q=>Expr.Name q.1 q.2.1) env:=rfl
end L2
namespace LX
open PySem PySem.W PyProof.Rows
open PySem.Builtin PySem.Builtin.ObjectAttr
section
variable {prog:Program} {w:World} {A:Around} {E:Value→Shared→Prop} {s:Shared} {K:Frag} {x C:Addr}
end
end LX
namespace L2
open PySem PySem.Spec
open PyProof.Rows hiding St
structure XAt (K:W.Frag) (C:Addr):Prop where
 ga:W.findIn K (.ref C) "__getattribute__"=some (some (.builtin "BaseException.__getattribute__"))
 gh:W.findIn K (.ref C) "__getattr__"=some none
 ov:LX.KJ K C=true
 hd:W.hasDictIn K C=true
 ha:W.findIn K (.ref C) "__class__"=some (some (.builtin "object.__class__"))
 hn:W.specialIn K (.builtin "object.__class__") "__get__"=some (some (.builtin "getset_descriptor.__get__"))
 ht:W.takesIn K (.builtin "object.__class__")=some true
 hm:W.mroIn K C (.type "object")=some true
section
variable {X:Cx} {pins:List (Addr×Obj)} {σ:St} {H:Hp} {s:Shared} {a C:Addr} {A:Around} {E:Value→Shared→Prop}
end
end L2
namespace L3
open PySem PySem.Spec
open PyProof.Rows hiding St
open L2
inductive PV where
 | non | bl (b:Bool) | int (i:Int) | str (x:Str) | tup (xs:List PV) | lst (xs:List PV) | scr (ns:List Int)
 | ob (c:String) (ns:List Str) (xs:List PV) | ref (a:Addr) | ty (n:String) | cl (c:String) | fn (f:Str) | emp | dct (ks:List Key) (xs:List PV) | exc (c:String) (ns:List Str) (xs:List PV)
structure Ev where
 K:W.Frag
 cls:String→Addr
 fna:Str→Addr:=fun _=>0
 f0:Hp:=fun _=>none
 z0:Hp:=fun _=>none
mutual
noncomputable def RP (E:Ev) (Z:Hp):PV→V→Prop
 | .non=>fun v=>v= .non
 | .bl b=>fun v=>v= .bl b
 | .int i=>fun v=>v= .int i
 | .str x=>fun v=>v= .str x
 | .ty n=>fun v=>v= .ty n
 | .ref a=>fun v=>v= .ref a
 | .cl c=>fun v=>v= .ref (E.cls c)
 | .fn f=>fun v=>v= .ref (E.fna f)
 | .emp=>fun v=>∃ a,v= .ref a∧Z a=some (.dK [])
 | .scr ns=>fun v=>∃ a,v= .ref a∧SqL E.K Z a (ns.map V.int)
 | .tup xs=>fun v=>∃ a vs,v= .ref a∧SqT E.K Z a vs∧RPs E Z xs vs
 | .lst xs=>fun v=>∃ a vs,v= .ref a∧Z a=some (.lst vs)∧RPs E Z xs vs
 | .dct ks xs=>fun v=>∃ a vs,v= .ref a∧Z a=some (.dK (ks.zip vs))∧ks.length=vs.length∧RPs E Z xs vs
 | .ob c ns xs=>fun v=>∃ a dx vs,v= .ref a∧Z a=some (.ins (E.cls c) dx (ns.zip vs))∧ns.length=vs.length∧RPs E Z xs vs
 | .exc c ns xs=>fun v=>∃ a d vs,v= .ref a∧Z a=some (.ext (XC a (.ref (E.cls c)) d))∧ns.length=vs.length∧(∀ dd,d=some dd→Z dd=some (.xd (ns.zip vs)))∧(d=none→ns=[])∧RPs E Z xs vs
noncomputable def RPs (E:Ev) (Z:Hp):List PV→List V→Prop
 | []=>fun vs=>vs=[]
 | x :: xs=>fun vs=>∃ v r,vs=v :: r∧RP E Z x v∧RPs E Z xs r
end
theorem bY {K:W.Frag} {Z Z':Hp} {a:Addr} {xs:List V} (e:aM Z Z') (h:SqT K Z a xs):SqT K Z' a xs:=by
 rcases h with (h | ⟨o,h⟩) | h
 · exact .inl (.inl (e _ _ h))
 · exact .inl (.inr ⟨o,e _ _ h⟩)
 · exact .inr h
section
variable {E:Ev} {Z Z' Z1 Z2 H H':Hp}
mutual
theorem RP.mono (e:aM Z Z'):∀ {x:PV} {v:V},RP E Z x v→RP E Z' x v
 | .non,_,h=>h
 | .bl _,_,h=>h
 | .int _,_,h=>h
 | .str _,_,h=>h
 | .ty _,_,h=>h
 | .ref _,_,h=>h
 | .cl _,_,h=>h
 | .fn _,_,h=>h
 | .emp,_,⟨a,e1,h⟩=>⟨a,e1,e _ _ h⟩
 | .scr _,_,⟨a,e1,h⟩=>⟨a,e1,e.seq h⟩
 | .tup _,_,⟨a,vs,e1,h,r⟩=>⟨a,vs,e1,bY e h,RPs.mono e r⟩
 | .lst _,_,⟨a,vs,e1,h,r⟩=>⟨a,vs,e1,e _ _ h,RPs.mono e r⟩
 | .dct _ _,_,⟨a,vs,e1,h,l,r⟩=>⟨a,vs,e1,e _ _ h,l,RPs.mono e r⟩
 | .ob _ _ _,_,⟨a,dx,vs,e1,h,l,r⟩=>⟨a,dx,vs,e1,e _ _ h,l,RPs.mono e r⟩
 | .exc _ _ _,_,⟨a,d,vs,e1,h,l,hd,hn,r⟩=>⟨a,d,vs,e1,e _ _ h,l,fun dd q=>e _ _ (hd dd q),hn,RPs.mono e r⟩
theorem RPs.mono (e:aM Z Z'):∀ {xs:List PV} {vs:List V},RPs E Z xs vs→RPs E Z' xs vs
 | [],_,h=>h
 | _ :: _,_,⟨v,r,e1,h,t⟩=>⟨v,r,e1,RP.mono e h,RPs.mono e t⟩
end
theorem RPs.length:∀ {xs:List PV} {vs:List V},RPs E Z xs vs→xs.length=vs.length
 | [],_,h=>by cases h; rfl
 | _ :: _,_,⟨v,r,e1,_,t⟩=>by subst e1; rw [List.length_cons,List.length_cons,RPs.length t]
theorem RPs.get:∀ {xs:List PV} {vs:List V} {i:Nat} {x:PV},RPs E Z xs vs→xs[i]? =some x→∃ v,vs[i]? =some v∧RP E Z x v
 | [],_,_,_,_,e=>by simp at e
 | y :: _,_,0,x,⟨v,r,e1,h,t⟩,e=>by
   subst e1;have:y=x:=by simpa using e
   subst this;exact ⟨v,rfl,h⟩
 | _ :: _,_,i + 1,x,⟨v,r,e1,h,t⟩,e=>by
   subst e1;obtain ⟨u,a,b⟩:=RPs.get (i:=i) t (by simpa using e);exact ⟨u,by simpa using a,b⟩
theorem RPs.append:∀ {xs ys:List PV} {vs us:List V},RPs E Z xs vs→RPs E Z ys us→RPs E Z (xs ++ ys) (vs ++ us)
 | [],_,_,_,h,q=>by cases h; exact q
 | _ :: _,_,_,us,⟨v,r,e1,h,t⟩,q=>by subst e1; exact ⟨v,r ++ us,rfl,h,RPs.append t q⟩
theorem RPs.set {y:PV} {u:V} (q:RP E Z y u):∀ {xs:List PV} {vs:List V} (i:Nat),RPs E Z xs vs→RPs E Z (xs.set i y) (vs.set i u)
 | [],_,_,h=>by cases h; exact rfl
 | _ :: _,_,0,⟨v,r,e1,h,t⟩=>by subst e1; exact ⟨u,r,rfl,q,t⟩
 | _ :: _,_,i + 1,⟨v,r,e1,h,t⟩=>by subst e1; exact ⟨v,r.set i u,rfl,h,RPs.set q i t⟩
theorem RPs.take:∀ {xs:List PV} {vs:List V} (n:Nat),RPs E Z xs vs→RPs E Z (xs.take n) (vs.take n)
 | _,_,0,_=>rfl
 | [],_,_ + 1,h=>by cases h; exact rfl
 | _ :: _,_,n + 1,⟨v,r,e1,h,t⟩=>by subst e1; exact ⟨v,r.take n,rfl,h,RPs.take n t⟩
theorem RPs.drop:∀ {xs:List PV} {vs:List V} (n:Nat),RPs E Z xs vs→RPs E Z (xs.drop n) (vs.drop n)
 | _,_,0,h=>h
 | [],_,_ + 1,h=>by cases h; exact rfl
 | _ :: _,_,n + 1,⟨v,r,e1,h,t⟩=>by subst e1; exact RPs.drop n t
theorem RPs.eraseIdx:∀ {xs:List PV} {vs:List V} (i:Nat),RPs E Z xs vs→RPs E Z (xs.eraseIdx i) (vs.eraseIdx i)
 | [],_,_,h=>by cases h; exact rfl
 | _ :: _,_,0,⟨v,r,e1,h,t⟩=>by subst e1; exact t
 | _ :: _,_,i + 1,⟨v,r,e1,h,t⟩=>by subst e1; exact ⟨v,r.eraseIdx i,rfl,h,RPs.eraseIdx i t⟩
theorem RPs.ev2:∀ {xs:List PV} {vs:List V},RPs E Z xs vs→RPs E Z (ev2 xs) (ev2 vs)
 | [],_,h=>by cases h; exact rfl
 | [_],_,⟨v,r,e1,h,t⟩=>by cases t; subst e1; exact ⟨v,[],rfl,h,rfl⟩
 | _ :: _ :: _,_,⟨v,r,e1,h,t⟩=>by
   obtain ⟨v2,r2,e2,_,t2⟩:=t;subst e1 e2;exact ⟨v,L2.ev2 r2,rfl,h,RPs.ev2 t2⟩
theorem RPs.ints:∀ {ns:List Int} {vs:List V},RPs E Z (ns.map PV.int) vs→vs=ns.map V.int
 | [],_,h=>h
 | _ :: _,_,⟨v,r,e1,h,t⟩=>by
   have h':v=V.int _:=h;subst e1 h'; rw [RPs.ints t]; rfl
theorem RPs.ofInts:∀ (ns:List Int),RPs E Z (ns.map PV.int) (ns.map V.int)
 | []=>rfl
 | n :: r=>⟨.int n,r.map V.int,rfl,rfl,RPs.ofInts r⟩
end
inductive GO where
 | lst (xs:List PV) | ins (c:String) (ns:List Str) (xs:List PV)
noncomputable abbrev Gh:=Addr→Option GO
noncomputable def gup (G:Gh) (a:Addr) (o:GO):Gh:=fun b=>if b=a then some o else G b
noncomputable def OM (G:Gh) (a:Addr):Gh:=fun b=>if b=a then none else G b
theorem aD {G:Gh} {a:Addr} {o:GO}:gup G a o a=some o:=if_pos rfl
theorem cC {G:Gh} {a b:Addr} {o:GO} (h:b≠a):gup G a o b=G b:=if_neg h
theorem dP {G:Gh} {a:Addr} {o u:GO}:gup (gup G a o) a u=gup G a u:=by funext b; unfold gup; split <;> rfl
theorem tS {G:Gh} {a b:Addr} (h:b≠a):OM G a b=G b:=if_neg h
theorem QU {G:Gh} {a:Addr}:OM G a a=none:=if_pos rfl
theorem VV {G:Gh} {a:Addr} {o:GO} (h:G a=none):OM (gup G a o) a=G:=by
 funext b; unfold OM gup
 split
 · rename_i e; rw [e]; exact h.symm
 · rfl
noncomputable def RO (E:Ev) (Z:Hp):GO→HO→Prop
 | .lst xs,o=>∃ vs,o= .lst vs∧RPs E Z xs vs
 | .ins c ns xs,o=>∃ dx vs,o= .ins (E.cls c) dx (ns.zip vs)∧ns.length=vs.length∧RPs E Z xs vs
theorem RO.mono {E:Ev} {Z Z':Hp} (e:aM Z Z'):∀ {o:GO} {o':HO},RO E Z o o'→RO E Z' o o'
 | .lst _,_,⟨vs,a,b⟩=>⟨vs,a,b.mono e⟩
 | .ins _ _ _,_,⟨dx,vs,a,l,b⟩=>⟨dx,vs,a,l,b.mono e⟩
structure Sim (E:Ev) (F H Z:Hp) (G:Gh):Prop where
 z:aM Z H
 f:∀ a o,F a=some o→H a=some o∧Z a=none∧G a=none
 g:∀ a o,G a=some o→Z a=none∧∃ o',H a=some o'∧RO E Z o o'
 z0:aM E.z0 Z
 ff:aM E.f0 F
section
variable {E:Ev} {F H Z:Hp} {G G':Gh} {p:Addr} {o:HO} {go:GO}
theorem Sim.zn (S:Sim E F H Z G) (n:H p=none):Z p=none:=by
 cases e:Z p with
 | none=>rfl
 | some u=>rw [S.z _ _ e] at n; cases n
theorem Sim.gn (S:Sim E F H Z G) (n:H p=none):G p=none:=by
 cases e:G p with
 | none=>rfl
 | some u=>obtain ⟨_,o',e',_⟩:=S.g _ _ e; rw [e'] at n; cases n
theorem Sim.fn (S:Sim E F H Z G) (n:H p=none):F p=none:=by
 cases e:F p with
 | none=>rfl
 | some u=>rw [(S.f _ _ e).1] at n; cases n
theorem Sim.fz (S:Sim E F H Z G) (n:H p=none):Sim E F (upd H p o) (upd Z p o) G:=by
 have zn:=S.zn n;have sub:aM Z (upd Z p o):=bG zn o;refine ⟨fun a u q=>?_,fun a u q=>?_,fun a u q=>?_,S.z0.trans sub,S.ff⟩
 · by_cases e:a=p
   · subst e; rw [aW] at q ⊢; exact q
   · rw [aI e] at q ⊢; exact S.z _ _ q
 · obtain ⟨h1,h2,h3⟩:=S.f a u q;have e:a≠p:=aL h1 n;exact ⟨by rw [aI e]; exact h1,by rw [aI e]; exact h2,h3⟩
 · obtain ⟨a1,o',a2,r⟩:=S.g a u q;have e:a≠p:=aL a2 n;exact ⟨by rw [aI e]; exact a1,o',by rw [aI e]; exact a2,r.mono sub⟩
theorem Sim.new (S:Sim E F H Z G) (n:H p=none) (r:RO E Z go o):Sim E F (upd H p o) Z (gup G p go):=by
 refine ⟨fun a u q=>gM (S.z _ _ q) n,fun a u q=>?_,fun a u q=>?_,S.z0,S.ff⟩
 · obtain ⟨h1,h2,h3⟩:=S.f a u q;have e:a≠p:=aL h1 n;exact ⟨by rw [aI e]; exact h1,h2,by rw [cC e]; exact h3⟩
 by_cases e:a=p
 · subst e; rw [aD] at q; cases q; exact ⟨S.zn n,o,aW,r⟩
 · rw [cC e] at q;obtain ⟨a1,o',a2,r'⟩:=S.g a u q;exact ⟨a1,o',by rw [aI e]; exact a2,r'⟩
theorem Sim.other (S:Sim E F H Z G) (n:H p=none):Sim E F (upd H p o) Z G:=by
 refine ⟨fun a u q=>gM (S.z _ _ q) n,fun a u q=>⟨gM (S.f a u q).1 n,(S.f a u q).2⟩,fun a u q=>?_,S.z0,S.ff⟩;obtain ⟨a1,o',a2,r'⟩:=S.g a u q;exact ⟨a1,o',gM a2 n,r'⟩
theorem Sim.set {u:GO} (S:Sim E F H Z G) (n:G p=some u) (r:RO E Z go o):Sim E F (upd H p o) Z (gup G p go):=by
 obtain ⟨z,_,_,_⟩:=S.g _ _ n;refine ⟨fun a u q=>?_,fun a u' q=>?_,fun a u q=>?_,S.z0,S.ff⟩
 · have e:a≠p:=aL q z;rw [aI e]; exact S.z _ _ q
 · obtain ⟨h1,h2,h3⟩:=S.f a u' q;have e:a≠p:=fun e=>by subst e; rw [n] at h3; cases h3
   exact ⟨by rw [aI e]; exact h1,h2,by rw [cC e]; exact h3⟩
 · by_cases e:a=p
   · subst e; rw [aD] at q; cases q; exact ⟨z,o,aW,r⟩
   · rw [cC e] at q;obtain ⟨a1,o',a2,r'⟩:=S.g a u q;exact ⟨a1,o',by rw [aI e]; exact a2,r'⟩
theorem Sim.frz {u:GO} (S:Sim E F H Z G) (n:G p=some u) (h:H p=some o):Sim E F H (upd Z p o) (OM G p):=by
 obtain ⟨z,_,_,_⟩:=S.g _ _ n;refine ⟨fun a u q=>?_,fun a u' q=>?_,fun a u q=>?_,S.z0.trans (bG z o),S.ff⟩
 · by_cases e:a=p
   · subst e; rw [aW] at q; rw [←q]; exact h
   · rw [aI e] at q; exact S.z _ _ q
 · obtain ⟨h1,h2,h3⟩:=S.f a u' q;have e:a≠p:=fun e=>by subst e; rw [n] at h3; cases h3
   exact ⟨h1,by rw [aI e]; exact h2,by rw [tS e]; exact h3⟩
 · by_cases e:a=p
   · subst e; rw [QU] at q; cases q
   · rw [tS e] at q;obtain ⟨a1,o',a2,r'⟩:=S.g a u q;exact ⟨by rw [aI e]; exact a1,o',a2,r'.mono (bG z o)⟩
theorem Sim.weak (S:Sim E F H Z G) (h:∀ a o,G' a=some o→G a=some o):Sim E F H Z G':=⟨S.z,fun a o q=>⟨(S.f a o q).1,(S.f a o q).2.1,by
 cases e:G' a with
 | none=>rfl
 | some u=>exact absurd (h _ _ e) (by rw [(S.f a o q).2.2]; intro z; cases z)⟩,fun a o q=>S.g a o (h a o q),S.z0,S.ff⟩
theorem Sim.mine (S:Sim E F H Z G) (n:H p=none):Sim E (upd F p o) (upd H p o) Z G:=by
 refine ⟨fun a u q=>gM (S.z _ _ q) n,fun a u q=>?_,fun a u q=>?_,S.z0,S.ff.trans (bG (S.fn n) o)⟩
 · by_cases e:a=p
   · subst e; rw [aW] at q ⊢; exact ⟨q,S.zn n,S.gn n⟩
   · rw [aI e] at q ⊢; exact S.f a u q
 · obtain ⟨a1,o',a2,r'⟩:=S.g a u q;exact ⟨a1,o',gM a2 n,r'⟩
theorem Sim.f0n (S:Sim E F H Z G) (n:H p=none):E.f0 p=none:=by
 cases e:E.f0 p with
 | none=>rfl
 | some u=>exact absurd (S.ff _ _ e) (by rw [S.fn n]; intro z; cases z)
theorem YL {F':Hp} (h:aM E.f0 (upd F p o)) (n:E.f0 p=none):aM E.f0 F:=fun a u q=>by
 have e:a≠p:=aL q n;have:=h a u q
 rwa [aI e] at this
theorem Sim.turn {u:HO} (S:Sim E (upd F p u) H Z G) (nf:E.f0 p=none):Sim E (upd F p o) (upd H p o) Z G:=by
 obtain ⟨h1,h2,h3⟩:=S.f p u aW;refine ⟨fun a v q=>?_,fun a v q=>?_,fun a v q=>?_,S.z0,fun a v q=>by
   have e:a≠p:=aL q nf;have:=S.ff a v q;rw [aI e] at this ⊢; exact this⟩
 · have e:a≠p:=aL q h2;rw [aI e]; exact S.z _ _ q
 · by_cases e:a=p
   · subst e; rw [aW] at q ⊢; exact ⟨q,h2,h3⟩
   · rw [aI e] at q ⊢;exact S.f a v (by rw [aI e]; exact q)
 · obtain ⟨a1,o',a2,r'⟩:=S.g a v q;have e:a≠p:=fun e=>by subst e; rw [h3] at q; cases q
   exact ⟨a1,o',by rw [aI e]; exact a2,r'⟩
theorem Sim.mineZ (S:Sim E (upd F p o) H Z G) (n:F p=none) (nf:E.f0 p=none):Sim E F H (upd Z p o) G:=by
 obtain ⟨h1,h2,h3⟩:=S.f p o aW;have sub:aM Z (upd Z p o):=bG h2 o;refine ⟨fun a v q=>?_,fun a v q=>?_,fun a v q=>?_,S.z0.trans sub,YL (F':=F) S.ff nf⟩
 · by_cases e:a=p
   · subst e; rw [aW] at q; rw [←q]; exact h1
   · rw [aI e] at q; exact S.z _ _ q
 · have e:a≠p:=aL q n;obtain ⟨b1,b2,b3⟩:=S.f a v (by rw [aI e]; exact q);exact ⟨b1,by rw [aI e]; exact b2,b3⟩
 · obtain ⟨a1,o',a2,r'⟩:=S.g a v q;have e:a≠p:=fun e=>by subst e; rw [h3] at q; cases q
   exact ⟨by rw [aI e]; exact a1,o',a2,r'.mono sub⟩
theorem Sim.mineG (S:Sim E (upd F p o) H Z G) (n:F p=none) (nf:E.f0 p=none) (r:RO E Z go o):Sim E F H Z (gup G p go):=by
 obtain ⟨h1,h2,h3⟩:=S.f p o aW;refine ⟨S.z,fun a v q=>?_,fun a v q=>?_,S.z0,YL (F':=F) S.ff nf⟩
 · have e:a≠p:=aL q n;obtain ⟨b1,b2,b3⟩:=S.f a v (by rw [aI e]; exact q);exact ⟨b1,b2,by rw [cC e]; exact b3⟩
 · by_cases e:a=p
   · subst e; rw [aD] at q; cases q; exact ⟨h2,o,h1,r⟩
   · rw [cC e] at q; exact S.g a v q
theorem Sim.weakF (S:Sim E F H Z G):Sim E E.f0 H Z G:=⟨S.z,fun a o q=>S.f a o (S.ff a o q),S.g,S.z0,aM.refl _⟩
end
noncomputable abbrev Ev.at (E:Ev) (f z:Hp):Ev:={ E with f0:=f,z0:=z }
section
variable {E:Ev} {f z Z:Hp}
mutual
theorem RP.at:∀ {x:PV} {v:V},RP E Z x v→RP (E.at f z) Z x v
 | .non,_,h=>h
 | .bl _,_,h=>h
 | .int _,_,h=>h
 | .str _,_,h=>h
 | .ty _,_,h=>h
 | .ref _,_,h=>h
 | .cl _,_,h=>h
 | .fn _,_,h=>h
 | .emp,_,h=>h
 | .scr _,_,h=>h
 | .tup _,_,⟨a,vs,e1,h,r⟩=>⟨a,vs,e1,h,RPs.at r⟩
 | .lst _,_,⟨a,vs,e1,h,r⟩=>⟨a,vs,e1,h,RPs.at r⟩
 | .dct _ _,_,⟨a,vs,e1,h,l,r⟩=>⟨a,vs,e1,h,l,RPs.at r⟩
 | .ob _ _ _,_,⟨a,dx,vs,e1,h,l,r⟩=>⟨a,dx,vs,e1,h,l,RPs.at r⟩
 | .exc _ _ _,_,⟨a,d,vs,e1,h,l,hd,hn,r⟩=>⟨a,d,vs,e1,h,l,hd,hn,RPs.at r⟩
theorem RPs.at:∀ {xs:List PV} {vs:List V},RPs E Z xs vs→RPs (E.at f z) Z xs vs
 | [],_,h=>h
 | _ :: _,_,⟨v,r,e1,h,t⟩=>⟨v,r,e1,RP.at h,RPs.at t⟩
end
mutual
theorem RP.un:∀ {x:PV} {v:V},RP (E.at f z) Z x v→RP E Z x v
 | .non,_,h=>h
 | .bl _,_,h=>h
 | .int _,_,h=>h
 | .str _,_,h=>h
 | .ty _,_,h=>h
 | .ref _,_,h=>h
 | .cl _,_,h=>h
 | .fn _,_,h=>h
 | .emp,_,h=>h
 | .scr _,_,h=>h
 | .tup _,_,⟨a,vs,e1,h,r⟩=>⟨a,vs,e1,h,RPs.un r⟩
 | .lst _,_,⟨a,vs,e1,h,r⟩=>⟨a,vs,e1,h,RPs.un r⟩
 | .dct _ _,_,⟨a,vs,e1,h,l,r⟩=>⟨a,vs,e1,h,l,RPs.un r⟩
 | .ob _ _ _,_,⟨a,dx,vs,e1,h,l,r⟩=>⟨a,dx,vs,e1,h,l,RPs.un r⟩
 | .exc _ _ _,_,⟨a,d,vs,e1,h,l,hd,hn,r⟩=>⟨a,d,vs,e1,h,l,hd,hn,RPs.un r⟩
theorem RPs.un:∀ {xs:List PV} {vs:List V},RPs (E.at f z) Z xs vs→RPs E Z xs vs
 | [],_,h=>h
 | _ :: _,_,⟨v,r,e1,h,t⟩=>⟨v,r,e1,RP.un h,RPs.un t⟩
end
variable {F H:Hp} {G:Gh}
end
noncomputable abbrev PX:=String→List Str→List PV→Gh→Prop
noncomputable def WkX (x:PX):PX:=fun c ns xs G=>∃ G2:Gh,(∀ a o,G2 a=some o→G a=some o)∧x c ns xs G2
def KX (E:Ev) (F Z:Hp) (x:PX) (EX:XK):Prop:= ∀ c ns xs d vs Z1 G1 H1,aM Z Z1→Sim E F H1 Z1 G1→ns.length=vs.length→RPs E Z1 xs vs→(∀ dd,d=some dd→Z1 dd=some (.xd (ns.zip vs)))→(d=none→ns=[])→x c ns xs G1→EX (.ref (E.cls c)) d H1
noncomputable abbrev PSt:=List (Option PV)
noncomputable def RSl (E:Ev) (Z:Hp):Option PV→Option V→Prop
 | none,_=>True
 | some x,o=>∃ v,o=some v∧RP E Z x v
inductive RSt (E:Ev) (Z:Hp):PSt→St→Prop
 | nil:RSt E Z [] []
 | cons {o:Option PV} {u:Option V} {σ':PSt} {σ:St}:RSl E Z o u→RSt E Z σ' σ→RSt E Z (o :: σ') (u :: σ)
section
variable {E:Ev} {Z Z':Hp}
theorem RSl.mono (e:aM Z Z'):∀ {o:Option PV} {u:Option V},RSl E Z o u→RSl E Z' o u
 | none,_,_=>trivial
 | some _,_,⟨v,a,r⟩=>⟨v,a,r.mono e⟩
theorem RSt.mono (e:aM Z Z'):∀ {σ':PSt} {σ:St},RSt E Z σ' σ→RSt E Z' σ' σ
 | _,_,.nil=>.nil
 | _,_,.cons a b=>.cons (a.mono e) (RSt.mono e b)
theorem RSt.get:∀ {σ':PSt} {σ:St} {i:Nat} {x:PV},RSt E Z σ' σ→σ'[i]? =some (some x)→∃ v,σ[i]? =some (some v)∧RP E Z x v
 | _,_,_,_,.nil,e=>by simp at e
 | _,_,0,x,.cons a _,e=>by
   simp at e; subst e
   obtain ⟨v,e1,r⟩:=a;subst e1;exact ⟨v,rfl,r⟩
 | _,_,i + 1,x,.cons _ b,e=>by
   obtain ⟨v,e1,r⟩:=RSt.get (i:=i) b (by simpa using e);exact ⟨v,by simpa using e1,r⟩
theorem RSt.set {x:PV} {v:V} (r:RP E Z x v):∀ {σ':PSt} {σ:St} (i:Nat),RSt E Z σ' σ→RSt E Z (σ'.set i (some x)) (σ.set i (some v))
 | _,_,_,.nil=>.nil
 | _,_,0,.cons _ b=>.cons ⟨v,rfl,r⟩ b
 | _,_,i + 1,.cons a b=>.cons a (RSt.set r i b)
theorem RSt.nones:∀ (n:Nat),RSt E Z (List.replicate n none) (List.replicate n none)
 | 0=>.nil
 | n + 1=>.cons trivial (RSt.nones n)
theorem RSt.append:∀ {a b:PSt} {c d:St},RSt E Z a c→RSt E Z b d→RSt E Z (a ++ b) (c ++ d)
 | _,_,_,_,.nil,h=>h
 | _,_,_,_,.cons r t,h=>.cons r (RSt.append t h)
theorem RSt.vals:∀ {xs:List PV} {vs:List V},RPs E Z xs vs→RSt E Z (xs.map some) (vs.map some)
 | [],_,h=>by cases h; exact .nil
 | _ :: _,_,⟨v,r,e,h,t⟩=>by subst e; exact .cons ⟨v,rfl,h⟩ (RSt.vals t)
noncomputable def aF (n:Nat) (xs:List PV):PSt:=xs.map some ++ List.replicate (n - xs.length) none
theorem RSt.start {N:List Str} {xs:List PV} {vs:List V} (r:RPs E Z xs vs):RSt E Z (aF N.length xs) (L2.start N vs):=by
 unfold aF L2.start;rw [r.length];exact RSt.append (RSt.vals r) (RSt.nones _)
end
noncomputable abbrev PK1:=PV→Gh→Prop
noncomputable abbrev PTE:=PSt→Gh→PK1→Prop
noncomputable abbrev PTT:=PSt→Gh→(Bool→Gh→Prop)→Prop
noncomputable abbrev PTA:=PSt→Gh→(List PV→Gh→Prop)→Prop
structure iG where
 nx:PSt→Gh→Prop
 rt:PK1
 bk:PSt→Gh→Prop
 ct:PSt→Gh→Prop
noncomputable abbrev PTS:=iG→PSt→Gh→Prop
def Kq (E:Ev) (F Z:Hp) (Q':PK1) (Q:VK):Prop:= ∀ x v Z1 G1 H1,aM Z Z1→Sim E F H1 Z1 G1→RP E Z1 x v→Q' x G1→Q v H1
def KA (E:Ev) (F:Hp) (n:Nat) (Z:Hp) (Q':List PV→Gh→Prop) (Q:List V→Hp→Prop):Prop:= ∀ xs vs Z1 G1 H1,xs.length=n→aM Z Z1→Sim E F H1 Z1 G1→RPs E Z1 xs vs→Q' xs G1→Q vs H1
def KT (E:Ev) (F Z:Hp) (Q':Bool→Gh→Prop) (Q:Bool→Hp→Prop):Prop:= ∀ b Z1 G1 H1,aM Z Z1→Sim E F H1 Z1 G1→Q' b G1→Q b H1
def KSt (E:Ev) (F Z:Hp) (Q':PSt→Gh→Prop) (Q:St→Hp→Prop):Prop:= ∀ σ' σ Z1 G1 H1,aM Z Z1→Sim E F H1 Z1 G1→RSt E Z1 σ' σ→Q' σ' G1→Q σ H1
structure KD (E:Ev) (F Z:Hp) (D':iG) (D:FN):Prop where
 nx:KSt E F Z D'.nx D.nx
 rt:Kq E F Z D'.rt D.rt
 bk:KSt E F Z D'.bk D.bk
 ct:KSt E F Z D'.ct D.ct
theorem Kq.mono {E:Ev} {F Z Z2:Hp} {Q':PK1} {Q:VK} (e:aM Z Z2) (k:Kq E F Z Q' Q):Kq E F Z2 Q' Q:=fun x v Z1 G1 H1 s=>k x v Z1 G1 H1 (e.trans s)
theorem KT.mono {E:Ev} {F Z Z2:Hp} {Q':Bool→Gh→Prop} {Q:Bool→Hp→Prop} (e:aM Z Z2) (k:KT E F Z Q' Q):KT E F Z2 Q' Q:=fun x Z1 G1 H1 s=>k x Z1 G1 H1 (e.trans s)
theorem KSt.mono {E:Ev} {F Z Z2:Hp} {Q':PSt→Gh→Prop} {Q:St→Hp→Prop} (e:aM Z Z2) (k:KSt E F Z Q' Q):KSt E F Z2 Q' Q:=fun x v Z1 G1 H1 s=>k x v Z1 G1 H1 (e.trans s)
theorem KD.mono {E:Ev} {F Z Z2:Hp} {D':iG} {D:FN} (e:aM Z Z2) (k:KD E F Z D' D):KD E F Z2 D' D:=⟨k.nx.mono e,k.rt.mono e,k.bk.mono e,k.ct.mono e⟩
def low (E:Ev) (F:Hp) (t:PTE):TE:=fun σ H Q=>∃ σ' Z G Q',RSt E Z σ' σ∧Sim E F H Z G∧t σ' G Q'∧Kq E F Z Q' Q
def BV (E:Ev) (F:Hp) (t:PTT):TT:=fun σ H Q=>∃ σ' Z G Q',RSt E Z σ' σ∧Sim E F H Z G∧t σ' G Q'∧KT E F Z Q' Q
def FT (E:Ev) (F:Hp) (n:Nat) (t:PTA):TA:=fun σ H Q=>∃ σ' Z G Q',RSt E Z σ' σ∧Sim E F H Z G∧t σ' G Q'∧KA E F n Z Q' Q
def aGo (E:Ev) (F:Hp) (t:PTS):TS:=fun D σ H=>∃ σ' Z G D',RSt E Z σ' σ∧Sim E F H Z G∧t D' σ' G∧KD E F Z D' D
noncomputable def bS (G:Gh):PV→Option (List PV)
 | .lst xs=>some xs
 | .ref a=>match G a with
   | some (.lst xs)=>some xs
   | _=>none
 | _=>none
section
variable {E:Ev} {F H Z:Hp} {G:Gh} {x:PV} {v:V} {xs:List PV}
theorem cV (S:Sim E F H Z G) (r:RP E Z x v) (h:bS G x=some xs):∃ a vs,v= .ref a∧H a=some (.lst vs)∧RPs E Z xs vs:=by
 cases x with
 | lst ys =>
   cases h;obtain ⟨a,vs,e,q,t⟩:=r;exact ⟨a,vs,e,S.z _ _ q,t⟩
 | ref a =>
   have e:v= .ref a:=r;subst e;unfold bS at h;dsimp only at h;split at h
   · rename_i ys e;cases h;obtain ⟨_,o',q,vs,e',t⟩:=S.g _ _ e;subst e';exact ⟨a,vs,rfl,q,t⟩
   · cases h
 | _=>cases h
theorem fN (S:Sim E F H Z G) (r:RP E Z (.tup xs) v):∃ a vs,v= .ref a∧SqT E.K H a vs∧RPs E Z xs vs:=by
 obtain ⟨a,vs,e,q,t⟩:=r;exact ⟨a,vs,e,bY S.z q,t⟩
theorem Kq.here {Q':PK1} {Q:VK} (k:Kq E F Z Q' Q) (S:Sim E F H Z G) (q:Q' x G) (r:RP E Z x v):Q v H:=k x v Z G H (aM.refl Z) S r q
theorem bD {i:Int}:RP E Z (.int i) (.int i):=rfl
theorem pO {i:Str}:RP E Z (.str i) (.str i):=rfl
theorem cJ {i:Bool}:RP E Z (.bl i) (.bl i):=rfl
theorem rM:RP E Z .non .non:=rfl
theorem Kq.newZ {Q':PK1} {Q:VK} {p:Addr} {o:HO} (k:Kq E F Z Q' Q) (S:Sim E F H Z G) (n:H p=none) (r:RP E (upd Z p o) x (.ref p)) (q:Q' x G):Q (.ref p) (upd H p o) :=
 k x (.ref p) (upd Z p o) G _ (bG (S.zn n) o) (S.fz n) r q
theorem lI {vs:List V} {p:Addr} (n:Z p=none) (r:RPs E Z xs vs):RP E (upd Z p (.tup vs)) (.tup xs) (.ref p):=⟨p,vs,rfl,SqT.of aW,r.mono (bG n _)⟩
theorem jK {vs:List V} {p:Addr} (n:Z p=none) (r:RPs E Z xs vs):RP E (upd Z p (.lst vs)) (.lst xs) (.ref p):=⟨p,vs,rfl,aW,r.mono (bG n _)⟩
end
noncomputable abbrev P2:=PV→PV→Gh→PK1→Prop
def gU (E:Ev) (F:Hp) (p:P2):R2:=fun v u H Q=>∃ x y Z G Q',RP E Z x v∧RP E Z y u∧Sim E F H Z G∧p x y G Q'∧Kq E F Z Q' Q
def pI (C:Int→Int→Prop) (g:Int→Int→PV):P2:=fun x y G Q=>match x,y with
 | .int i,.int j=>C i j∧Q (g i j) G
 | _,_=>False
theorem iT {E:Ev} {F:Hp} {C:Int→Int→Prop} {g:Int→Int→V} {g':Int→Int→PV} (hg:∀ Z i j,RP E Z (g' i j) (g i j)) {v u:V} {H:Hp} {Q:VK} (h:gU E F (pI C g') v u H Q):rI C g v u H Q:=by
 obtain ⟨x,y,Z,G,Q',r1,r2,S,q,k⟩:=h;unfold pI at q;split at q
 · obtain ⟨c,q⟩:=q;exact ⟨_,_,r1,r2,c,k.here S q (hg _ _ _)⟩
 · exact q.elim
def EC (x y:PV) (G:Gh) (Q:PK1):Prop:=match x,y with
 | .int i,.int j=>Q (.int (i + j)) G
 | .str i,.str j=>i.length + j.length≤sizeLine∧Q (.str (i ++ j)) G
 | .tup xs,.tup ys=>xs.length + ys.length≤sizeLine∧Q (.tup (xs ++ ys)) G
 | x,y=>∃ xs ys,bS G x=some xs∧bS G y=some ys∧xs.length + ys.length≤sizeLine∧Q (.lst (xs ++ ys)) G
theorem aBK {E:Ev} {x y:PV} {xs ys:List PV} {v u:V} {F H Z:Hp} {G:Gh} {Q':PK1} {Q:VK} (r1:RP E Z x v) (r2:RP E Z y u) (S:Sim E F H Z G) (hx:bS G x=some xs) (hy:bS G y=some ys) (hz:xs.length + ys.length≤sizeLine) (q:Q' (.lst (xs ++ ys)) G) (k:Kq E F Z Q' Q):aIx v u H Q:=by
 obtain ⟨a,vs,rfl,ha,ta⟩:=cV S r1 hx;obtain ⟨b,us,rfl,hb,tb⟩:=cV S r2 hy;exact ⟨a,b,vs,us,rfl,rfl,ha,hb,by rw [←ta.length,←tb.length]; exact hz,fun p n=>k.newZ S n (jK (S.zn n) (ta.append tb)) q⟩
def aDd (K:W.Frag):R2:=fun x y H Q=>∃ a b ys,x= .ref a∧y= .ref b∧SqT K H a []∧SqT K H b ys∧Q (.ref b) H
theorem XQ {X:Cx}:OpR X (binaryOp .Add) (aDd X.K):=by
 intro pins s σ H x y v u Q I rx ry h;obtain ⟨a,b,ys,rfl,rfl,ha,hb,q⟩:=h;cases rx;cases ry;obtain ⟨its,r1,p1,_⟩:=I.tuple ha;obtain ⟨its2,r2,p2,_⟩:=I.tuple hb;obtain ⟨⟨cls,dd,data,sl⟩,ho,hc,n,hd⟩:=id p1;obtain ⟨⟨cls2,dd2,data2,sl2⟩,ho2,hc2,n2,hd2⟩:=id p2;simp only at hc hd hc2 hd2;subst hc hd hc2 hd2;cases r1;exact concat_meets ⟨_,ho,rfl⟩ ⟨_,ho2,rfl⟩ noFill_tuple_add seq_tuple_add PySem.F.slot_tuple_add PySem.F.entry_tuple_add (PySem.F.args_tuple_add_2 _ _)
   (tuple_addW0 a b #[] its2.toArray n n2 dd dd2 sl sl2 rfl) ⟨ho,ho2,⟨.ref b,H,I,rfl,q⟩⟩
section
variable {X:Cx} {E:Ev} {F:Hp}
theorem aBV (hK:E.K=X.K):OpR X (binaryOp .Add) (gU E F EC):=by
 refine (aFJ.or (HI.or ((aBQ.or XQ).or aFV))).imp fun v u H Q h=>?_;obtain ⟨x,y,Z,G,Q',r1,r2,S,q,k⟩:=h;unfold EC at q;split at q
 · exact .inl ⟨_,_,r1,r2,k.here S q bD⟩
 · exact .inr (.inl ⟨_,_,r1,r2,q.1,k.here S q.2 pO⟩)
 · rename_i xs ys;have r1':=r1;have r2':=r2;obtain ⟨a,vs,rfl,ha,ta⟩:=fN S r1;obtain ⟨b,us,rfl,hb,tb⟩:=fN S r2;obtain ⟨hz,q⟩:=q;by_cases ev:vs=[]
   · subst ev;have ex:xs=[]:=List.eq_nil_of_length_eq_zero ta.length;subst ex;exact .inr (.inr (.inl (.inr ⟨a,b,us,rfl,rfl,hK▸ha,hK▸hb,k.here S q r2'⟩)))
   · refine .inr (.inr (.inl (.inl ⟨a,b,vs,us,rfl,rfl,hK▸ha,hK▸hb,ev,by rw [←ta.length,←tb.length]; exact hz,fun e=>?_,fun _ p n=>k.newZ S n (lI (S.zn n) (ta.append tb)) q⟩)));subst e;have ey:ys=[]:=List.eq_nil_of_length_eq_zero tb.length;subst ey;rw [List.append_nil] at q;exact k.here S q r1'
 · obtain ⟨xs,ys,hx,hy,hz,q⟩:=q;exact .inr (.inr (.inr (aBK r1 r2 S hx hy hz q k)))
def aCs (_ j:Int):Prop:=0 < j
def aFs (x y:PV) (G:Gh) (Q:PK1):Prop:=match x,y with
 | .int i,.int j=>yP i j∧Q (.int (i * j)) G
 | _,_=>False
noncomputable def FI:Operator→P2
 | .Add=>EC
 | .Sub=>pI (fun _ _=>True) fun i j=>.int (i - j)
 | .Mult=>aFs
 | .FloorDiv=>pI yK fun i j=>.int (i / j)
 | .Mod=>pI aCs fun i j=>.int (i % j)
 | .Pow=>pI SQ fun i j=>.int (i ^ j.toNat)
 | .LShift=>pI SQ fun i j=>.int (i * 2 ^ j.toNat)
 | _=>fun _ _ _ _=>False
theorem vY {g:Int→Int→V} {v u:V} {H:Hp} {Q:VK} (h:rI (fun _ _=>True) g v u H Q):rI0 g v u H Q:=by
 obtain ⟨i,j,a,b,_,q⟩:=h;exact ⟨i,j,a,b,q⟩
theorem aAh (hK:E.K=X.K):∀ (op:Operator),OpR X (binaryOp op) (gU E F (FI op))
 | .Add=>aBV hK
 | .Sub=>aE6.imp fun _ _ _ _ h=>vY (iT (fun _ _ _=>bD) h)
 | .Mult=>aAG.imp fun v u H Q h=>by
   obtain ⟨x,y,Z,G,Q',r1,r2,S,q,k⟩:=h
   replace q:aFs x y G Q':=q
   unfold aFs at q;split at q
   · exact ⟨_,_,r1,r2,q.1,k.here S q.2 bD⟩
   · exact q.elim
 | .FloorDiv=>US.imp fun _ _ _ _ h=>iT (fun _ _ _=>bD) h
 | .Mod=>aEq.imp fun _ _ _ _ h=>iT (fun _ _ _=>bD) h
 | .Pow=>aEC.imp fun _ _ _ _ h=>iT (fun _ _ _=>bD) h
 | .LShift=>aFU.imp fun _ _ _ _ h=>iT (fun _ _ _=>bD) h
 | .Div=>fun _ _ _ _ _ _ _ _ _ _ _ _ h=>(by obtain ⟨_,_,_,_,_,_,_,_,q,_⟩:=h; exact q.elim)
 | .RShift=>fun _ _ _ _ _ _ _ _ _ _ _ _ h=>(by obtain ⟨_,_,_,_,_,_,_,_,q,_⟩:=h; exact q.elim)
 | .BitOr=>fun _ _ _ _ _ _ _ _ _ _ _ _ h=>(by obtain ⟨_,_,_,_,_,_,_,_,q,_⟩:=h; exact q.elim)
 | .BitXor=>fun _ _ _ _ _ _ _ _ _ _ _ _ h=>(by obtain ⟨_,_,_,_,_,_,_,_,q,_⟩:=h; exact q.elim)
 | .BitAnd=>fun _ _ _ _ _ _ _ _ _ _ _ _ h=>(by obtain ⟨_,_,_,_,_,_,_,_,q,_⟩:=h; exact q.elim)
 | .MatMult=>fun _ _ _ _ _ _ _ _ _ _ _ _ h=>(by obtain ⟨_,_,_,_,_,_,_,_,q,_⟩:=h; exact q.elim)
end
mutual
noncomputable def peq:PV→PV→Bool
 | .non,y=>match y with | .non=>true | _=>false
 | .bl a,y=>match y with | .bl b=>a == b | .int j=>(if a then 1 else 0) == j | _=>false
 | .int i,y=>match y with | .int j=>i == j | .bl b=>i == (if b then 1 else 0) | _=>false
 | .str a,y=>match y with | .str b=>a == b | _=>false
 | .tup xs,y=>match y with | .tup ys=>kG xs ys | _=>false
 | .lst xs,y=>match y with | .lst ys=>kG xs ys | _=>false
 | _,_=>false
noncomputable def kG:List PV→List PV→Bool
 | [],ys=>match ys with | []=>true | _=>false
 | x :: xs,ys=>match ys with | y :: r=>peq x y && kG xs r | []=>false
end
mutual
noncomputable def dat:PV→Option PyData
 | .non=>some .none
 | .bl b=>some (.bool b)
 | .int i=>some (.int i)
 | .str x=>some (.str x)
 | .tup xs=>match jB xs with | some ds=>some (.tuple ds) | none=>none
 | .lst xs=>match jB xs with | some ds=>some (.list ds) | none=>none
 | _=>none
noncomputable def jB:List PV→Option (List PyData)
 | []=>some []
 | x :: xs=>match dat x,jB xs with | some d,some ds=>some (d :: ds) | _,_=>none
end
mutual
theorem HF:∀ {x y:PV} {d e:PyData},dat x=some d→dat y=some e→PyData.eqv d e=peq x y
 | .non,y,d,e,h,q=>by
   simp only [dat] at h; cases h;cases y <;> simp only [dat] at q <;> (try split at q) <;> cases q <;> simp only [PyData.eqv,peq]
 | .bl _,y,d,e,h,q=>by
   simp only [dat] at h; cases h;cases y <;> simp only [dat] at q <;> (try split at q) <;> cases q <;> simp only [PyData.eqv,peq]
 | .int _,y,d,e,h,q=>by
   simp only [dat] at h; cases h;cases y <;> simp only [dat] at q <;> (try split at q) <;> cases q <;> simp only [PyData.eqv,peq]
 | .str _,y,d,e,h,q=>by
   simp only [dat] at h; cases h;cases y <;> simp only [dat] at q <;> (try split at q) <;> cases q <;> simp only [PyData.eqv,peq]
 | .tup xs,y,d,e,h,q=>by
   simp only [dat] at h;split at h
   · rename_i ds hd;cases h;cases y with
     | tup ys =>
       simp only [dat] at q;split at q
       · rename_i es he;cases q;simp only [PyData.eqv,peq]; exact peqs_ok hd he
       · cases q
     | _=>simp only [dat] at q <;> (try split at q) <;> cases q <;> simp only [PyData.eqv,peq]
   · cases h
 | .lst xs,y,d,e,h,q=>by
   simp only [dat] at h;split at h
   · rename_i ds hd;cases h;cases y with
     | lst ys =>
       simp only [dat] at q;split at q
       · rename_i es he;cases q;simp only [PyData.eqv,peq]; exact peqs_ok hd he
       · cases q
     | _=>simp only [dat] at q <;> (try split at q) <;> cases q <;> simp only [PyData.eqv,peq]
   · cases h
 | .scr _,y,d,e,h,q=>by simp [dat] at h
 | .ob _ _ _,y,d,e,h,q=>by simp [dat] at h
 | .ref _,y,d,e,h,q=>by simp [dat] at h
 | .ty _,y,d,e,h,q=>by simp [dat] at h
 | .cl _,y,d,e,h,q=>by simp [dat] at h
 | .fn _,y,d,e,h,q=>by simp [dat] at h
 | .emp,y,d,e,h,q=>by simp [dat] at h
 | .dct _ _,y,d,e,h,q=>by simp [dat] at h
 | .exc _ _ _,y,d,e,h,q=>by simp [dat] at h
theorem peqs_ok:∀ {xs ys:List PV} {ds es:List PyData},jB xs=some ds→jB ys=some es→PyData.eqvAll ds es=kG xs ys
 | [],[],_,_,h,q=>by simp only [jB] at h q; cases h; cases q; simp only [PyData.eqvAll,kG]
 | [],y :: ys,_,_,h,q=>by
   simp only [jB] at h q; cases h;split at q <;> cases q
   simp only [PyData.eqvAll,kG]
 | x :: xs,[],_,_,h,q=>by
   simp only [jB] at h q; cases q;split at h <;> cases h
   simp only [PyData.eqvAll,kG]
 | x :: xs,y :: ys,_,_,h,q=>by
   simp only [jB] at h q;split at h <;> cases h
   rename_i hd hds;split at q <;> cases q
   rename_i he hes;simp only [PyData.eqvAll,kG];rw [HF hd he,peqs_ok hds hes]
end
section
variable {X:Cx} {E:Ev} {pins:List (Addr×Obj)} {σ:L2.St} {F H Z:Hp} {s:Shared}
mutual
theorem yF (I:Inv X pins σ H s) (hK:E.K=X.K) (hz:aM Z H):∀ {x:PV} {v:V} {u:Value} {d:PyData},RP E Z x v→aN v u→dat x=some d→∃ as,Reads s.heap u d as
 | .non,v,u,d,r,rv,h=>by
   simp only [dat] at h; cases h;cases (show v= .non from r); cases rv; exact ⟨[],.none⟩
 | .bl b,v,u,d,r,rv,h=>by
   simp only [dat] at h; cases h;cases (show v= .bl b from r); cases rv; exact ⟨[],.bool b⟩
 | .int i,v,u,d,r,rv,h=>by
   simp only [dat] at h; cases h;cases (show v= .int i from r); obtain ⟨t,rfl⟩:=rv; exact ⟨[],.int i t⟩
 | .str x,v,u,d,r,rv,h=>by
   simp only [dat] at h; cases h;cases (show v= .str x from r); obtain ⟨t,rfl⟩:=rv; exact ⟨[],.str x t⟩
 | .tup xs,v,u,d,r,rv,h=>by
   simp only [dat] at h;split at h <;> cases h
   rename_i ds hd;obtain ⟨a,vs,rfl,q,t⟩:=r;cases rv;obtain ⟨its,rv,ht,_⟩:=I.tuple (hK▸bY hz q);obtain ⟨o,ho,hc,n,hd'⟩:=ht;obtain ⟨as,q'⟩:=dats_reads I hK hz t rv hd;exact ⟨as,.tuple ho hc hd' (by simpa using q')⟩
 | .lst xs,v,u,d,r,rv,h=>by
   simp only [dat] at h;split at h <;> cases h
   rename_i ds hd;obtain ⟨a,vs,rfl,q,t⟩:=r;cases rv;obtain ⟨_,its,n,rv,ho⟩:=I.hok _ _ (hz _ _ q);obtain ⟨as,q'⟩:=dats_reads I hK hz t rv hd;exact ⟨_ :: as,.list ho rfl rfl (by simpa using q')⟩
 | .scr _,v,u,d,r,rv,h=>by simp [dat] at h
 | .ob _ _ _,v,u,d,r,rv,h=>by simp [dat] at h
 | .ref _,v,u,d,r,rv,h=>by simp [dat] at h
 | .ty _,v,u,d,r,rv,h=>by simp [dat] at h
 | .cl _,v,u,d,r,rv,h=>by simp [dat] at h
 | .fn _,v,u,d,r,rv,h=>by simp [dat] at h
 | .emp,v,u,d,r,rv,h=>by simp [dat] at h
 | .dct _ _,v,u,d,r,rv,h=>by simp [dat] at h
 | .exc _ _ _,v,u,d,r,rv,h=>by simp [dat] at h
theorem dats_reads (I:Inv X pins σ H s) (hK:E.K=X.K) (hz:aM Z H):∀ {xs:List PV} {vs:List V} {us:List Value} {ds:List PyData},RPs E Z xs vs→aJ vs us→jB xs=some ds→∃ as,ReadsAll s.heap us ds as
 | [],_,_,_,r,rv,h=>by
   simp only [jB] at h; cases h;cases r; cases rv; exact ⟨[],.nil⟩
 | x :: xs,_,_,_,r,rv,h=>by
   simp only [jB] at h;split at h <;> cases h
   rename_i hd hds;obtain ⟨v,r',rfl,r1,r2⟩:=r;cases rv with
   | cons q1 q2 =>
     obtain ⟨as,a⟩:=yF I hK hz r1 q1 hd;obtain ⟨bs,b⟩:=dats_reads I hK hz r2 q2 hds;exact ⟨as ++ bs,.cons a b⟩
end
mutual
noncomputable def dte:PV→Option PyData
 | .non=>some .none
 | .bl b=>some (.bool b)
 | .int i=>some (.int i)
 | .str x=>some (.str x)
 | .tup xs=>match UZ xs with | some ds=>some (.tuple ds) | none=>none
 | .emp=>some (.dict [])
 | _=>none
noncomputable def UZ:List PV→Option (List PyData)
 | []=>some []
 | x :: xs=>match dte x,UZ xs with | some d,some ds=>some (d :: ds) | _,_=>none
end
mutual
theorem NX (I:Inv X pins σ H s) (hK:E.K=X.K) (hz:aM Z H):∀ {x:PV} {v:V} {u:Value} {d:PyData},RP E Z x v→aN v u→dte x=some d→∃ as,Reads s.heap u d as∧sysModules∉ as
 | .non,v,u,d,r,rv,h=>by
   simp only [dte] at h; cases h;cases (show v= .non from r); cases rv; exact ⟨[],.none,by simp⟩
 | .bl b,v,u,d,r,rv,h=>by
   simp only [dte] at h; cases h;cases (show v= .bl b from r); cases rv; exact ⟨[],.bool b,by simp⟩
 | .int i,v,u,d,r,rv,h=>by
   simp only [dte] at h; cases h;cases (show v= .int i from r); obtain ⟨t,rfl⟩:=rv; exact ⟨[],.int i t,by simp⟩
 | .str x,v,u,d,r,rv,h=>by
   simp only [dte] at h; cases h;cases (show v= .str x from r); obtain ⟨t,rfl⟩:=rv; exact ⟨[],.str x t,by simp⟩
 | .tup xs,v,u,d,r,rv,h=>by
   simp only [dte] at h;split at h <;> cases h
   rename_i ds hd;obtain ⟨a,vs,rfl,q,t⟩:=r;cases rv;obtain ⟨its,rv,ht,_⟩:=I.tuple (hK▸bY hz q);obtain ⟨o,ho,hc,n,hd'⟩:=ht;obtain ⟨as,q',na⟩:=dtes_reads I hK hz t rv hd;exact ⟨as,.tuple ho hc hd' (by simpa using q'),na⟩
 | .emp,v,u,d,r,rv,h=>by
   simp only [dte] at h; cases h;obtain ⟨a,rfl,q⟩:=r;cases rv;obtain ⟨_,hs,vs,rel,o,es,ep,ho,⟨hc,hd⟩,hl⟩:=I.hok _ _ (hz _ _ q);have ev:vs=[]:=by cases vs with
     | nil=>rfl
     | cons _ _=>cases rel
   subst ev;obtain ⟨hd1,_,hp,_⟩:=hl;have ee:es.toList=[]:=by cases hh:es.toList with
     | nil=>rfl
     | cons _ _=>rw [hh] at hp; cases hp
   exact ⟨a :: [] ++ [],.dict ho hc hd1 (kvs:=[]) (by rw [ee]; exact .nil) (by rw [ee]; exact .nil),by
     simp only [List.append_nil,List.mem_singleton];intro z; subst z; rw [beq_self_eq_true] at hs; cases hs⟩
 | .lst _,v,u,d,r,rv,h=>by simp [dte] at h
 | .scr _,v,u,d,r,rv,h=>by simp [dte] at h
 | .ob _ _ _,v,u,d,r,rv,h=>by simp [dte] at h
 | .ref _,v,u,d,r,rv,h=>by simp [dte] at h
 | .ty _,v,u,d,r,rv,h=>by simp [dte] at h
 | .cl _,v,u,d,r,rv,h=>by simp [dte] at h
 | .fn _,v,u,d,r,rv,h=>by simp [dte] at h
 | .dct _ _,v,u,d,r,rv,h=>by simp [dte] at h
 | .exc _ _ _,v,u,d,r,rv,h=>by simp [dte] at h
theorem dtes_reads (I:Inv X pins σ H s) (hK:E.K=X.K) (hz:aM Z H):∀ {xs:List PV} {vs:List V} {us:List Value} {ds:List PyData},RPs E Z xs vs→aJ vs us→UZ xs=some ds→∃ as,ReadsAll s.heap us ds as∧sysModules∉ as
 | [],_,_,_,r,rv,h=>by
   simp only [UZ] at h; cases h;cases r; cases rv; exact ⟨[],.nil,by simp⟩
 | x :: xs,_,_,_,r,rv,h=>by
   simp only [UZ] at h;split at h <;> cases h
   rename_i hd hds;obtain ⟨v,r',rfl,r1,r2⟩:=r;cases rv with
   | cons q1 q2 =>
     obtain ⟨as,a,na⟩:=NX I hK hz r1 q1 hd;obtain ⟨bs,b,nb⟩:=dtes_reads I hK hz r2 q2 hds;exact ⟨as ++ bs,.cons a b,fun z=>(List.mem_append.mp z).elim na nb⟩
end
noncomputable def pur (G:Gh):PV→PV
 | .ref a=>match G a with
   | some (.lst xs)=>.lst xs
   | _=>.ref a
 | x=>x
noncomputable def shp (x:PV):Bool:=match dat x with | some d=>SeqAt.shaped d | none=>false
theorem lG {G:Gh} (I:Inv X pins σ H s) (hK:E.K=X.K) (S:Sim E F H Z G) {x:PV} {v:V} {u:Value} {d:PyData} (r:RP E Z x v) (rv:aN v u) (h:dat (pur G x)=some d):∃ as,Reads s.heap u d as:=by
 by_cases hx:∃ a,x= .ref a
 · obtain ⟨a,rfl⟩:=hx;have e:v= .ref a:=r;subst e;cases rv;unfold pur at h;dsimp only at h;split at h
   · rename_i xs e;obtain ⟨_,o',q,vs,e',t⟩:=S.g _ _ e;subst e';simp only [dat] at h;split at h <;> cases h
     rename_i ds hd;obtain ⟨_,its,n,rv,ho⟩:=I.hok _ _ q;obtain ⟨as,q'⟩:=dats_reads I hK S.z t rv hd;exact ⟨_ :: as,.list ho rfl rfl (by simpa using q')⟩
   · simp [dat] at h
 · have e:pur G x=x:=by
     unfold pur;split
     · rename_i a; exact absurd ⟨a,rfl⟩ hx
     · rfl
   rw [e] at h;exact yF I hK S.z r rv h
def pEq (neg:Bool) (x y:PV) (G:Gh) (Q:PK1):Prop:=shp (pur G x)=true∧shp (pur G y)=true∧Q (.bl (if neg then !peq (pur G x) (pur G y) else peq (pur G x) (pur G y))) G
theorem AW {x:PV} (h:shp x=true):∃ d,dat x=some d∧SeqAt.shaped d=true:=by
 unfold shp at h;split at h
 · rename_i d e; exact ⟨d,e,h⟩
 · cases h
theorem aFZ {k:Nat} (hr:bF k X.A) (hK:E.K=X.K):OpR X (compareOp .Eq) (gU E F (pEq false)):=by
 rintro pins s σ H v w u u' Q I rx ry ⟨x,y,Z,G,Q',r1,r2,S,⟨hx,hy,q⟩,kq⟩;obtain ⟨d,e1,a1⟩:=AW hx;obtain ⟨e,e2,a2⟩:=AW hy;obtain ⟨as,q1⟩:=lG I hK S r1 rx e1;obtain ⟨bs,q2⟩:=lG I hK S r2 ry e2;refine eq_dataH q1 q2 a1 a2 hr.units ⟨.bl _,H,I,rfl, ?_⟩;rw [HF e1 e2];exact kq.here S q cJ
theorem YZ {k:Nat} (hr:bF k X.A) (hK:E.K=X.K):OpR X (compareOp .NotEq) (gU E F (pEq true)):=by
 rintro pins s σ H v w u u' Q I rx ry ⟨x,y,Z,G,Q',r1,r2,S,⟨hx,hy,q⟩,kq⟩;obtain ⟨d,e1,a1⟩:=AW hx;obtain ⟨e,e2,a2⟩:=AW hy;obtain ⟨as,q1⟩:=lG I hK S r1 rx e1;obtain ⟨bs,q2⟩:=lG I hK S r2 ry e2;refine ne_dataH q1 q2 a1 a2 hr.units ⟨.bl _,H,I,rfl, ?_⟩;rw [HF e1 e2];exact kq.here S q cJ
end
section
variable {E:Ev} {F H Z:Hp} {G:Gh} {X:Cx}
theorem RT {xs:List PV} {vs:List V} {i:Int} {x:PV} (r:RPs E Z xs vs) (h:atI xs i=some x):∃ v,atI vs i=some v∧RP E Z x v:=by
 unfold atI at *;rw [←r.length];cases e:ixN xs.length i with
 | none=>rw [e] at h; cases h
 | some j=>rw [e] at h; exact r.get h
noncomputable def FC:List Key→List PV→Key→Option PV
 | j :: ks,x :: xs,k=>if j=k then some x else FC ks xs k
 | _,_,_=>none
def xH (x y:PV) (G:Gh) (Q:PK1):Prop:=match x,y with
 | .tup xs,.int i=>∃ v,atI xs i=some v∧Q v G
 | .scr ns,.int i=>∃ n,atI ns i=some n∧Q (.int n) G
 | .str z,.int i=>z.length≤sizeLine∧∃ c,atI z.cps.toList i=some c∧Q (.str ⟨#[c]⟩) G
 | .dct ks xs,.int i=>∃ v,FC ks xs (.inl i)=some v∧Q v G
 | .dct ks xs,.str z=>∃ v,FC ks xs (.inr z)=some v∧Q v G
 | x,.int i=>∃ xs v,bS G x=some xs∧atI xs i=some v∧Q v G
 | _,_=>False
theorem vH {k:Key} {x:PV}:∀ {ks:List Key} {xs:List PV} {vs:List V},RPs E Z xs vs→FC ks xs k=some x→∃ v,valV (ks.zip vs) k=some v∧RP E Z x v
 | [],_,_,_,h=>by cases h
 | _ :: _,[],_,_,h=>by cases h
 | j :: ks,y :: ys,_,⟨v,r,e,r1,r2⟩,h=>by
   subst e;unfold FC at h;rw [List.zip_cons_cons];split at h
   · rename_i ej; cases h; exact ⟨v,uC ej,r1⟩
   · rename_i ej;rw [vO ej];exact vH (ks:=ks) r2 h
theorem aBI {α β:Type} {f:α→β} {xs:List α} {i:Int} {x:α} (h:atI xs i=some x):atI (xs.map f) i=some (f x):=by
 unfold atI at *;rw [List.length_map];cases e:ixN xs.length i with
 | none=>rw [e] at h; cases h
 | some j =>
   rw [e] at h;have h':xs[j]? =some x:=h;show (xs.map f)[j]? =some (f x);rw [List.getElem?_map,h']; rfl
theorem aFw {k:Nat} (hr:bF k X.A) (hK:E.K=X.K):IxR X (gU E F xH):=by
 refine (aEW.or (aBm hr)).imp fun v u H Q h=>?_;obtain ⟨x,y,Z,G,Q',r1,r2,S,q,k⟩:=h;unfold xH at q;split at q
 · obtain ⟨y,e,q⟩:=q;obtain ⟨a,vs,rfl,ha,ta⟩:=fN S r1;obtain ⟨w,e',rw'⟩:=RT ta e;exact .inl (.inr (.inl ⟨a,vs,_,w,rfl,r2,hK▸ha,e',k.here S q rw'⟩))
 · obtain ⟨n,e,q⟩:=q;obtain ⟨a,rfl,ha⟩:=r1;exact .inl (.inl ⟨a,_,_,_,rfl,r2,hK▸S.z.seq ha,aBI e,k.here S q bD⟩)
 · obtain ⟨hz,c,e,q⟩:=q;exact .inl (.inr (.inr ⟨_,_,c,r1,r2,hz,e,k.here S q pO⟩))
 · obtain ⟨y,e,q⟩:=q;obtain ⟨a,vs,rfl,ha,_,ta⟩:=r1;obtain ⟨w,e',rw'⟩:=vH ta e;have r2:u=kV (.inl _):=r2;rw [r2];refine .inr ⟨a,w,rfl, ?_,k.here S q rw'⟩;rw [←e']; exact .k (S.z _ _ ha)
 · obtain ⟨y,e,q⟩:=q;obtain ⟨a,vs,rfl,ha,_,ta⟩:=r1;obtain ⟨w,e',rw'⟩:=vH ta e;have r2:u=kV (.inr _):=r2;rw [r2];refine .inr ⟨a,w,rfl, ?_,k.here S q rw'⟩;rw [←e']; exact .k (S.z _ _ ha)
 · obtain ⟨xs,y,e0,e,q⟩:=q;obtain ⟨a,vs,rfl,ha,ta⟩:=cV S r1 e0;obtain ⟨w,e',rw'⟩:=RT ta e;exact .inl (.inl ⟨a,vs,_,w,rfl,r2,SqL.of ha,e',k.here S q rw'⟩)
 · exact q.elim
def aBT (o i v:PV) (G:Gh) (Q:Gh→Prop):Prop:= ∃ a xs k j,o= .ref a∧i= .int k∧G a=some (.lst xs)∧ixN xs.length k=some j∧Q (gup G a (.lst (xs.set j v)))
noncomputable def aFD (E:Ev) (F:Hp) (p:PV→PV→PV→Gh→(Gh→Prop)→Prop):aAx:=fun o i v H Q=>∃ o' i' v' Z G Q',RP E Z o' o∧RP E Z i' i∧RP E Z v' v∧Sim E F H Z G∧p o' i' v' G Q'∧∀ G1 H1,Sim E F H1 Z G1→Q' G1→Q H1
theorem aAC:aFv X (aFD E F aBT):=by
 rintro pins s σ H o i v ov iv u Q I ro ri rv ⟨o',i',v',Z,G,Q',r1,r2,r3,S,⟨a,xs,k,j,e1,e2,hG,ix,q⟩,kq⟩;subst e1 e2;have e1:o= .ref a:=r1;have e2:i= .int k:=r2;subst e1 e2;obtain ⟨_,o',hH,vs,e,t⟩:=S.g _ _ hG;subst e;exact YT pins s σ H (.ref a) (.int k) v ov iv u Q I ro ri rv ⟨a,vs,k,j,rfl,rfl,hH,by rw [←t.length]; exact ix,kq _ _ (S.set (go:=.lst (xs.set j v')) hG ⟨_,rfl,t.set r3 j⟩) q⟩
noncomputable def lW (xs:List PV) (lo hi:Option Int):List PV:=(xs.drop (HT.sIx xs.length 0 lo)).take (HT.sIx xs.length xs.length hi - HT.sIx xs.length 0 lo)
theorem IL {xs:List PV} {vs:List V} {lo hi:Option Int} (r:RPs E Z xs vs):RPs E Z (lW xs lo hi) (GA vs lo hi):=by
 unfold lW GA;rw [r.length];exact (r.drop _).take _
def SD (x:PV) (lo hi:Option Int) (G:Gh) (Q:PK1):Prop:=match x with
 | .tup xs=>Q (.tup (lW xs lo hi)) G
 | .scr ns=>Q (.lst (lW (ns.map .int) lo hi)) G
 | x=>∃ xs,bS G x=some xs∧Q (.lst (lW xs lo hi)) G
noncomputable def aIS (E:Ev) (F:Hp) (p:PV→Option Int→Option Int→Gh→PK1→Prop):V→Option Int→Option Int→Hp→VK→Prop:=fun v lo hi H Q=>∃ x Z G Q',RP E Z x v∧Sim E F H Z G∧p x lo hi G Q'∧Kq E F Z Q' Q
theorem SlR.imp {r r':V→Option Int→Option Int→Hp→VK→Prop} (h:SlR X r) (f:∀ x l u H Q,r' x l u H Q→r x l u H Q):SlR X r':=fun pins s σ H x v vl vu lo hi sl Q I rx hs pl pu q=>h pins s σ H x v vl vu lo hi sl Q I rx hs pl pu (f _ _ _ _ _ q)
theorem aF5 (hK:E.K=X.K):SlR X (aIS E F SD):=by
 refine SlR.imp (SlR.or (SlR.or aEi aBe) aBH) fun v lo hi H Q h=>?_;obtain ⟨x,Z,G,Q',r1,S,q,k⟩:=h;unfold SD at q;split at q
 · rename_i xs;have r0:=r1;obtain ⟨a,vs,rfl,ha,ta⟩:=fN S r1;by_cases w:HT.sIx vs.length 0 lo=0∧HT.sIx vs.length vs.length hi=vs.length
   · refine .inl (.inr ⟨a,vs,rfl,hK▸ha,w, ?_⟩);have e:lW xs lo hi=xs:=by
       unfold lW;rw [ta.length,w.1,w.2,List.drop_zero,Nat.sub_zero,←ta.length,List.take_length]
     rw [e] at q;exact k _ _ _ _ _ (aM.refl _) S r0 q
   · exact .inl (.inl ⟨a,vs,rfl,hK▸ha,w,fun p n=>k.newZ S n (lI (S.zn n) (IL ta)) q⟩)
 · obtain ⟨a,rfl,ha⟩:=r1;exact .inr ⟨a,_,rfl,hK▸S.z.seq ha,fun p n=>k.newZ S n (jK (S.zn n) (IL (RPs.ofInts _))) q⟩
 · obtain ⟨xs,e0,q⟩:=q;obtain ⟨a,vs,rfl,ha,ta⟩:=cV S r1 e0;exact .inr ⟨a,vs,rfl,SqL.of ha,fun p n=>k.newZ S n (jK (S.zn n) (IL ta)) q⟩
def BK (x:PV) (G:Gh) (Q:Bool→Gh→Prop):Prop:=match x with
 | .non=>Q false G
 | .bl b=>Q b G
 | .int i=>Q (i != 0) G
 | .str y=>y.length≤sizeLine∧Q ((y.length:Int) != 0) G
 | .tup xs=>Q (!xs.isEmpty) G
 | x=>∃ xs,bS G x=some xs∧Q (!xs.isEmpty) G
theorem yJ {xs:List PV} {vs:List V} (r:RPs E Z xs vs):xs.isEmpty=vs.isEmpty:=by
 cases xs with
 | nil=>cases r; rfl
 | cons x xs=>obtain ⟨_,_,e,_,_⟩:=r; subst e; rfl
theorem tL {x:PV} {v:V} {Q':Bool→Gh→Prop} (hK:E.K=X.K) (S:Sim E F H Z G) (r:RP E Z x v) (q:BK x G Q'):∃ b,QT X.K v H b∧Q' b G:=by
 unfold BK at q;split at q
 · cases (show v= .non from r); exact ⟨_,rfl,q⟩
 · cases (show v= .bl _ from r); exact ⟨_,rfl,q⟩
 · cases (show v= .int _ from r); exact ⟨_,rfl,q⟩
 · cases (show v= .str _ from r); exact ⟨_,⟨q.1,rfl⟩,q.2⟩
 · obtain ⟨a,vs,rfl,ha,ta⟩:=fN S r;exact ⟨_,.inr (.inl ⟨vs,hK▸ha,by rw [yJ ta]⟩),q⟩
 · obtain ⟨xs,e0,q⟩:=q;obtain ⟨a,vs,rfl,ha,ta⟩:=cV S r e0;exact ⟨_,.inl ⟨vs,SqL.of ha,by rw [yJ ta]⟩,q⟩
inductive Bn where
 | len | abs | max | min | int | str | isi | tuple | list | all | any | sum | bool | repr | divmod
 deriving DecidableEq
noncomputable abbrev Sp3:=List PV→Gh→PK1→Prop
noncomputable def TQ (E:Ev) (F:Hp) (p:List PV→Gh→PK1→Prop):List V→Hp→VK→Prop:=fun vs H Q=>∃ xs Z G Q',RPs E Z xs vs∧Sim E F H Z G∧p xs G Q'∧Kq E F Z Q' Q
noncomputable def pK:PV→Gh→Option String
 | .non,_=>some "NoneType"
 | .bl _,_=>some "bool"
 | .int _,_=>some "int"
 | .str _,_=>some "str"
 | .tup _,_=>some "tuple"
 | .lst _,_=>some "list"
 | .emp,_=>some "dict"
 | .dct _ _,_=>some "dict"
 | .ref a,G=>match G a with
   | some (.lst _)=>some "list"
   | _=>none
 | _,_=>none
noncomputable def OO:PV→Gh→Option String
 | .ob c _ _,_=>some c
 | .ref a,G=>match G a with
   | some (.ins c _ _)=>some c
   | _=>none
 | _,_=>none
structure SV (E:Ev) (cs:List String):Prop where
 own:∀ c∈cs,TU E.K (E.cls c)
 plain:∀ c∈cs,∀ n∈NV,W.kitOne E.K (.type n) (.ref (E.cls c))=some false
 other:∀ c∈cs,∀ T∈mP,W.kitOne E.K (.ref (E.cls c)) (.type T)=some false
 apart:∀ c∈cs,∀ c'∈cs,c≠c'→W.kitOne E.K (.ref (E.cls c)) (.ref (E.cls c'))=some false
noncomputable def AH:List PV→Option Bool
 | []=>some true
 | .bl b :: r=>(AH r).map (b && ·)
 | _ :: _=>none
noncomputable def IK:List PV→Option Int
 | []=>some 0
 | .int i :: r=>(IK r).map (i + ·)
 | _ :: _=>none
theorem JX:∀ {xs:List PV} {b:Bool},AH xs=some b→∃ bs:List Bool,xs=bs.map PV.bl∧b=bs.all id
 | [],b,h=>by cases h; exact ⟨[],rfl,rfl⟩
 | x :: r,b,h=>by
   cases x with
   | bl c =>
     unfold AH at h;cases e:AH r with
     | none=>rw [e] at h; cases h
     | some d =>
       rw [e] at h; cases h;obtain ⟨bs,e1,e2⟩:=JX e;exact ⟨c :: bs,by rw [e1]; rfl,by rw [e2]; rfl⟩
   | _=>cases h
theorem JR:∀ {xs:List PV} {b:Int},IK xs=some b→∃ bs:List Int,xs=bs.map PV.int∧b=bs.sum
 | [],b,h=>by cases h; exact ⟨[],rfl,rfl⟩
 | x :: r,b,h=>by
   cases x with
   | int c =>
     unfold IK at h;cases e:IK r with
     | none=>rw [e] at h; cases h
     | some d =>
       rw [e] at h; cases h;obtain ⟨bs,e1,e2⟩:=JR e;exact ⟨c :: bs,by rw [e1]; rfl,by rw [e2]; rfl⟩
   | _=>cases h
theorem RPs.bools:∀ {bs:List Bool} {vs:List V},RPs E Z (bs.map PV.bl) vs→vs=bs.map V.bl
 | [],_,h=>h
 | _ :: _,_,⟨v,r,e1,h,t⟩=>by
   have h':v=V.bl _:=h;subst e1 h'; rw [RPs.bools t]; rfl
noncomputable def dG (cs:List String):Bn→List PV→Gh→PK1→Prop
 | .len,[x],G,Q=>(∃ xs,x= .tup xs∧Q (.int xs.length) G)∨(∃ ns,x= .scr ns∧Q (.int ns.length) G)∨(∃ z,x= .str z∧z.length≤sizeLine∧Q (.int z.length) G)∨∃ xs,bS G x=some xs∧Q (.int xs.length) G
 | .abs,[.int i],G,Q=>Q (.int (i.natAbs:Int)) G
 | .max,[.int i,.int j],G,Q=>Q (.int (max i j)) G
 | .min,[.int i,.int j],G,Q=>Q (.int (min i j)) G
 | .int,[.int i],G,Q=>Q (.int i) G
 | .int,[.bl b],G,Q=>Q (.int (if b then 1 else 0)) G
 | .isi,[x,.ty T],G,Q=>T∈mP∧((∃ n,pK x G=some n∧Q (.bl (AK n T)) G)∨∃ c,OO x G=some c∧c∈cs∧Q (.bl false) G)
 | .isi,[x,.cl c],G,Q=>c∈cs∧((∃ n,pK x G=some n∧Q (.bl false) G)∨∃ c',OO x G=some c'∧c'∈cs∧Q (.bl (decide (c'=c))) G)
 | .tuple,[x],G,Q=>(∃ xs,x= .tup xs∧Q x G)∨∃ xs,bS G x=some xs∧Q (.tup xs) G
 | .all,[x],G,Q=>∃ xs b,bS G x=some xs∧AH xs=some b∧Q (.bl b) G
 | .sum,[x],G,Q=>(∃ xs b,bS G x=some xs∧IK xs=some b∧Q (.int b) G)∨∃ ns:List Int,x= .tup (ns.map PV.int)∧Q (.int ns.sum) G
 | _,_,_,_=>False
noncomputable def WF:Bn→Value
 | .len=>.builtin "len"
 | .abs=>.builtin "abs"
 | .max=>.builtin "max"
 | .min=>.builtin "min"
 | .int=>.type "int"
 | .str=>.type "str"
 | .isi=>.builtin "isinstance"
 | .tuple=>.type "tuple"
 | .list=>.type "list"
 | .all=>.builtin "all"
 | .any=>.builtin "any"
 | .sum=>.builtin "sum"
 | .bool=>.type "bool"
 | .repr=>.builtin "repr"
 | .divmod=>.builtin "divmod"
theorem EU {x:PV} {vs:List V} (r:RPs E Z [x] vs):∃ v,vs=[v]∧RP E Z x v:=by
 obtain ⟨v,t,e,r1,r2⟩:=r;have e2:t=[]:=r2;subst e2;exact ⟨v,e,r1⟩
theorem aAF {x y:PV} {vs:List V} (r:RPs E Z [x,y] vs):∃ v u,vs=[v,u]∧RP E Z x v∧RP E Z y u:=by
 obtain ⟨v,t,e,r1,u,t',e',r2,r3⟩:=r;have e2:t'=[]:=r3;subst e2 e';exact ⟨v,u,e,r1,r2⟩
theorem zU {x:PV} {v:V} {n:String} (S:Sim E F H Z G) (r:RP E Z x v) (h:pK x G=some n):n∈NV∧(tyN H v=some n∨(n="tuple"∧∃ a vs,v= .ref a∧SqT E.K H a vs)):=by
 cases x with
 | non=>cases h; cases (show v= .non from r); exact ⟨by decide,.inl rfl⟩
 | bl b=>cases h; cases (show v= .bl b from r); exact ⟨by decide,.inl rfl⟩
 | int b=>cases h; cases (show v= .int b from r); exact ⟨by decide,.inl rfl⟩
 | str b=>cases h; cases (show v= .str b from r); exact ⟨by decide,.inl rfl⟩
 | tup xs =>
   cases h;obtain ⟨a,vs,rfl,ha,_⟩:=fN S r;exact ⟨by decide,.inr ⟨rfl,a,vs,rfl,ha⟩⟩
 | lst xs =>
   cases h;obtain ⟨a,vs,rfl,ha,_⟩:=cV (xs:=xs) S r rfl;exact ⟨by decide,.inl (by simp only [tyN,ha])⟩
 | emp =>
   cases h;obtain ⟨a,rfl,ha⟩:=r;exact ⟨by decide,.inl (by simp only [tyN,S.z _ _ ha])⟩
 | dct ks xs =>
   cases h;obtain ⟨a,vs,rfl,ha,_,_⟩:=r;exact ⟨by decide,.inl (by simp only [tyN,S.z _ _ ha])⟩
 | ref a =>
   unfold pK at h;dsimp only at h;split at h
   · rename_i xs e;cases h;obtain ⟨a',vs,rfl,ha,_⟩:=cV (xs:=xs) S r (by unfold bS; dsimp only; rw [e]);exact ⟨by decide,.inl (by simp only [tyN,ha])⟩
   · cases h
 | _=>cases h
theorem MS {pins:List (Addr×Obj)} {σ:L2.St} {s:Shared} {x:PV} {v:V} {u c:Value} {n:String} {b:Bool} {Q:VK} (hK:E.K=X.K) (I:Inv X pins σ H s) (S:Sim E F H Z G) (r:RP E Z x v) (rv:aN v u) (h:pK x G=some n)
   (e:W.kitOne X.K (.type n) c=some b) (q:Q (.bl b) H):wpAny (model X.prog X.w) X.A (call (.builtin "isinstance") [u,c]) (EP X pins σ Q) X.xe s:=by
 obtain ⟨_,t | ⟨hn,a,vs,hv,ha⟩⟩:=zU S r h
 · exact yD I rv (aGm t) e fun tk=>⟨.bl b,H,I.tok tk,rfl,q⟩
 · subst hn hv;cases rv;obtain ⟨its,_,⟨o,h1,h2,_⟩,_⟩:=I.tuple (hK▸ha);exact W.kia_one W.kitx_tuple I.kIn ⟨o,h1,h2⟩ e (fun z=>nomatch z) fun tk=>⟨.bl b,H,I.tok tk,rfl,q⟩
theorem ZU {x:PV} {v:V} {c:String} (S:Sim E F H Z G) (r:RP E Z x v) (h:OO x G=some c):∃ a dx fs,v= .ref a∧H a=some (.ins (E.cls c) dx fs):=by
 cases x with
 | ob c' ns xs =>
   cases h;obtain ⟨a,dx,vs,rfl,q,_,_⟩:=r;exact ⟨a,dx,_,rfl,S.z _ _ q⟩
 | ref a =>
   unfold OO at h;dsimp only at h;split at h
   · rename_i c' ns xs e;cases h;have e1:v= .ref a:=r;subst e1;obtain ⟨_,o',q,dx,vs,e',_,_⟩:=S.g _ _ e;subst e';exact ⟨a,dx,_,rfl,q⟩
   · cases h
 | _=>cases h
theorem BS {pins:List (Addr×Obj)} {σ:L2.St} {s:Shared} {x:PV} {v:V} {u t:Value} {c:String} {b:Bool} {Q:VK} (hK:E.K=X.K) (I:Inv X pins σ H s) (S:Sim E F H Z G) (r:RP E Z x v) (rv:aN v u) (h:OO x G=some c) (O:TU E.K (E.cls c))
   (e:W.kitOne X.K (.ref (E.cls c)) t=some b) (q:Q (.bl b) H):wpAny (model X.prog X.w) X.A (call (.builtin "isinstance") [u,t]) (EP X pins σ Q) X.xe s:=by
 obtain ⟨a,dx,fs,rfl,ha⟩:=ZU S r h;have O:TU X.K (E.cls c):=hK▸O;exact yD I rv (.ins ha O.cl O.ha O.hn O.htk O.hm) e fun tk=>⟨.bl b,H,I.tok tk,rfl,q⟩
theorem bE.or {f:Value} {r r':List V→Hp→VK→Prop} (h:bE X f r) (h':bE X f r'):bE X f (fun xs H Q=>r xs H Q∨r' xs H Q):=by
 intro pins s σ H xs us Q I rs q;rcases q with q | q
 · exact h pins s σ H xs us Q I rs q
 · exact h' pins s σ H xs us Q I rs q
theorem noC {f:Value} {p:List PV→Gh→PK1→Prop} (h:∀ xs G Q,¬p xs G Q):bE X f (TQ E F p):=by rintro _ _ _ _ _ _ _ _ _ ⟨_,_,_,_,_,_,q,_⟩;exact absurd q (h _ _ _)
noncomputable def QS:Bn→Bool
 | .max=>true
 | .min=>true
 | .all=>true
 | .any=>true
 | .sum=>true
 | .len=>false
 | .abs=>false
 | .int=>false
 | .str=>false
 | .isi=>false
 | .tuple=>false
 | .list=>false
 | .bool=>false
 | .repr=>false
 | .divmod=>false
theorem MN {cs:List String} (hK:E.K=X.K) (C:SV E cs):∀ b,(QS b=true→X.calm=true)→bE X (WF b) (TQ E F (dG cs b))
 | .len,hc=>by
   refine (bE.or AA zW).imp fun vs H Q h=>?_;obtain ⟨xs,Z,G,Q',r,S,q,k⟩:=h
   match xs,q with
   | [x],q =>
     obtain ⟨v,rfl,rr⟩:=EU r;rcases q with ⟨ys,rfl,q⟩ | ⟨ns,rfl,q⟩ | ⟨z,rfl,hz,q⟩ | ⟨ys,e,q⟩
     · obtain ⟨a,vs,rfl,ha,ta⟩:=fN S rr;exact .inl ⟨a,vs,rfl,.inr (hK▸ha),k.here S q (by rw [ta.length]; exact bD)⟩
     · obtain ⟨a,rfl,ha⟩:=rr;exact .inl ⟨a,_,rfl,.inl (hK▸S.z.seq ha),k.here S q (by rw [List.length_map]; exact bD)⟩
     · exact .inr ⟨z,by rw [show v= .str z from rr],hz,k.here S q bD⟩
     · obtain ⟨a,vs,rfl,ha,ta⟩:=cV S rr e;exact .inl ⟨a,vs,rfl,.inl (SqL.of ha),k.here S q (by rw [ta.length]; exact bD)⟩
 | .abs,hc=>by
   refine OC.imp fun vs H Q h=>?_;obtain ⟨xs,Z,G,Q',r,S,q,k⟩:=h
   match xs,q with
   | [.int i],q =>
     obtain ⟨v,rfl,rr⟩:=EU r;exact ⟨i,by rw [show v= .int i from rr],k.here S q bD⟩
 | .max,hc=>by
   refine (NJ (hc rfl)).imp fun vs H Q h=>?_;obtain ⟨xs,Z,G,Q',r,S,q,k⟩:=h
   match xs,q with
   | [.int i,.int j],q =>
     obtain ⟨v,u,rfl,r1,r2⟩:=aAF r;have e:max i j=if j > i then j else i:=by split <;> omega
     exact ⟨i,j,by rw [show v= .int i from r1,show u= .int j from r2],k.here S q (by rw [e]; exact bD)⟩
 | .min,hc=>by
   refine (NO (hc rfl)).imp fun vs H Q h=>?_;obtain ⟨xs,Z,G,Q',r,S,q,k⟩:=h
   match xs,q with
   | [.int i,.int j],q =>
     obtain ⟨v,u,rfl,r1,r2⟩:=aAF r;have e:min i j=if j < i then j else i:=by split <;> omega
     exact ⟨i,j,by rw [show v= .int i from r1,show u= .int j from r2],k.here S q (by rw [e]; exact bD)⟩
 | .int,hc=>by
   refine MZ.imp fun vs H Q h=>?_;obtain ⟨xs,Z,G,Q',r,S,q,k⟩:=h
   match xs,q with
   | [.int i],q =>
     obtain ⟨v,rfl,rr⟩:=EU r;exact .inl ⟨i,by rw [show v= .int i from rr],k.here S q bD⟩
   | [.bl i],q =>
     obtain ⟨v,rfl,rr⟩:=EU r;exact .inr ⟨i,by rw [show v= .bl i from rr],k.here S q bD⟩
 | .str,hc=>noC fun xs G Q q=>by unfold dG at q; exact q
 | .isi, hc=>by
   intro pins s σ H vs us Q I rv h;obtain ⟨xs,Z,G,Q',r,S,q,k⟩:=h
   match xs,q with
   | [x,.ty T],q =>
     obtain ⟨v,w',rfl,r1,r2⟩:=aAF r;obtain ⟨u,u',rfl,rv1,rv2⟩:=JP rv;have e:w'= .ty T:=r2;subst e;have e2:u'= .type T:=rv2;subst e2;obtain ⟨hT,⟨n,hn,q⟩ | ⟨c,hcn,hcs,q⟩⟩:=q
     · exact MS hK I S r1 rv1 hn (aGi X.K n (zU S r1 hn).1 T hT) (k.here S q cJ)
     · exact BS hK I S r1 rv1 hcn (C.own c hcs) (hK▸C.other c hcs T hT) (k.here S q cJ)
   | [x, .cl c],q =>
     obtain ⟨v,w',rfl,r1,r2⟩:=aAF r;obtain ⟨u,u',rfl,rv1,rv2⟩:=JP rv;have e:w'= .ref (E.cls c):=r2;subst e;have e2:u'= .ref (E.cls c):=rv2;subst e2;obtain ⟨hcs,⟨n,hn,q⟩ | ⟨c',hcn,hcs',q⟩⟩:=q
     · exact MS hK I S r1 rv1 hn (hK▸C.plain c hcs n (zU S r1 hn).1) (k.here S q cJ)
     · by_cases e:c'=c
       · subst e;rw [decide_eq_true rfl] at q;exact BS hK I S r1 rv1 hcn (C.own _ hcs') (by unfold W.kitOne; rw [if_pos (beq_self_eq_true _)]) (k.here S q cJ)
       · rw [decide_eq_false e] at q;exact BS hK I S r1 rv1 hcn (C.own _ hcs') (hK▸C.apart c' hcs' c hcs e) (k.here S q cJ)
 | .tuple,hc=>by
   refine xO.imp fun vs H Q h=>?_;obtain ⟨xs,Z,G,Q',r,S,q,k⟩:=h
   match xs,q with
   | [x],q =>
     obtain ⟨v,rfl,rr⟩:=EU r;rcases q with ⟨ys,rfl,q⟩ | ⟨ys,e,q⟩
     · obtain ⟨a,vs,e,ha,ta⟩:=fN S rr;subst e;exact ⟨a,vs,rfl,.inr ⟨hK▸ha,k.here S q rr⟩⟩
     · obtain ⟨a,vs,rfl,ha,ta⟩:=cV S rr e;exact ⟨a,vs,rfl,.inl ⟨SqL.of ha,fun l n=>k.newZ S n (lI (S.zn n) ta) q⟩⟩
 | .list,hc=>noC fun xs G Q q=>by unfold dG at q; exact q
 | .divmod,hc=>noC fun xs G Q q=>by unfold dG at q; exact q
 | .all,hc=>by
   refine (NC (hc rfl)).imp fun vs H Q h=>?_;obtain ⟨xs,Z,G,Q',r,S,q,k⟩:=h
   match xs,q with
   | [x],q =>
     obtain ⟨v,rfl,rr⟩:=EU r;obtain ⟨ys,b,e,eb,q⟩:=q;obtain ⟨bs,e1,e2⟩:=JX eb;subst e1 e2;obtain ⟨a,vs,rfl,ha,ta⟩:=cV S rr e;exact ⟨a,bs,rfl,by rw [←ta.bools]; exact ha,k.here S q cJ⟩
 | .any,hc=>noC fun xs G Q q=>by unfold dG at q; exact q
 | .sum,hc=>by
   refine (bE.or (PD (hc rfl)) (PB (hc rfl))).imp fun vs H Q h=>?_;obtain ⟨xs,Z,G,Q',r,S,q,k⟩:=h
   match xs,q with
   | [x],q =>
     obtain ⟨v,rfl,rr⟩:=EU r;rcases q with ⟨ys,b,e,eb,q⟩ | ⟨ns,rfl,q⟩
     · obtain ⟨bs,e1,e2⟩:=JR eb;subst e1 e2;obtain ⟨a,vs,rfl,ha,ta⟩:=cV S rr e;exact .inl ⟨a,bs,rfl,by rw [←ta.ints]; exact ha,k.here S q bD⟩
     · obtain ⟨a,vs,rfl,ha,ta⟩:=fN S rr;exact .inr ⟨a,ns,rfl,by rw [←ta.ints]; exact hK▸ha,k.here S q bD⟩
 | .bool,hc=>noC fun xs G Q q=>by unfold dG at q; exact q
 | .repr,hc=>noC fun xs G Q q=>by unfold dG at q; exact q
end
inductive Ar where
 | arg (i:Nat) | non | bl (b:Bool) | int (i:Int) | str (x:Str)
 deriving DecidableEq
noncomputable def Ar.val (xs:List PV):Ar→PV
 | .arg i=>xs.getD i .non
 | .non=>.non
 | .bl b=>.bl b
 | .int i=>.int i
 | .str x=>.str x
inductive CE where
 | var (i:Nat) | int (i:Int) | bl (b:Bool) | non | str (x:Str) | glo (x:Str)
 | bin (op:Operator) (a b:CE) | neg (a:CE) | no (a:CE)
 | cmp (op:CmpOp) (a b:CE) | chn (op op':CmpOp) (a b c:CE)
 | an (a b:CE) | oo (a b:CE) | ite (c a b:CE) | tst (a:CE) | tsb (a:CE)
 | tup (es:CE) | lst (m:Bool) (es:CE) | nil | cons (a b:CE)
 | idx (a i:CE) | sli (a lo hi:CE) | att (a:CE) (f:Str)
 | cal (f:Str) (es:CE) | cak (f:Str) (es ks:CE) (ar:List Ar) | blt (b:Bn) (es:CE) | app (a e:CE)
 | cmpr (m:Bool) (tg it ts el:CE) (js:List (Option Nat))
 | isq (e:CE) | irg (es:CE) | ien (e:CE) | izp (es:CE)
 | gn (i:Nat) | gt (n:Nat) (gs:CE)
 | ceq (eqs:List (String×Str)) (a b:CE) | dct (es:CE) | bow (b:Bn) (ls:List (String×Str)) (es:CE) | cne (eqs:List (String×Str)) (a b:CE) | lrg (m:Bool) (a:CE) | gl (n:Nat) (gs:CE) | rpr (e:CE) | cex (op:CmpOp) (eqs:List (String×Str)) (a b:CE) | gix (ks:List (Str×Str)) (e:CE) | gin (neg:Bool) (ks:List (Str×Str)) (e:CE) | cav (fs:List (Str×Nat×List Ar)) (i:Nat) (es:CE) | isx (a:CE) (n:Str) | atx (a:CE) (f:Str) | cnt (a e:CE) | bln (a:CE) | met (m:Str) (ls:List (String×Str×List Ar)) (a es:CE) | pop (a i:CE) | pol (a:CE) | rvs (a:CE) | stp (b:Bool) (a:CE) | lco (a:CE) | lnr (a:CE)
inductive CS where
 | nil | seq (a b:CS) | ex (e:CE) | asg (g e:CE) | par (i j:Nat) (a b:CE) | par3 (i j l:Nat) (a b c:CE) | sub (o i e:CE) | fld (o:CE) (f:Str) (e:CE) | fda (o:CE) (f:Str) (e:CE)
 | iff (c:CE) (a b:CS) | wh (c:CE) (b:CS) | fr (g it:CE) (b:CS) | ret (e:CE) | retN | nev
 | tri (b:CS) (i:Nat) (cs:List String) | trh (b:CS) (j:Nat) (h:CS) (cs:List String)
structure Tb where
 S:Str→Sp3
 gv:Str→PV
 cs:List String
 fl:List (String×Str)
 fam:PX→Str→Sp3:=fun _ _ _ _ _=>False
 xp:PX:=fun _ _ _ _=>False
 xi:List (String×Str×Bool):=[]
 fx:List (String×Str):=[]
noncomputable abbrev Tb.at (T:Tb) (x:PX):Tb:={ T with S:=T.fam x,xp:=x }
def aDi (x:PV) (G:Gh) (Q:PK1):Prop:=match x with
 | .int i=>Q (.int (-i)) G
 | _=>False
def pIs (neg:Bool) (x y:PV) (G:Gh) (Q:PK1):Prop:=match y with
 | .non=>(x= .non∧Q (.bl (!neg)) G)∨(x≠.non∧Q (.bl neg) G)
 | .bl b=>∃ c,x= .bl c∧Q (.bl (if neg then !(c == b) else c == b)) G
 | _=>False
noncomputable def flP:PV→Bool
 | .non=>true
 | .bl _=>true
 | .int _=>true
 | .str _=>true
 | _=>false
def pIn (neg:Bool) (x y:PV) (G:Gh) (Q:PK1):Prop:= ∃ xs,(y= .tup xs∨bS G y=some xs)∧flP x=true∧xs.all flP=true∧Q (.bl (if neg=true then !(xs.any fun z=>peq z x) else xs.any fun z=>peq z x)) G
noncomputable def nV:CmpOp→P2
 | .Lt=>pI (fun _ _=>True) fun i j=>.bl (decide (i < j))
 | .LtE=>pI (fun _ _=>True) fun i j=>.bl (decide (i≤j))
 | .Gt=>pI (fun _ _=>True) fun i j=>.bl (decide (j < i))
 | .GtE=>pI (fun _ _=>True) fun i j=>.bl (decide (j≤i))
 | .Eq=>pEq false
 | .NotEq=>pEq true
 | .Is=>pIs false
 | .IsNot=>pIs true
 | .In=>pIn false
 | .NotIn=>pIn true
def gB (T:Tb) (x:PV) (f:Str) (G:Gh) (Q:PK1):Prop:= ∃ c ns xs v,(x= .ob c ns xs∨∃ a,x= .ref a∧G a=some (.ins c ns xs))∧(c,f)∈T.fl∧(ns.zip xs).lookup f=some v∧Q v G
noncomputable abbrev PTG:=PV→PSt→Gh→(PSt→Gh→Prop)→Prop
noncomputable abbrev PTI:=PSt→Gh→((Gh→Prop)→List PV→Gh→Prop)→Prop
noncomputable def vR (js:List (Option Nat)) (σ:PSt):PSt:=js.map fun o=>match o with | none=>none | some j=>(σ[j]?).getD none
noncomputable def gR (chk:Gh→Prop) (g:PTG) (ts:PTT) (te:PTE):List PV→List PV→PSt→Gh→(List PV→Gh→Prop)→Prop
 | [],acc,_,G,Q=>chk G∧Q acc G
 | x :: r,acc,σ,G,Q=>chk G∧g x σ G fun σ2 G2=>ts σ2 G2 fun ok G3=>if ok=true then te σ2 G3 fun y G4=>gR chk g ts te r (acc ++ [y]) σ2 G4 Q else gR chk g ts te r acc σ2 G3 Q
noncomputable def rY (chk:Gh→Prop) (g:PTG) (tb:PTS) (D:iG):List PV→PSt→Gh→Prop
 | [],σ,G=>chk G∧D.nx σ G
 | x :: r,σ,G=>chk G∧g x σ G fun σ2 G2=>tb { D with nx:=rY chk g tb D r,ct:=rY chk g tb D r,bk:=D.nx } σ2 G2
def rH (m:Bool) (G:Gh) (xs:List PV) (Q:PK1):Prop:=if m=true then ∀ p,G p=none→Q (.ref p) (gup G p (.lst xs)) else Q (.lst xs) G
noncomputable def rW (lo:Int) (n:Nat):List PV:=(List.range n).map fun (k:Nat)=>PV.int (lo + (k:Int))
noncomputable def DW (xs:List PV):List PV:=xs.zipIdx.map fun p=>PV.tup [.int (p.2:Int),p.1]
noncomputable def LG:PV→Option (List PV)
 | .tup ys=>some ys
 | .lst ys=>some ys
 | _=>none
noncomputable def FM (n:Nat) (yss:List (List PV)):List PV:=(List.range n).map fun i=>PV.tup (yss.map fun ys=>ys.getD i .non)
def TK (x:PV) (G:Gh) (R:(Gh→Prop)→List PV→Gh→Prop):Prop:=match x with
 | .tup xs=>R (fun _=>True) xs G
 | .lst xs=>R (fun _=>True) xs G
 | .scr ns=>R (fun _=>True) (ns.map .int) G
 | .ref a=>∃ xs,G a=some (.lst xs)∧R (fun G'=>G' a=some (.lst xs)) xs G
 | _=>False
noncomputable def aHy (T:Tb) (eqs:List (String×Str)) (x y:PV) (G:Gh) (Q:PK1):Prop :=
 (∃ c m ns xs ns' ys,(c,m)∈eqs∧x= .ob c ns xs∧y= .ob c ns' ys∧T.S m [x,y] G fun v G'=>∃ b,v= .bl b∧Q (.bl b) G')∨pEq false x y G Q
noncomputable def QF (T:Tb) (eqs:List (String×Str)) (x y:PV) (G:Gh) (Q:PK1):Prop :=
 (∃ c m ns xs ns' ys,(c,m)∈eqs∧x= .ob c ns xs∧y= .ob c ns' ys∧T.S m [x,y] G fun v G'=>∃ b,v= .bl b∧Q (.bl (!b)) G')∨pEq true x y G Q
def aJn (b:Bn) (v:PV) (G:Gh) (Q:PK1):Prop:=match b with
 | .len=>∃ n:Int,v= .int n∧0≤n∧n < 2 ^ 63∧Q (.int n) G
 | .bool=>∃ n:Int,v= .int n∧0≤n∧n < 2 ^ 63∧Q (.bl (n != 0)) G
 | .str=>∃ x,v= .str x∧Q (.str x) G
 | .repr=>∃ x,v= .str x∧Q (.str x) G
 | _=>False
noncomputable def WD (T:Tb) (b:Bn) (ls:List (String×Str)) (xs:List PV) (G:Gh) (Q:PK1):Prop :=
 (∃ c m ns ys,(c,m)∈ls∧xs=[.ob c ns ys]∧T.S m xs G fun v G'=>aJn b v G' Q)∨dG T.cs b xs G Q
def aKq (x:PV) (G:Gh) (Q:PK1):Prop:= ∃ d,(dat x=some d∨dte x=some d)∧d.showable=true∧d.depth≤64∧d.shown.length≤sizeLine∧(∀ i:Int,x= .int i→i.natAbs.log2 < 1920)∧Q (.str d.shown) G
noncomputable def buP:PV→Gh→Prop
 | .non,_=>True
 | .bl _,_=>True
 | .int _,_=>True
 | .str _,_=>True
 | .tup _,_=>True
 | .lst _,_=>True
 | .scr _,_=>True
 | .emp,_=>True
 | .dct _ _,_=>True
 | .ref p,G=>∃ xs,bS G (.ref p)=some xs
 | _,_=>False
def anP (T:Tb) (c:String) (y:PV) (G:Gh):Prop:=buP y G∨∃ d ns ys,y= .ob d ns ys∧d∈T.cs∧d≠c
def aJl (T:Tb) (eqs:List (String×Str)) (x y:PV) (G:Gh) (Q:PK1):Prop:= ∃ c m ns xs,(c,m)∈eqs∧x= .ob c ns xs∧anP T c y G∧T.S m [x,y] G fun v G'=>∃ b,v= .bl b∧Q (.bl b) G'
def aJg (T:Tb) (eqs:List (String×Str)) (x y:PV) (G:Gh) (Q:PK1):Prop:= ∃ c m ns ys,(c,m)∈eqs∧y= .ob c ns ys∧buP x G∧T.S m [y,x] G fun v G'=>∃ b,v= .bl b∧Q (.bl b) G'
def aJP (T:Tb) (eqs:List (String×Str)) (x y:PV) (G:Gh) (Q:PK1):Prop:= ∃ c m ns xs,(c,m)∈eqs∧x= .ob c ns xs∧anP T c y G∧T.S m [x,y] G fun v G'=>∃ b,v= .bl b∧Q (.bl (!b)) G'
mutual
noncomputable def pln:PV→Bool
 | .non=>true
 | .bl _=>true
 | .int _=>true
 | .str _=>true
 | .tup xs=>QN xs
 | _=>false
noncomputable def QN:List PV→Bool
 | []=>true
 | x :: r=>pln x && QN r
end
noncomputable def plO:PV→Bool
 | .ob _ _ xs=>QN xs
 | _=>false
noncomputable def inP (T:Tb) (eqs:List (String×Str)) (c:String) (m:Str) (x:PV) (Q:Bool→Gh→Prop):List PV→Gh→Prop
 | [],G=>Q false G
 | y :: r,G=>((∃ ns ys,y= .ob c ns ys)∧((plO x=true→plO y=true→y=x)→Q true G)∧T.S m [y,x] G fun v G'=>∃ b,v= .bl b∧if b=true then Q true G' else inP T eqs c m x Q r G')∨
     (buP y G∧T.S m [x,y] G fun v G'=>∃ b,v= .bl b∧if b=true then Q true G' else inP T eqs c m x Q r G')∨
     (∃ d m' ns ys,(d,m')∈eqs∧d∈T.cs∧d≠c∧y= .ob d ns ys∧T.S m' [y,x] G fun v G'=>∃ b,v= .bl b∧if b=true then Q true G' else inP T eqs c m x Q r G')
noncomputable def aGJ (T:Tb) (eqs:List (String×Str)) (neg:Bool) (x y:PV) (G:Gh) (Q:PK1):Prop :=
 ∃ c m ns xs ys,(c,m)∈eqs∧c∈T.cs∧x= .ob c ns xs∧(y= .lst ys∨(neg=false∧y= .tup ys))∧inP T eqs c m x (fun b G'=>Q (.bl (if neg=true then !b else b)) G') ys G
def pX (T:Tb) (op:CmpOp) (eqs:List (String×Str)) (x y:PV) (G:Gh) (Q:PK1):Prop:=match op with
 | .Eq=>aHy T eqs x y G Q∨aJl T eqs x y G Q∨aJg T eqs x y G Q
 | .NotEq=>QF T eqs x y G Q∨aJP T eqs x y G Q
 | .In=>aGJ T eqs false x y G Q
 | .NotIn=>aGJ T eqs true x y G Q
 | _=>False
noncomputable def kP:Key→PV
 | .inl i=>.int i
 | .inr x=>.str x
noncomputable def flK:List (Key×PV)→List PV
 | []=>[]
 | p :: r=>kP p.1 :: p.2 :: flK r
mutual
noncomputable def wpE (T:Tb):CE→PTE
 | .var i=>fun σ G Q=>∃ v,σ[i]? =some (some v)∧Q v G
 | .int i=>fun _ G Q=>Q (.int i) G
 | .bl b=>fun _ G Q=>Q (.bl b) G
 | .non=>fun _ G Q=>Q .non G
 | .str x=>fun _ G Q=>Q (.str x) G
 | .glo x=>fun _ G Q=>Q (T.gv x) G
 | .bin op a b=>fun σ G Q=>wpE T a σ G fun x G1=>wpE T b σ G1 fun y G2=>FI op x y G2 Q
 | .neg a=>fun σ G Q=>wpE T a σ G fun x G1=>aDi x G1 Q
 | .no a=>fun σ G Q=>wpE T a σ G fun x G1=>BK x G1 fun b G2=>Q (.bl (!b)) G2
 | .cmp op a b=>fun σ G Q=>wpE T a σ G fun x G1=>wpE T b σ G1 fun y G2=>nV op x y G2 Q
 | .chn op op' a b c=>fun σ G Q=>wpE T a σ G fun x G1=>wpE T b σ G1 fun y G2=>nV op x y G2 fun z G3=>∃ k,z= .bl k∧if k=true then wpE T c σ G3 fun w G4=>nV op' y w G4 Q else Q (.bl false) G3
 | .dct es=>fun σ G Q=>wpL T es σ G fun xs G1=>∃ kvs:List (Key×PV),xs=flK kvs∧(kvs.map (·.1)).Nodup∧kvs.length≤15∧Q (.dct (kvs.map (·.1)) (kvs.map (·.2))) G1
 | .cnt a b=>fun σ G Q=>wpE T a σ G fun x G1=>(∃ xs,bS G1 x=some xs)∧wpE T b σ G1 fun y G2=>∃ (bs:List Bool) (b:Bool),bS G2 x=some (bs.map PV.bl)∧y= .bl b∧Q (.int (bs.count b)) G2
 | .pop a b=>fun σ G Q=>wpE T a σ G fun x G1=>(∃ xs,bS G1 x=some xs)∧wpE T b σ G1 fun y G2=>∃ p xs k j v,x= .ref p∧y= .int k∧G2 p=some (.lst xs)∧0≤k∧k < 2 ^ 62∧k=(j:Nat)∧xs[j]? =some v∧Q v (gup G2 p (.lst (xs.eraseIdx j)))
 | .pol a=>fun σ G Q=>wpE T a σ G fun x G1=>∃ p xs v,x= .ref p∧G1 p=some (.lst xs)∧xs[xs.length - 1]? =some v∧Q v (gup G1 p (.lst xs.dropLast))
 | .rvs a=>fun σ G Q=>wpE T a σ G fun x G1=>∃ p xs,x= .ref p∧G1 p=some (.lst xs)∧Q .non (gup G1 p (.lst xs.reverse))
 | .lnr a=>fun σ G Q=>wpE T a σ G fun x G1=>∃ j,x= .int j∧0≤j∧j < 2 ^ 62∧Q (.int j) G1
 | .lco a=>fun σ G Q=>wpE T a σ G fun x G1=>∃ xs,(x= .tup xs∨bS G1 x=some xs)∧∀ p,G1 p=none→Q (.ref p) (gup G1 p (.lst xs))
 | .stp b a=>fun σ G Q=>wpE T a σ G fun x G1=>∃ xs,bS G1 x=some xs∧Q (.lst (ev2 (if b=true then xs.drop 1 else xs))) G1
 | .bow b ls es=>fun σ G Q=>wpL T es σ G fun xs G1=>WD T b ls xs G1 Q
 | .cne eqs a b=>fun σ G Q=>wpE T a σ G fun x G1=>wpE T b σ G1 fun y G2=>QF T eqs x y G2 Q
 | .ceq eqs a b=>fun σ G Q=>wpE T a σ G fun x G1=>wpE T b σ G1 fun y G2=>aHy T eqs x y G2 Q
 | .lrg m a=>fun σ G Q=>wpE T a σ G fun x G1=>∃ j,x= .int j∧ -(2 ^ 62)≤j∧j < 2 ^ 62∧j.toNat≤sizeLine∧rH m G1 (rW 0 j.toNat) Q
 | .an a b=>fun σ G Q=>wpE T a σ G fun x G1=>BK x G1 fun c G2=>if c=true then wpE T b σ G2 Q else Q x G2
 | .oo a b=>fun σ G Q=>wpE T a σ G fun x G1=>BK x G1 fun c G2=>if c=true then Q x G2 else wpE T b σ G2 Q
 | .ite c a b=>fun σ G Q=>wpT T c σ G fun k G1=>if k=true then wpE T a σ G1 Q else wpE T b σ G1 Q
 | .tup es=>fun σ G Q=>wpL T es σ G fun xs G1=>xs.length≤sizeLine∧Q (.tup xs) G1
 | .lst m es=>fun σ G Q=>wpL T es σ G fun xs G1=>xs.length≤sizeLine∧rH m G1 xs Q
 | .idx a i=>fun σ G Q=>wpE T a σ G fun x G1=>wpE T i σ G1 fun y G2=>xH x y G2 Q
 | .sli a lo hi=>fun σ G Q=>wpE T a σ G fun x G1=>wpO T lo σ G1 fun l G2=>wpO T hi σ G2 fun h G3=>SD x l h G3 Q
 | .att a f=>fun σ G Q=>wpE T a σ G fun x G1=>gB T x f G1 Q
 | .cal f es=>fun σ G Q=>wpL T es σ G fun xs G1=>T.S f xs G1 Q
 | .cak f es ks ar=>fun σ G Q=>wpL T es σ G fun xs G1=>wpL T ks σ G1 fun zs G2=>T.S f (ar.map (Ar.val (xs ++ zs))) G2 Q
 | .blt b es=>fun σ G Q=>wpL T es σ G fun xs G1=>dG T.cs b xs G1 Q
 | .app a e=>fun σ G Q=>wpE T a σ G fun x G1=>(∃ ys,bS G1 x=some ys)∧wpE T e σ G1 fun y G2=>∃ p xs,x= .ref p∧G2 p=some (.lst xs)∧xs.length < sizeLine∧Q .non (gup G2 p (.lst (xs ++ [y])))
 | .cmpr m tg it ts el js=>fun σ G Q=>wpI T it σ G fun chk xs G1=>xs.length≤sizeLine∧gR chk (wpG T tg) (wpT T ts) (wpE T el) xs [] (vR js σ) G1 fun ys G2=>rH m G2 ys Q
 | .cex op eqs a b=>fun σ G Q=>wpE T a σ G fun x G1=>wpE T b σ G1 fun y G2=>pX T op eqs x y G2 Q
 | .rpr e=>fun σ G Q=>wpE T e σ G fun x G1=>aKq x G1 Q
 | .gix ks e=>fun σ G Q=>wpE T e σ G fun y G1=>∃ z f,y= .str z∧ks.lookup z=some f∧Q (.fn f) G1
 | .gin neg ks e=>fun σ G Q=>wpE T e σ G fun y G1=>∃ z,y= .str z∧Q (.bl (if neg=true then !(ks.lookup z).isSome else (ks.lookup z).isSome)) G1
 | .cav fs i es=>fun σ G Q=>∃ f n ar,σ[i]? =some (some (.fn f))∧(f,n,ar)∈fs∧wpL T es σ G fun xs G1=>T.S f (ar.map (Ar.val xs)) G1 Q
 | .isx a n=>fun σ G Q=>wpE T a σ G fun x G1=>∃ c ns xs r,x= .exc c ns xs∧(c,n,r)∈T.xi∧Q (.bl r) G1
 | .atx a f=>fun σ G Q=>wpE T a σ G fun x G1=>∃ c ns xs v,x= .exc c ns xs∧(c,f)∈T.fx∧(ns.zip xs).lookup f=some v∧Q v G1
 | .bln a=>fun σ G Q=>wpE T a σ G fun x G1=>∃ i:Int,x= .int i∧Q (.int ((Builtin.Int.intBits i:Nat):Int)) G1
 | .met m ls a es=>fun σ G Q=>wpE T a σ G fun x G1=>∃ c ky ar ns xs,(c,ky,ar)∈ls∧(x= .ob c ns xs∨∃ p,x= .ref p∧G1 p=some (.ins c ns xs))∧m∉ ns∧wpL T es σ G1 fun ys G2=>T.S ky (x :: ar.map (Ar.val ys)) G2 Q
 | .tst _=>fun _ _ _=>False
 | .tsb _=>fun _ _ _=>False
 | .nil=>fun _ _ _=>False
 | .cons _ _=>fun _ _ _=>False
 | .isq _=>fun _ _ _=>False
 | .irg _=>fun _ _ _=>False
 | .ien _=>fun _ _ _=>False
 | .izp _=>fun _ _ _=>False
 | .gn _=>fun _ _ _=>False
 | .gt _ _=>fun _ _ _=>False
 | .gl _ _=>fun _ _ _=>False
noncomputable def wpL (T:Tb):CE→PTA
 | .nil=>fun _ G Q=>Q [] G
 | .cons a b=>fun σ G Q=>wpE T a σ G fun x G1=>wpL T b σ G1 fun xs G2=>Q (x :: xs) G2
 | _=>fun _ _ _=>False
noncomputable def wpT (T:Tb):CE→PTT
 | .an a b=>fun σ G Q=>wpT T a σ G fun c G1=>if c=true then wpT T b σ G1 Q else Q false G1
 | .oo a b=>fun σ G Q=>wpT T a σ G fun c G1=>if c=true then Q true G1 else wpT T b σ G1 Q
 | .no a=>fun σ G Q=>wpT T a σ G fun c G1=>Q (!c) G1
 | .tst a=>fun σ G Q=>wpE T a σ G fun x G1=>BK x G1 Q
 | .tsb a=>fun σ G Q=>wpE T a σ G fun x G1=>∃ k,x= .bl k∧Q k G1
 | .nil=>fun _ G Q=>Q true G
 | _=>fun _ _ _=>False
noncomputable def wpO (T:Tb):CE→PSt→Gh→(Option Int→Gh→Prop)→Prop
 | .nil=>fun _ G Q=>Q none G
 | .tst e=>fun σ G Q=>wpE T e σ G fun x G1=>∃ i,x= .int i∧Q (some i) G1
 | _=>fun _ _ _=>False
noncomputable def wpI (T:Tb):CE→PTI
 | .isq e=>fun σ G R=>wpE T e σ G fun x G1=>TK x G1 R
 | .irg es=>fun σ G R=>wpL T es σ G fun xs G1=>(∃ j,xs=[.int j]∧ -(2 ^ 62)≤j∧j < 2 ^ 62∧R (fun _=>True) (rW 0 j.toNat) G1)∨(∃ i j,xs=[.int i,.int j]∧(-(2 ^ 62)≤i∧i < 2 ^ 62∧ -(2 ^ 62)≤j∧j < 2 ^ 62)∧R (fun _=>True) (rW i (j - i).toNat) G1)
 | .ien e=>fun σ G R=>wpE T e σ G fun x G1=>∃ xs,x= .tup xs∧R (fun _=>True) (DW xs) G1
 | .izp es=>fun σ G R=>wpL T es σ G fun xs G1=>(xs.length=2∨xs.length=3)∧∃ n yss,xs.map LG=yss.map some∧((∀ ys∈yss,ys.length=n)∨∃ a b,yss=[a,b]∧b.length=n∧n < a.length)∧R (fun _=>True) (FM n yss) G1
 | _=>fun _ _ _=>False
noncomputable def wpG (T:Tb):CE→PTG
 | .gn i=>fun x σ G Q=>Q (σ.set i (some x)) G
 | .gt n gs=>fun x σ G Q=>(∃ xs,x= .tup xs∧xs.length=n∧fP T gs xs σ G Q)
 | .gl n gs=>fun x σ G Q=>(∃ xs,bS G x=some xs∧xs.length=n∧fP T gs xs σ G Q)
 | _=>fun _ _ _ _=>False
noncomputable def fP (T:Tb):CE→List PV→PSt→Gh→(PSt→Gh→Prop)→Prop
 | .nil=>fun xs σ G Q=>xs=[]∧Q σ G
 | .cons a b=>fun xs σ G Q=>∃ x r,xs=x :: r∧wpG T a x σ G fun σ1 G1=>fP T b r σ1 G1 Q
 | _=>fun _ _ _ _=>False
end
noncomputable def CZ (f:Str):List Str→List Str
 | []=>[f]
 | n :: r=>if n=f then n :: r else n :: CZ f r
noncomputable def rB {α:Type} (f:Str) (v:α):List Str→List α→List α
 | [],_=>[v]
 | n :: r,x :: xs=>if n=f then v :: xs else x :: rB f v r xs
 | _ :: _,[]=>[]
noncomputable def wpS:Tb→CS→PTS
 | T,.nil=>fun D σ G=>D.nx σ G
 | T,.seq a b=>fun D σ G=>wpS T a { D with nx:=wpS T b D } σ G
 | T,.ex e=>fun D σ G=>wpE T e σ G fun _ G1=>D.nx σ G1
 | T,.asg g e=>fun D σ G=>wpE T e σ G fun x G1=>wpG T g x σ G1 D.nx
 | T,.par i j a b=>fun D σ G=>wpE T a σ G fun x G1=>wpE T b σ G1 fun y G2=>D.nx ((σ.set i (some x)).set j (some y)) G2
 | T,.par3 i j l a b c=>fun D σ G=>wpE T a σ G fun x G1=>wpE T b σ G1 fun y G2=>wpE T c σ G2 fun z G3=>D.nx (((σ.set i (some x)).set j (some y)).set l (some z)) G3
 | T,.sub o i e=>fun D σ G=>wpE T e σ G fun v G1=>wpE T o σ G1 fun x G2=>wpE T i σ G2 fun y G3=>aBT x y v G3 fun G4=>D.nx σ G4
 | T,.fld o f e=>fun D σ G=>wpE T e σ G fun v G1=>wpE T o σ G1 fun x G2=>∃ p c ns xs,x= .ref p∧G2 p=some (.ins c ns xs)∧(c,f)∈T.fl∧ns.length < 1000∧D.nx σ (gup G2 p (.ins c (CZ f ns) (rB f v ns xs)))
 | T,.fda o f e=>fun D σ G=>wpE T o σ G fun x G1=>∃ p c ns xs i,x= .ref p∧G1 p=some (.ins c ns xs)∧(c,f)∈T.fl∧(ns.zip xs).lookup f=some (.int i)∧wpE T e σ G1 fun y G2=>∃ j ns' xs',y= .int j∧G2 p=some (.ins c ns' xs')∧ns'.length < 1000∧D.nx σ (gup G2 p (.ins c (CZ f ns') (rB f (.int (i + j)) ns' xs')))
 | T,.iff c a b=>fun D σ G=>wpT T c σ G fun k G1=>if k=true then wpS T a D σ G1 else wpS T b D σ G1
 | T,.wh c b=>fun D σ G=>∃ W:Nat→PSt→Gh→Prop,(∃ m,W m σ G)∧∀ m σ G,W m σ G→wpT T c σ G fun k G1=>if k=true then wpS T b { D with nx:=fun σ' G'=>∃ m',m' < m∧W m' σ' G',ct:=fun σ' G'=>∃ m',m' < m∧W m' σ' G',bk:=D.nx } σ G1 else D.nx σ G1
 | T,.fr g it b=>fun D σ G=>wpI T it σ G fun chk xs G1=>rY chk (wpG T g) (wpS T b) D xs σ G1
 | T,.ret e=>fun D σ G=>wpE T e σ G D.rt
 | T,.retN=>fun D _ G=>D.rt .non G
 | T,.nev=>fun _ _ _=>False
 | T,.tri b i cs=>fun D σ G=>wpS (T.at (WkX fun c ns xs G1=>c∈cs∧D.nx ((List.replicate σ.length none).set i (some (.exc c ns xs))) G1)) b D σ G
 | T,.trh b j h cs=>fun D σ G=>wpS (T.at (WkX fun c ns xs G1=>c∈cs∧wpS T h ⟨fun σ2 G2=>D.nx (σ2.set j none) G2,D.rt,fun σ2 G2=>D.bk (σ2.set j none) G2,fun σ2 G2=>D.ct (σ2.set j none) G2⟩ ((List.replicate σ.length none).set j (some (.exc c ns xs))) G1)) b D σ G
def JE (X:Cx) (E:Ev) (e:Expr) (t:PTE):Prop:= ∀ F,PE X e (low E F t)
def JT (X:Cx) (E:Ev) (e:Expr) (t:PTT):Prop:= ∀ F,PT X e (BV E F t)
def JW (X:Cx) (E:Ev) (e:Expr) (t:PTT):Prop:= ∀ F,PW X e (BV E F t)
def JA (X:Cx) (E:Ev) (es:List Expr) (t:PTA):Prop:= ∀ F,PA X es (FT E F es.length t)
def JS (X:Cx) (E:Ev) (s:Stmt) (t:PTS):Prop:= ∀ F,PS X s (aGo E F t)
def JSs (X:Cx) (E:Ev) (s:List Stmt) (t:PTS):Prop:= ∀ F,PSs X s (aGo E F t)
def aF7 (E:Ev) (F:Hp) (t:PTG):TG:=fun v σ H Q=>∃ x σ' Z G Q',RP E Z x v∧RSt E Z σ' σ∧Sim E F H Z G∧t x σ' G Q'∧KSt E F Z Q' Q
def JG (X:Cx) (E:Ev) (e:Expr) (t:PTG):Prop:= ∀ F,PG X e (aF7 E F t)
noncomputable def aGx (E:Ev) (F:Hp) (t:List PV→PSt→Gh→(PSt→Gh→Prop)→Prop):TGs:=fun vs σ H Q=>∃ xs σ' Z G Q',RPs E Z xs vs∧RSt E Z σ' σ∧Sim E F H Z G∧t xs σ' G Q'∧KSt E F Z Q' Q
def JGs (X:Cx) (E:Ev) (es:List Expr) (t:List PV→PSt→Gh→(PSt→Gh→Prop)→Prop):Prop:= ∀ F,PGs X es (aGx E F t)
theorem PT.imp {X:Cx} {e:Expr} {t t':TT} (h:PT X e t) (g:∀ σ H Q,t' σ H Q→t σ H Q):PT X e t':=fun pins s σ H Q I q=>h pins s σ H Q I (g _ _ _ q)
theorem PW.imp {X:Cx} {e:Expr} {t t':TT} (h:PW X e t) (g:∀ σ H Q,t' σ H Q→t σ H Q):PW X e t':=fun wh pins s σ H Q I q=>h wh pins s σ H Q I (g _ _ _ q)
theorem PA.imp {X:Cx} {es:List Expr} {t t':TA} (h:PA X es t) (g:∀ σ H Q,t' σ H Q→t σ H Q):PA X es t':=fun pos pins s σ H Q I q=>h pos pins s σ H Q I (g _ _ _ q)
theorem PSs.imp {X:Cx} {st:List Stmt} {t t':TS} (h:PSs X st t) (g:∀ D σ H,t' D σ H→t D σ H):PSs X st t':=fun pins s σ H D I q=>h pins s σ H D I (g _ _ _ q)
theorem PGs.imp {X:Cx} {es:List Expr} {t t':TGs} (h:PGs X es t) (g:∀ vs σ H Q,t' vs σ H Q→t vs σ H Q):PGs X es t':=fun pins s σ H v u Q I r q=>h pins s σ H v u Q I r (g _ _ _ _ q)
section
variable {X:Cx} {E:Ev} {T:Tb} {k:Nat} {pos:Pos} {a b c:Expr} {ta tb tc:PTE}
structure Pl (X:Cx) (E:Ev) (T:Tb) (k:Nat):Prop where
 hK:E.K=X.K
 calm:40≤k→X.calm=true
 room:bF k X.A
 cls:SV E T.cs
 fld:∀ c f,(c,f)∈T.fl→Cls X.K (E.cls c)∧cX X.K (E.cls c) f
theorem Kq.go {F Z Z1 H1:Hp} {G1:Gh} {Q':PK1} {Q:VK} (k:Kq E F Z Q' Q) {x:PV} {v:V} (s:aM Z Z1) (S:Sim E F H1 Z1 G1) (r:RP E Z1 x v) (q:Q' x G1):Q v H1:=k x v Z1 G1 H1 s S r q
theorem aFk {i:Nat} {x:Str} (hN:X.N[i]? =some x) (hv:Vis X.env.scope x) (hd:(x == ("__debug__":Str))=false) (hcd:(x == ("__classdict__":Str))=false):JE X E (.Name x pos) (wpE T (.var i)):=fun F =>
 (UK hN hv hd hcd).imp <|by
   rintro σ H Q ⟨σ',Z,G,Q',rs,S,h,kq⟩;rw [wpE] at h;obtain ⟨x,e,q⟩:=h;obtain ⟨v,e',r⟩:=rs.get e;exact ⟨v,e',kq.here S q r⟩
theorem aEb {i:Int} {j:Nat}:JE X E (.Constant (.int i) j pos) (wpE T (.int i)):=fun F=>BY.imp <|by rintro σ H Q ⟨σ',Z,G,Q',rs,S,h,kq⟩;rw [wpE] at h; exact kq.here S h bD
theorem aHp {i:Bool} {j:Nat}:JE X E (.Constant (.bool i) j pos) (wpE T (.bl i)):=fun F=>aHW.imp <|by rintro σ H Q ⟨σ',Z,G,Q',rs,S,h,kq⟩;rw [wpE] at h; exact kq.here S h cJ
theorem aFR {j:Nat}:JE X E (.Constant .none j pos) (wpE T .non):=fun F=>aGd.imp <|by rintro σ H Q ⟨σ',Z,G,Q',rs,S,h,kq⟩;rw [wpE] at h; exact kq.here S h rM
theorem aFP {i:Str} {j:Nat}:JE X E (.Constant (.str i) j pos) (wpE T (.str i)):=fun F=>aDx.imp <|by rintro σ H Q ⟨σ',Z,G,Q',rs,S,h,kq⟩;rw [wpE] at h; exact kq.here S h pO
theorem aDZ {x:Str} {u:Value} {v:V} (hg:Gl X x) (hm:X.mg x=some u) (r:aN v u) (hr:RP E (fun _=>none) (T.gv x) v) (hd:(x == ("__debug__":Str))=false):JE X E (.Name x pos) (wpE T (.glo x)):=fun F =>
 (aBP hg hm r hd).imp <|by rintro σ H Q ⟨σ',Z,G,Q',rs,S,h,kq⟩;rw [wpE] at h; exact kq.here S h (hr.mono fun _ _ z=>by cases z)
theorem aGS {x:Str} {n:String} (hg:Gl X x) (hm:X.mg x=none) (hv:bootBuiltins x=some (.type n)) (hgv:T.gv x= .ty n) (hn:x≠"__name__") (hd:(x == ("__debug__":Str))=false):JE X E (.Name x pos) (wpE T (.glo x)):=fun F =>
 (aA8 (v:=.ty n) hg hm hv rfl hn hd).imp <|by rintro σ H Q ⟨σ',Z,G,Q',rs,S,h,kq⟩;rw [wpE] at h; rw [hgv] at h; exact kq.here S h rfl
theorem QJ {F:Hp} {p:P2} {σ:L2.St} {H:Hp} {Q:VK} (h:low E F (fun σ G Q=>ta σ G fun x G1=>tb σ G1 fun y G2=>p x y G2 Q) σ H Q):tOp (gU E F p) (low E F ta) (low E F tb) σ H Q:=by
 obtain ⟨σ',Z,G,Q',rs,S,h,kq⟩:=h;refine ⟨σ',Z,G,_,rs,S,h,fun x v Z1 G1 H1 s1 S1 r1 q1=>⟨σ',Z1,G1,_,rs.mono s1,S1,q1,fun y u Z2 G2 H2 s2 S2 r2 q2=>?_⟩⟩;exact ⟨x,y,Z2,G2,Q',r1.mono s2,r2,S2,q2,kq.mono (s1.trans s2)⟩
theorem aDy {op:Operator} {a' b':CE} (P:Pl X E T k) (ha:JE X E a (wpE T a')) (hb:JE X E b (wpE T b')):JE X E (.BinOp a op b pos) (wpE T (.bin op a' b')):=fun F =>
 (aG2 (aAh P.hK op) (ha F) (hb F)).imp fun σ H Q h=>QJ (by rw [wpE] at h; exact h)
theorem aEF {a':CE} (ha:JE X E a (wpE T a')):JE X E (.UnaryOp .USub a pos) (wpE T (.neg a')):=fun F =>
 (aGE aEd (ha F)).imp <|by
   rintro σ H Q ⟨σ',Z,G,Q',rs,S,h,kq⟩;rw [wpE] at h;refine ⟨σ',Z,G,_,rs,S,h,fun x v Z1 G1 H1 s1 S1 r1 q1=>?_⟩;unfold aDi at q1;split at q1
   · exact ⟨_,r1,kq.go s1 S1 bD q1⟩
   · exact q1.elim
theorem aBo {te:TE} (he:PE X a te):PE X (.UnaryOp .Not a pos) (fun σ H Q=>te σ H fun x H1=>∃ b,QT X.K x H1 b∧Q (.bl (!b)) H1):=by
 intro pins s σ H Q I h;refine UnaryOp_ (thn (he pins s σ H _ I h) fun v s1 zz=>?_);obtain ⟨x,H1,I1,r1,b,tv,q⟩:=zz;exact not_of (thn (zS pins s1 σ H1 x v (fun c H2=>Q (.bl (!c)) H2) I1 r1 ⟨b,tv,q⟩) <|by rintro c s2 ⟨H2,I2,q2⟩;exact ⟨.bl (!c),H2,I2,rfl,q2⟩)
theorem aIH {a':CE} (P:Pl X E T k) (ha:JE X E a (wpE T a')):JE X E (.UnaryOp .Not a pos) (wpE T (.no a')):=fun F =>
 (aBo (ha F)).imp <|by
   rintro σ H Q ⟨σ',Z,G,Q',rs,S,h,kq⟩;rw [wpE] at h;refine ⟨σ',Z,G,_,rs,S,h,fun x v Z1 G1 H1 s1 S1 r1 q1=>?_⟩;obtain ⟨c,tv,q⟩:=tL P.hK S1 r1 q1;exact ⟨c,tv,kq.go s1 S1 cJ q⟩
theorem aAQ {cR:List Expr} {te tf:TE} (ha:PE X a te) (hb:PE X (.BoolOp .And (b :: cR) pos) tf):PE X (.BoolOp .And (a :: b :: cR) pos) (fun σ H Q=>te σ H fun x H1=>∃ c,QT X.K x H1 c∧if c=true then tf σ H1 Q else Q x H1):=by
 intro pins s σ H Q I h;refine BoolOp_and (thn (ha pins s σ H _ I h) fun v s1 zz=>?_);obtain ⟨x,H1,I1,r1,c,tv,q1⟩:=zz;refine thn (zS pins s1 σ H1 x v (fun d H2=>d=c∧H2=H1) I1 r1 ⟨c,tv,rfl,rfl⟩) fun d s2 zz=>?_;obtain ⟨H2,I2,e1,e2⟩:=zz;subst e1 e2;cases d with
 | true=>exact hb pins s2 σ H2 Q I2 q1
 | false=>exact ⟨x,H2,I2,r1,q1⟩
theorem aGb {cR:List Expr} {te tf:TE} (ha:PE X a te) (hb:PE X (.BoolOp .Or (b :: cR) pos) tf):PE X (.BoolOp .Or (a :: b :: cR) pos) (fun σ H Q=>te σ H fun x H1=>∃ c,QT X.K x H1 c∧if c=true then Q x H1 else tf σ H1 Q):=by
 intro pins s σ H Q I h;refine BoolOp_or (thn (ha pins s σ H _ I h) fun v s1 zz=>?_);obtain ⟨x,H1,I1,r1,c,tv,q1⟩:=zz;refine thn (zS pins s1 σ H1 x v (fun d H2=>d=c∧H2=H1) I1 r1 ⟨c,tv,rfl,rfl⟩) fun d s2 zz=>?_;obtain ⟨H2,I2,e1,e2⟩:=zz;subst e1 e2;cases d with
 | false=>exact hb pins s2 σ H2 Q I2 q1
 | true=>exact ⟨x,H2,I2,r1,q1⟩
theorem aHn {cR:List Expr} {a' b':CE} (P:Pl X E T k) (ha:JE X E a (wpE T a')) (hb:JE X E (.BoolOp .And (b :: cR) pos) (wpE T b')):JE X E (.BoolOp .And (a :: b :: cR) pos) (wpE T (.an a' b')):=fun F =>
 (aAQ (ha F) (hb F)).imp <|by
   rintro σ H Q ⟨σ',Z,G,Q',rs,S,h,kq⟩;rw [wpE] at h;refine ⟨σ',Z,G,_,rs,S,h,fun x v Z1 G1 H1 s1 S1 r1 q1=>?_⟩;obtain ⟨c,tv,q⟩:=tL P.hK S1 r1 q1;refine ⟨c,tv, ?_⟩;cases c with
   | true=>rw [if_pos rfl] at q ⊢; exact ⟨σ',Z1,G1,Q',rs.mono s1,S1,q,kq.mono s1⟩
   | false=>rw [if_neg Bool.false_ne_true] at q ⊢; exact kq.go s1 S1 r1 q
theorem aIk {cR:List Expr} {a' b':CE} (P:Pl X E T k) (ha:JE X E a (wpE T a')) (hb:JE X E (.BoolOp .Or (b :: cR) pos) (wpE T b')):JE X E (.BoolOp .Or (a :: b :: cR) pos) (wpE T (.oo a' b')):=fun F =>
 (aGb (ha F) (hb F)).imp <|by
   rintro σ H Q ⟨σ',Z,G,Q',rs,S,h,kq⟩;rw [wpE] at h;refine ⟨σ',Z,G,_,rs,S,h,fun x v Z1 G1 H1 s1 S1 r1 q1=>?_⟩;obtain ⟨c,tv,q⟩:=tL P.hK S1 r1 q1;refine ⟨c,tv, ?_⟩;cases c with
   | false=>rw [if_neg Bool.false_ne_true] at q ⊢; exact ⟨σ',Z1,G1,Q',rs.mono s1,S1,q,kq.mono s1⟩
   | true=>rw [if_pos rfl] at q ⊢; exact kq.go s1 S1 r1 q
theorem aEu {op:BoolOp} {t:PTE} (ha:JE X E a t):JE X E (.BoolOp op [a] pos) t:=fun F=>aFA (ha F)
theorem aDQ {c' a' b':CE} (hc:JT X E c (wpT T c')) (ha:JE X E a (wpE T a')) (hb:JE X E b (wpE T b')):JE X E (.IfExp c a b pos) (wpE T (.ite c' a' b')):=fun F =>
 (RS (hc F) (ha F) (hb F)).imp <|by
   rintro σ H Q ⟨σ',Z,G,Q',rs,S,h,kq⟩;rw [wpE] at h;refine ⟨σ',Z,G,_,rs,S,h,fun d Z1 G1 H1 s1 S1 q=>?_⟩;cases d with
   | true=>rw [if_pos rfl] at q ⊢; exact ⟨σ',Z1,G1,Q',rs.mono s1,S1,q,kq.mono s1⟩
   | false=>rw [if_neg Bool.false_ne_true] at q ⊢; exact ⟨σ',Z1,G1,Q',rs.mono s1,S1,q,kq.mono s1⟩
theorem jL {Z:Hp} {x:PV} {v:V} (r:RP E Z x v):(v= .non)↔x= .non:=by
 cases x with
 | non=>exact ⟨fun _=>rfl,fun _=>r⟩
 | bl b=>rw [show v= .bl b from r]; exact ⟨(fun z=>nomatch z),(fun z=>nomatch z)⟩
 | int b=>rw [show v= .int b from r]; exact ⟨(fun z=>nomatch z),(fun z=>nomatch z)⟩
 | str b=>rw [show v= .str b from r]; exact ⟨(fun z=>nomatch z),(fun z=>nomatch z)⟩
 | ty b=>rw [show v= .ty b from r]; exact ⟨(fun z=>nomatch z),(fun z=>nomatch z)⟩
 | ref b=>rw [show v= .ref b from r]; exact ⟨(fun z=>nomatch z),(fun z=>nomatch z)⟩
 | cl b=>rw [show v= .ref _ from r]; exact ⟨(fun z=>nomatch z),(fun z=>nomatch z)⟩
 | fn b=>rw [show v= .ref _ from r]; exact ⟨(fun z=>nomatch z),(fun z=>nomatch z)⟩
 | emp=>obtain ⟨a,rfl,_⟩:=r; exact ⟨(fun z=>nomatch z),(fun z=>nomatch z)⟩
 | dct ks xs=>obtain ⟨_,_,rfl,_⟩:=r; exact ⟨(fun z=>nomatch z),(fun z=>nomatch z)⟩
 | tup xs=>obtain ⟨_,_,rfl,_⟩:=r; exact ⟨(fun z=>nomatch z),(fun z=>nomatch z)⟩
 | lst xs=>obtain ⟨_,_,rfl,_⟩:=r; exact ⟨(fun z=>nomatch z),(fun z=>nomatch z)⟩
 | scr xs=>obtain ⟨_,rfl,_⟩:=r; exact ⟨(fun z=>nomatch z),(fun z=>nomatch z)⟩
 | ob _ _ xs=>obtain ⟨_,_,_,rfl,_⟩:=r; exact ⟨(fun z=>nomatch z),(fun z=>nomatch z)⟩
 | exc _ _ xs=>obtain ⟨_,_,_,rfl,_⟩:=r; exact ⟨(fun z=>nomatch z),(fun z=>nomatch z)⟩
theorem aEL:OpR X (compareOp .Is) (fun x y H Q=>∃ i j,x= .bl i∧y= .bl j∧Q (.bl (i == j)) H):=by
 rintro pins s σ H x y v u Q I rx ry ⟨i,j,e1,e2,q⟩;subst e1 e2; cases rx; cases ry;exact is_bool ⟨.bl _,H,I,rfl,q⟩
theorem ZZ:OpR X (compareOp .IsNot) (fun x y H Q=>∃ i j,x= .bl i∧y= .bl j∧Q (.bl (!(i == j))) H):=by
 rintro pins s σ H x y v u Q I rx ry ⟨i,j,e1,e2,q⟩;subst e1 e2; cases rx; cases ry;exact isnot_bool ⟨.bl _,H,I,rfl,q⟩
theorem aFL {F:Hp}:OpR X (compareOp .Is) (gU E F (pIs false)):=by
 refine (aDq.or aEL).imp fun v u H Q h=>?_;obtain ⟨x,y,Z,G,Q',r1,r2,S,q,k⟩:=h;unfold pIs at q;split at q
 · refine .inl ⟨r2, ?_⟩;rcases q with ⟨e,q⟩ | ⟨e,q⟩
   · rw [decide_eq_true ((jL r1).mpr e)]; exact k.here S q cJ
   · rw [decide_eq_false fun z=>e ((jL r1).mp z)]; exact k.here S q cJ
 · obtain ⟨c,e,q⟩:=q;subst e;exact .inr ⟨_,_,r1,r2,k.here S q cJ⟩
 · exact q.elim
theorem aAL {F:Hp}:OpR X (compareOp .IsNot) (gU E F (pIs true)):=by
 refine (aBM.or ZZ).imp fun v u H Q h=>?_;obtain ⟨x,y,Z,G,Q',r1,r2,S,q,k⟩:=h;unfold pIs at q;split at q
 · refine .inl ⟨r2, ?_⟩;rcases q with ⟨e,q⟩ | ⟨e,q⟩
   · rw [decide_eq_true ((jL r1).mpr e)]; exact k.here S q cJ
   · rw [decide_eq_false fun z=>e ((jL r1).mp z)]; exact k.here S q cJ
 · obtain ⟨c,e,q⟩:=q;subst e;exact .inr ⟨_,_,r1,r2,k.here S q cJ⟩
 · exact q.elim
theorem aCy {Z:Hp} {x:PV} {v:V} (r:RP E Z x v) (h:flP x=true):mH v=true:=by
 cases x <;> first | (cases h; done) | skip
 · rw [show v= .non from r]; rfl
 · rw [show v= .bl _ from r]; rfl
 · rw [show v= .int _ from r]; rfl
 · rw [show v= .str _ from r]; rfl
theorem aHb {Z:Hp} {x y:PV} {v u:V} (r:RP E Z x v) (ry:RP E Z y u) (h:flP x=true) (hy:flP y=true):eqV v u=peq x y:=by
 cases x <;> first | (cases h; done) | skip
 all_goals (cases y <;> first | (cases hy; done) | skip)
 all_goals
   first
   | rw [show v= .non from r]
   | rw [show v= .bl _ from r]
   | rw [show v= .int _ from r]
   | rw [show v= .str _ from r]
 all_goals
   first
   | rw [show u= .non from ry]
   | rw [show u= .bl _ from ry]
   | rw [show u= .int _ from ry]
   | rw [show u= .str _ from ry]
 all_goals simp only [eqV,peq]
theorem aBY {Z:Hp} {x:PV} {v:V} (r:RP E Z x v) (h:flP x=true):∀ {xs:List PV} {vs:List V},RPs E Z xs vs→xs.all flP=true→vs.all mH=true∧inV v vs=xs.any fun z=>peq z x
 | [],_,hr,_=>by cases hr; exact ⟨rfl,rfl⟩
 | y :: ys,_,⟨u,us,e,r1,r2⟩,ha=>by
   subst e;rw [List.all_cons,Bool.and_eq_true] at ha;obtain ⟨a,b⟩:=aBY r h r2 ha.2;refine ⟨by rw [List.all_cons,aCy r1 ha.1,a]; rfl, ?_⟩;unfold inV at b ⊢;rw [List.any_cons,List.any_cons,b,aHb r1 r ha.1 h]
theorem VR {F:Hp} {neg:Bool} (hK:E.K=X.K) {v u:V} {H:Hp} {Q:VK} (h:gU E F (pIn neg) v u H Q):rIn X.K neg v u H Q:=by
 obtain ⟨x,y,Z,G,Q',r1,r2,S,⟨xs,hx,h1,h2,q⟩,k⟩:=h;have key:∀ {a:Addr} {vs:List V},RPs E Z xs vs→(SqL X.K H a vs∨SqT X.K H a vs)→u= .ref a→rIn X.K neg v u H Q:=fun {a vs} t hs e=>by
   obtain ⟨a1,a2⟩:=aBY r1 h1 t h2;refine ⟨a,vs,e,hs,aCy r1 h1,a1, ?_⟩;rw [a2];exact k.here S q cJ
 rcases hx with rfl | hx
 · obtain ⟨a,vs,rfl,ha,ta⟩:=fN S r2;exact key ta (.inr (hK▸ha)) rfl
 · obtain ⟨a,vs,rfl,ha,ta⟩:=cV S r2 hx;exact key ta (.inl (SqL.of ha)) rfl
theorem lO {F:Hp} (P:Pl X E T k):∀ op,OpR X (compareOp op) (gU E F (nV op))
 | .Lt=>aGX.imp fun _ _ _ _ h=>vY (iT (fun _ _ _=>cJ) h)
 | .LtE=>aI1.imp fun _ _ _ _ h=>vY (iT (fun _ _ _=>cJ) h)
 | .Gt=>aIL.imp fun _ _ _ _ h=>vY (iT (fun _ _ _=>cJ) h)
 | .GtE=>aIu.imp fun _ _ _ _ h=>vY (iT (fun _ _ _=>cJ) h)
 | .Eq=>aFZ P.room P.hK
 | .NotEq=>YZ P.room P.hK
 | .Is=>aFL
 | .IsNot=>aAL
 | .In=>QE.imp fun _ _ _ _ h=>VR P.hK h
 | .NotIn=>AG.imp fun _ _ _ _ h=>VR P.hK h
theorem aDN {op:CmpOp} {a' b':CE} (P:Pl X E T k) (hm:behindInMarks op b=false) (ha:JE X E a (wpE T a')) (hb:JE X E b (wpE T b')):JE X E (.Compare a [op] [b] pos) (wpE T (.cmp op a' b')):=fun F =>
 (LJ (lO P op) (ha F) (hb F) hm).imp fun σ H Q h=>QJ (by rw [wpE] at h; exact h)
theorem aGp {op:CmpOp} {a' b':CE} (P:Pl X E T k) (hm:behindInMarks op b=false) (ha:JE X E a (wpE T a')) (hb:JE X E b (wpE T b')):JT X E (.Compare a [op] [b] pos) (wpT T (.tsb (.cmp op a' b'))):=fun F =>
 PT.imp (LU (lO P op) (ha F) (hb F) hm) fun σ H Q h=>QJ (by
   obtain ⟨σ',Z,G,Q',rs,S,h,kq⟩:=h;rw [wpT,wpE] at h;exact ⟨σ',Z,G,_,rs,S,h,by rintro x v Z1 G1 H1 s1 S1 r1 ⟨kk,e,q⟩;subst e; exact ⟨kk,r1,kq _ Z1 G1 H1 s1 S1 q⟩⟩)
theorem MU {F:Hp} {op op':CmpOp} {a' b' c':CE} {σ:L2.St} {H:Hp} {Q:VK} (h:low E F (wpE T (.chn op op' a' b' c')) σ H Q):GS (gU E F (nV op)) (gU E F (nV op')) (low E F (wpE T a')) (low E F (wpE T b')) (low E F (wpE T c')) σ H Q:=by
 obtain ⟨σ',Z,G,Q',rs,S,h,kq⟩:=h;rw [wpE] at h;refine ⟨σ',Z,G,_,rs,S,h,fun x v Z1 G1 H1 s1 S1 r1 q1=>⟨σ',Z1,G1,_,rs.mono s1,S1,q1,fun y u Z2 G2 H2 s2 S2 r2 q2=>⟨x,y,Z2,G2,_,r1.mono s2,r2,S2,q2, ?_⟩⟩⟩;rintro z w Z3 G3 H3 s3 S3 r3 ⟨kk,e,q3⟩;subst e;refine ⟨kk,r3, ?_⟩;have sz:=(s1.trans s2).trans s3;cases kk with
 | true =>
   rw [if_pos rfl] at q3 ⊢;exact ⟨σ',Z3,G3,_,rs.mono sz,S3,q3,fun z' w' Z4 G4 H4 s4 S4 r4 q4=>⟨y,z',Z4,G4,Q',(r2.mono s3).mono s4,r4,S4,q4,kq.mono (sz.trans s4)⟩⟩
 | false =>
   rw [if_neg Bool.false_ne_true] at q3 ⊢;exact kq.go sz S3 cJ q3
theorem aEy {op op':CmpOp} {a' b' c':CE} (P:Pl X E T k) (hm:lastMarks [op,op'] [b,c]=false) (ha:JE X E a (wpE T a')) (hb:JE X E b (wpE T b')) (hc:JE X E c (wpE T c')):JE X E (.Compare a [op,op'] [b,c] pos) (wpE T (.chn op op' a' b' c')):=fun F =>
 (YA (lO P op) (lO P op') (ha F) (hb F) (hc F) hm).imp fun σ H Q h=>MU h
theorem aGr {op op':CmpOp} {a' b' c':CE} (P:Pl X E T k) (hm:lastMarks [op,op'] [b,c]=false) (ha:JE X E a (wpE T a')) (hb:JE X E b (wpE T b')) (hc:JE X E c (wpE T c')):JT X E (.Compare a [op,op'] [b,c] pos) (wpT T (.tsb (.chn op op' a' b' c'))):=fun F =>
 PT.imp (XJ (lO P op) (lO P op') (ha F) (hb F) (hc F) hm) fun σ H Q h=>MU (by
   obtain ⟨σ',Z,G,Q',rs,S,h,kq⟩:=h;rw [wpT] at h;exact ⟨σ',Z,G,_,rs,S,h,by rintro x v Z1 G1 H1 s1 S1 r1 ⟨kk,e,q⟩;subst e; exact ⟨kk,r1,kq _ Z1 G1 H1 s1 S1 q⟩⟩)
theorem AQ {a':CE} (P:Pl X E T k) (ha:JE X E a (wpE T a')) (he:∀ whole,isTrue a X.env whole=(do let v ←whole; standAt a.pos; holding [v] (truthy v))):JT X E a (wpT T (.tst a')):=fun F =>
 PT.imp (YU (ha F) he) <|by
   rintro σ H Q ⟨σ',Z,G,Q',rs,S,h,kq⟩;rw [wpT] at h;refine ⟨σ',Z,G,_,rs,S,h,fun x v Z1 G1 H1 s1 S1 r1 q1=>?_⟩;obtain ⟨c,tv,q⟩:=tL P.hK S1 r1 q1;exact ⟨c,tv,kq _ Z1 G1 H1 s1 S1 q⟩
theorem aF3 {a':CE} (ha:JT X E a (wpT T a')):JW X E (.BoolOp .And [a] pos) (wpT T a'):=fun F=>aAo (ha F)
theorem aE2 {a':CE} (ha:JT X E a (wpT T a')):JW X E (.BoolOp .Or [a] pos) (wpT T a'):=fun F=>aGl (ha F)
theorem aIj {F:Hp} {a' b':CE} {σ:L2.St} {H:Hp} {Q:Bool→Hp→Prop} (h:BV E F (wpT T (.an a' b')) σ H Q):aGW (BV E F (wpT T a')) (BV E F (wpT T b')) σ H Q:=by
 obtain ⟨σ',Z,G,Q',rs,S,h,kq⟩:=h;rw [wpT] at h;refine ⟨σ',Z,G,_,rs,S,h,fun d Z1 G1 H1 s1 S1 q=>?_⟩;cases d with
 | true=>rw [if_pos rfl] at q ⊢; exact ⟨σ',Z1,G1,Q',rs.mono s1,S1,q,kq.mono s1⟩
 | false=>rw [if_neg Bool.false_ne_true] at q ⊢; exact kq _ _ _ _ s1 S1 q
theorem aGP {F:Hp} {a' b':CE} {σ:L2.St} {H:Hp} {Q:Bool→Hp→Prop} (h:BV E F (wpT T (.oo a' b')) σ H Q):tOr (BV E F (wpT T a')) (BV E F (wpT T b')) σ H Q:=by
 obtain ⟨σ',Z,G,Q',rs,S,h,kq⟩:=h;rw [wpT] at h;refine ⟨σ',Z,G,_,rs,S,h,fun d Z1 G1 H1 s1 S1 q=>?_⟩;cases d with
 | false=>rw [if_neg Bool.false_ne_true] at q ⊢; exact ⟨σ',Z1,G1,Q',rs.mono s1,S1,q,kq.mono s1⟩
 | true=>rw [if_pos rfl] at q ⊢; exact kq _ _ _ _ s1 S1 q
theorem aHg {cR:List Expr} {a' b':CE} (ha:JT X E a (wpT T a')) (hb:JW X E (.BoolOp .And (b :: cR) pos) (wpT T b')):JW X E (.BoolOp .And (a :: b :: cR) pos) (wpT T (.an a' b')):=fun F=>PW.imp (aDo (ha F) (hb F)) fun _ _ _ h=>aIj h
theorem aHm {cR:List Expr} {a' b':CE} (ha:JT X E a (wpT T a')) (hb:JW X E (.BoolOp .Or (b :: cR) pos) (wpT T b')):JW X E (.BoolOp .Or (a :: b :: cR) pos) (wpT T (.oo a' b')):=fun F=>PW.imp (aI4 (ha F) (hb F)) fun _ _ _ h=>aGP h
theorem JW.jt {e:Expr} {t:PTT} (h:JW X E e t):JT X E e t:=fun F=>(h F).pt
theorem aIQ {a':CE} (ha:JT X E a (wpT T a')):JT X E (.UnaryOp .Not a pos) (wpT T (.no a')):=fun F =>
 PT.imp (aDC (ha F)) <|by
   rintro σ H Q ⟨σ',Z,G,Q',rs,S,h,kq⟩;rw [wpT] at h;exact ⟨σ',Z,G,_,rs,S,h,fun d Z1 G1 H1 s1 S1 q=>kq _ _ _ _ s1 S1 q⟩
theorem aF0:JA X E [] (wpL T .nil):=fun F=>PA.imp hW <|by rintro σ H Q ⟨σ',Z,G,Q',rs,S,h,kq⟩;rw [wpL] at h; exact kq [] [] Z G H rfl (aM.refl Z) S rfl h
theorem aA4 {e:Expr} {es:List Expr} {a' b':CE} (ha:JE X E e (wpE T a')) (hr:JA X E es (wpL T b')) (hs:starEach (e :: es) X.env=(false,eval e X.env) :: starEach es X.env):JA X E (e :: es) (wpL T (.cons a' b')):=fun F =>
 PA.imp (dM (ha F) (hr F) hs) <|by
   rintro σ H Q ⟨σ',Z,G,Q',rs,S,h,kq⟩;rw [wpL] at h;exact ⟨σ',Z,G,_,rs,S,h,fun x v Z1 G1 H1 s1 S1 r1 q1=>⟨σ',Z1,G1,_,rs.mono s1,S1,q1,fun xs vs Z2 G2 H2 l2 s2 S2 r2 q2=>kq (x :: xs) (v :: vs) _ _ _ (by rw [List.length_cons,l2]; rfl) (s1.trans s2) S2 ⟨v,vs,rfl,r1.mono s2,r2⟩ q2⟩⟩
theorem aF9 {es:List Expr} {x1:Nat} {es':CE} (h:JA X E es (wpL T es')):JE X E (.Tuple es x1 pos) (wpE T (.tup es')):=fun F =>
 (aFO (h F)).imp <|by
   rintro σ H Q ⟨σ',Z,G,Q',rs,S,h,kq⟩;rw [wpE] at h;refine ⟨σ',Z,G,_,rs,S,h,fun xs vs Z1 G1 H1 l1 s1 S1 r1 q1=>⟨by rw [←r1.length]; exact q1.1,fun p n=>(kq.mono s1).newZ S1 n (lI (S1.zn n) r1) q1.2⟩⟩
theorem uL {F Z H:Hp} {G:Gh} {m:Bool} {xs:List PV} {vs:List V} {Q':PK1} {Q:VK} {p:Addr} (S:Sim E F H Z G) (n:H p=none) (r:RPs E Z xs vs) (q:rH m G xs Q') (kq:Kq E F Z Q' Q):Q (.ref p) (upd H p (.lst vs)):=by
 unfold rH at q;cases m with
 | true =>
   rw [if_pos rfl] at q;exact kq (.ref p) _ _ _ _ (aM.refl Z) (S.new (go:=.lst xs) n ⟨vs,rfl,r⟩) rfl (q p (S.gn n))
 | false =>
   rw [if_neg Bool.false_ne_true] at q;exact kq.newZ S n (jK (S.zn n) r) q
theorem aDe {es:List Expr} {es':CE} {m:Bool} (h:JA X E es (wpL T es')):JE X E (.List es pos) (wpE T (.lst m es')):=fun F =>
 (aFF (h F)).imp <|by
   rintro σ H Q ⟨σ',Z,G,Q',rs,S,h,kq⟩;rw [wpE] at h;refine ⟨σ',Z,G,_,rs,S,h,fun xs vs Z1 G1 H1 l1 s1 S1 r1 q1=>⟨by rw [←r1.length]; exact q1.1,fun p n=>uL S1 n r1 q1.2 (kq.mono s1)⟩⟩
theorem aEV {a' b':CE} (P:Pl X E T k) (ha:JE X E a (wpE T a')) (hb:JE X E b (wpE T b')) (hs:BD b):JE X E (.Subscript a b pos) (wpE T (.idx a' b')):=fun F =>
 (aIt (aFw P.room P.hK) (ha F) (hb F) hs).imp fun σ H Q h=>QJ (by rw [wpE] at h; exact h)
noncomputable def aJ8 (E:Ev) (F:Hp) (t:PSt→Gh→(Option Int→Gh→Prop)→Prop):TO:=fun σ H Q=>∃ σ' Z G Q',RSt E Z σ' σ∧Sim E F H Z G∧t σ' G Q'∧∀ o Z1 G1 H1,aM Z Z1→Sim E F H1 Z1 G1→Q' o G1→Q o H1
def JO (X:Cx) (E:Ev) (e:Option Expr) (t:PSt→Gh→(Option Int→Gh→Prop)→Prop):Prop:= ∀ F,PO X e (aJ8 E F t)
theorem PO.imp {e:Option Expr} {t t':TO} (h:PO X e t) (g:∀ σ H Q,t' σ H Q→t σ H Q):PO X e t':=fun pins s σ H Q I q=>h pins s σ H Q I (g _ _ _ q)
theorem aFC:JO X E none (wpO T .nil):=fun F=>PO.imp aBO <|by rintro σ H Q ⟨σ',Z,G,Q',rs,S,h,kq⟩;rw [wpO] at h; exact kq _ _ _ _ (aM.refl Z) S h
theorem aBb {a':CE} (ha:JE X E a (wpE T a')):JO X E (some a) (wpO T (.tst a')):=fun F=>PO.imp (tO (ha F)) <|by
 rintro σ H Q ⟨σ',Z,G,Q',rs,S,h,kq⟩;rw [wpO] at h;exact ⟨σ',Z,G,_,rs,S,h,by rintro x v Z1 G1 H1 s1 S1 r1 ⟨i,e,q⟩;subst e; exact ⟨i,r1,kq _ _ _ _ s1 S1 q⟩⟩
theorem aEv {lo hi:Option Expr} {p2:Pos} {a' l' h':CE} (P:Pl X E T k) (ha:JE X E a (wpE T a')) (hl:JO X E lo (wpO T l')) (hu:JO X E hi (wpO T h')):JE X E (.Subscript a (.Slice lo hi none p2) pos) (wpE T (.sli a' l' h')):=fun F =>
 (TM (aF5 P.hK) (ha F) (hl F) (hu F)).imp <|by
   rintro σ H Q ⟨σ',Z,G,Q',rs,S,h,kq⟩;rw [wpE] at h;refine ⟨σ',Z,G,_,rs,S,h,fun x v Z1 G1 H1 s1 S1 r1 q1=>⟨σ',Z1,G1,_,rs.mono s1,S1,q1,fun o Z2 G2 H2 s2 S2 q2=>⟨σ',Z2,G2,_,(rs.mono s1).mono s2,S2,q2,fun o' Z3 G3 H3 s3 S3 q3=>?_⟩⟩⟩;exact ⟨x,Z3,G3,Q',(r1.mono s2).mono s3,S3,q3,kq.mono ((s1.trans s2).trans s3)⟩
theorem mS {ns:List Str} {f:Str} {x:PV} {Z:Hp}:∀ {ns:List Str} {xs:List PV} {vs:List V},RPs E Z xs vs→(ns.zip xs).lookup f=some x→∃ v,(ns.zip vs).lookup f=some v∧RP E Z x v
 | [],_,_,_,h=>by cases h
 | _ :: _,[],_,_,h=>by cases h
 | n :: ns,y :: ys,_,⟨v,r,e,r1,r2⟩,h=>by
   subst e;rw [List.zip_cons_cons,List.lookup_cons] at h;rw [List.zip_cons_cons,List.lookup_cons];cases hb:f == n with
   | true=>rw [hb] at h; cases h; exact ⟨v,rfl,r1⟩
   | false=>rw [hb] at h; exact mS (ns:=ns) r2 h
theorem aDu {f:Str} {a':CE} (P:Pl X E T k) (ha:JE X E a (wpE T a')) (hb:attributeBase a f X.env (eval a X.env)=eval a X.env):JE X E (.Attribute a f pos) (wpE T (.att a' f)):=fun F =>
 (aDf (ha F) hb).imp <|by
   rintro σ H Q ⟨σ',Z,G,Q',rs,S,h,kq⟩;rw [wpE] at h;refine ⟨σ',Z,G,_,rs,S,h,fun x v Z1 G1 H1 s1 S1 r1 zz=>?_⟩;obtain ⟨c,ns,xs,y,hx,hf,hl,q⟩:=zz;obtain ⟨h1,h2⟩:=P.fld c f hf;rcases hx with e | ⟨a,e,hG⟩
   · subst e;obtain ⟨p,dx,vs,e,hp,_,t⟩:=r1;obtain ⟨w,e1,e2⟩:=mS (ns:=ns) t hl;exact ⟨p,_,dx,_,w,e,S1.z _ _ hp,h1,h2,e1,kq.go s1 S1 e2 q⟩
   · subst e;obtain ⟨_,o',hp,dx,vs,e',_,t⟩:=S1.g _ _ hG;subst e';obtain ⟨w,e1,e2⟩:=mS (ns:=ns) t hl;exact ⟨a,_,dx,_,w,r1,hp,h1,h2,e1,kq.go s1 S1 e2 q⟩
theorem aEJ {x:Str} {p:Pos} {e:Expr} {es:List Expr} {bb:Bn} {es':CE} (P:Pl X E T k) (h40:QS bb=true→40≤k) (hg:Gl X x) (hm:X.mg x=none) (hv:bootBuiltins x=some (WF bb)) (hn:x≠"__name__") (hd:(x == ("__debug__":Str))=false)
   (ha:JA X E (e :: es) (wpL T es')) (he:starEach (e :: es) X.env=(false,eval e X.env) :: starEach es X.env) (hpl:(backTo pos (starEach es X.env)).any (·.1)=false):JE X E (.Call (.Name x p) (e :: es) [] pos) (wpE T (.blt bb es')):=fun F=>by
 have main:PE X (.Call (.Name x p) (e :: es) [] pos) (tCB (TQ E F (dG T.cs bb)) (FT E F (e :: es).length (wpL T es'))):=by
   have hc:=MN (F:=F) (cs:=T.cs) P.hK P.cls bb fun z=>P.calm (h40 z);cases bb <;> first
     | exact vM hc hg hm hv (ha F) hn hd he hpl
     | exact lL hc hg hm hv (ha F) hn hd he hpl
 exact main.imp <|by
   rintro σ H Q ⟨σ',Z,G,Q',rs,S,h,kq⟩;rw [wpE] at h;exact ⟨σ',Z,G,_,rs,S,h,fun xs vs Z1 G1 H1 l1 s1 S1 r1 q1=>⟨xs,Z1,G1,Q',r1,S1,q1,kq.mono s1⟩⟩
noncomputable def iW (E:Ev) (sp:Sp3):Sp:=fun vs H Q _=>∃ xs Z G F Q',RPs E Z xs vs∧Sim E F H Z G∧sp xs G Q'∧Kq E F Z Q' Q
noncomputable abbrev SpX:=List PV→Gh→PX→Prop
noncomputable def FJ (E:Ev) (sp:Sp3) (spx:SpX):Sp:=fun vs H Q EX=>∃ xs Z G F,RPs E Z xs vs∧Sim E F H Z G∧((∃ Q',sp xs G Q'∧Kq E F Z Q' Q)∨∃ x,spx xs G x∧KX E F Z x EX)
theorem aIX {X:Cx} {EX:XK} (h:∀ e s',xeO X EX e s'→X.xe e s'):jI (CXo X.prog X.w) X EX:=by
 rintro pins σ H s e s' I ⟨a,C,d,H',ee,ho,hb,un,hok,x,q⟩;have J:=I.call' ho un hok hb fun b z=>nomatch z;exact h _ _ ⟨a,C,d,σ,H',ee,J.nopins,.inr (x.mono I.lo_le),q⟩
def Co (X:Cx) (E:Ev) (sp3:Sp3) (k:Nat) (ad:Addr) (fd:FuncData) (ps:List Str):Prop:= ∃ (CX:CXT) (sp:Sp) (EX:XK),bN X.prog X.w X.K X.mg X.base CX k ad fd ps sp∧jI CX X EX∧∀ vs H Q,iW E sp3 vs H Q E0→sp vs H Q EX
theorem Co.of {sp3:Sp3} {ad:Addr} {fd:FuncData} {ps:List Str} (K:bN X.prog X.w X.K X.mg X.base CX0 k ad fd ps (iW E sp3)):Co X E sp3 k ad fd ps:=⟨CX0,_,E0,K,zB,fun _ _ _ h=>h⟩
theorem Co.ofX {sp3 sp:Sp3} {spx:SpX} {ad:Addr} {fd:FuncData} {ps:List Str} {x:PX} {EX:XK} (K:bN X.prog X.w X.K X.mg X.base (CXo X.prog X.w) k ad fd ps (FJ E sp spx)) (h:∀ xs G Q,sp3 xs G Q→sp xs G Q∨spx xs G x)
   (hx:∀ e s',xeO X EX e s'→X.xe e s') (kx:KX E E.f0 E.z0 x EX):Co X E sp3 k ad fd ps:=by
 refine ⟨_,_,EX,K,aIX hx,fun vs H Q ⟨xs,Z,G,F,Q',r,S,q,kq⟩=>⟨xs,Z,G,F,r,S, ?_⟩⟩;rcases h _ _ _ q with q | q
 · exact .inl ⟨Q',q,kq⟩
 · exact .inr ⟨x,q,fun c ns ys d vs Z1 G1 H1 s1 S1 l r hd hn q=>kx c ns ys d vs Z1 G1 H1 S1.z0 S1.weakF l r hd hn q⟩
theorem TD {f:Str} {x:Str} {p:Pos} {e:Expr} {es:List Expr} {es':CE} {ad:Addr} {fd:FuncData} {ps:List Str} (K:Co X E (T.S f) k ad fd ps) (hr:bF k X.A) (hg:Gl X x) (hm:X.mg x=some (.ref ad)) (hk:W.keepIn X.K (.ref ad)=true)
   (hb:aH X.K fd ps []) (hd:(x == ("__debug__":Str))=false) (ha:JA X E (e :: es) (wpL T es')) (he:starEach (e :: es) X.env=(false,eval e X.env) :: starEach es X.env) (hpl:(backTo pos (starEach es X.env)).any (·.1)=false) :
   JE X E (.Call (.Name x p) (e :: es) [] pos) (wpE T (.cal f es')):=fun F=>by
 obtain ⟨CX,sp,EX,K,hp,hl⟩:=K;exact (aA9 K hr hg hm hk hb .nil hp (ha F) hd he hpl).imp <|by
   rintro σ H Q ⟨σ',Z,G,Q',rs,S,h,kq⟩;rw [wpE] at h;exact ⟨σ',Z,G,_,rs,S,h,fun xs vs Z1 G1 H1 l1 s1 S1 r1 q1=>by
     show sp (vs ++ []) H1 Q EX;rw [List.append_nil];exact hl _ _ _ ⟨xs,Z1,G1,F,Q',r1,S1,q1,kq.mono s1⟩⟩
structure aKw (X:Cx) (E:Ev) (T:Tb):Prop where
 xi:∀ c n r,(c,n,r)∈T.xi→XAt X.K (E.cls c)∧((∃ a,X.mg n=some (.ref a)∧W.kitOne X.K (.ref (E.cls c)) (.ref a)=some r)∨∃ t,X.mg n=none∧bootBuiltins n=some (.type t)∧n≠"__name__"∧W.kitOne X.K (.ref (E.cls c)) (.type t)=some r)
 fx:∀ c f,(c,f)∈T.fx→XAt X.K (E.cls c)∧W.findIn X.K (.ref (E.cls c)) f=some none
structure NeM (X:Cx) (E:Ev) (T:Tb) (k:Nat) (c:String) (m:Str):Prop where
 ex:∃ ad fd,NeC X.K (E.cls c)∧fO X.K (E.cls c) "__eq__" ad∧bN X.prog X.w X.K X.mg X.base CX0 k ad fd ["self","other"] (iW E (T.S m))∧aH X.K fd ["self","other"] []
theorem KQ {F:Hp} {eqs:List (String×Str)} (P:Pl X E T (k + 1)) (he:∀ y∈eqs,NeM X E T k y.1 y.2):OpR X (compareOp .NotEq) (gU E F (QF T eqs)):=by
 rintro pins s σ H v w u1 u2 Q I rv rw' ⟨x,y,Z,G,Q',r1,r2,S,q,kq⟩;rcases q with ⟨c,m,ns,xs,ns',ys,hm,e1,e2,q⟩ | q
 · subst e1 e2;obtain ⟨ad,fd,N,M,Fn,hb⟩:=(he _ hm).ex;have r1':=r1;have r2':=r2;obtain ⟨a,dx,vs,ea,hz,_,_⟩:=r1';obtain ⟨a2,dx2,vs2,ea2,hz2,_,_⟩:=r2';subst ea ea2;refine aDW N M Fn P.room hb pins s σ H _ _ u1 u2 Q I rv rw' ⟨a,dx,_,a2,dx2,_,rfl,rfl,S.z _ _ hz,S.z _ _ hz2, ?_⟩;exact ⟨[.ob c ns xs,.ob c ns' ys],Z,G,F,_,⟨_,_,rfl,r1,_,_,rfl,r2,rfl⟩,S,q,by rintro x v Z1 G1 H1 s1 S1 r3 ⟨b,e,q3⟩;subst e; have e:v= .bl b:=r3; exact ⟨b,e,kq _ _ Z1 G1 H1 s1 S1 cJ q3⟩⟩
 · exact YZ P.room P.hK pins s σ H v w u1 u2 Q I rv rw' ⟨x,y,Z,G,Q',r1,r2,S,q,kq⟩
theorem aFg {eqs:List (String×Str)} {a' b':CE} (P:Pl X E T (k + 1)) (he:∀ y∈eqs,NeM X E T k y.1 y.2) (hm:behindInMarks .NotEq b=false) (ha:JE X E a (wpE T a')) (hb:JE X E b (wpE T b')):JE X E (.Compare a [.NotEq] [b] pos) (wpE T (.cne eqs a' b')):=fun F =>
 (LJ (KQ P he) (ha F) (hb F) hm).imp fun σ H Q h=>QJ (by rw [wpE] at h; exact h)
theorem aFK {eqs:List (String×Str)} {a' b':CE} (P:Pl X E T (k + 1)) (he:∀ y∈eqs,NeM X E T k y.1 y.2) (hm:behindInMarks .NotEq b=false) (ha:JE X E a (wpE T a')) (hb:JE X E b (wpE T b')):JT X E (.Compare a [.NotEq] [b] pos) (wpT T (.tsb (.cne eqs a' b'))):=fun F =>
 PT.imp (LU (KQ P he) (ha F) (hb F) hm) fun σ H Q h=>QJ (by
   obtain ⟨σ',Z,G,Q',rs,S,h,kq⟩:=h;rw [wpT,wpE] at h;exact ⟨σ',Z,G,_,rs,S,h,by rintro x v Z1 G1 H1 s1 S1 r1 ⟨kk,e,q⟩;subst e; exact ⟨kk,r1,kq _ Z1 G1 H1 s1 S1 q⟩⟩)
theorem aEe {e:Expr} {apos:Pos} {a' b':CE} (ha:JE X E a (wpE T a')) (hb:JE X E e (wpE T b')) (hbase:attributeBase a "append" X.env (eval a X.env)=eval a X.env)
   (hs:starEach [e] X.env=[(false,eval e X.env)]) (hline:(apos.endLine == pos.line)=true):JE X E (.Call (.Attribute a "append" apos) [e] [] pos) (wpE T (.app a' b')):=fun F=>by
 refine (aC2 PySem.F.plainAttrs_list PySem.F.slot_list_append PySem.F.type_list_append yT (ha F) (dM (hb F) hW hs) hbase (by rw [hs]; rfl) hline hs rfl).imp fun σ H Q ⟨σ',Z,G,Q',rs,S,h,kq⟩=>?_;rw [wpE] at h;refine ⟨σ',Z,G,_,rs,S,h,fun x v Z1 G1 H1 s1 S1 r1 zz=>?_⟩;obtain ⟨⟨ys,hy⟩,q1⟩:=zz;obtain ⟨a1,vs,rfl,hH,ta⟩:=cV S1 r1 hy;refine ⟨.inl ⟨rfl,vs,SqL.of hH⟩,σ',Z1,G1,_,rs.mono s1,S1,q1,fun y u Z2 G2 H2 s2 S2 r2 zz=>?_⟩;obtain ⟨p,xs,ex,hG,hz,q⟩:=zz;subst ex;have e1:V.ref a1= .ref p:=r1;cases e1;obtain ⟨_,o',hp,us,e',t⟩:=S2.g _ _ hG;subst e';refine ⟨a1,us,u,rfl,rfl,hp,by rw [←t.length]; exact hz,kq.go (s1.trans s2) (S2.set (go:=.lst (xs ++ [y])) hG ⟨us ++ [u],rfl,t.append ⟨u,[],rfl,r2,rfl⟩⟩) rM q⟩
theorem aFt {e:Expr} {apos:Pos} {a' b':CE} (ha:JE X E a (wpE T a')) (hb:JE X E e (wpE T b')) (hbase:attributeBase a "pop" X.env (eval a X.env)=eval a X.env)
   (hs:starEach [e] X.env=[(false,eval e X.env)]) (hline:(apos.endLine == pos.line)=true):JE X E (.Call (.Attribute a "pop" apos) [e] [] pos) (wpE T (.pop a' b')):=fun F=>by
 refine (aC2 PySem.F.plainAttrs_list PySem.F.slot_list_pop PySem.F.type_list_pop UX (ha F) (dM (hb F) hW hs) hbase (by rw [hs]; rfl) hline hs rfl).imp fun σ H Q ⟨σ',Z,G,Q',rs,S,h,kq⟩=>?_;rw [wpE] at h;refine ⟨σ',Z,G,_,rs,S,h,fun x v Z1 G1 H1 s1 S1 r1 zz=>?_⟩;obtain ⟨⟨ys,hy⟩,q1⟩:=zz;obtain ⟨a1,vs,rfl,hH,ta⟩:=cV S1 r1 hy;refine ⟨.inl ⟨rfl,vs,SqL.of hH⟩,σ',Z1,G1,_,rs.mono s1,S1,q1,fun y u Z2 G2 H2 s2 S2 r2 zz=>?_⟩;obtain ⟨p,xs,k,j,w,ex,ey,hG,h1,h2,hj,hw,q⟩:=zz;subst ex ey hj;have e1:V.ref a1= .ref p:=r1;cases e1;have eu:u= .int j:=r2;subst eu;obtain ⟨_,o',hp,us,e',t⟩:=S2.g _ _ hG;subst e';obtain ⟨w',hw',rw'⟩:=t.get hw;have hlt:j < us.length:=by
   obtain ⟨z,_⟩:=List.getElem?_eq_some_iff.mp hw'; exact z
 refine ⟨a1,us,j,j,w',rfl,rfl,hp,by omega,by omega, ?_,hw',kq.go (s1.trans s2) (S2.set (go:=.lst (xs.eraseIdx j)) hG ⟨_,rfl,t.eraseIdx j⟩) rw' q⟩;unfold seqIndex?;dsimp only;rw [if_neg (show ¬((j:Int) < 0) by omega),if_pos (show (decide ((0:Int)≤(j:Int)) && decide ((j:Int) < (us.length:Int)))=true by rw [Bool.and_eq_true,decide_eq_true_eq,decide_eq_true_eq]; omega)];rfl
theorem aES {p p2 pos2:Pos} {a':CE} (hg:Gl X "len") (hm:X.mg "len"=none) (hg2:Gl X "range") (hm2:X.mg "range"=none) (hs:starEach [a] X.env=[(false,eval a X.env)]) (ha:JE X E a (wpE T a')) :
   JE X E (.Call (.Name "len" p) [.Call (.Name "range" p2) [a] [] pos2] [] pos) (wpE T (.lnr a')):=fun F =>
 (vM HG hg hm rfl (dM (lL NU hg2 hm2 boot_range (dM (ha F) hW hs) (by decide) (by decide) hs rfl) hW rfl) (by decide) (by decide) rfl rfl).imp <|by
   rintro σ H Q ⟨σ',Z,G,Q',rs,S,h,kq⟩;rw [wpE] at h;refine ⟨σ',Z,G,_,rs,S,h,fun x v Z1 G1 H1 s1 S1 r1 zz=>?_⟩;obtain ⟨j,e,h1,h2,q⟩:=zz;subst e;have e:v= .int j:=r1;subst e;refine ⟨j,rfl,fun r nr=>⟨r,j,rfl,aW,h1,h2, ?_⟩⟩;exact kq.go (s1.trans (bG (S1.zn nr) _)) (S1.fz nr) bD q
theorem ZH {p:Pos} {a':CE} (P:Pl X E T k) (hg:Gl X "list") (hm:X.mg "list"=none) (hs:starEach [a] X.env=[(false,eval a X.env)]) (ha:JE X E a (wpE T a')):JE X E (.Call (.Name "list" p) [a] [] pos) (wpE T (.lco a')):=fun F =>
 (lL BE hg hm boot_list (dM (ha F) hW hs) (by decide) (by decide) hs rfl).imp <|by
   rintro σ H Q ⟨σ',Z,G,Q',rs,S,h,kq⟩;rw [wpE] at h;refine ⟨σ',Z,G,_,rs,S,h,fun x v Z1 G1 H1 s1 S1 r1 zz=>?_⟩;obtain ⟨xs,e,q⟩:=zz;rcases e with e | e
   · subst e;obtain ⟨a,vs,rfl,ha,ta⟩:=fN S1 r1;exact ⟨a,vs,rfl,.inr (P.hK▸ha),fun l n=>uL (m:=true) S1 n ta (by unfold rH; rw [if_pos rfl]; exact q) (kq.mono s1)⟩
   · obtain ⟨a,vs,rfl,ha,ta⟩:=cV S1 r1 e;exact ⟨a,vs,rfl,.inl (SqL.of ha),fun l n=>uL (m:=true) S1 n ta (by unfold rH; rw [if_pos rfl]; exact q) (kq.mono s1)⟩
theorem MT {b:Bool} {a':CE} {F:Hp} {σ:L2.St} {H:Hp} {Q:VK} (h:low E F (wpE T (.stp b a')) σ H Q):aFW b (low E F (wpE T a')) σ H Q:=by
 obtain ⟨σ',Z,G,Q',rs,S,h,kq⟩:=h;rw [wpE] at h;refine ⟨σ',Z,G,_,rs,S,h,fun x v Z1 G1 H1 s1 S1 r1 zz=>?_⟩;obtain ⟨xs,e,q1⟩:=zz;obtain ⟨a,vs,rfl,ha,ta⟩:=cV S1 r1 e;refine ⟨a,vs,rfl,ha,fun p n=>(kq.mono s1).newZ S1 n (jK (S1.zn n) ?_) q1⟩;cases b with
 | true=>exact (ta.drop 1).ev2
 | false=>exact ta.ev2
theorem aAJ {p1 p3:Pos} {k1:Nat} {a':CE} (ha:JE X E a (wpE T a')):JE X E (.Subscript a (.Slice none none (some (.Constant (.int 2) k1 p1)) p3) pos) (wpE T (.stp false a')):=fun F=>(aBg (ha F)).imp fun σ H Q h=>MT h
theorem aAg {p0 p1 p3:Pos} {k0 k1:Nat} {a':CE} (ha:JE X E a (wpE T a')):JE X E (.Subscript a (.Slice (some (.Constant (.int 1) k0 p0)) none (some (.Constant (.int 2) k1 p1)) p3) pos) (wpE T (.stp true a')):=fun F=>(ZR (ha F)).imp fun σ H Q h=>MT h
noncomputable def bwN:Bn→Option Str
 | .len=>some "__len__"
 | .bool=>some "__len__"
 | .str=>some "__str__"
 | .repr=>some "__repr__"
 | _=>none
structure OwM (X:Cx) (E:Ev) (T:Tb) (k:Nat) (b:Bn) (c:String) (m:Str):Prop where
 ex:∃ ad fd k0 nm,k0 + 2≤k∧bwN b=some nm∧NeC X.K (E.cls c)∧fO X.K (E.cls c) nm ad∧bN X.prog X.w X.K X.mg X.base CX0 k0 ad fd ["self"] (iW E (T.S m))∧aH X.K fd ["self"] []
theorem aBf {F:Hp} {b:Bn} {ls:List (String×Str)} (P:Pl X E T (k + 1)) (h40:QS b=true→40≤k) (he:∀ y∈ls,OwM X E T k b y.1 y.2):bE X (WF b) (TQ E F (WD T b ls)):=by
 rintro pins s σ H vs us Q I rv ⟨xs,Z,G,Q',r,S,q,kq⟩;rcases q with ⟨c,m,ns,ys,hm,ex,q⟩ | q
 · subst ex;obtain ⟨ad,fd,k0,nm,hk,en,N,M,Fn,hb⟩:=(he _ hm).ex;obtain ⟨v,rfl,rp⟩:=EU r;have rp':=rp;obtain ⟨p,dx,ws,ea,hz,_,_⟩:=rp';subst ea;cases b <;> simp only [bwN,Option.some.injEq,reduceCtorEq] at en
   case len =>
     subst en;exact OL M Fn (P.room.mono (by omega)) hb pins s σ H _ us Q I rv ⟨p,dx,_,rfl,S.z _ _ hz,[.ob c ns ys],Z,G,F,_,⟨_,_,rfl,rp,rfl⟩,S,q,by rintro x v Z2 G2 H2 s2 S2 r3 ⟨n,e,h0,h1,q3⟩;subst e; have e:v= .int n:=r3; exact ⟨n,e,h0,h1,kq _ _ Z2 G2 H2 s2 S2 bD q3⟩⟩
   case str =>
     subst en;exact QC M Fn (P.room.mono (by omega)) hb pins s σ H _ us Q I rv ⟨p,dx,_,rfl,S.z _ _ hz,[.ob c ns ys],Z,G,F,_,⟨_,_,rfl,rp,rfl⟩,S,q,by rintro x v Z2 G2 H2 s2 S2 r3 ⟨n,e,q3⟩;subst e; have e:v= .str n:=r3; exact ⟨n,e,kq _ _ Z2 G2 H2 s2 S2 pO q3⟩⟩
   case bool =>
     subst en;exact GJ N.bo M Fn (P.room.mono (by omega)) hb pins s σ H _ us Q I rv ⟨p,dx,_,rfl,S.z _ _ hz,[.ob c ns ys],Z,G,F,_,⟨_,_,rfl,rp,rfl⟩,S,q,by rintro x v Z2 G2 H2 s2 S2 r3 ⟨n,e,h0,h1,q3⟩;subst e; have e:v= .int n:=r3; exact ⟨n,e,h0,h1,kq _ _ Z2 G2 H2 s2 S2 cJ q3⟩⟩
   case repr =>
     subst en;exact IV M Fn (P.room.mono (by omega)) hb pins s σ H _ us Q I rv ⟨p,dx,_,rfl,S.z _ _ hz,[.ob c ns ys],Z,G,F,_,⟨_,_,rfl,rp,rfl⟩,S,q,by rintro x v Z2 G2 H2 s2 S2 r3 ⟨n,e,q3⟩;subst e; have e:v= .str n:=r3; exact ⟨n,e,kq _ _ Z2 G2 H2 s2 S2 pO q3⟩⟩
 · exact MN (F:=F) (cs:=T.cs) P.hK P.cls b (fun z=>P.calm (Nat.le_succ_of_le (h40 z))) pins s σ H vs us Q I rv ⟨xs,Z,G,Q',r,S,q,kq⟩
theorem aC7 {x:Str} {p:Pos} {e:Expr} {es:List Expr} {bb:Bn} {ls:List (String×Str)} {es':CE} (P:Pl X E T (k + 1)) (h40:QS bb=true→40≤k) (ho:∀ y∈ls,OwM X E T k bb y.1 y.2) (hg:Gl X x) (hm:X.mg x=none) (hv:bootBuiltins x=some (WF bb)) (hn:x≠"__name__") (hd:(x == ("__debug__":Str))=false)
   (ha:JA X E (e :: es) (wpL T es')) (he:starEach (e :: es) X.env=(false,eval e X.env) :: starEach es X.env) (hpl:(backTo pos (starEach es X.env)).any (·.1)=false):JE X E (.Call (.Name x p) (e :: es) [] pos) (wpE T (.bow bb ls es')):=fun F=>by
 have main:PE X (.Call (.Name x p) (e :: es) [] pos) (tCB (TQ E F (WD T bb ls)) (FT E F (e :: es).length (wpL T es'))):=by
   have hc:=aBf (F:=F) P h40 ho;cases bb <;> first
     | exact vM hc hg hm hv (ha F) hn hd he hpl
     | exact lL hc hg hm hv (ha F) hn hd he hpl
 exact main.imp <|by
   rintro σ H Q ⟨σ',Z,G,Q',rs,S,h,kq⟩;rw [wpE] at h;exact ⟨σ',Z,G,_,rs,S,h,fun xs vs Z1 G1 H1 l1 s1 S1 r1 q1=>⟨xs,Z1,G1,Q',r1,S1,q1,kq.mono s1⟩⟩
mutual
theorem aEB:∀ {x:PV} {d:PyData},dat x=some d→d.hasDict=false
 | .non,d,h=>by simp only [dat] at h; cases h; rfl
 | .bl _,d,h=>by simp only [dat] at h; cases h; rfl
 | .int _,d,h=>by simp only [dat] at h; cases h; rfl
 | .str _,d,h=>by simp only [dat] at h; cases h; rfl
 | .tup xs,d,h=>by
   simp only [dat] at h;split at h
   · rename_i ds e; cases h; unfold PyData.hasDict; exact dats_nd e
   · cases h
 | .lst xs,d,h=>by
   simp only [dat] at h;split at h
   · rename_i ds e; cases h; unfold PyData.hasDict; exact dats_nd e
   · cases h
 | .scr _,d,h=>by simp [dat] at h
 | .ob _ _ _,d,h=>by simp [dat] at h
 | .ref _,d,h=>by simp [dat] at h
 | .ty _,d,h=>by simp [dat] at h
 | .cl _,d,h=>by simp [dat] at h
 | .fn _,d,h=>by simp [dat] at h
 | .emp,d,h=>by simp [dat] at h
 | .dct _ _,d,h=>by simp [dat] at h
theorem dats_nd:∀ {xs:List PV} {ds:List PyData},jB xs=some ds→PyData.hasDictAll ds=false
 | [],ds,h=>by simp only [jB] at h; cases h; rfl
 | x :: xs,ds,h=>by
   simp only [jB] at h;split at h
   · rename_i d ds' e1 e2;cases h;unfold PyData.hasDictAll;rw [aEB e1,dats_nd e2]; rfl
   · cases h
end
end
section
variable {X:Cx} {E:Ev} {T:Tb} {k:Nat} {F H Z:Hp} {G:Gh}
mutual
theorem aDV {pins:List (Addr×Obj)} {σ:L2.St} {s:Shared} (hK:E.K=X.K) (I:Inv X pins σ H s) (S:Sim E F H Z G):∀ {x y:PV} {v:V},pln x=true→pln y=true→RP E Z x v→RP E Z y v→x=y
 | x, y,v,hx,hy,rx,ry=>by
   cases x with
   | tup xs =>
     obtain ⟨a,vs,e,q,t⟩:=rx;subst e;cases y with
     | tup ys =>
       obtain ⟨a',vs',e',q',t'⟩:=ry;cases e';have e:=I.tuple_inj (hK▸bY S.z q) (hK▸bY S.z q');subst e;rw [rps_inj hK I S (by unfold pln at hx; exact hx) (by unfold pln at hy; exact hy) t t']
     | _=>first | (cases ry; done) | (unfold pln at hy; cases hy)
   | _ =>first
     | (unfold pln at hx; cases hx; done)
     | (cases y with
       | tup ys=>obtain ⟨a',vs',e',q',t'⟩:=ry; rw [e'] at rx; cases rx
       | _=>first | (unfold pln at hy; cases hy; done) | (have h1:=(show v=_ from rx).symm.trans (show v=_ from ry); cases h1; rfl) | (have h1:=(show v=_ from rx).symm.trans (show v=_ from ry); cases h1))
theorem rps_inj {pins:List (Addr×Obj)} {σ:L2.St} {s:Shared} (hK:E.K=X.K) (I:Inv X pins σ H s) (S:Sim E F H Z G):∀ {xs ys:List PV} {vs:List V},QN xs=true→QN ys=true→RPs E Z xs vs→RPs E Z ys vs→xs=ys
 | [],[],_,_,_,_,_=>rfl
 | [],y :: ys,vs,_,_,rx,ry=>by
   obtain ⟨v,r,e,_⟩:=ry;rw [e] at rx; cases rx
 | x :: xs,[],vs,_,_,rx,ry=>by
   obtain ⟨v,r,e,_⟩:=rx;rw [e] at ry; cases ry
 | x :: xs,y :: ys,vs,hx,hy,rx,ry=>by
   obtain ⟨v,r,e,r1,r2⟩:=rx;obtain ⟨v',r',e',r1',r2'⟩:=ry;subst e;cases e';unfold QN at hx hy;rw [Bool.and_eq_true] at hx hy;rw [aDV hK I S hx.1 hy.1 r1 r1',rps_inj hK I S hx.2 hy.2 r2 r2']
end
variable {a b:Expr} {pos:Pos}
end
section
variable {X:Cx} {E:Ev} {T:Tb} {k:Nat} {pos:Pos} {a b c e:Expr}
theorem AM {i:Nat} {x:Str} (hN:X.N.Nodup) (hi:X.N[i]? =some x) (hx:Loc X.env.scope x) (hf:X.fn x=true∨X.env.scope.names.lookup x=some .local):JG X E (.Name x pos) (wpG T (.gn i)):=fun F =>
 (LN hN hi hx hf).imp <|by
   rintro v σ H Q ⟨x,σ',Z,G,Q',r,rs,S,h,kq⟩;rw [wpG] at h;exact kq _ _ _ _ _ (aM.refl Z) S (rs.set r i) h
theorem aAP:JGs X E [] (fP T .nil):=fun F=>PGs.imp aBj <|by
 rintro vs σ H Q ⟨xs,σ',Z,G,Q',r,rs,S,h,kq⟩;rw [fP] at h;obtain ⟨e,h⟩:=h;subst e;exact ⟨r,kq _ _ _ _ _ (aM.refl Z) S rs h⟩
theorem TY {e:Expr} {es:List Expr} {a' b':CE} (h1:JG X E e (wpG T a')) (h2:JGs X E es (fP T b')) (hs:(assignEach (e :: es) X.env).map (·.2)=assign e X.env :: (assignEach es X.env).map (·.2)):JGs X E (e :: es) (fP T (.cons a' b')):=fun F =>
 PGs.imp (RQ (h1 F) (h2 F) hs) <|by
   rintro vs σ H Q ⟨xs,σ',Z,G,Q',r,rs,S,h,kq⟩;rw [fP] at h;obtain ⟨x,t,e,h⟩:=h;subst e;obtain ⟨v,u,e,r1,r2⟩:=r;exact ⟨v,u,e,x,σ',Z,G,_,r1,rs,S,h,fun σ1 σ2 Z1 G1 H1 s1 S1 rs1 q1=>⟨t,σ1,Z1,G1,Q',r2.mono s1,rs1,S1,q1,kq.mono s1⟩⟩
theorem YK {es:List Expr} {x1 n:Nat} {gs:CE} (P:Pl X E T k) (h40:40≤k) (h:JGs X E es (fP T gs)) (hn:(assignEach es X.env).length=n) (hst:(assignEach es X.env).findIdx? (·.1)=none):JG X E (.Tuple es x1 pos) (wpG T (.gt n gs)):=fun F =>
 (aDh (P.calm h40) (h F) hn hst).imp <|by
   rintro v σ H Q ⟨x,σ',Z,G,Q',r,rs,S,h,kq⟩;rw [wpG] at h;obtain ⟨xs,e,hl,h⟩:=h;subst e;obtain ⟨a,vs,e,ha,t⟩:=fN S r;exact ⟨a,vs,e,P.hK▸ha,by rw [←t.length]; exact hl,xs,σ',Z,G,Q',t,rs,S,h,kq⟩
theorem aFl {es:List Expr} {x1 n:Nat} {gs:CE} (P:Pl X E T k) (h40:40≤k) (h:JGs X E es (fP T gs)) (hn:(assignEach es X.env).length=n) (hst:(assignEach es X.env).findIdx? (·.1)=none):JG X E (.Tuple es x1 pos) (wpG T (.gl n gs)):=fun F =>
 (aDM (P.calm h40) (h F) hn hst).imp <|by
   rintro v σ H Q ⟨x,σ',Z,G,Q',r,rs,S,h,kq⟩;rw [wpG] at h;obtain ⟨xs,e,hl,h⟩:=h;obtain ⟨a,vs,e,ha,t⟩:=cV (xs:=xs) S r e;exact ⟨a,vs,e,ha,by rw [←t.length]; exact hl,xs,σ',Z,G,Q',t,rs,S,h,kq⟩
def vN (E:Ev) (J:It) (Z:Hp) (chk:Gh→Prop) (xs:List PV):Prop:= ∀ F (i:Nat) Z1 G1 H1,aM Z Z1→Sim E F H1 Z1 G1→chk G1→
 (∀ x,xs[i]? =some x→J.go i H1∧∀ v H2,J.yld i H1 v H2→∃ Z2,aM Z1 Z2∧Sim E F H2 Z2 G1∧RP E Z2 x v)∧(i=xs.length→J.stop i H1)
def aIV (E:Ev) (F:Hp) (t:PTI):TI:=fun σ H R=>∃ σ' Z G R',RSt E Z σ' σ∧Sim E F H Z G∧t σ' G R'∧∀ J chk xs Z1 G1 H1,aM Z Z1→Sim E F H1 Z1 G1→vN E J Z1 chk xs→R' chk xs G1→R J H1
def JI (X:Cx) (E:Ev) (tg iter:Expr) (t:PTI):Prop:= ∀ F,PI X tg iter (aIV E F t)
theorem aF4 {tg l:Expr} {tl:TE} (hl:PE X l tl):PI X tg l (fun σ H R=>tl σ H fun x H1=>∃ a,x= .ref a∧(((∃ xs,SqL X.K H1 a xs)∧R (Itl X.K a) H1)∨((∃ xs,SqT X.K H1 a xs)∧R (Itt X.K a) H1))):=by
 intro pins s σ H R I h;have hw:=hl pins s σ H _ I h;refine thn hw fun v s1 zz=>?_;obtain ⟨x,H1,I1,r1,a,e,q1⟩:=zz;subst e;have r1':v= .ref a:=r1;subst r1';rcases q1 with ⟨⟨xs,hq⟩,q⟩ | ⟨⟨xs,hq⟩,q⟩
 · obtain ⟨its,rv,p,hz⟩:=I1.list hq;refine wpAny_pyIter_list p.isList ?_;refine ⟨s1.heap.objs.size,[s1.heap.objs.size],_,_,H1,rfl,I1.kept (t':=s1.toks) fun b o e=>wEq _ e,NF a _,⟨_,wGq _ rfl,rfl,rfl⟩,fun b hb=>?_,q⟩;have e:b=s1.heap.objs.size:=by simpa using hb
   subst e;exact I1.fpOk (Nat.le_refl _) (I1.hok.fresh (Nat.le_refl _))
 · obtain ⟨its,rv,p,hz⟩:=I1.tuple hq;refine wpAny_pyIter_tuple (show s1.heap.IsTuple a its.toArray from p) ?_;refine ⟨s1.heap.objs.size,[s1.heap.objs.size],_,_,H1,rfl,I1.kept (t':=s1.toks) fun b o e=>wEq _ e,IS a _,⟨_,wGq _ rfl,rfl,rfl⟩,fun b hb=>?_,q⟩;have e:b=s1.heap.objs.size:=by simpa using hb
   subst e;exact I1.fpOk (Nat.le_refl _) (I1.hok.fresh (Nat.le_refl _))
theorem BA {a:Addr} {Z:Hp} {chk:Gh→Prop} {xs:List PV} (h:∀ F Z1 G1 H1,aM Z Z1→Sim E F H1 Z1 G1→chk G1→∃ vs,SqL E.K H1 a vs∧RPs E Z1 xs vs):vN E (Itl E.K a) Z chk xs:=by
 intro F i Z1 G1 H1 s1 S1 c1;obtain ⟨vs,hs,t⟩:=h F Z1 G1 H1 s1 S1 c1;refine ⟨fun x ex=>?_,fun e=>⟨vs,hs,by rw [e,t.length]; exact Nat.le_refl _⟩⟩;obtain ⟨v,ev,rv⟩:=t.get ex;refine ⟨⟨vs,v,hs,ev⟩,fun w H2 zz=>?_⟩;obtain ⟨e,y⟩:=zz;subst e;have:=y vs hs;rw [ev] at this;cases this;exact ⟨Z1,aM.refl _,S1,rv⟩
theorem aDE {a:Addr} {Z:Hp} {chk:Gh→Prop} {xs:List PV} (h:∀ F Z1 G1 H1,aM Z Z1→Sim E F H1 Z1 G1→chk G1→∃ vs,SqT E.K H1 a vs∧RPs E Z1 xs vs):vN E (Itt E.K a) Z chk xs:=by
 intro F i Z1 G1 H1 s1 S1 c1;obtain ⟨vs,hs,t⟩:=h F Z1 G1 H1 s1 S1 c1;refine ⟨fun x ex=>?_,fun e=>⟨vs,hs,by rw [e,t.length]; exact Nat.le_refl _⟩⟩;obtain ⟨v,ev,rv⟩:=t.get ex;refine ⟨⟨vs,v,hs,ev⟩,fun w H2 zz=>?_⟩;obtain ⟨e,y⟩:=zz;subst e;have:=y vs hs;rw [ev] at this;cases this;exact ⟨Z1,aM.refl _,S1,rv⟩
theorem aEQ {a:Addr} {Z:Hp} {vs:List V} {xs:List PV} (hz:SqT E.K Z a vs) (t:RPs E Z xs vs):vN E (Ite E.K a) Z (fun _=>True) (DW xs):=by
 intro F i Z1 G1 H1 s1 S1 _;have hs:=bY S1.z (bY s1 hz);have hl:(DW xs).length=xs.length:=by unfold DW; rw [List.length_map,List.length_zipIdx]
 refine ⟨fun x ex=>?_,fun e=>⟨vs,hs,by rw [e,hl,t.length]; exact Nat.le_refl _⟩⟩;unfold DW at ex;rw [List.getElem?_map,List.getElem?_zipIdx] at ex;cases ey:xs[i]? with
 | none=>rw [ey] at ex; cases ex
 | some y =>
   rw [ey] at ex;have ex':x= .tup [.int ((0 + i:Nat):Int),y]:=by
     have:=Option.some.inj ex;exact this.symm
   obtain ⟨v,ev,rv⟩:=t.get ey;refine ⟨⟨vs,v,hs,ev⟩,fun w H2 zz=>?_⟩;obtain ⟨p,u,e,n,e2,y'⟩:=zz;subst e e2;have:=y' vs hs;rw [ev] at this;cases this;refine ⟨upd Z1 p (.tup [.int i,v]),bG (S1.zn n) _,S1.fz n, ?_⟩;rw [ex',Nat.zero_add];exact lI (xs:=[.int (i:Int),y]) (S1.zn n) ⟨_,_,rfl,bD,_,_,rfl,rv.mono s1,rfl⟩
theorem UI {lo:Int} {n:Nat} {Z:Hp}:vN E (Itr lo n) Z (fun _=>True) (rW lo n):=by
 intro F i Z1 G1 H1 s1 S1 _;have hl:(rW lo n).length=n:=by unfold rW; rw [List.length_map,List.length_range]
 refine ⟨fun x ex=>?_,fun e=>by rw [hl] at e; exact Nat.le_of_eq e.symm⟩;have hi:i < n:=by
   have:=(List.getElem?_eq_some_iff.mp ex).1;rw [hl] at this; exact this
 have ex':x= .int (lo + i):=by
   unfold rW at ex;rw [List.getElem?_map,List.getElem?_range hi] at ex;exact (Option.some.inj ex).symm
 refine ⟨hi,fun w H2 zz=>?_⟩;obtain ⟨e,y⟩:=zz;subst e y;exact ⟨Z1,aM.refl _,S1,by rw [ex']; exact bD⟩
theorem AZ {tg:Expr} {a':CE} (P:Pl X E T k) (ha:JE X E a (wpE T a')):JI X E tg a (wpI T (.isq a')):=fun F =>
 (aF4 (ha F)).imp <|by
   rintro σ H R ⟨σ',Z,G,R',rs,S,h,kr⟩;rw [wpI] at h;refine ⟨σ',Z,G,_,rs,S,h,fun x v Z1 G1 H1 s1 S1 r1 q1=>?_⟩;unfold TK at q1;split at q1
   · obtain ⟨a,vs,e,ha,t⟩:=r1;have ok:vN E (Itt E.K a) Z1 (fun _=>True) _:=aDE fun F2 Z2 G2 H2 s2 S2 _=>⟨vs,bY S2.z (bY s2 ha),t.mono s2⟩;exact ⟨a,e,.inr ⟨⟨vs,P.hK▸bY S1.z ha⟩,P.hK▸kr _ _ _ _ _ _ s1 S1 ok q1⟩⟩
   · obtain ⟨a,vs,e,ha,t⟩:=r1;have ok:vN E (Itl E.K a) Z1 (fun _=>True) _:=BA fun F2 Z2 G2 H2 s2 S2 _=>⟨vs,SqL.of (S2.z _ _ (s2 _ _ ha)),t.mono s2⟩;exact ⟨a,e,.inl ⟨⟨vs,SqL.of (S1.z _ _ ha)⟩,P.hK▸kr _ _ _ _ _ _ s1 S1 ok q1⟩⟩
   · obtain ⟨a,e,ha⟩:=r1;have ok:vN E (Itl E.K a) Z1 (fun _=>True) _:=BA fun F2 Z2 G2 H2 s2 S2 _=>⟨_,S2.z.seq (s2.seq ha),RPs.ofInts _⟩;exact ⟨a,e,.inl ⟨⟨_,P.hK▸S1.z.seq ha⟩,P.hK▸kr _ _ _ _ _ _ s1 S1 ok q1⟩⟩
   · rename_i a;obtain ⟨xs,hG,q1⟩:=q1;obtain ⟨_,o',hp,vs,e',t⟩:=S1.g _ _ hG;subst e';have ok:vN E (Itl E.K a) Z1 (fun G'=>G' a=some (.lst xs)) xs:=BA fun F2 Z2 G2 H2 s2 S2 c2=>by
       obtain ⟨_,o',hp,vs,e',t⟩:=S2.g _ _ c2;subst e';exact ⟨vs,SqL.of hp,t⟩
     exact ⟨a,r1,.inl ⟨⟨vs,SqL.of hp⟩,P.hK▸kr _ _ _ _ _ _ s1 S1 ok q1⟩⟩
   · exact q1.elim
theorem aAa {tg:Expr} {p:Pos} {a':CE} (hg:Gl X "range") (hm:X.mg "range"=none) (ha:JE X E a (wpE T a')) (hs:starEach [a] X.env=[(false,eval a X.env)]):JI X E tg (.Call (.Name "range" p) [a] [] pos) (wpI T (.irg (.cons a' .nil))):=fun F =>
 (PJ hg hm (dM (ha F) hW hs) hs).imp <|by
   rintro σ H R ⟨σ',Z,G,R',rs,S,h,kr⟩;rw [wpI,wpL,wpL] at h;refine ⟨σ',Z,G,_,rs,S,h,fun x v Z1 G1 H1 s1 S1 r1 q1=>?_⟩;rcases q1 with ⟨j,e,h1,h2,q⟩ | ⟨i,j,e,_⟩
   · cases e;exact ⟨j,by rw [show v= .int j from r1],h1,h2,kr _ _ _ _ _ _ s1 S1 UI q⟩
   · cases e
theorem aAb {tg:Expr} {p:Pos} {a' b':CE} (hg:Gl X "range") (hm:X.mg "range"=none) (ha:JE X E a (wpE T a')) (hb:JE X E b (wpE T b')) (hs:starEach [a,b] X.env=[(false,eval a X.env),(false,eval b X.env)]) (hs2:starEach [b] X.env=[(false,eval b X.env)]) :
   JI X E tg (.Call (.Name "range" p) [a,b] [] pos) (wpI T (.irg (.cons a' (.cons b' .nil)))):=fun F =>
 (PC hg hm (dM (ha F) (dM (hb F) hW hs2) (by rw [hs,hs2])) hs hs2).imp <|by
   rintro σ H R ⟨σ',Z,G,R',rs,S,h,kr⟩;rw [wpI,wpL,wpL,wpL] at h;refine ⟨σ',Z,G,_,rs,S,h,fun x v Z1 G1 H1 s1 S1 r1 q1=>⟨σ',Z1,G1,_,rs.mono s1,S1,q1,fun y u Z2 G2 H2 s2 S2 r2 q2=>?_⟩⟩;rcases q2 with ⟨j,e,h1,h2,q⟩ | ⟨i,j,e,hb,q⟩
   · cases e
   · cases e;exact ⟨i,j,by rw [show v= .int i from r1,show u= .int j from r2],hb,kr _ _ _ _ _ _ (s1.trans s2) S2 UI q⟩
theorem aD3 {es:List Expr} {x1:Nat} {tp p:Pos} {a':CE} (P:Pl X E T k) (hg:Gl X "enumerate") (hm:X.mg "enumerate"=none) (ha:JE X E a (wpE T a')) (hs:starEach [a] X.env=[(false,eval a X.env)]):JI X E (.Tuple es x1 tp) (.Call (.Name "enumerate" p) [a] [] pos) (wpI T (.ien a')):=fun F =>
 (aBd hg hm (dM (ha F) hW hs) hs).imp <|by
   rintro σ H R ⟨σ',Z,G,R',rs,S,h,kr⟩;rw [wpI] at h;refine ⟨σ',Z,G,_,rs,S,h,fun x v Z1 G1 H1 s1 S1 r1 zz=>?_⟩;obtain ⟨xs,e,q1⟩:=zz;subst e;obtain ⟨a,vs,e,ha,t⟩:=r1;exact ⟨a,by rw [e],⟨vs,P.hK▸bY S1.z ha⟩,P.hK▸kr _ _ _ _ _ _ s1 S1 (aEQ ha t) q1⟩
def sY (E:Ev) (Z:Hp) (b:Bool) (l:Addr) (us:List V):Prop:=if b=true then SqT E.K Z l us else Z l=some (.lst us)
theorem sY.mono {Z Z':Hp} {b:Bool} {l:Addr} {us:List V} (s:aM Z Z') (h:sY E Z b l us):sY E Z' b l us:=by
 unfold sY at *;split
 · rename_i e; rw [if_pos e] at h; exact bY s h
 · rename_i e; rw [if_neg e] at h; exact s _ _ h
theorem sY.at_ {Z:Hp} {b:Bool} {l:Addr} {us:List V} (h:sY E Z b l us):sN E.K Z b l us:=by
 unfold sY at h;unfold sN;split
 · rename_i e; rw [if_pos e] at h; exact h
 · rename_i e; rw [if_neg e] at h; exact SqL.of h
theorem MW {Z:Hp}:∀ {xs:List PV} {vs:List V} {yss:List (List PV)},RPs E Z xs vs→xs.map LG=yss.map some→∃ (ls:List (Bool×Addr)) (xss:List (List V)),vs=ls.map (fun p=>V.ref p.2)∧ls.length=yss.length∧xss.length=yss.length∧
   (∀ (j:Nat) (p:Bool×Addr) (us:List V),ls[j]? =some p→xss[j]? =some us→sY E Z p.1 p.2 us)∧∀ (j:Nat) (ys:List PV) (us:List V),yss[j]? =some ys→xss[j]? =some us→RPs E Z ys us
 | [],vs,yss,r,h=>by
   have e:vs=[]:=r;subst e;cases yss with
   | nil=>exact ⟨[],[],rfl,rfl,rfl,(fun j p us h _=>by simp at h),fun j ys us h _=>by simp at h⟩
   | cons a b=>cases h
 | x :: xs,vs,yss,r,h=>by
   obtain ⟨v,vr,e,rx,rr⟩:=r;subst e;cases yss with
   | nil=>cases h
   | cons ys yss =>
     rw [List.map_cons,List.map_cons] at h;injection h with h1 h2;obtain ⟨ls,xss,e,l1,l2,ha,hb⟩:=MW rr h2;have key:∃ (p:Bool×Addr) (us:List V),v= .ref p.2∧sY E Z p.1 p.2 us∧RPs E Z ys us:=by
       unfold LG at h1;split at h1
       · have e:=Option.some.inj h1;subst e;obtain ⟨a,us,e,q,t⟩:=rx;exact ⟨(true,a),us,e,by unfold sY; rw [if_pos rfl]; exact q,t⟩
       · have e:=Option.some.inj h1;subst e;obtain ⟨a,us,e,q,t⟩:=rx;exact ⟨(false,a),us,e,by unfold sY; rw [if_neg Bool.false_ne_true]; exact q,t⟩
       · cases h1
     obtain ⟨p,us,ev,k1,k2⟩:=key;refine ⟨p :: ls,us :: xss,by rw [ev,e]; rfl,by simp [l1],by simp [l2],fun j q ws hq hw=>?_,fun j zs ws hq hw=>?_⟩
     · cases j with
       | zero=>cases hq; cases hw; exact k1
       | succ j=>exact ha j q ws hq hw
     · cases j with
       | zero=>cases hq; cases hw; exact k2
       | succ j=>exact hb j zs ws hq hw
theorem YE {Z:Hp} {i:Nat}:∀ {yss:List (List PV)} {xss:List (List V)},xss.length=yss.length→(∀ (j:Nat) (ys:List PV) (us:List V),yss[j]? =some ys→xss[j]? =some us→RPs E Z ys us)→(∀ ys∈yss,i < ys.length)→
   ∃ vs,vs.length=xss.length∧(∀ (j:Nat) (us:List V),xss[j]? =some us→us[i]? =vs[j]?)∧RPs E Z (yss.map fun ys=>ys.getD i .non) vs
 | [],xss,l,_,_=>by
   have e:xss=[]:=List.length_eq_zero_iff.mp l;subst e;exact ⟨[],rfl,(fun j us h=>by simp at h),rfl⟩
 | ys :: yss,[],l,_,_=>by cases l
 | ys :: yss,us :: xss,l,h,hi=>by
   obtain ⟨vs,a,b,c⟩:=YE (yss:=yss) (xss:=xss) (by simpa using l) (fun j zs ws=>h (j + 1) zs ws) fun zs hz=>hi zs (wCq _ hz);have hy:=hi ys (wDq ..);have ey:ys[i]? =some (ys.getD i .non):=by rw [List.getD_eq_getElem?_getD,wHq hy]; rfl
   obtain ⟨v,ev,rv⟩:=(h 0 ys us rfl rfl).get ey;refine ⟨v :: vs,by simp [a],fun j ws hw=>?_,v,vs,rfl,rv,c⟩;cases j with
   | zero=>cases hw; exact ev
   | succ j=>exact b j ws hw
theorem aDm {n:Nat} {Z:Hp} {rs:List LZ.Zr} {ls:List (Bool×Addr)} {xss:List (List V)} {yss:List (List PV)} (er:rs.map (fun r=>(r.b,r.l))=ls) (l1:ls.length=yss.length) (l2:xss.length=yss.length) (hne:yss≠ [])
   (ha:∀ (j:Nat) (p:Bool×Addr) (us:List V),ls[j]? =some p→xss[j]? =some us→sY E Z p.1 p.2 us) (hb:∀ (j:Nat) (ys:List PV) (us:List V),yss[j]? =some ys→xss[j]? =some us→RPs E Z ys us) (hn:(∀ ys∈yss,ys.length=n)∨∃ a b,yss=[a,b]∧b.length=n∧n < a.length) :
   vN E (Itz E.K rs) Z (fun _=>True) (FM n yss):=by
 intro F i Z1 G1 H1 s1 S1 _;have lr:rs.length=yss.length:=by rw [←l1,←er,List.length_map]
 have RA:tY E.K H1 rs xss:=by
   refine ⟨by omega,fun j r us hr hu=>?_⟩;have hp:ls[j]? =some (r.b,r.l):=by rw [←er,List.getElem?_map,hr]; rfl
   exact (((ha j _ us hp hu).mono s1).mono S1.z).at_
 have hl:(FM n yss).length=n:=by unfold FM; rw [List.length_map,List.length_range]
 refine ⟨fun x ex=>?_,fun e=>?_⟩
 · have hi:i < n:=by have:=(List.getElem?_eq_some_iff.mp ex).1; rw [hl] at this; exact this
   have ex':x= .tup (yss.map fun ys=>ys.getD i .non):=by
     unfold FM at ex;rw [List.getElem?_map,List.getElem?_range hi] at ex;exact (Option.some.inj ex).symm
   obtain ⟨vs,a,b,c⟩:=YE (i:=i) l2 (fun j ys us h1 h2=>(hb j ys us h1 h2).mono s1) fun ys hy=>by
     rcases hn with hn | ⟨u,v,rfl,h1,h2⟩
     · rw [hn ys hy]; exact hi
     · simp only [List.mem_cons,List.not_mem_nil,or_false] at hy;rcases hy with rfl | rfl <;> omega
   refine ⟨⟨xss,vs,RA,by omega,b⟩,fun w H2 ⟨p,ws,e,nn,e2,wl,y'⟩=>?_⟩;subst e e2;have ew:ws=vs:=by
     refine List.ext_getElem? fun j=>?_;by_cases hj:j < xss.length
     · have e:=wHq hj;rw [←y' xss RA j _ e,←b j _ e]
     · rw [List.getElem?_eq_none (by omega),List.getElem?_eq_none (by omega)]
   subst ew;refine ⟨upd Z1 p (.tup ws),bG (S1.zn nn) _,S1.fz nn, ?_⟩;rw [ex'];exact lI (S1.zn nn) c
 · rw [hl] at e;rcases hn with hn | ⟨u,v,rfl,h1,h2⟩
   · cases xss with
     | nil=>exact absurd (List.length_eq_zero_iff.mp l2.symm) hne
     | cons us t =>
       refine .inl ⟨us,t,RA, ?_⟩;cases yss with
       | nil=>exact absurd rfl hne
       | cons ys yt=>rw [e,←hn ys (wDq ..),(hb 0 ys us rfl rfl).length]; exact Nat.le_refl _
   · match xss,l2,RA,hb with
     | [us,ws],_,RA,hb =>
       have q1:=(hb 0 u us rfl rfl).length;have q2:=(hb 1 v ws rfl rfl).length;exact .inr ⟨us,ws,[],RA,by omega,by omega⟩
theorem aDS {es0:List Expr} {x1:Nat} {tp p:Pos} {e:Expr} {es:List Expr} {es':CE} (P:Pl X E T k) (hg:Gl X "zip") (hm:X.mg "zip"=none) (ha:JA X E (e :: es) (wpL T es')) (hs:starEach (e :: es) X.env=(false,eval e X.env) :: starEach es X.env) (hpl:(backTo pos (starEach es X.env)).any (·.1)=false) :
   JI X E (.Tuple es0 x1 tp) (.Call (.Name "zip" p) (e :: es) [] pos) (wpI T (.izp es')):=fun F =>
 (aC8 hg hm (ha F) hs hpl).imp <|by
   rintro σ H R ⟨σ',Z,G,R',rs,S,h,kr⟩;rw [wpI] at h;refine ⟨σ',Z,G,_,rs,S,h,fun xs vs Z1 G1 H1 l0 s1 S1 r1 zz=>?_⟩;obtain ⟨hl,n,yss,er,hn,q1⟩:=zz;obtain ⟨ls,xss,e,l1,l2,hA,hB⟩:=MW r1 er;have ly:yss.length=xs.length:=by have:=congrArg List.length er; simpa using this.symm
   refine ⟨ls,e,by omega,⟨xss,by omega,fun j p us h1 h2=>P.hK▸((hA j p us h1 h2).mono S1.z).at_⟩,fun zs ez=>P.hK▸kr _ _ _ _ _ _ s1 S1 (aDm ez l1 l2 (by intro z; rw [z] at ly; simp at ly; omega) hA hB hn) q1⟩
theorem aFa {tg iter:Expr} {body:List Stmt} {g' i':CE} {b':CS} (P:Pl X E T k) (h40:40≤k) (hp:PassesOwn (model X.prog X.w) X.A X.env X.xe) (hi:JI X E tg iter (wpI T i')) (hg:JG X E tg (wpG T g')) (hb:JSs X E body (wpS T b'))
   (hs:∀ x,foldedSetIterable iter X.env x=pure x):JS X E (.For tg iter body [] pos) (wpS T (.fr g' i' b')):=fun F =>
 (aFQ hp (P.calm h40) (hi F) (hg F) (hb F) hs).imp <|by
   rintro D σ H ⟨σ',Z,G,D',rs,S,h,kd⟩;rw [wpS] at h;refine ⟨σ',Z,G,_,rs,S,h,fun J chk xs Z1 G1 H1 s1 S1 ok q=>?_⟩;refine ⟨fun i m σ H=>m=xs.length - i∧i≤xs.length∧∃ σ' Z2 G2,aM Z1 Z2∧Sim E F H Z2 G2∧RSt E Z2 σ' σ∧rY chk (wpG T g') (wpS T b') D' (xs.drop i) σ' G2,⟨xs.length,by simp,Nat.zero_le _,σ',Z1,G1,aM.refl _,S1,rs.mono s1,q⟩, ?_⟩;rintro i m σ2 H2 ⟨rfl,hi,σ3,Z2,G2,s2,S2,rs2,q2⟩;have sz:=s1.trans s2;by_cases hlt:i < xs.length
   · have hd:xs.drop i=xs[i] :: xs.drop (i + 1):=List.drop_eq_getElem_cons hlt;rw [hd] at q2;unfold rY at q2;obtain ⟨c2,q2⟩:=q2;obtain ⟨go,yl⟩:=(ok F i Z2 G2 H2 s2 S2 c2).1 xs[i] (by simp [hlt]);refine .inr ⟨go,fun σ4 H4=>∃ σ5 Z4 G4,aM Z2 Z4∧Sim E F H4 Z4 G4∧RSt E Z4 σ5 σ4∧rY chk (wpG T g') (wpS T b') D' (xs.drop (i + 1)) σ5 G4,by rintro σ4 H4 ⟨σ5,Z4,G4,s4,S4,rs4,q4⟩;exact ⟨xs.length - (i + 1),by omega,rfl,hlt,σ5,Z4,G4,s2.trans s4,S4,rs4,q4⟩,fun v H3 y=>?_⟩;obtain ⟨Z3,s3,S3,r3⟩:=yl v H3 y;refine ⟨xs[i],σ3,Z3,G2,_,r3,rs2.mono s3,S3,q2,fun σ6 σ7 Z5 G5 H5 s5 S5 rs5 q5=>⟨σ6,Z5,G5,_,rs5,S5,q5, ?_⟩⟩;have s35:=s3.trans s5;exact ⟨fun σ8 σ9 Z6 G6 H6 s6 S6 rs6 q6=>⟨σ8,Z6,G6,s35.trans s6,S6,rs6,q6⟩,kd.rt.mono (sz.trans s35),kd.nx.mono (sz.trans s35),fun σ8 σ9 Z6 G6 H6 s6 S6 rs6 q6=>⟨σ8,Z6,G6,s35.trans s6,S6,rs6,q6⟩⟩
   · have e:i=xs.length:=by omega
     rw [e,List.drop_length] at q2;unfold rY at q2;obtain ⟨c2,q2⟩:=q2;exact .inl ⟨(ok F i Z2 G2 H2 s2 S2 c2).2 e,kd.nx _ _ _ _ _ sz S2 rs2 q2⟩
theorem aHk {body:List Stmt} {c':CE} {b':CS} (hp:PassesOwn (model X.prog X.w) X.A X.env X.xe) (hc:JT X E c (wpT T c')) (hb:JSs X E body (wpS T b')):JS X E (.While c body [] pos) (wpS T (.wh c' b')):=fun F =>
 (VM hp (hc F) (hb F)).imp <|by
   rintro D σ H ⟨σ',Z,G,D',rs,S,h,kd⟩;rw [wpS] at h;obtain ⟨W,⟨m0,w0⟩,turn⟩:=h;refine ⟨fun m σ H=>∃ σ' Z2 G2,aM Z Z2∧Sim E F H Z2 G2∧RSt E Z2 σ' σ∧W m σ' G2,⟨m0,σ',Z,G,aM.refl _,S,rs,w0⟩, ?_⟩;rintro m σ2 H2 ⟨σ3,Z2,G2,s2,S2,rs2,w2⟩;refine ⟨σ3,Z2,G2,_,rs2,S2,turn m σ3 G2 w2,fun d Z3 G3 H3 s3 S3 q3=>?_⟩;have s23:=s2.trans s3;dsimp only;cases d with
   | true =>
     rw [if_pos rfl] at q3 ⊢;refine ⟨fun σ4 H4=>∃ σ5 Z4 G4 m',m' < m∧aM Z Z4∧Sim E F H4 Z4 G4∧RSt E Z4 σ5 σ4∧W m' σ5 G4,by rintro σ4 H4 ⟨σ5,Z4,G4,m',lt,s4,S4,rs4,w4⟩;exact ⟨m',lt,σ5,Z4,G4,s4,S4,rs4,w4⟩,σ3,Z3,G3,_,rs2.mono s3,S3,q3, ?_⟩;exact ⟨by rintro σ8 σ9 Z6 G6 H6 s6 S6 rs6 ⟨m',lt,w6⟩;exact ⟨σ8,Z6,G6,m',lt,s23.trans s6,S6,rs6,w6⟩,kd.rt.mono s23,kd.nx.mono s23,by rintro σ8 σ9 Z6 G6 H6 s6 S6 rs6 ⟨m',lt,w6⟩;exact ⟨σ8,Z6,G6,m',lt,s23.trans s6,S6,rs6,w6⟩⟩
   | false =>
     rw [if_neg Bool.false_ne_true] at q3 ⊢;exact kd.nx _ _ _ _ _ s23 S3 (rs2.mono s3) q3
theorem aEl {st:Stmt} {cR:List Stmt} {a' b':CS} (h1:JS X E st (wpS T a')) (h2:JSs X E cR (wpS T b')):JSs X E (st :: cR) (wpS T (.seq a' b')):=fun F =>
 PSs.imp (ZN (h1 F) (h2 F)) <|by
   rintro D σ H ⟨σ',Z,G,D',rs,S,h,kd⟩;rw [wpS] at h;exact ⟨σ',Z,G,_,rs,S,h,⟨fun σ1 σ2 Z1 G1 H1 s1 S1 rs1 q1=>⟨σ1,Z1,G1,D',rs1,S1,q1,kd.mono s1⟩,kd.rt,kd.bk,kd.ct⟩⟩
theorem aFp {st:Stmt} {a':CS} (h1:JS X E st (wpS T a')):JSs X E [st] (wpS T a'):=fun F=>aAW (h1 F)
theorem aDY:JSs X E [] (wpS T .nil):=fun F=>PSs.imp aBL <|by
 rintro D σ H ⟨σ',Z,G,D',rs,S,h,kd⟩;rw [wpS] at h;exact kd.nx _ _ _ _ _ (aM.refl Z) S rs h
theorem aAU:JS X E (.Pass pos) (wpS T .nil):=fun F=>aAS.imp <|by
 rintro D σ H ⟨σ',Z,G,D',rs,S,h,kd⟩;rw [wpS] at h;exact kd.nx _ _ _ _ _ (aM.refl Z) S rs h
theorem aGg {x:Str} {j:Nat} {pos':Pos}:JS X E (.Expr (.Constant (.str x) j pos) pos') (wpS T .nil):=fun F=>aDg.imp <|by
 rintro D σ H ⟨σ',Z,G,D',rs,S,h,kd⟩;rw [wpS] at h;exact kd.nx _ _ _ _ _ (aM.refl Z) S rs h
theorem aID {e':CE} (he:JE X E e (wpE T e')) (hs:swapsWith e none pos.line X.env=pure false):JS X E (.Expr e pos) (wpS T (.ex e')):=fun F =>
 (aBA (he F) hs).imp <|by
   rintro D σ H ⟨σ',Z,G,D',rs,S,h,kd⟩;rw [wpS] at h;exact ⟨σ',Z,G,_,rs,S,h,fun x v Z1 G1 H1 s1 S1 r1 q1=>kd.nx _ _ _ _ _ s1 S1 (rs.mono s1) q1⟩
theorem aFS {e':CE} (he:JE X E e (wpE T e')):JS X E (.Return (some e) pos) (wpS T (.ret e')):=fun F =>
 (aDc (he F)).imp <|by
   rintro D σ H ⟨σ',Z,G,D',rs,S,h,kd⟩;rw [wpS] at h;exact ⟨σ',Z,G,_,rs,S,h,kd.rt⟩
theorem aAz:JS X E (.Return none pos) (wpS T .retN):=fun F=>aAk.imp <|by
 rintro D σ H ⟨σ',Z,G,D',rs,S,h,kd⟩;rw [wpS] at h;exact kd.rt _ _ _ _ _ (aM.refl Z) S rM h
theorem aEr {st:Stmt}:JS X E st (wpS T .nev):=fun F=>YY.imp <|by
 rintro D σ H ⟨σ',Z,G,D',rs,S,h,kd⟩;rw [wpS] at h;exact h
theorem aAH {sts:List Stmt}:JSs X E sts (wpS T .nev):=fun F=>PSs.imp NA <|by
 rintro D σ H ⟨σ',Z,G,D',rs,S,h,kd⟩;rw [wpS] at h;exact h
theorem aHA {x y:List Stmt} {c':CE} {a' b':CS} (hc:JT X E c (wpT T c')) (ha:JSs X E x (wpS T a')) (hb:JSs X E y (wpS T b')):JS X E (.If c x y pos) (wpS T (.iff c' a' b')):=fun F =>
 (aG8 (hc F) (ha F) (hb F)).imp <|by
   rintro D σ H ⟨σ',Z,G,D',rs,S,h,kd⟩;rw [wpS] at h;refine ⟨σ',Z,G,_,rs,S,h,fun d Z1 G1 H1 s1 S1 q=>?_⟩;cases d with
   | true=>rw [if_pos rfl] at q ⊢; exact ⟨σ',Z1,G1,D',rs.mono s1,S1,q,kd.mono s1⟩
   | false=>rw [if_neg Bool.false_ne_true] at q ⊢; exact ⟨σ',Z1,G1,D',rs.mono s1,S1,q,kd.mono s1⟩
theorem aBS {F:Hp} {g' e':CE} {D:FN} {σ:L2.St} {H:Hp} (h:aGo E F (wpS T (.asg g' e')) D σ H):aEK (low E F (wpE T e')) (aF7 E F (wpG T g')) D σ H:=by
 obtain ⟨σ',Z,G,D',rs,S,h,kd⟩:=h;rw [wpS] at h;exact ⟨σ',Z,G,_,rs,S,h,fun x v Z1 G1 H1 s1 S1 r1 q1=>⟨x,σ',Z1,G1,_,r1,rs.mono s1,S1,q1,kd.nx.mono s1⟩⟩
theorem vF {tg:Expr} {g' e':CE} (he:JE X E e (wpE T e')) (hg:JG X E tg (wpG T g')) (hs:swapsWithSole [tg] e pos.line X.env=pure false) (hw:swappedStores [tg] e X.env=pure none) (h1:(assignEach [tg] X.env).map (·.2)=[assign tg X.env]) :
   JS X E (.Assign [tg] e pos) (wpS T (.asg g' e')):=fun F=>(SR (he F) (hg F) hs hw h1).imp fun D σ H h=>aBS h
theorem aDG {i j:Nat} {x y:Str} {a' b':CE} {px py pt pt2:Pos} {kt k2:Nat} (P:Pl X E T k) (h40:40≤k) (hN:X.N.Nodup) (hi:X.N[i]? =some x) (hj:X.N[j]? =some y) (hij:i≠j) (hx:X.env.scope.names.lookup x=some .local) (hy:X.env.scope.names.lookup y=some .local)
   (ha:JE X E a (wpE T a')) (hb:JE X E b (wpE T b')) (s1:starEach [a,b] X.env=(false,eval a X.env) :: starEach [b] X.env) (s2:starEach [b] X.env=(false,eval b X.env) :: starEach [] X.env)
   (hw:swappedStores [.Tuple [.Name x px,.Name y py] kt pt] (.Tuple [a,b] k2 pt2) X.env=pure (some [x,y])) (hs:swapsWithSole [.Tuple [.Name x px,.Name y py] kt pt] (.Tuple [a,b] k2 pt2) pos.line X.env=pure false) :
   JS X E (.Assign [.Tuple [.Name x px,.Name y py] kt pt] (.Tuple [a,b] k2 pt2) pos) (wpS T (.par i j a' b')):=fun F =>
 (aEY (P.calm h40) hN hi hj hij hx hy (dM (ha F) (dM (hb F) hW s2) s1) hw hs).imp <|by
   rintro D σ H ⟨σ',Z,G,D',rs,S,h,kd⟩;rw [wpS] at h;refine ⟨σ',Z,G,_,rs,S,h,fun x v Z1 G1 H1 s1 S1 r1 q1=>⟨σ',Z1,G1,_,rs.mono s1,S1,q1,fun y u Z2 G2 H2 s2 S2 r2 q2=>?_⟩⟩;exact ⟨v,u,rfl,kd.nx _ _ _ _ _ (s1.trans s2) S2 ((((rs.mono s1).mono s2).set (r1.mono s2) i).set r2 j) q2⟩
theorem aDj {o i:Expr} {pos':Pos} {o' i' e':CE} (he:JE X E e (wpE T e')) (ho:JE X E o (wpE T o')) (hi:JE X E i (wpE T i'))
   (ha:∀ v,assign (.Subscript o i pos') X.env v=(do
     let ov ←holding [v] (eval o X.env)
     let iv ←holding [v,ov] (eval i X.env)
     standAt pos'
     holding [v,ov,iv] (setItem ov iv v)
     release [v,ov,iv] []))
   (hs:swapsWithSole [.Subscript o i pos'] e pos.line X.env=pure false) (hw:swappedStores [.Subscript o i pos'] e X.env=pure none):JS X E (.Assign [.Subscript o i pos'] e pos) (wpS T (.sub o' i' e')):=fun F =>
 (SR (he F) (aFr (ho F) (hi F) (aAC (E:=E) (F:=F)) ha) hs hw rfl).imp <|by
   rintro D σ H ⟨σ',Z,G,D',rs,S,h,kd⟩;rw [wpS] at h;refine ⟨σ',Z,G,_,rs,S,h,fun v v' Z1 G1 H1 s1 S1 r1 q1=>⟨σ',Z1,G1,_,rs.mono s1,S1,q1,fun x x' Z2 G2 H2 s2 S2 r2 q2=>⟨σ',Z2,G2,_,(rs.mono s1).mono s2,S2,q2,fun y y' Z3 G3 H3 s3 S3 r3 q3=>?_⟩⟩⟩;have s13:=(s1.trans s2).trans s3;exact ⟨x,y,v,Z3,G3,_,r2.mono s3,r3,(r1.mono s2).mono s3,S3,q3,fun G4 H4 S4 q4=>kd.nx _ _ _ _ _ s13 S4 (rs.mono s13) q4⟩
theorem wV (f:Str) (v:V):∀ (ns:List Str) (vs:List V),ns.length=vs.length→jC f v (ns.zip vs)=(CZ f ns).zip (rB f v ns vs)∧(CZ f ns).length=(rB f v ns vs).length
 | [],[],_=>⟨rfl,rfl⟩
 | [],_ :: _,h=>by cases h
 | _ :: _,[],h=>by cases h
 | n :: ns,u :: us,h=>by
   obtain ⟨a,b⟩:=wV f v ns us (by simpa using h);rw [List.zip_cons_cons];unfold jC CZ rB;split
   · exact ⟨by rw [List.zip_cons_cons],by simpa using h⟩
   · exact ⟨by rw [List.zip_cons_cons,a],by simpa using b⟩
theorem AU {Z:Hp} {f:Str} {y:PV} {u:V} (r:RP E Z y u):∀ {ns:List Str} {xs:List PV} {vs:List V},RPs E Z xs vs→RPs E Z (rB f y ns xs) (rB f u ns vs)
 | [],_,_,_=>⟨u,[],rfl,r,rfl⟩
 | _ :: _,[],_,h=>by cases h; exact rfl
 | n :: ns,x :: xs,_,⟨v,t,e,r1,r2⟩=>by
   subst e;unfold rB;split
   · exact ⟨u,t,rfl,r,r2⟩
   · exact ⟨v,_,rfl,r1,AU r r2⟩
theorem aGf {o:Expr} {f:Str} {pos':Pos} {o' e':CE} (P:Pl X E T k) (ho:JE X E o (wpE T o')) (he:JE X E e (wpE T e')) (hs:swapsWith e (some (.Attribute o f pos')) pos.line X.env=pure false):JS X E (.Assign [.Attribute o f pos'] e pos) (wpS T (.fld o' f e')):=fun F =>
 (aEU (ho F) (he F) hs).imp <|by
   rintro D σ H ⟨σ',Z,G,D',rs,S,h,kd⟩;rw [wpS] at h;refine ⟨σ',Z,G,_,rs,S,h,fun v v' Z1 G1 H1 s1 S1 r1 q1=>⟨σ',Z1,G1,_,rs.mono s1,S1,q1,fun x x' Z2 G2 H2 s2 S2 r2 zz=>?_⟩⟩;obtain ⟨p,c,ns,xs,e,hG,hf,hl,q2⟩:=zz;subst e;have e:x'= .ref p:=r2;subst e;obtain ⟨_,o',hp,dx,vs,e',l,t⟩:=S2.g _ _ hG;subst e';obtain ⟨h1,h2⟩:=P.fld c f hf;obtain ⟨e1,e2⟩:=wV f v' ns vs l;refine ⟨p,_,dx,_,rfl,hp,h1,h2,by rw [List.length_zip,←l,Nat.min_self]; exact hl,kd.nx _ _ _ _ _ (s1.trans s2) (S2.set (go:=.ins c (CZ f ns) (rB f v ns xs)) hG ⟨dx,rB f v' ns vs,by rw [e1],e2,AU (r1.mono s2) t⟩) ((rs.mono s1).mono s2) q2⟩
theorem TV {f:Str}:∀ {ns:List Str} {xs:List PV} {vs:List V} {x:PV},RPs E Z xs vs→(ns.zip xs).lookup f=some x→∃ v,(ns.zip vs).lookup f=some v∧RP E Z x v
 | [],_,_,_,_,h=>by cases h
 | _ :: _,[],_,_,_,h=>by cases h
 | n :: ns,y :: xs,_,x,⟨v,t,e,r1,r2⟩,h=>by
   subst e;rw [List.zip_cons_cons,List.lookup_cons] at h ⊢;cases e:(f == n) with
   | true=>rw [e] at h; cases h; exact ⟨v,rfl,r1⟩
   | false=>rw [e] at h; exact TV r2 h
theorem aFj {o e:Expr} {f:Str} {pos pos':Pos} {o' e':CE} (P:Pl X E T k) (ho:JE X E o (wpE T o')) (he:JE X E e (wpE T e')):JS X E (.AugAssign (.Attribute o f pos') .Add e pos) (wpS T (.fda o' f e')):=fun F =>
 (PF (ho F) (he F) aD6).imp <|by
   rintro D σ H ⟨σ',Z,G,D',rs,S,h,kd⟩;rw [wpS] at h;refine ⟨σ',Z,G,_,rs,S,h,fun x x' Z1 G1 H1 s1 S1 r1 zz=>?_⟩;obtain ⟨p,c,ns,xs,i,e,hG,hf,hl,q1⟩:=zz;subst e;have e:x'= .ref p:=r1;subst e;obtain ⟨_,o',hp,dx,vs,e',l,t⟩:=S1.g _ _ hG;subst e';obtain ⟨h1,h2⟩:=P.fld c f hf;obtain ⟨w,hw,rw'⟩:=TV t hl;have ew:w= .int i:=rw';subst ew;refine ⟨p,_,dx,_,_,rfl,hp,h1,h2,hw,σ',Z1,G1,_,rs.mono s1,S1,q1,fun y y' Z2 G2 H2 s2 S2 r2 zz=>?_⟩;obtain ⟨j,ns',xs',e,hG2,hn,q2⟩:=zz;subst e;have e:y'= .int j:=r2;subst e;obtain ⟨_,o2,hp2,dx2,vs2,e2,l2,t2⟩:=S2.g _ _ hG2;subst e2;obtain ⟨z1,z2⟩:=wV f (.int (i + j)) ns' vs2 l2;refine ⟨i,j,rfl,rfl,dx2,_,hp2,by rw [List.length_zip,←l2,Nat.min_self]; exact hn,kd.nx _ _ _ _ _ (s1.trans s2) (S2.set (go:=.ins c (CZ f ns') (rB f (.int (i + j)) ns' xs')) hG2 ⟨dx2,rB f (.int (i + j)) ns' vs2,by rw [z1],z2,AU bD t2⟩) ((rs.mono s1).mono s2) q2⟩
end
section
variable {X:Cx} {E:Ev} {T:Tb} {k:Nat} {pos:Pos} {a b c e:Expr}
theorem aD0 {Z:Hp} {js:List (Option Nat)} {σ':PSt} {σ:L2.St} (rs:RSt E Z σ' σ):RSt E Z (vR js σ') (WB js σ):=by
 induction js with
 | nil=>exact .nil
 | cons o r ih =>
   refine .cons ?_ ih;cases o with
   | none=>exact trivial
   | some j =>
     show RSl E Z ((σ'[j]?).getD none) ((σ[j]?).getD none);cases e:σ'[j]? with
     | none=>exact trivial
     | some u =>
       cases u with
       | none=>exact trivial
       | some x =>
         obtain ⟨v,e',r⟩:=rs.get e;rw [e'];exact ⟨v,rfl,r⟩
def aEj (E:Ev) (t:PTE):TE:=fun σ H Q=>∃ F,low E F t σ H Q
def aAX (E:Ev) (t:PTT):TT:=fun σ H Q=>∃ F,BV E F t σ H Q
def aDl (E:Ev) (t:PTG):TG:=fun v σ H Q=>∃ F,aF7 E F t v σ H Q
theorem JE.any {t:PTE} (h:JE X E e t):PE X e (aEj E t):=by rintro pins s σ H Q I ⟨F,q⟩;exact h F pins s σ H Q I q
theorem JT.any {t:PTT} (h:JT X E e t):PT X e (aAX E t):=by rintro pins s σ H Q I ⟨F,q⟩;exact h F pins s σ H Q I q
theorem JG.any {t:PTG} (h:JG X E e t):PG X e (aDl E t):=by rintro pins s σ H v u Q I r ⟨F,q⟩;exact h F pins s σ H v u Q I r q
theorem WG {F:Hp} {J:It} {Z1 H1:Hp} {G1:Gh} {chk:Gh→Prop} {xs:List PV} {g':PTG} {ts':PTT} {te':PTE} {σ':PSt} {σ:L2.St} {m:Bool} {Q':PK1} {Q:VK} {D:Addr}
   (S1:Sim E F H1 Z1 G1) (ok:vN E J Z1 chk xs) (rs:RSt E Z1 σ' σ) (hz:xs.length≤sizeLine) (n:H1 D=none) (q:gR chk g' ts' te' xs [] σ' G1 fun ys G2=>rH m G2 ys Q') (kq:Kq E F Z1 Q' Q) :
   SZ J D (aDl E g') (aAX E ts') (aEj E te') Q σ (upd H1 D (.lst [])):=by
 have fD:F D=none:=S1.fn n;refine ⟨fun i m' σ H=>m'=xs.length - i∧i≤xs.length∧∃ σ' Z2 G2 acc vs,aM Z1 Z2∧Sim E (upd F D (.lst vs)) H Z2 G2∧RPs E Z2 acc vs∧RSt E Z2 σ' σ∧acc.length≤i∧gR chk g' ts' te' (xs.drop i) acc σ' G2 fun ys G2=>rH m G2 ys Q',
   ⟨xs.length,by simp,Nat.zero_le _,σ',Z1,G1,[],[],aM.refl _,S1.mine n,rfl,rs,Nat.le_refl _,q⟩, ?_⟩
 rintro i m' σ2 H2 ⟨rfl,hi,σ3,Z2,G2,acc,vs,s2,S2,ra,rs2,la,q2⟩;by_cases hlt:i < xs.length
 · have hd:xs.drop i=xs[i] :: xs.drop (i + 1):=List.drop_eq_getElem_cons hlt;rw [hd] at q2;unfold gR at q2;obtain ⟨c2,q2⟩:=q2;obtain ⟨go,yl⟩:=(ok _ i Z2 G2 H2 s2 S2 c2).1 xs[i] (by simp [hlt]);refine .inr ⟨go,fun σ4 H4=>∃ σ5 Z4 G4 acc4 vs4,aM Z1 Z4∧Sim E (upd F D (.lst vs4)) H4 Z4 G4∧RPs E Z4 acc4 vs4∧RSt E Z4 σ5 σ4∧acc4.length≤i + 1∧gR chk g' ts' te' (xs.drop (i + 1)) acc4 σ5 G4 fun ys G2=>rH m G2 ys Q',
     by rintro σ4 H4 ⟨σ5,Z4,G4,acc4,vs4,s4,S4,ra4,rs4,l4,q4⟩;exact ⟨xs.length - (i + 1),by omega,rfl,hlt,σ5,Z4,G4,acc4,vs4,s4,S4,ra4,rs4,l4,q4⟩,fun v H3 y=>?_⟩
   obtain ⟨Z3,s3,S3,r3⟩:=yl v H3 y;refine ⟨_,xs[i],σ3,Z3,G2,_,r3,rs2.mono s3,S3,q2,fun σ6 σ7 Z5 G5 H5 s5 S5 rs5 q5=>⟨_,σ6,Z5,G5,_,rs5,S5,q5,fun ok' Z6 G6 H6 s6 S6 q6=>?_⟩⟩;have s26:=(s3.trans s5).trans s6;dsimp only;cases ok' with
   | true =>
     rw [if_pos rfl] at q6 ⊢;refine ⟨_,σ6,Z6,G6,_,rs5.mono s6,S6,q6,fun y' u Z7 G7 H7 s7 S7 r7 q7=>?_⟩;refine ⟨vs,(S7.f D _ aW).1, ?_, ?_⟩
     · have:=ra.length; omega
     · have s27:=s26.trans s7;exact ⟨σ6,Z7,G7,acc ++ [y'],vs ++ [u],s2.trans s27,S7.turn (S1.f0n n),(ra.mono s27).append ⟨u,[],rfl,r7,rfl⟩,(rs5.mono s6).mono s7,by rw [List.length_append]; exact Nat.succ_le_succ la,q7⟩
   | false =>
     rw [if_neg Bool.false_ne_true] at q6 ⊢;exact ⟨σ6,Z6,G6,acc,vs,s2.trans s26,S6,ra.mono s26,rs5.mono s6,Nat.le_succ_of_le la,q6⟩
 · have e:i=xs.length:=by omega
   rw [e,List.drop_length] at q2;unfold gR at q2;obtain ⟨c2,q2⟩:=q2;refine .inl ⟨(ok _ i Z2 G2 H2 s2 S2 c2).2 e, ?_⟩;unfold rH at q2;cases m with
   | true =>
     rw [if_pos rfl] at q2;exact kq (.ref D) _ Z2 _ _ s2 (S2.mineG fD (S1.f0n n) (go:=.lst acc) ⟨vs,rfl,ra⟩) rfl (q2 D (S2.f D _ aW).2.2)
   | false =>
     rw [if_neg Bool.false_ne_true] at q2;have zn:=(S2.f D _ aW).2.1;exact kq (.lst acc) _ (upd Z2 D (.lst vs)) _ _ (s2.trans (bG zn _)) (S2.mineZ fD (S1.f0n n)) (jK zn ra) q2
theorem ET {F:Hp} {m:Bool} {tg' it' ts' el':CE} {js:List (Option Nat)} {σ:L2.St} {H:Hp} {Q:VK} (h:low E F (wpE T (.cmpr m tg' it' ts' el' js)) σ H Q):RM (aIV E F (wpI T it')) (aDl E (wpG T tg')) (aAX E (wpT T ts')) (aEj E (wpE T el')) js σ H Q:=by
 obtain ⟨σ',Z,G,Q',rs,S,h,kq⟩:=h;rw [wpE] at h;refine ⟨σ',Z,G,_,rs,S,h,fun J chk xs Z1 G1 H1 s1 S1 ok q D n=>?_⟩;exact WG S1 ok (aD0 (rs.mono s1)) q.1 n q.2 (kq.mono s1)
def OX (X:Cx) (E:Ev) (ifs:List Expr) (t:PTT):Prop:=PTs X ifs (aAX E t)
theorem aJL:OX X E [] (wpT T .nil):=by
 rintro pins s σ H Q I ⟨F,σ',Z,G,Q',rs,S,h,kt⟩;rw [wpT] at h;exact ZX pins s σ H Q I (kt _ _ _ _ (aM.refl Z) S h)
theorem aJM {t:PTT} (h:JT X E c t):OX X E [c] t:=aA6 h.any
section
variable {N:List Str} {scope:Scope} {cl:List (Str×Addr)} {js:List (Option Nat)} {tg iter elt:Expr} {ifs:List Expr} {m:Bool} {tg' it' ts' el':CE}
theorem aAR (S:jD X N scope cl js) (P:Pl X E T k) (h40:40≤k) (hi:JI X E tg iter (wpI T it')) (hg:∀ C s₀ H₀ ex,JG (cxC X N scope cl C s₀ H₀ ex) E tg (wpG T tg')) (ht:∀ C s₀ H₀ ex,OX (cxC X N scope cl C s₀ H₀ ex) E ifs (wpT T ts'))
   (he:∀ C s₀ H₀ ex,JE (cxC X N scope cl C s₀ H₀ ex) E elt (wpE T el')) (hs:∀ x,foldedSetIterable iter X.env x=pure x):JE X E (.ListComp elt [⟨tg,iter,ifs,0⟩] scope pos) (wpE T (.cmpr m tg' it' ts' el' js)):=fun F =>
 (aBD S (P.calm h40) (hi F) (fun C s₀ H₀ ex=>(hg C s₀ H₀ ex).any) ht (fun C s₀ H₀ ex=>(he C s₀ H₀ ex).any) hs).imp fun σ H Q h=>ET h
theorem aAO {i:Nat} {y:Str} {py spos:Pos} (S:jD X N scope cl js) (P:Pl X E T k) (h40:40≤k) (hN:X.N.Nodup) (hi':X.N[i]? =some y) (hy:X.env.scope.names.lookup y=some .local) (hi:JI X E tg iter (wpI T it')) (hg:∀ C s₀ H₀ ex,JG (cxC X N scope cl C s₀ H₀ ex) E tg (wpG T tg'))
   (ht:∀ C s₀ H₀ ex,OX (cxC X N scope cl C s₀ H₀ ex) E ifs (wpT T ts')) (he:∀ C s₀ H₀ ex,JE (cxC X N scope cl C s₀ H₀ ex) E elt (wpE T el'))
   (hsw:swapsWith (.ListComp elt [⟨tg,iter,ifs,0⟩] scope pos) (some (.Name y py)) spos.line X.env=pure true) (hs:∀ x,foldedSetIterable iter X.env x=pure x) :
   JS X E (.Assign [.Name y py] (.ListComp elt [⟨tg,iter,ifs,0⟩] scope pos) spos) (wpS T (.asg (.gn i) (.cmpr m tg' it' ts' el' js))):=fun F =>
 (ZQ S (P.calm h40) hN hi' hy (hi F) (fun C s₀ H₀ ex=>(hg C s₀ H₀ ex).any) ht (fun C s₀ H₀ ex=>(he C s₀ H₀ ex).any) hsw hs).imp <|by
   rintro D σ H ⟨σ',Z,G,D',rs,S,h,kd⟩;rw [wpS] at h;refine ET (m:=m) ⟨σ',Z,G,_,rs,S,h,fun x v Z1 G1 H1 s1 S1 r1 q1=>?_⟩;unfold wpG at q1;exact kd.nx _ _ _ _ _ s1 S1 ((rs.mono s1).set r1 i) q1
end
def aHT (T:Tb) (c:String) (x xi:Str):Prop:= ∀ xs G Q,T.S x xs G Q→∀ p,G p=none→T.S xi (.ref p :: xs) (gup G p (.ins c [] [])) fun r G1=>r= .non∧∃ ns ys,G1 p=some (.ins c ns ys)∧Q (.ob c ns ys) (OM G1 p)
def aHt (T:Tb) (c:String) (x xi:Str):Prop:= ∀ xs G Q,T.S x xs G Q→∀ p,G p=none→T.S xi (.ref p :: xs) (gup G p (.ins c [] [])) fun r G1=>r= .non∧Q (.ref p) G1
def TR (T:Tb) (c:String) (x xi:Str):Prop:=aHT T c x xi∨aHt T c x xi
theorem ZG {F:Hp} {c:String} {x xi:Str} {Z1 H1:Hp} {G1:Gh} {xs:List PV} {vs:List V} {Q':PK1} {Q:VK} {p dx:Addr} {us:List V} (hu:us= .ref p :: vs) (M:TR T c x xi) (S1:Sim E F H1 Z1 G1) (r:RPs E Z1 xs vs) (q:T.S x xs G1 Q') (kq:Kq E F Z1 Q' Q) (n:H1 p=none) (nd:H1 dx=none) (ne:dx≠p) :
   iW E (T.S xi) us (upd (upd H1 dx (.own p)) p (.ins (E.cls c) dx [])) (fun v H2=>v= .non∧Q (.ref p) H2) E0:=by
 subst hu;have S2:Sim E F (upd H1 dx (.own p)) Z1 G1:=S1.other nd;have n2:upd H1 dx (.own p) p=none:=by rw [aI (Ne.symm ne)]; exact n
 have S3:Sim E F (upd (upd H1 dx (.own p)) p (.ins (E.cls c) dx [])) Z1 (gup G1 p (.ins c [] [])):=S2.new n2 ⟨dx,[],rfl,rfl,rfl⟩;rcases M with M | M
 case inr =>
   refine ⟨.ref p :: xs,Z1,_,F,_,⟨.ref p,vs,rfl,rfl,r⟩,S3,M xs G1 Q' q p (S1.gn n), ?_⟩;rintro z v Z4 G4 H4 s4 S4 r4 ⟨e,q4⟩;subst e;exact ⟨r4,kq (.ref p) _ Z4 _ _ s4 S4 rfl q4⟩
 refine ⟨.ref p :: xs,Z1,_,F,_,⟨.ref p,vs,rfl,rfl,r⟩,S3,M xs G1 Q' q p (S1.gn n), ?_⟩;rintro z v Z4 G4 H4 s4 S4 r4 ⟨e,ns,ys,hG,q4⟩;subst e;obtain ⟨zn,o',hp,dx',vs',e',l,t⟩:=S4.g _ _ hG;subst e';exact ⟨r4,kq (.ob c ns ys) _ (upd Z4 p _) _ _ (s4.trans (bG zn _)) (S4.frz hG hp) ⟨p,dx',vs',rfl,aW,l,t.mono (bG zn _)⟩ q4⟩
theorem WQ {c:String} {y x xi:Str} {p:Pos} {e:Expr} {es:List Expr} {es':CE} {f:Addr} {fd:FuncData} {ps:List Str} (M:Mk X.K (E.cls c) f) (K:Co X E (T.S xi) k f fd ps) (hr:bF (k + 1) X.A) (hg:Gl X x) (hm:X.mg x=some (.ref (E.cls c)))
   (hb:aH X.K fd ps []) (ms:TR T c y xi) (hd:(x == ("__debug__":Str))=false) (ha:JA X E (e :: es) (wpL T es')) (he:starEach (e :: es) X.env=(false,eval e X.env) :: starEach es X.env) (hpl:(backTo pos (starEach es X.env)).any (·.1)=false) :
   JE X E (.Call (.Name x p) (e :: es) [] pos) (wpE T (.cal y es')):=fun F=>by
 obtain ⟨CX,sp,EX,K,hp,hl⟩:=K;exact (ZV M K hr hg hm hb .nil hp (ha F) hd he hpl).imp <|by
   rintro σ H Q ⟨σ',Z,G,Q',rs,S,h,kq⟩;rw [wpE] at h;exact ⟨σ',Z,G,_,rs,S,h,fun xs vs Z1 G1 H1 l1 s1 S1 r1 q1 p dx n nd ne=>hl _ _ _ (ZG (by rw [List.append_nil]) ms S1 r1 q1 (kq.mono s1) n nd ne)⟩
def JK (X:Cx) (E:Ev) (kws:List Keyword) (t:PTA):Prop:= ∀ F,PK X kws (FT E F kws.length t)
theorem PK.imp {kws:List Keyword} {t t':TA} (h:PK X kws t) (g:∀ σ H Q,t' σ H Q→t σ H Q):PK X kws t':=fun pos pins s σ H Q I q=>h pos pins s σ H Q I (g _ _ _ q)
theorem zN:JK X E [] (wpL T .nil):=fun F=>PK.imp aED <|by rintro σ H Q ⟨σ',Z,G,Q',rs,S,h,kq⟩;rw [wpL] at h; exact kq [] [] Z G H rfl (aM.refl Z) S rfl h
theorem aA7 {n:Option Str} {v:Expr} {p:Pos} {kws:List Keyword} {a' b':CE} (ha:JE X E v (wpE T a')) (hr:JK X E kws (wpL T b')):JK X E (⟨n,v,p⟩ :: kws) (wpL T (.cons a' b')):=fun F =>
 PK.imp (aBc (ha F) (hr F)) <|by
   rintro σ H Q ⟨σ',Z,G,Q',rs,S,h,kq⟩;rw [wpL] at h;exact ⟨σ',Z,G,_,rs,S,h,fun x v Z1 G1 H1 s1 S1 r1 q1=>⟨σ',Z1,G1,_,rs.mono s1,S1,q1,fun xs vs Z2 G2 H2 l2 s2 S2 r2 q2=>kq (x :: xs) (v :: vs) _ _ _ (by rw [List.length_cons,l2]; rfl) (s1.trans s2) S2 ⟨v,vs,rfl,r1.mono s2,r2⟩ q2⟩⟩
noncomputable def Ar.valV (vs:List V):Ar→V
 | .arg i=>vs.getD i .non
 | .non=>.non
 | .bl b=>.bl b
 | .int i=>.int i
 | .str x=>.str x
theorem zD {Z:Hp} {xs:List PV} {vs:List V} (r:RPs E Z xs vs):∀ ar:List Ar,RPs E Z (ar.map (Ar.val xs)) (ar.map (Ar.valV vs))
 | []=>rfl
 | a :: l=>by
   refine ⟨_,_,rfl, ?_,zD r l⟩;cases a with
   | arg i =>
     show RP E Z (xs.getD i .non) (vs.getD i .non);rw [List.getD_eq_getElem?_getD,List.getD_eq_getElem?_getD];cases e:xs[i]? with
     | none =>
       have:vs[i]? =none:=List.getElem?_eq_none_iff.mpr (by rw [←r.length]; exact List.getElem?_eq_none_iff.mp e);rw [this]; exact rM
     | some x =>
       obtain ⟨v,e',rr⟩:=r.get e;rw [e']; exact rr
   | non=>exact rM
   | bl b=>exact cJ
   | int i=>exact bD
   | str x=>exact pO
structure hZ (K:W.Frag) (fd:FuncData) (ps:List Str) (n:Nat) (ks:List Str) (ar:List Ar):Prop where
 len:ar.length=ps.length
 to:∀ (s:Shared) (us ws:List Value),K.In s.heap→us.length=n→ws.length=ks.length→∃ bs,BindsTo s fd ⟨us,ks.zip ws⟩ (ps.zip bs)∧∀ vs zs,aJ vs us→aJ zs ws→aJ (ar.map (Ar.valV (vs ++ zs))) bs
theorem zZ {pins:List (Addr×Obj)} {σ:L2.St} {H:Hp} {s:Shared} {Q:VK} {us ws:List Value} {vs zs:List V} {f:Addr} {fd:FuncData} {ps ks:List Str} {n:Nat} {ar:List Ar} {sp:Sp} {A':Around} {CX:CXT} {EX:XK}
   (K:bN X.prog X.w X.K X.mg X.base CX k f fd ps sp) (hx:jI CX X EX) (hr:bF k A') (e0:rK X.prog X.w X.K X.mg X.base A' X.stack s H) (hb:hZ X.K fd ps n ks ar) (I:Inv X pins σ H s) (r:aJ vs us) (rz:aJ zs ws) (l1:vs.length=n) (l2:zs.length=ks.length) (h:sp (ar.map (Ar.valV (vs ++ zs))) H Q EX) :
   wpAny (model X.prog X.w) A' (call (.ref f) us (ks.zip ws)) (EP X pins σ Q) X.xe s:=by
 obtain ⟨bs,hbs,hv⟩:=hb.to s us ws I.kIn (by rw [←r.length]; exact l1) (by rw [←rz.length]; exact l2);refine wpAny_call (codeAny_mono (K.run A' X.stack s H ⟨us,ks.zip ws⟩ bs _ Q EX hr e0 hbs (hv vs zs r rz) h) fun r s' hq=>?_);cases r with
 | error e=>exact hx pins σ H s e s' I hq
 | ok fl =>
   cases fl with
   | ret u=>exact I.after hq
   | next=>exact False.elim hq
   | brk=>exact False.elim hq
   | cont=>exact False.elim hq
theorem VB {y f:Str} {p:Pos} {e:Expr} {es:List Expr} {kws:List Keyword} {es' ks':CE} {ad:Addr} {fd:FuncData} {ps ks:List Str} {n:Nat} {ar:List Ar} (K:Co X E (T.S y) k ad fd ps) (hr:bF k X.A) (hg:Gl X f) (hm:X.mg f=some (.ref ad))
   (hk:W.keepIn X.K (.ref ad)=true) (hb:hZ X.K fd ps n ks ar) (hd:(f == ("__debug__":Str))=false) (ha:JA X E (e :: es) (wpL T es')) (hkw:JK X E kws (wpL T ks')) (hn:(e :: es).length=n) (hkn:kws.length=ks.length)
   (hall:(backToKw pos (keywordEach kws X.env)).all (·.1.isSome)=true) (hks:(backToKw pos (keywordEach kws X.env)).filterMap (·.1)=ks) (he:starEach (e :: es) X.env=(false,eval e X.env) :: starEach es X.env)
   (hpl:((backTo pos (starEach (e :: es) X.env)).any (·.1) || (backToKw pos (keywordEach kws X.env)).any (·.1.isNone))=false) :
   JE X E (.Call (.Name f p) (e :: es) kws pos) (wpE T (.cak y es' ks' ar)):=fun F=>by
 obtain ⟨CX,sp,EX,K,hp,hl⟩:=K;have main:PE X (.Call (.Name f p) (e :: es) kws pos) (fun σ H Q=>FT E F (e :: es).length (wpL T es') σ H fun vs H1=>vs.length=n∧FT E F kws.length (wpL T ks') σ H1 fun zs H2=>zs.length=ks.length∧sp (ar.map (Ar.valV (vs ++ zs))) H2 Q EX):=by
   intro pins s σ H Q I h;refine wpAny_Call_Name_kw (lK I hg hm ?_ hd);refine W.callWith_KW (h₀:=X.base) I.ok.mod.kin hk hall (thn (ha F pos pins s σ H _ I h) fun us s1 zz=>?_) hpl he;obtain ⟨vs,H1,I1,r,l1,q⟩:=zz;refine thn (hkw F pos pins s1 σ H1 _ I1 q) fun ws s2 ⟨zs,H2,I2,rz,l2,q2⟩=>⟨I2.kIn, ?_⟩;rw [hks];exact zZ K hp hr I2.env0 hb I2 r rz l1 l2 q2
 refine main.imp fun σ H Q zz=>?_;obtain ⟨σ',Z,G,Q',rs,S,h,kq⟩:=zz;rw [wpE] at h;exact ⟨σ',Z,G,_,rs,S,h,fun xs vs Z1 G1 H1 l1 s1 S1 r1 q1=>⟨by rw [←r1.length,l1]; exact hn,σ',Z1,G1,_,rs.mono s1,S1,q1,fun zs us Z2 G2 H2 l2 s2 S2 r2 q2 =>
   ⟨by rw [←r2.length,l2]; exact hkn,hl _ _ _ ⟨_,Z2,G2,F,Q',zD ((r1.mono s2).append r2) ar,S2,q2,kq.mono (s1.trans s2)⟩⟩⟩⟩
theorem MB {y f:Str} {p:Pos} {kws:List Keyword} {ks':CE} {ad:Addr} {fd:FuncData} {ps ks:List Str} {ar:List Ar} (K:Co X E (T.S y) k ad fd ps) (hr:bF k X.A) (hg:Gl X f) (hm:X.mg f=some (.ref ad))
   (hk:W.keepIn X.K (.ref ad)=true) (hb:hZ X.K fd ps 0 ks ar) (hd:(f == ("__debug__":Str))=false) (hkw:JK X E kws (wpL T ks')) (hkn:kws.length=ks.length)
   (hall:(backToKw pos (keywordEach kws X.env)).all (·.1.isSome)=true) (hks:(backToKw pos (keywordEach kws X.env)).filterMap (·.1)=ks)
   (hpl:((backTo pos (starEach [] X.env)).any (·.1) || (backToKw pos (keywordEach kws X.env)).any (·.1.isNone))=false) :
   JE X E (.Call (.Name f p) [] kws pos) (wpE T (.cak y .nil ks' ar)):=fun F=>by
 obtain ⟨CX,sp,EX,K,hp,hl⟩:=K;have main:PE X (.Call (.Name f p) [] kws pos) (fun σ H Q=>FT E F kws.length (wpL T ks') σ H fun zs H2=>zs.length=ks.length∧sp (ar.map (Ar.valV ([] ++ zs))) H2 Q EX):=by
   intro pins s σ H Q I h;refine wpAny_Call_Name_kw (lK I hg hm ?_ hd);refine W.callWith_KW0 (h₀:=X.base) (first:=[]) I.ok.mod.kin hk hall ?_ hpl;refine thn (hkw F pos pins s σ H _ I h) fun ws s2 ⟨zs,H2,I2,rz,l2,q2⟩=>⟨I2.kIn, ?_⟩;rw [hks];exact zZ (us:=[]) (vs:=[]) K hp hr I2.env0 hb I2 .nil rz rfl l2 q2
 refine main.imp fun σ H Q zz=>?_;obtain ⟨σ',Z,G,Q',rs,S,h,kq⟩:=zz;rw [wpE,wpL] at h;exact ⟨σ',Z,G,_,rs,S,h,fun zs us Z2 G2 H2 l2 s2 S2 r2 q2=>⟨by rw [←r2.length,l2]; exact hkn,hl _ _ _ ⟨_,Z2,G2,F,Q',zD r2 ar,S2,q2,kq.mono s2⟩⟩⟩
theorem tN {c:String} {w x xi:Str} {p:Pos} {kws:List Keyword} {ks':CE} {f:Addr} {fd:FuncData} {ps ks:List Str} {ar:List Ar} (M:Mk X.K (E.cls c) f) (K:Co X E (T.S xi) k f fd ps) (hr:bF (k + 1) X.A) (hg:Gl X x) (hm:X.mg x=some (.ref (E.cls c)))
   (hb:hZ X.K fd ps 1 ks (.arg 0 :: ar.map fun a=>match a with | .arg i=>.arg (i + 1) | a=>a)) (ms:TR T c w xi) (hd:(x == ("__debug__":Str))=false) (hkw:JK X E kws (wpL T ks')) (hkn:kws.length=ks.length)
   (hall:(backToKw pos (keywordEach kws X.env)).all (·.1.isSome)=true) (hks:(backToKw pos (keywordEach kws X.env)).filterMap (·.1)=ks)
   (hpl:((backTo pos (starEach [] X.env)).any (·.1) || (backToKw pos (keywordEach kws X.env)).any (·.1.isNone))=false) :
   JE X E (.Call (.Name x p) [] kws pos) (wpE T (.cak w .nil ks' ar)):=fun F=>by
 obtain ⟨CX,sp,EX,K,hp,hl⟩:=K;have main:PE X (.Call (.Name x p) [] kws pos) (fun σ H Q=>FT E F kws.length (wpL T ks') σ H fun zs H2=>zs.length=ks.length∧∀ y dx,H2 y=none→H2 dx=none→dx≠y→
     sp (.ref y :: ar.map (Ar.valV zs)) (upd (upd H2 dx (.own y)) y (.ins (E.cls c) dx [])) (fun v H3=>v= .non∧Q (.ref y) H3) EX):=by
   intro pins s σ H Q I h;refine wpAny_Call_Name_kw (lK I hg hm ?_ hd);refine W.callWith_KW0 (h₀:=X.base) (first:=[]) I.ok.mod.kin M.kp hall ?_ hpl;refine thn (hkw F pos pins s σ H _ I h) fun ws s2 ⟨zs,H2,I2,rz,l2,q2⟩=>⟨I2.kIn, ?_⟩;rw [hks];have hq:=q2 (s2.heap.objs.size + 1) s2.heap.objs.size (I2.hok.fresh (Nat.le_succ _)) (I2.hok.fresh (Nat.le_refl _)) (Nat.ne_of_lt (Nat.lt_succ_self _));have I3:=Inv.made (C:=E.cls c) I2;have e:V.ref (s2.heap.objs.size + 1) :: ar.map (Ar.valV zs)=(Ar.arg 0 :: ar.map fun a=>match a with | .arg i=>.arg (i + 1) | a=>a).map (Ar.valV ([V.ref (s2.heap.objs.size + 1)] ++ zs)):=by
     rw [List.map_cons,List.map_map];refine congr (congrArg List.cons rfl) (List.map_congr_left fun a _=>?_);cases a <;> rfl
   rw [e] at hq;obtain ⟨bs,hbs,hv⟩:=hb.to { s2 with heap:=(s2.heap.push _).push _ } [Value.ref (s2.heap.objs.size + 1)] ws I3.kIn rfl (by rw [←rz.length]; exact l2);refine wpAny_call (EW (f:=f) (vs:=[]) (kw:=ks.zip ws) I2.kIn M.makes M.init (beq_iff_eq.mp M.fn) (codeAny_mono (K.run _ X.stack _ _ ⟨[Value.ref (s2.heap.objs.size + 1)],ks.zip ws⟩ bs _ _ EX (hr.make (E.cls c) [] (ks.zip ws))
     (I3.env0.make (E.cls c) [] (ks.zip ws)) hbs (hv [V.ref (s2.heap.objs.size + 1)] zs (.cons rfl .nil) rz) hq) fun r s' hq'=>?_))
   cases r with
   | error e=>exact hp pins σ _ _ e s' I3 hq'
   | ok fl =>
     cases fl with
     | ret u =>
       obtain ⟨v,H',I4,rv,ev,q3⟩:=I3.after hq';subst ev;exact ⟨rv,⟨V.ref (s2.heap.objs.size + 1),H',I4,rfl,q3⟩⟩
     | next=>exact False.elim hq'
     | brk=>exact False.elim hq'
     | cont=>exact False.elim hq'
 refine main.imp fun σ H Q zz=>?_;obtain ⟨σ',Z,G,Q',rs,S,h,kq⟩:=zz;rw [wpE,wpL] at h;exact ⟨σ',Z,G,_,rs,S,h,fun zs us Z2 G2 H2 l2 s2 S2 r2 q2=>⟨by rw [←r2.length,l2]; exact hkn,fun y dx n nd ne=>hl _ _ _ (ZG rfl ms S2 (zD r2 ar) q2 (kq.mono s2) n nd ne)⟩⟩
theorem KP {o:Expr} {m:Str} {apos pos:Pos} {es:List Expr} {env:Env} (hb:attributeBase o m env (eval o env)=eval o env)
   (hf:methodCallForm (es.length + ([]:List Keyword).length) (backTo pos (starEach es env)) (backToKw pos (keywordEach [] env))=true) (hl:(apos.endLine == pos.line)=true) :
   eval (.Call (.Attribute o m apos) es [] pos) env=(do
     let ov ←eval o env
     standAt apos.atName
     let (f,first) ←holding [ov] (getMethod ov m (do
       let b ←importBound o env
       pure (b.getD true)))
     callWith pos f first (backTo pos (starEach es env)) (backToKw pos (keywordEach [] env))):=by
 conv=>lhs; unfold eval
 rw [hb];unfold methodCall calleeOf methodCallPos;rw [hf];simp only [hl,Bool.not_true,Bool.false_or,if_true];rfl
theorem vP {m:Str}:∀ {ns:List Str} {vs:List V},m∉ ns→(ns.zip vs).lookup m=none
 | [],_,_=>rfl
 | _ :: _,[],_=>rfl
 | n :: r,v :: t,h=>by
   rw [List.zip_cons_cons,List.lookup_cons];have e:(m == n)=false:=beq_eq_false_iff_ne.mpr fun e=>h (e▸wDq ..);rw [e];exact vP fun z=>h (wCq _ z)
noncomputable def upA:Ar→Ar
 | .arg i=>.arg (i + 1)
 | a=>a
structure aAt (X:Cx) (E:Ev) (T:Tb) (k:Nat) (m:Str) (n:Nat) (ks:List Str) (y:String×Str×List Ar):Prop where
 ex:∃ f fd ps,Cls X.K (E.cls y.1)∧fO X.K (E.cls y.1) m f∧Co X E (T.S y.2.1) k f fd ps∧hZ X.K fd ps (n + 1) ks (.arg 0 :: y.2.2.map upA)
theorem VT {F Z H:Hp} {G:Gh} {x:PV} {v:V} {c:String} {ns:List Str} {xs:List PV} (S:Sim E F H Z G) (r:RP E Z x v) (h:x= .ob c ns xs∨∃ p,x= .ref p∧G p=some (.ins c ns xs)):∃ a dx vs,v= .ref a∧H a=some (.ins (E.cls c) dx (ns.zip vs)):=by
 rcases h with rfl | ⟨p,rfl,hG⟩
 · obtain ⟨a,dx,vs,e,hz,_,_⟩:=r;exact ⟨a,dx,vs,e,S.z _ _ hz⟩
 · obtain ⟨_,o',hp,dx,vs,e',_,_⟩:=S.g _ _ hG;subst e';exact ⟨p,dx,vs,r,hp⟩
theorem ZL {m:Str} {ls:List (String×Str×List Ar)} {o:Expr} {es:List Expr} {o' es':CE} {apos:Pos} (F:Hp) (hr:bF k X.A) (ho:JE X E o (wpE T o')) (ha:JA X E es (wpL T es')) (hM:∀ y∈ls,aAt X E T k m es.length [] y)
   (hb:attributeBase o m X.env (eval o X.env)=eval o X.env) (hl:(apos.endLine == pos.line)=true) (hf:methodCallForm (es.length + ([]:List Keyword).length) (backTo pos (starEach es X.env)) (backToKw pos (keywordEach [] X.env))=true)
   (hc:∀ (f:Value) (a:Addr) (s:Shared) (Q:Value→Shared→Prop),X.K.In s.heap→W.keepIn X.K f=true→wpAny (model X.prog X.w) X.A (spliced (backTo pos (starEach es X.env))) (fun vs s₁=>X.K.In s₁.heap∧wpAny (model X.prog X.w) X.A (call f ([.ref a] ++ vs)) Q X.xe s₁) X.xe s→
     wpAny (model X.prog X.w) X.A (callWith pos f [.ref a] (backTo pos (starEach es X.env)) []) Q X.xe s) :
   PE X (.Call (.Attribute o m apos) es [] pos) (low E F (wpE T (.met m ls o' es'))):=by
 rintro pins s σ H Q I ⟨σ',Z,G,Q',rs,S,h,kq⟩;rw [wpE] at h;refine W.methodCall_KW (thn (ho F pins s σ H (fun v H1=>∃ x Z1 G1,aM Z Z1∧Sim E F H1 Z1 G1∧RP E Z1 x v∧∃ c ky ar ns xs,(c,ky,ar)∈ls∧(x= .ob c ns xs∨∃ p,x= .ref p∧G1 p=some (.ins c ns xs))∧m∉ ns∧wpL T es' σ' G1 fun ys G2=>T.S ky (x :: ar.map (Ar.val ys)) G2 Q') I ⟨σ',Z,G,_,rs,S,h,fun x v Z1 G1 H1 s1 S1 r1 q=>⟨x,Z1,G1,s1,S1,r1,q⟩⟩) fun u s1 zz=>?_) (KP hb hf hl);obtain ⟨v,H1,I1,ru,x,Z1,G1,sz,S1,rx,c,ky,ar,ns,xs,hm,hx,hn,q⟩:=zz;obtain ⟨a,dx,vs0,ev,ea⟩:=VT S1 rx hx;subst ev;obtain rfl:u=Value.ref a:=ru;obtain ⟨f,fd,ps,cl,me,⟨CX,sp,EX,K,hp,hL⟩,hB⟩:=(hM _ hm).ex;refine vG I1 ea cl me (vP hn) ?_;refine hc _ _ _ _ I1.kIn me.kp ?_;refine thn (ha F pos pins s1 σ H1 (fun vs H2=>vs.length=es.length∧iW E (T.S ky) (.ref a :: ar.map (Ar.valV vs)) H2 Q E0) I1 ⟨σ',Z1,G1,_,rs.mono sz,S1,q,fun ys vs Z2 G2 H2 l2 s2 S2 r2 q2=>⟨by rw [←r2.length,l2],x :: ar.map (Ar.val ys),Z2,G2,F,Q',⟨_,_,rfl,rx.mono s2,zD r2 ar⟩,S2,q2,kq.mono (sz.trans s2)⟩⟩) fun us s2 ⟨vs,H2,I2,r,l2,q2⟩=>⟨I2.kIn, ?_⟩;have e:V.ref a :: ar.map (Ar.valV vs)=(Ar.arg 0 :: ar.map upA).map (Ar.valV ((V.ref a :: vs) ++ [])):=by
   rw [List.append_nil,List.map_cons,List.map_map];refine congr (congrArg List.cons rfl) (List.map_congr_left fun z _=>?_);cases z <;> rfl
 refine zZ (ks:=[]) (us:=Value.ref a :: us) (ws:=[]) (vs:=V.ref a :: vs) (zs:=[]) K hp hr I2.env0 hB I2 (.cons rfl r) .nil (by rw [List.length_cons,l2]) rfl (hL _ _ _ ?_);rw [←e]; exact q2
theorem aEg {m:Str} {ls:List (String×Str×List Ar)} {o e:Expr} {es:List Expr} {o' es':CE} {apos:Pos} (hr:bF k X.A) (ho:JE X E o (wpE T o')) (ha:JA X E (e :: es) (wpL T es')) (hM:∀ y∈ls,aAt X E T k m (e :: es).length [] y)
   (hb:attributeBase o m X.env (eval o X.env)=eval o X.env) (hl:(apos.endLine == pos.line)=true) (hf:methodCallForm ((e :: es).length + ([]:List Keyword).length) (backTo pos (starEach (e :: es) X.env)) (backToKw pos (keywordEach [] X.env))=true)
   (hst:starEach (e :: es) X.env=(false,eval e X.env) :: starEach es X.env) (hpl:(backTo pos (starEach es X.env)).any (·.1)=false):JE X E (.Call (.Attribute o m apos) (e :: es) [] pos) (wpE T (.met m ls o' es')):=fun F =>
 ZL F hr ho ha hM hb hl hf fun f a s Q hk kp h=>W.callWith_K (first:=[.ref a]) hk kp h hst hpl
theorem aAe {m:Str} {ls:List (String×Str×List Ar)} {o:Expr} {o':CE} {apos:Pos} (hr:bF k X.A) (ho:JE X E o (wpE T o')) (hM:∀ y∈ls,aAt X E T k m 0 [] y)
   (hb:attributeBase o m X.env (eval o X.env)=eval o X.env) (hl:(apos.endLine == pos.line)=true):JE X E (.Call (.Attribute o m apos) [] [] pos) (wpE T (.met m ls o' .nil)):=fun F=>by
 rintro pins s σ H Q I ⟨σ',Z,G,Q',rs,S,h,kq⟩;rw [wpE,wpL] at h;refine W.methodCall_KW (thn (ho F pins s σ H (fun v H1=>∃ x Z1 G1,aM Z Z1∧Sim E F H1 Z1 G1∧RP E Z1 x v∧∃ c ky ar ns xs,(c,ky,ar)∈ls∧(x= .ob c ns xs∨∃ p,x= .ref p∧G1 p=some (.ins c ns xs))∧m∉ ns∧T.S ky (x :: ar.map (Ar.val [])) G1 Q') I ⟨σ',Z,G,_,rs,S,h,fun x v Z1 G1 H1 s1 S1 r1 q=>⟨x,Z1,G1,s1,S1,r1,q⟩⟩) fun u s1 zz=>?_) (KP hb rfl hl);obtain ⟨v,H1,I1,ru,x,Z1,G1,sz,S1,rx,c,ky,ar,ns,xs,hm,hx,hn,q⟩:=zz;obtain ⟨a,dx,vs0,ev,ea⟩:=VT S1 rx hx;subst ev;obtain rfl:u=Value.ref a:=ru;obtain ⟨f,fd,ps,cl,me,⟨CX,sp,EX,K,hp,hL⟩,hB⟩:=(hM _ hm).ex;refine vG I1 ea cl me (vP hn) ?_;have e:V.ref a :: ar.map (Ar.valV [])=(Ar.arg 0 :: ar.map upA).map (Ar.valV ([V.ref a] ++ [])):=by
   rw [List.append_nil,List.map_cons,List.map_map];refine congr (congrArg List.cons rfl) (List.map_congr_left fun z _=>?_);cases z <;> rfl
 refine W.callWith_K0 (first:=[.ref a]) I1.kIn me.kp (zZ (ks:=[]) (us:=[Value.ref a]) (ws:=[]) (vs:=[V.ref a]) (zs:=[]) K hp hr I1.env0 hB I1 (.cons rfl .nil) .nil rfl rfl (hL _ _ _ ?_));rw [←e];exact ⟨x :: ar.map (Ar.val []),Z1,G1,F,Q',⟨_,_,rfl,rx,zD (xs:=[]) (vs:=[]) rfl ar⟩,S1,q,kq.mono sz⟩
end
noncomputable def clos (cells:List (Str×Addr)):List (Str×NameKind)→List (Str×Addr)→List (Str×Addr)
 | [],acc=>acc
 | (n,k) :: r,acc=>clos cells r (if k= .free then (n,(cells.lookup n).getD 0) :: acc else acc)
theorem aAp {scope:Scope} {env:Env} (h:∀ y∈scope.names,y.2= .free→∃ c,env.cells.lookup y.1=some c):closureFor scope env=pure (clos env.cells scope.names []):=by
 unfold closureFor;have main:∀ (l:List (Str×NameKind)) (acc:List (Str×Addr)),(∀ y∈l,y.2= .free→∃ c,env.cells.lookup y.1=some c)→
     (forIn l acc (fun x r=>if (x.2 == NameKind.free)=true then do let c ←cellOf env x.1; pure (ForInStep.yield ((x.1,c) :: r)) else pure (ForInStep.yield r)):Sem (List (Str×Addr)))=pure (clos env.cells l acc):=by
   intro l;induction l with
   | nil=>intro acc _; rfl
   | cons y r ih =>
     intro acc hy;obtain ⟨n,k⟩:=y;rw [List.forIn_cons];have ihr:=fun acc=>ih acc fun z hz=>hy z (wCq _ hz);by_cases hk:k= .free
     · subst hk;obtain ⟨c,hc⟩:=hy (n,.free) (wDq ..) rfl;have e:cellOf env n=pure c:=by unfold cellOf; rw [hc]
       simp only [beq_self_eq_true,if_true,e];unfold clos;rw [if_pos rfl,hc];exact ihr _
     · have e:((n,k).2 == NameKind.free)=false:=beq_eq_false_iff_ne.mpr hk;simp only [e];unfold clos;rw [if_neg hk];exact ihr _
 have:=main scope.names [] h;have e:(forIn scope.names ([]:List (Str×Addr)) (fun x r=>match x with
     | (name,kind)=>if (kind == NameKind.free)=true then do let c ←cellOf env name; pure (ForInStep.yield ((name,c) :: r)) else pure (ForInStep.yield r)):Sem (List (Str×Addr)))=pure (clos env.cells scope.names []):=by
   rw [←this]
 show ((forIn scope.names ([]:List (Str×Addr)) (fun x r=>match x with
     | (name,kind)=>if (kind == NameKind.free)=true then do let c ←cellOf env name; pure (ForInStep.yield ((name,c) :: r)) else pure (ForInStep.yield r)):Sem (List (Str×Addr))) >>= pure)=_
 rw [e];rfl
theorem MK {cells:List (Str×Addr)}:∀ {l:List (Str×NameKind)} {acc:List (Str×Addr)},(∀ y∈l,y.2= .free→∃ c,cells.lookup y.1=some c)→xB cells acc→xB cells (clos cells l acc)
 | [],_,_,h=>h
 | (n,k) :: r,acc,hy,h=>by
   unfold clos;refine MK (fun z hz=>hy z (wCq _ hz)) ?_;split
   · rename_i hk;obtain ⟨c,hc⟩:=hy (n,k) (wDq ..) hk;exact ⟨by rw [hc]; rfl,h⟩
   · exact h
theorem uT {cells:List (Str×Addr)}:∀ {l:List (Str×NameKind)} {acc:List (Str×Addr)} {n:Str},((∃ c,(n,c)∈acc)∨(n,NameKind.free)∈l)→∃ c,(n,c)∈clos cells l acc
 | [],_,_,h=>by
   rcases h with h | h
   · exact h
   · cases h
 | (m, k) :: r,acc,n,h=>by
   unfold clos;refine uT ?_;rcases h with ⟨c,h⟩ | h
   · refine .inl ?_;split
     · exact ⟨c,wCq _ h⟩
     · exact ⟨c,h⟩
   · rcases List.mem_cons.mp h with e | h
     · cases e;exact .inl ⟨_,by rw [if_pos rfl]; exact wDq ..⟩
     · exact .inr h
theorem zM {cells:List (Str×Addr)}:∀ {cl:List (Str×Addr)} {n:Str},xB cells cl→(∃ c,(n,c)∈cl)→∃ c,cl.lookup n=some c∧cells.lookup n=some c
 | [],_,_,⟨_,h⟩=>by cases h
 | (m,d) :: r,n,ok,⟨c,h⟩=>by
   rw [List.lookup_cons];cases hb:n == m with
   | true =>
     rw [beq_iff_eq.mp hb];exact ⟨d,rfl,ok.1⟩
   | false =>
     rcases List.mem_cons.mp h with e | h
     · cases e; rw [beq_self_eq_true] at hb; cases hb
     · exact zM ok.2 ⟨c,h⟩
theorem LW {cl cells:List (Str×Addr)} (hcl:xB cells cl):∀ {l:List (Str×NameKind)},(∀ n,(n,NameKind.free)∈l→∃ c,(n,c)∈cl)→mR cl cells l
 | [],_=>trivial
 | (n,k) :: r,h=>⟨fun e=>by subst e; exact zM hcl (h n (wDq ..)),LW hcl fun m hm=>h m (wCq _ hm)⟩
structure Cfg where
 N:List Str
 names:List (Str×NameKind)
 blk:Bool:=false
 fns:List Str:=[]
 mks:List Str:=[]
 shs:List (Str×Nat×List Str×List Ar):=[]
 mkk:List (Str×List Str×List Ar):=[]
 gls:List Str:=[]
 tys:List Str:=[]
 blt:List Str:=[]
 M:List Str:=[]
 rm:Bool:=false
 eqs:List (String×Str):=[]
 own:List Str:=[]
 ls:List Str:=[]
 nes:List (String×Str):=[]
 lns:List (String×Str):=[]
 ows:List (Str×List (String×Str)):=[]
 gds:List (Str×List (Str×Str)):=[]
 fvs:List (Str×Nat×List Ar):=[]
 mkp:List (Str×Nat×List Str×List Ar):=[]
 rp:Bool:=false
 exs:List (String×Str):=[]
 ky:List (Str×Str):=[]
 rz:Bool:=false
 xcl:List (Str×Str):=[]
 xis:List Str:=[]
 xat:List Str:=[]
 tr:Bool:=false
 tky:List (Str×Str):=[]
 cat:List String:=[]
 cln:List Str:=[]
 cm:Bool:=true
 hs:Bool:=false
 hfn:List Str:=[]
 mts:List (Str×Nat×List Str×List (String×Str×List Ar)):=[]
 tmts:List (Str×Nat×List Str×List (String×Str×List Ar)):=[]
 bmts:List (Str×Nat×List Str×List (String×Str×List Ar)):=[]
noncomputable def Cfg.key (C:Cfg) (x:Str):Str:=(C.ky.lookup x).getD x
noncomputable def Cfg.inT (C:Cfg):Cfg:={ C with ky:=C.tky,rz:=true,tr:=false,mts:=C.tmts }
noncomputable def Cfg.inH (C:Cfg):Cfg:={ C with fns:=C.hfn,mks:=[],shs:=[],mkk:=[],mkp:=[],eqs:=[],nes:=[],lns:=[],ows:=[],fvs:=[],exs:=[],ky:=[],rz:=false,xcl:=[],tr:=false,cm:=false,mts:=[],bmts:=[] }
noncomputable def slot:List Str→Str→Option Nat
 | [],_=>none
 | y :: r,x=>if y=x then some 0 else (slot r x).map (· + 1)
theorem eL:∀ {N:List Str} {x:Str} {i:Nat},slot N x=some i→N[i]? =some x
 | [],_,_,h=>by cases h
 | y :: r,x,i,h=>by
   unfold slot at h;split at h
   · rename_i e; cases h; rw [e]; rfl
   · cases e:slot r x with
     | none=>rw [e] at h; cases h
     | some j =>
       rw [e] at h;cases h;rw [List.getElem?_cons_succ];exact eL e
noncomputable def aE8 (C:Cfg) (x:Str):Bool:=match C.names.lookup x with
 | some .local=>true
 | some .cell=>true
 | some .free=>true
 | _=>false
noncomputable def RG (C:Cfg) (x:Str):Bool:=match C.names.lookup x with
 | some .local=>true
 | some .cell=> !C.blk || C.own.contains x
 | _=>false
noncomputable def glB (C:Cfg) (x:Str):Bool:=C.names.lookup x == some .globalImplicit
noncomputable def HA (x:Str):Bool:= !(x == ("__debug__":Str)) && !(x == ("__classdict__":Str))
noncomputable def cH:Expr→Bool
 | .Starred .. =>true
 | _=>false
noncomputable def uO:Expr→Bool
 | .Call (.Name x _) [] [] _=>x == ("super":Str)
 | _=>false
noncomputable def rC:Expr→Bool
 | .Set .. =>true
 | _=>false
noncomputable def aBn:Expr→Bool
 | .Slice .. =>true
 | _=>false
noncomputable def uV:Expr→Bool
 | .ListComp .. | .SetComp .. | .DictComp .. =>true
 | _=>false
noncomputable def XR:List (Str×Bn):=[("len",.len),("abs",.abs),("max",.max),("min",.min),("int",.int),("str",.str),("isinstance",.isi),("tuple",.tuple),("list",.list),("all",.all),("any",.any),("sum",.sum),("bool",.bool),("repr",.repr),("divmod",.divmod)]
noncomputable def kwN:List Keyword→Option (List Str)
 | []=>some []
 | ⟨some n,_,_⟩ :: r=>(kwN r).map (n :: ·)
 | ⟨none,_,_⟩ :: _=>none
noncomputable def iL (C:Cfg) (sc:Scope):List (Str×NameKind):=sc.names.map fun (n,k)=>if (k == .free && C.names.lookup n == some .cell) then (n,.cell) else (n,k)
noncomputable def lX (C:Cfg):List (Str×NameKind)→List (Str×Option Nat)
 | []=>[]
 | (n,k) :: r=>match k with
   | .local=>(n,none) :: lX C r
   | .cell=>(n,none) :: lX C r
   | .free=>match slot C.N n with
     | some j=>if C.names.lookup n=some .cell then (n,some j) :: lX C r else lX C r
     | none=>lX C r
   | _=>lX C r
noncomputable def yO (C:Cfg) (sc:Scope):Bool:=C.cm && sc.kind == .function && sc.names.all (fun y=>(y.2 != .cell || !sc.names.contains (y.1,.free)) && (y.2 != .local || sc.names.lookup y.1 == some .local) && (y.2 != .free || C.names.lookup y.1 == some .cell)) && decide (((lX C sc.names).map (·.1)).Nodup)
 && (lX C sc.names).all (fun p=>p.2.isNone || ((iL C sc).lookup p.1 == some .cell))
noncomputable def GV (C:Cfg) (sc:Scope):Cfg:={ C with N:=(lX C sc.names).map (·.1),names:=iL C sc,blk:=true,own:=(sc.names.filter (fun y=>y.2 == .cell)).map (·.1),ky:=[],rz:=false,xcl:=[],tr:=false,mts:=C.bmts }
mutual
noncomputable def xE:Nat→Cfg→Bool→Expr→Option CE
 | 0,_,_,_=>none
 | n + 1,C,m,e=>match e with
   | .Compare a [.NotEq] [b] _=>if rC b || C.nes.isEmpty then none else (cE n C false a).bind fun a'=>(cE n C false b).bind fun b'=>some (.cne C.nes a' b')
   | .Call (.Name x _) [] [] _=>if glB C x then (match C.mkk.find? (fun s=>s.1 == x && s.2.1 == []) with
     | some s=>some (.cak (C.key x) .nil .nil s.2.2)
     | none=>none) else none
   | .Call (.Name x _) [.Call (.Name y py) [a] [] pos2] [] _=>if x="len"∧y="range"∧glB C x=true∧glB C y=true∧C.blt.contains x=true∧C.blt.contains y=true∧cH a=false then (cE n C false a).bind fun a'=>some (.lnr a') else if m && x == ("list":Str) && glB C x && C.blt.contains x then (cE n C false (.Call (.Name y py) [a] [] pos2)).bind fun a'=>some (.lco a') else none
   | .Call (.Name x _) [a] [] _=>if m && x == ("list":Str) && glB C x && C.blt.contains x && !cH a then (cE n C false a).bind fun a'=>some (.lco a') else none
   | _=>none
noncomputable def vE:Nat→Cfg→Expr→Option CE
 | 0,_,_=>none
 | n + 1,C,e=>match e with
   | .Call (.Attribute o mth ap) es [] pos=>(match C.mts.find? (fun s=>s.1 == mth && s.2.1 == es.length && s.2.2.1 == []) with
     | some s=>if !uO o && es.all (fun e=> !cH e) && decide (es.length < 29) && ap.endLine == pos.line then (cE n C false o).bind fun o'=>(cL n C es).bind fun es'=>some (.met mth s.2.2.2 o' es') else none
     | none=>none)
   | _=>none
noncomputable def zE:Nat→Cfg→Expr→Option CE
 | 0,_,_=>none
 | n + 1,C,e=>match e with
   | _=>none
noncomputable def cE:Nat→Cfg→Bool→Expr→Option CE
 | 0,_,_,_=>none
 | n + 1,C,m,e=>match vE n C e with
 | some c=>some c
 | none=>match zE n C e with
 | some c=>some c
 | none=>match xE n C m e with
 | some c=>some c
 | none => match e with
   | .Name x _=>if HA x then (match slot C.N x with
     | some i=>if aE8 C x then some (.var i) else none
     | none=>if glB C x && (C.gls.contains x || C.tys.contains x) then some (.glo x) else none) else none
   | .Constant v _ _=>(match v with
     | .int i=>some (.int i)
     | .bool b=>some (.bl b)
     | .none=>some .non
     | .str s=>some (.str s)
     | _=>none)
   | .BinOp a op b _=>(cE n C false a).bind fun a'=>(cE n C false b).bind fun b'=>some (.bin op a' b')
   | .UnaryOp op a _=>(match op with
     | .USub=>(cE n C false a).bind fun a'=>some (.neg a')
     | .Not=>(cE n C false a).bind fun a'=>some (.no a')
     | _=>none)
   | .BoolOp op vs _=>cB n C op vs
   | .Compare a ops bs _=>(match ops,bs with
     | [op],[b]=>if rC b then none else (cE n C false a).bind fun a'=>(cE n C false b).bind fun b'=>some (.cmp op a' b')
     | [op,op'],[b,c]=>if rC c then none else (cE n C false a).bind fun a'=>(cE n C false b).bind fun b'=>(cE n C false c).bind fun c'=>some (.chn op op' a' b' c')
     | _,_=>none)
   | .IfExp c a b _=>(cT n C c).bind fun c'=>(cE n C false a).bind fun a'=>(cE n C false b).bind fun b'=>some (.ite c' a' b')
   | .Tuple es _ _=>(cL n C es).bind fun es'=>some (.tup es')
   | .List es _=>(cL n C es).bind fun es'=>some (.lst m es')
   | .Subscript a s _=>(match s with
     | .Slice lo hi none _=>(cE n C false a).bind fun a'=>(cO n C lo).bind fun l'=>(cO n C hi).bind fun h'=>some (.sli a' l' h')
     | .Slice none none (some (.Constant (.int 2) _ _)) _=>(cE n C false a).bind fun a'=>some (.stp false a')
     | .Slice (some (.Constant (.int 1) _ _)) none (some (.Constant (.int 2) _ _)) _=>(cE n C false a).bind fun a'=>some (.stp true a')
     | s=>if aBn s then none else (cE n C false a).bind fun a'=>(cE n C false s).bind fun i'=>some (.idx a' i'))
   | .Attribute a f _=>if uO a then none else (cE n C false a).bind fun a'=>some (.att a' f)
   | .Call f es kws pos=>(match f,es,kws with
     | .Name x _,e :: r,[]=>if glB C x then (match XR.lookup x with
         | some b=>if C.blt.contains x && (C.cm || !QS b) then (cL n C (e :: r)).bind fun es'=>some (match C.ows.lookup x with | some ls=>.bow b ls es' | none=>.blt b es') else none
         | none=>(match C.shs.find? (fun s=>s.1 == x && s.2.1 == (e :: r).length && s.2.2.1 == []) with
           | some s=>(cL n C (e :: r)).bind fun es'=>some (.cak (C.key x) es' .nil s.2.2.2)
           | none=>if C.fns.contains x || C.mks.contains x then (cL n C (e :: r)).bind fun es'=>some (.cal (C.key x) es') else none)) else none
     | .Name x _,e :: r,kw :: kws=>if glB C x then (kwN (kw :: kws)).bind fun ks=>(match C.shs.find? (fun s=>s.1 == x && s.2.1 == (e :: r).length && s.2.2.1 == ks) with
         | some s=>(cL n C (e :: r)).bind fun es'=>(cK n C (kw :: kws)).bind fun ks'=>some (.cak (C.key x) es' ks' s.2.2.2)
         | none=>none) else none
     | .Name x _,[],kw :: kws=>if glB C x then (kwN (kw :: kws)).bind fun ks=>(match C.shs.find? (fun s=>s.1 == x && s.2.1 == 0 && s.2.2.1 == ks) with
         | some s=>(cK n C (kw :: kws)).bind fun ks'=>some (.cak (C.key x) .nil ks' s.2.2.2)
         | none=>(match C.mkk.find? (fun s=>s.1 == x && s.2.1 == ks) with
           | some s=>(cK n C (kw :: kws)).bind fun ks'=>some (.cak (C.key x) .nil ks' s.2.2)
           | none=>none)) else none
     | .Attribute o mth ap,[e],[]=>if mth="append" && !uO o && !cH e && ap.endLine == pos.line then (cE n C false o).bind fun o'=>(cE n C false e).bind fun e'=>some (.app o' e') else if mth="pop" && !uO o && !cH e && ap.endLine == pos.line then (cE n C false o).bind fun o'=>(cE n C false e).bind fun e'=>some (.pop o' e') else none
     | _,_,_=>none)
   | .ListComp elt gens sc _=>(match gens with
     | [⟨tg,iter,ifs,0⟩]=>if yO C sc && !rC iter then (cI n C tg iter).bind fun it'=>(cG n (GV C sc) tg).bind fun tg'=>(cTs n (GV C sc) ifs).bind fun ts'=>(cE n (GV C sc) false elt).bind fun el'=>some (.cmpr m tg' it' ts' el' ((lX C sc.names).map (·.2))) else none
     | _=>none)
   | _=>none
noncomputable def cL:Nat→Cfg→List Expr→Option CE
 | 0,_,_=>none
 | n + 1,C,es=>match es with
   | []=>some .nil
   | e :: r=>if cH e then none else (cE n C false e).bind fun e'=>(cL n C r).bind fun r'=>some (.cons e' r')
noncomputable def cK:Nat→Cfg→List Keyword→Option CE
 | 0,_,_=>none
 | n + 1,C,ks=>match ks with
   | []=>some .nil
   | ⟨_,v,_⟩ :: r=>(cE n C false v).bind fun e'=>(cK n C r).bind fun r'=>some (.cons e' r')
noncomputable def cB:Nat→Cfg→BoolOp→List Expr→Option CE
 | 0,_,_,_=>none
 | n + 1,C,op,vs=>match vs with
   | []=>none
   | [a]=>cE n C false a
   | a :: b :: r=>(cE n C false a).bind fun a'=>(cB n C op (b :: r)).bind fun b'=>some (match op with | .And=>.an a' b' | .Or=>.oo a' b')
noncomputable def xT:Nat→Cfg→Expr→Option CE
 | 0,_,_=>none
 | n + 1,C,e=>match e with
   | .Compare a [.NotEq] [b] _=>if rC b || C.nes.isEmpty then none else (cE n C false a).bind fun a'=>(cE n C false b).bind fun b'=>some (.tsb (.cne C.nes a' b'))
   | _=>none
noncomputable def cT:Nat→Cfg→Expr→Option CE
 | 0,_,_=>none
 | n + 1,C,e=>match xT n C e with
 | some c=>some c
 | none=>match e with
   | .BoolOp op vs _=>cW n C op vs
   | .UnaryOp .Not a _=>(cT n C a).bind fun a'=>some (.no a')
   | .Compare a ops bs _=>(match ops,bs with
     | [op],[b]=>if rC b then none else (cE n C false a).bind fun a'=>(cE n C false b).bind fun b'=>some (.tsb (.cmp op a' b'))
     | [op,op'],[b,c]=>if rC c then none else (cE n C false a).bind fun a'=>(cE n C false b).bind fun b'=>(cE n C false c).bind fun c'=>some (.tsb (.chn op op' a' b' c'))
     | _,_=>none)
   | .Name .. | .Call .. | .Subscript .. | .Attribute .. =>(cE n C false e).bind fun e'=>some (.tst e')
   | _=>none
noncomputable def cW:Nat→Cfg→BoolOp→List Expr→Option CE
 | 0,_,_,_=>none
 | n + 1,C,op,vs=>match vs with
   | []=>none
   | [a]=>cT n C a
   | a :: b :: r=>(cT n C a).bind fun a'=>(cW n C op (b :: r)).bind fun b'=>some (match op with | .And=>.an a' b' | .Or=>.oo a' b')
noncomputable def cO:Nat→Cfg→Option Expr→Option CE
 | 0,_,_=>none
 | n + 1,C,o=>match o with
   | none=>some .nil
   | some e=>(cE n C false e).bind fun e'=>some (.tst e')
noncomputable def cTs:Nat→Cfg→List Expr→Option CE
 | 0,_,_=>none
 | n + 1,C,l=>match l with
   | []=>some .nil
   | [c]=>cT n C c
   | _=>none
noncomputable def cG:Nat→Cfg→Expr→Option CE
 | 0,_,_=>none
 | n + 1,C,e=>match e with
   | .Name x _=>if RG C x then (slot C.N x).bind fun i=>some (.gn i) else none
   | .Tuple es _ _=>if C.cm then (cGs n C es).bind fun g=>some (.gt es.length g) else none
   | _=>none
noncomputable def cGs:Nat→Cfg→List Expr→Option CE
 | 0,_,_=>none
 | n + 1,C,es=>match es with
   | []=>some .nil
   | e :: r=>if cH e then none else (cG n C e).bind fun g=>(cGs n C r).bind fun r'=>some (.cons g r')
noncomputable def cI:Nat→Cfg→Expr→Expr→Option CE
 | 0,_,_,_=>none
 | n + 1, C,tg,e=>match e with
   | .Call (.Name x p) es kws pos=>if x="zip" then (match kws,tg,es with
       | [],.Tuple ..,_ :: _=>if glB C x && C.blt.contains x then (cL n C es).bind fun es'=>some (.izp es') else none
       | _,_,_=>none)
     else (match kws,es with
     | [],[a]=>if cH a then none else if x="range" then (if glB C x && C.blt.contains x then (cE n C false a).bind fun a'=>some (.irg (.cons a' .nil)) else none)
       else if x="enumerate" then (match tg with
         | .Tuple .. =>if glB C x && C.blt.contains x then (cE n C false a).bind fun a'=>some (.ien a') else none
         | _=>none)
       else (cE n C false (.Call (.Name x p) es kws pos)).bind fun e'=>some (.isq e')
     | [],[a,b]=>if cH a || cH b then none else if x="range" then (if glB C x && C.blt.contains x then (cE n C false a).bind fun a'=>(cE n C false b).bind fun b'=>some (.irg (.cons a' (.cons b' .nil))) else none)
       else (cE n C false (.Call (.Name x p) es kws pos)).bind fun e'=>some (.isq e')
     | _,_=>(cE n C false (.Call (.Name x p) es kws pos)).bind fun e'=>some (.isq e'))
   | e=>if rC e then none else (cE n C false e).bind fun e'=>some (.isq e')
end
structure Fk (P:Program) (w:World) (K:W.Frag) (mg:Str→Option Value) (base:Heap) (E:Ev) (T:Tb) (k:Nat) (f:Str) (ad:Addr) (fd:FuncData) (ps:List Str):Prop where
 ok:bN P w K mg base CX0 k ad fd ps (iW E (T.S f))
 mg:mg f=some (.ref ad)
 kp:W.keepIn K (.ref ad)=true
 db:(f == ("__debug__":Str))=false
structure Mf (P:Program) (w:World) (K:W.Frag) (mg:Str→Option Value) (base:Heap) (E:Ev) (T:Tb) (k:Nat) (x:Str) (c:String) (xi:Str) (ad:Addr) (fd:FuncData) (ps:List Str):Prop where
 mkr:Mk K (E.cls c) ad
 ok:bN P w K mg base CX0 k ad fd ps (iW E (T.S xi))
 mg:mg x=some (.ref (E.cls c))
 ms:TR T c x xi
 db:(x == ("__debug__":Str))=false
noncomputable def up1:Ar→Ar
 | .arg i=>.arg (i + 1)
 | a=>a
structure FkX (P:Program) (w:World) (K:W.Frag) (mg:Str→Option Value) (base:Heap) (E:Ev) (T:Tb) (k:Nat) (f y:Str) (ad:Addr) (fd:FuncData) (ps:List Str):Prop where
 ok:∃ S0 X0,bN P w K mg base (CXo P w) k ad fd ps (FJ E S0 X0)∧∀ xs G Q,T.S y xs G Q→S0 xs G Q∨X0 xs G T.xp
 mg:mg f=some (.ref ad)
 kp:W.keepIn K (.ref ad)=true
 db:(f == ("__debug__":Str))=false
structure MfX (P:Program) (w:World) (K:W.Frag) (mg:Str→Option Value) (base:Heap) (E:Ev) (T:Tb) (k:Nat) (x y:Str) (c:String) (xi:Str) (ad:Addr) (fd:FuncData) (ps:List Str):Prop where
 mkr:Mk K (E.cls c) ad
 ok:∃ S0 X0,bN P w K mg base (CXo P w) k ad fd ps (FJ E S0 X0)∧∀ xs G Q,T.S xi xs G Q→S0 xs G Q∨X0 xs G T.xp
 mg:mg x=some (.ref (E.cls c))
 ms:TR T c y xi
 db:(x == ("__debug__":Str))=false
noncomputable def aKn (P:Program) (w:World) (K:W.Frag) (mg:Str→Option Value) (base:Heap) (E:Ev) (T:Tb) (k:Nat) (x y:Str):Prop :=
 (∃ c f fd ps Bn fld,XIn K mg (E.cls c) f Bn fld∧mg x=some (.ref (E.cls c))∧bN P w K mg base CX0 k f fd ps (spI (E.cls c) fld)∧L2.aH K fd ps []∧∀ xs G Q,T.S y xs G Q→∃ v,xs=[v]∧T.xp c [fld] [v] G)∨False
structure Gf (P:Program) (w:World) (K:W.Frag) (mg:Str→Option Value) (base:Heap) (E:Ev) (T:Tb) (k:Nat) (C:Cfg):Prop where
 fns:∀ f∈C.fns,∃ ad fd ps,Fk P w K mg base E T k f ad fd ps∧L2.aH K fd ps []
 mks:∀ x∈C.mks,∃ c xi ad fd ps,Mf P w K mg base E T k x c xi ad fd ps∧L2.aH K fd ps []
 shs:∀ s∈C.shs,∃ ad fd ps,Fk P w K mg base E T k s.1 ad fd ps∧hZ K fd ps s.2.1 s.2.2.1 s.2.2.2
 mkk:∀ s∈C.mkk,∃ c xi ad fd ps,Mf P w K mg base E T k s.1 c xi ad fd ps∧hZ K fd ps 1 s.2.1 (.arg 0 :: s.2.2.map up1)
 gls:∀ x∈C.gls,∃ u v,mg x=some u∧aN v u∧RP E (fun _=>none) (T.gv x) v
 tys:∀ x∈C.tys,mg x=none∧(∃ n,bootBuiltins x=some (.type n)∧T.gv x= .ty n)∧x≠"__name__"
 blt:∀ x∈C.blt,mg x=none
 eqs:∀ y∈C.eqs,∃ ad fd,fO K (E.cls y.1) "__eq__" ad∧bN P w K mg base CX0 k ad fd ["self","other"] (iW E (T.S y.2))∧L2.aH K fd ["self","other"] []
 nes:∀ y∈C.nes,∃ ad fd,NeC K (E.cls y.1)∧fO K (E.cls y.1) "__eq__" ad∧bN P w K mg base CX0 k ad fd ["self","other"] (iW E (T.S y.2))∧L2.aH K fd ["self","other"] []
 lns:∀ y∈C.lns,∃ ad fd,NeC K (E.cls y.1)∧fO K (E.cls y.1) "__len__" ad∧bN P w K mg base CX0 k ad fd ["self"] (iW E (T.S y.2))∧L2.aH K fd ["self"] []
 ows:∀ y∈C.ows,∀ b,XR.lookup y.1=some b→∀ z∈y.2,∃ ad fd k0 nm,k0 + 2≤k∧bwN b=some nm∧NeC K (E.cls z.1)∧fO K (E.cls z.1) nm ad∧bN P w K mg base CX0 k0 ad fd ["self"] (iW E (T.S z.2))∧L2.aH K fd ["self"] []
 gds:∀ y∈C.gds,∃ a es n,mg y.1=some (.ref a)∧K.lookup a=some ⟨.type "dict",none,.dict es n, #[]⟩∧W.KeysLit w.params es.toList∧(a == sysModules)=false∧∀ z,findBy Value.isStrOf es z=(y.2.lookup z).map fun f=>.ref (E.fna f)
 fvs:∀ y∈C.fvs,∃ fd ps,bN P w K mg base CX0 k (E.fna y.1) fd ps (iW E (T.S y.1))∧W.keepIn K (.ref (E.fna y.1))=true∧hZ K fd ps y.2.1 [] y.2.2
 mkp:∀ s∈C.mkp,∃ c xi ad fd ps,Mf P w K mg base E T k s.1 c xi ad fd ps∧hZ K fd ps (s.2.1 + 1) s.2.2.1 (.arg 0 :: s.2.2.2.map up1)
 exs:∀ y∈C.exs,∃ ad fd,NeC K (E.cls y.1)∧fO K (E.cls y.1) "__eq__" ad∧bN P w K mg base CX0 k ad fd ["self","other"] (iW E (T.S y.2))∧L2.aH K fd ["self","other"] []∧EqL K (E.cls y.1)∧∀ d∈T.cs,d≠y.1→EqD K (E.cls y.1) (E.cls d)
 kr:∀ y∈C.ky,C.rz=true
 kf:∀ y∈C.ky,(y.1∈C.fns→∃ ad fd ps,FkX P w K mg base E T k y.1 y.2 ad fd ps∧L2.aH K fd ps [])∧(y.1∈C.mks→∃ c xi ad fd ps,MfX P w K mg base E T k y.1 y.2 c xi ad fd ps∧L2.aH K fd ps [])
 ks:∀ s∈C.shs,∀ y∈C.ky,y.1=s.1→∃ ad fd ps,FkX P w K mg base E T k s.1 y.2 ad fd ps∧hZ K fd ps s.2.1 s.2.2.1 s.2.2.2
 km:∀ s∈C.mkk,∀ y∈C.ky,y.1=s.1→∃ c xi ad fd ps,MfX P w K mg base E T k s.1 y.2 c xi ad fd ps∧hZ K fd ps 1 s.2.1 (.arg 0 :: s.2.2.map up1)
 kp:∀ s∈C.mkp,∀ y∈C.ky,y.1=s.1→∃ c xi ad fd ps,MfX P w K mg base E T k s.1 y.2 c xi ad fd ps∧hZ K fd ps (s.2.1 + 1) s.2.2.1 (.arg 0 :: s.2.2.2.map up1)
 xc:∀ y∈C.xcl,aKn P w K mg base E T k y.1 y.2
 mts:∀ s∈C.mts,∀ y∈s.2.2.2,∃ ad fd ps,Cls K (E.cls y.1)∧fO K (E.cls y.1) s.1 ad∧hZ K fd ps (s.2.1 + 1) s.2.2.1 (.arg 0 :: y.2.2.map upA)∧
   (bN P w K mg base CX0 k ad fd ps (iW E (T.S y.2.1))∨(C.rz=true∧∃ S0 X0,bN P w K mg base (CXo P w) k ad fd ps (FJ E S0 X0)∧∀ xs G Q,T.S y.2.1 xs G Q→S0 xs G Q∨X0 xs G T.xp))
 bmts:∀ s∈C.bmts,∀ y∈s.2.2.2,∃ ad fd ps,Cls K (E.cls y.1)∧fO K (E.cls y.1) s.1 ad∧hZ K fd ps (s.2.1 + 1) s.2.2.1 (.arg 0 :: y.2.2.map upA)∧bN P w K mg base CX0 k ad fd ps (iW E (T.S y.2.1))
def aIB (K:W.Frag) (mg:Str→Option Value) (E:Ev) (cat:List String) (ns:List Str):Prop:= ∃ cs:List Addr,(∀ p∈ns.zip cs,mg p.1=some (.ref p.2))∧ns.length=cs.length∧(∀ c∈cs,LX.aHK K c=true∧W.typeIn K (.ref c)=some (.type "type"))∧W.subIn K (.type "type") (.type "tuple")=some false∧∀ c∈cat,LX.aCU K (E.cls c) cs=some true
structure Tf (P:Program) (w:World) (K:W.Frag) (mg:Str→Option Value) (base:Heap) (E:Ev) (T:Tb) (k:Nat) (C:Cfg):Prop where
 tr:C.tr=true→∀ x f z,Gf P w K mg base (E.at f z) (T.at x) k C.inT
 ca:C.tr=true→aIB K mg E C.cat C.cln
 hh:C.tr=true→C.hs=true→∃ kh,kh + 1 < 40∧kh≤k∧Gf P w K mg base E T kh C.inH
structure Kn (X:Cx) (E:Ev) (T:Tb) (k:Nat) (C:Cfg):Prop where
 pl:Pl X E T (k + 1)
 N:X.N=C.N
 nd:C.N.Nodup
 nm:X.env.scope.names=C.names
 kd:X.env.scope.kind= .function
 fn:∀ x,(C.blk=false∨x∈C.own)→X.fn x=true
 ce:∀ x,C.names.lookup x=some .cell→∃ c,X.env.cells.lookup x=some c
 ps:PassesOwn (model X.prog X.w) X.A X.env X.xe
 gf:Gf X.prog X.w X.K X.mg X.base E T k C
 ow:(C.rz=true∨C.tr=true)→Own X
 xk:C.rz=true→∃ EX,(∀ e s',xeO X EX e s'→X.xe e s')∧KX E E.f0 E.z0 T.xp EX
 xi:aKw X E T
 cm:C.cm=true→40≤k
 gu:C.rp=true→X.A.guards=some []
 tf:Tf X.prog X.w X.K X.mg X.base E T k C
theorem aBh:∀ y∈XR,bootBuiltins y.1=some (WF y.2)∧y.1≠"__name__"∧(y.1 == ("__debug__":Str))=false:=by
 intro y hy;simp only [XR,List.mem_cons,List.not_mem_nil,or_false] at hy;rcases hy with rfl | rfl | rfl | rfl | rfl | rfl | rfl | rfl | rfl | rfl | rfl | rfl | rfl | rfl | rfl <;> exact ⟨by first | exact PySem.boot_len | (with_unfolding_all rfl),by decide,by decide⟩
theorem aY {α β:Type} [BEq α] [LawfulBEq α]:∀ {l:List (α×β)} {x:α} {b:β},l.lookup x=some b→(x,b)∈l
 | [],_,_,h=>by cases h
 | (y,c) :: r,x,b,h=>by
   rw [List.lookup_cons] at h;cases e:x == y with
   | true=>rw [e] at h; cases h; rw [beq_iff_eq.mp e]; exact wDq ..
   | false=>rw [e] at h; exact wCq _ (aY h)
section
variable {X:Cx} {E:Ev} {T:Tb} {k:Nat} {C:Cfg}
theorem Kn.vis (K:Kn X E T k C) {x:Str} (h:aE8 C x=true):Vis X.env.scope x:=by
 unfold aE8 at h;unfold Vis;rw [K.nm];split at h
 · rename_i e; exact .inl e
 · rename_i e; exact .inr (.inl e)
 · rename_i e; exact .inr (.inr e)
 · cases h
theorem Kn.loc (K:Kn X E T k C) {x:Str} (h:RG C x=true):L2.Loc X.env.scope x∧(X.fn x=true∨X.env.scope.names.lookup x=some .local):=by
 unfold RG at h;unfold L2.Loc;rw [K.nm];split at h
 · rename_i e; exact ⟨.inl e,.inr e⟩
 · rename_i e;exact ⟨.inr e,.inl (K.fn x (by
     rw [Bool.or_eq_true] at h;exact h.imp (fun z=>by simpa using z) fun z=>List.contains_iff_mem.mp z))⟩
 · cases h
theorem Kn.gl (K:Kn X E T k C) {x:Str} (h:glB C x=true):Gl X x:=by
 unfold glB at h;unfold Gl Env.kindOf;rw [K.nm];exact beq_iff_eq.mp h
theorem kF {x:Str} (h:C.ky.lookup x=none):C.key x=x:=by unfold Cfg.key; rw [h]; rfl
theorem kZ {x y:Str} (h:C.ky.lookup x=some y):C.key x=y:=by unfold Cfg.key; rw [h]; rfl
theorem Kn.co (K:Kn X E T k C) (hz:C.rz=true) {y:Str} {ad:Addr} {fd:FuncData} {ps:List Str} {j:Nat} (F:∃ S0 X0,bN X.prog X.w X.K X.mg X.base (CXo X.prog X.w) j ad fd ps (FJ E S0 X0)∧∀ xs G Q,T.S y xs G Q→S0 xs G Q∨X0 xs G T.xp):Co X E (T.S y) j ad fd ps:=by
 obtain ⟨S0,X0,F,h⟩:=F;obtain ⟨EX,hx,kx⟩:=K.xk hz;exact Co.ofX F h hx kx
theorem aS {e:Expr} {es:List Expr} {env:Env} (h:cH e=false):starEach (e :: es) env=(false,eval e env) :: starEach es env:=by
 cases e <;> first | rfl | (cases h)
theorem EJ {e:Expr} {es:List Expr} {env:Env} (h:cH e=false):assignEach (e :: es) env=(false,assign e env) :: assignEach es env:=by
 cases e <;> first | rfl | (cases h)
theorem iD {o:Expr} {f:Str} {env:Env} {w:Sem Value} (h:uO o=false):attributeBase o f env w=w:=by
 unfold attributeBase;split
 · rename_i x _ _;have h:(x == ("super":Str))=false:=h;rw [if_pos];rw [show (x != (Str.ofString "super"))=true by show (!(x == ("super":Str)))=true; rw [h]; rfl];rfl
 · rfl
theorem jZ {op:CmpOp} {b:Expr} (h:rC b=false):behindInMarks op b=false:=by
 cases b <;> first | rfl | (cases h)
theorem rX {e:Expr} {env:Env} (h:rC e=false):∀ x,foldedSetIterable e env x=pure x:=by
 intro x;cases e <;> first | rfl | (cases h)
theorem IP {e:Expr} (h:aBn e=false):BD e:=by
 intro o i;cases e <;> first | rfl | (cases h)
theorem wJ (K:Kn X E T k C) (sc:Scope):(relabel sc X.env).names=iL C sc:=by
 unfold relabel iL Env.kindOf;rw [K.nm,K.kd];simp
theorem IR {cl:List (Str×Addr)} {sc:Scope} (K:Kn X E T k C):∀ {l:List (Str×Option Nat)},(∀ p∈l,∀ j,p.2=some j→X.N[j]? =some p.1∧X.env.kindOf p.1=some .cell∧(relabel sc X.env).names.lookup p.1=some .cell∧∃ c,cl.lookup p.1=some c∧X.env.cells.lookup p.1=some c)→gA X sc cl (l.map (·.1)) (l.map (·.2))
 | [],_=>trivial
 | (n,none) :: r,h=>by
   show gA X sc cl (r.map (·.1)) (r.map (·.2));exact IR K fun p hp=>h p (wCq _ hp)
 | (n,some j) :: r,h=>⟨h _ (wDq ..) j rfl,IR K fun p hp=>h p (wCq _ hp)⟩
theorem gG {C:Cfg}:∀ {l:List (Str×NameKind)} {p:Str×Option Nat} {j:Nat},p∈lX C l→p.2=some j→(p.1,NameKind.free)∈l∧slot C.N p.1=some j∧C.names.lookup p.1=some .cell
 | [],_,_,h,_=>by cases h
 | (n, kk) :: r,p,j,h,e=>by
   unfold lX at h;split at h
   · rcases List.mem_cons.mp h with z | z
     · subst z; cases e
     · obtain ⟨a,b⟩:=gG z e; exact ⟨wCq _ a,b⟩
   · rcases List.mem_cons.mp h with z | z
     · subst z; cases e
     · obtain ⟨a,b⟩:=gG z e; exact ⟨wCq _ a,b⟩
   · split at h
     · rename_i j' hs;split at h
       · rename_i hc;rcases List.mem_cons.mp h with z | z
         · subst z; cases e; exact ⟨wDq ..,hs,hc⟩
         · obtain ⟨a,b⟩:=gG z e; exact ⟨wCq _ a,b⟩
       · obtain ⟨a,b⟩:=gG h e; exact ⟨wCq _ a,b⟩
     · obtain ⟨a,b⟩:=gG h e; exact ⟨wCq _ a,b⟩
   · obtain ⟨a,b⟩:=gG h e; exact ⟨wCq _ a,b⟩
theorem JU {cells:List (Str×Addr)}:∀ {l:List (Str×NameKind)} {acc:List (Str×Addr)} {n:Str} {c:Addr},(n,c)∈clos cells l acc→(n,c)∈acc∨(n,NameKind.free)∈l
 | [],_,_,_,h=>.inl h
 | (m, k) :: r,acc,n,c,h=>by
   unfold clos at h;rcases JU h with z | z
   · split at z
     · rename_i hk;rcases List.mem_cons.mp z with e | z
       · cases e; subst hk; exact .inr (wDq ..)
       · exact .inl z
     · exact .inl z
   · exact .inr (wCq _ z)
theorem RE {sc:Scope} (h:yO C sc=true):C.cm=true:=by
 unfold yO at h;simp only [Bool.and_eq_true] at h;exact h.1.1.1.1
theorem Kn.block (K:Kn X E T k C) {sc:Scope} (h:yO C sc=true):∃ cl,jD X ((lX C sc.names).map (·.1)) sc cl ((lX C sc.names).map (·.2))∧∀ C0 s₀ H₀ ex,Kn (cxC X ((lX C sc.names).map (·.1)) sc cl C0 s₀ H₀ ex) E T k (GV C sc):=by
 unfold yO at h;simp only [Bool.and_eq_true,List.all_eq_true,decide_eq_true_eq] at h;obtain ⟨⟨⟨⟨_,hk⟩,hn⟩,hd⟩,hc⟩:=h;have hk:sc.kind= .function:=beq_iff_eq.mp hk;have fr:∀ y∈sc.names,y.2= .free→C.names.lookup y.1=some .cell:=fun y hy e=>by
   have:=(hn y hy).2;rw [e] at this;simpa using this
 have ncell:∀ x,(x,NameKind.cell)∈sc.names→(x,NameKind.free)∉ sc.names:=fun x hx hf=>by
   have:=(hn _ hx).1.1;simp [hf] at this
 have hf:∀ y∈sc.names,y.2= .free→∃ c,X.env.cells.lookup y.1=some c:=fun y hy e=>K.ce y.1 (fr y hy e);have hcl:xB X.env.cells (clos X.env.cells sc.names []):=MK hf trivial;have look:∀ n,(n,NameKind.free)∈sc.names→∃ c,(clos X.env.cells sc.names []).lookup n=some c∧X.env.cells.lookup n=some c:=fun n hn=>zM hcl (uT (.inr hn));refine ⟨clos X.env.cells sc.names [],⟨aAp hf,(fun x hx=>by
   cases e:(clos X.env.cells sc.names []).lookup x with
   | none=>rfl
   | some c =>
     rcases JU (aY e) with z | z
     · cases z
     · exact absurd z (ncell x hx)),hk,fun y hy e=>?_,LW hcl fun n hn=>uT (.inr hn),hcl,IR K fun p hp j e=>?_⟩,fun C0 s₀ H₀ ex=>⟨⟨K.pl.hK,K.pl.calm,K.pl.room,K.pl.cls,K.pl.fld⟩,rfl,hd,wJ K sc,hk,(fun x z=>by
   rcases z with z | z
   · cases z
   · obtain ⟨y,hy,e⟩:=List.mem_map.mp z;obtain ⟨h1,h2⟩:=List.mem_filter.mp hy;subst e;refine List.contains_iff_mem.mpr ?_;rw [show (y.1,NameKind.cell)=y from by rw [←beq_iff_eq.mp h2]];exact h1),fun x hx=>?_,PassesOwn.never,⟨K.gf.fns,K.gf.mks,K.gf.shs,K.gf.mkk,K.gf.gls,K.gf.tys,K.gf.blt,K.gf.eqs,K.gf.nes,K.gf.lns,K.gf.ows,K.gf.gds,K.gf.fvs,K.gf.mkp,K.gf.exs,(fun _ h=>nomatch h),(fun _ h=>nomatch h),(fun _ _ _ h=>nomatch h),(fun _ _ _ h=>nomatch h),(fun _ _ _ h=>nomatch h),(fun _ h=>nomatch h),(fun s hs y hy=>let ⟨ad,fd,ps,a,b,c,d⟩:=K.gf.bmts s hs y hy; ⟨ad,fd,ps,a,b,c,.inl d⟩),K.gf.bmts⟩,(fun h=>by rcases h with h | h <;> cases h),(fun h=>by cases h),⟨K.xi.xi,K.xi.fx⟩,K.cm,K.gu,⟨(fun h=>by cases h),(fun h=>by cases h),(fun h=>by cases h)⟩⟩⟩
 · have:=(hn y hy).1.2;rw [e] at this;simpa using this
 · obtain ⟨hm,hs,hcell⟩:=gG hp e;refine ⟨by rw [K.N]; exact eL hs,by unfold Env.kindOf; rw [K.nm]; exact hcell, ?_,look _ hm⟩;rw [wJ K sc];have:=hc p hp;rw [e] at this;simpa using this
 · have hx:(iL C sc).lookup x=some .cell:=hx;have hm:=aY hx;unfold iL at hm;obtain ⟨⟨n,kk⟩,hy,e⟩:=List.mem_map.mp hm;have e':(if (kk == NameKind.free && C.names.lookup n == some NameKind.cell)=true then (n,NameKind.cell) else (n,kk))=(x,NameKind.cell):=e;split at e'
   · rename_i hcond;cases e';have:kk= .free:=by
       rw [Bool.and_eq_true] at hcond;exact beq_iff_eq.mp hcond.1
     subst this;obtain ⟨c,h1,_⟩:=look x hy;exact ⟨c,pQ (fun z=>ncell x z hy) h1⟩
   · cases e';obtain ⟨c,h1,_⟩:=yG (n:=C0 + 1) (cl:=clos X.env.cells sc.names []) hy;exact ⟨c,h1⟩
theorem oM {pos:Pos} {env:Env}:∀ {kws:List Keyword} {ks:List Str},kwN kws=some ks→(backToKw pos (keywordEach kws env)).all (·.1.isSome)=true∧(backToKw pos (keywordEach kws env)).filterMap (·.1)=ks∧(backToKw pos (keywordEach kws env)).any (·.1.isNone)=false∧kws.length=ks.length
 | [],ks,h=>by cases h; exact ⟨rfl,rfl,rfl,rfl⟩
 | ⟨some n,v,p⟩ :: r,ks,h=>by
   unfold kwN at h;cases e:kwN r with
   | none=>rw [e] at h; cases h
   | some l =>
     rw [e] at h;cases h;obtain ⟨a,b,c,d⟩:=oM (pos:=pos) (env:=env) e;refine ⟨?_, ?_, ?_,by rw [List.length_cons,List.length_cons,d]⟩
     · show (true && (backToKw pos (keywordEach r env)).all (·.1.isSome))=true;rw [a]; rfl
     · show n :: (backToKw pos (keywordEach r env)).filterMap (·.1)=n :: l;rw [b]
     · show (false || (backToKw pos (keywordEach r env)).any (·.1.isNone))=false;rw [c]; rfl
 | ⟨none,v,p⟩ :: r,ks,h=>by cases h
end
structure Snd (E:Ev) (T:Tb) (k:Nat) (n:Nat):Prop where
 e:∀ X C m e c,Kn X E T k C→cE n C m e=some c→JE X E e (wpE T c)
 xe:∀ X C m e c,Kn X E T k C→xE n C m e=some c→JE X E e (wpE T c)
 ve:∀ X C e c,Kn X E T k C→vE n C e=some c→JE X E e (wpE T c)
 ze:∀ X C e c,Kn X E T k C→zE n C e=some c→JE X E e (wpE T c)
 xt:∀ X C e c,Kn X E T k C→xT n C e=some c→JT X E e (wpT T c)
 l:∀ X C es c,Kn X E T k C→cL n C es=some c→JA X E es (wpL T c)∧∀ e∈es,cH e=false
 kk:∀ X C ks c,Kn X E T k C→cK n C ks=some c→JK X E ks (wpL T c)
 b:∀ X C op vs c pos,Kn X E T k C→cB n C op vs=some c→JE X E (.BoolOp op vs pos) (wpE T c)
 t:∀ X C e c,Kn X E T k C→cT n C e=some c→JT X E e (wpT T c)
 w:∀ X C op vs c pos,Kn X E T k C→cW n C op vs=some c→JW X E (.BoolOp op vs pos) (wpT T c)
 o:∀ X C o c,Kn X E T k C→cO n C o=some c→JO X E o (wpO T c)
 ts:∀ X C l c,Kn X E T k C→cTs n C l=some c→OX X E l (wpT T c)
 g:∀ X C e c,Kn X E T k C→cG n C e=some c→JG X E e (wpG T c)
 gs:∀ X C es c,Kn X E T k C→cGs n C es=some c→JGs X E es (fP T c)∧∀ e∈es,cH e=false
 i:∀ X C tg e c,Kn X E T k C→cI n C tg e=some c→JI X E tg e (wpI T c)
section
variable {E:Ev} {T:Tb} {k n:Nat}
theorem bnd {α β:Type} {o:Option α} {f:α→Option β} {b:β} (h:o.bind f=some b):∃ a,o=some a∧f a=some b:=Option.bind_eq_some_iff.mp h
theorem dB {pos:Pos} {env:Env}:∀ {es:List Expr},(∀ e∈es,cH e=false)→(backTo pos (starEach es env)).any (·.1)=false
 | [],_=>rfl
 | e :: r,h=>by
   rw [aS (h e (wDq ..))];show (false || (backTo pos (starEach r env)).any (·.1))=false;rw [dB fun x hx=>h x (wCq _ hx)]; rfl
theorem tU {env:Env}:∀ {es:List Expr},(∀ e∈es,cH e=false)→(assignEach es env).length=es.length∧(assignEach es env).findIdx? (·.1)=none
 | [],_=>⟨rfl,rfl⟩
 | e :: r,h=>by
   obtain ⟨a,b⟩:=tU (env:=env) (es:=r) fun x hx=>h x (wCq _ hx);rw [EJ (h e (wDq ..))];refine ⟨by rw [List.length_cons,List.length_cons,a], ?_⟩;rw [List.findIdx?_cons];simp only [b];rfl
theorem aCH {op op':CmpOp} {b c:Expr} (h:rC c=false):lastMarks [op,op'] [b,c]=false:=by
 show lastMarks [op'] [c]=false;exact jZ h
theorem tM {α:Type} {l:List α} {p:α→Bool} {s:α} (h:l.find? p=some s):s∈l∧p s=true:=⟨List.mem_of_find?_eq_some h,List.find?_some h⟩
theorem UQ {x:Str} (h:HA x=true):(x == ("__debug__":Str))=false∧(x == ("__classdict__":Str))=false:=by
 unfold HA at h;rw [Bool.and_eq_true,Bool.not_eq_true',Bool.not_eq_true'] at h;exact h
theorem or2 {a b:Bool} (h:¬(a || b)=true):a=false∧b=false:=by cases a <;> cases b <;> simp at h ⊢
theorem aKg:Snd E T k 0:=by
 constructor <;> (intros; rename_i h; first | (unfold vE at h; cases h) | (unfold zE at h; cases h) | (unfold cE at h; cases h) | (unfold cL at h; cases h) | (unfold cK at h; cases h) | (unfold cB at h; cases h) | (unfold cT at h; cases h) | (unfold cW at h; cases h) | (unfold cO at h; cases h) | (unfold cTs at h; cases h) | (unfold cG at h; cases h) | (unfold cGs at h; cases h) | (unfold cI at h; cases h))
theorem aGw (S:Snd E T k n):∀ X C es c,Kn X E T k C→cL (n + 1) C es=some c→JA X E es (wpL T c)∧∀ e∈es,cH e=false:=by
 intro X C es c K h;cases es with
 | nil=>unfold cL at h; cases h; exact ⟨aF0,fun e he=>nomatch he⟩
 | cons e r =>
   unfold cL at h;dsimp only at h;split at h
   · cases h
   · rename_i hs;obtain ⟨e',h1,h⟩:=bnd h;obtain ⟨r',h2,h⟩:=bnd h;cases h;have hs:cH e=false:=by simpa using hs
     obtain ⟨a,b⟩:=S.l X C r r' K h2;refine ⟨aA4 (S.e X C false e e' K h1) a (aS hs),fun x hx=>?_⟩;rcases List.mem_cons.mp hx with z | z
     · rw [z]; exact hs
     · exact b x z
theorem aHh (S:Snd E T k n):∀ X C ks c,Kn X E T k C→cK (n + 1) C ks=some c→JK X E ks (wpL T c):=by
 intro X C ks c K h;cases ks with
 | nil=>unfold cK at h; cases h; exact zN
 | cons e r =>
   obtain ⟨nm,v,p⟩:=e;unfold cK at h;dsimp only at h;obtain ⟨e',h1,h⟩:=bnd h;obtain ⟨r',h2,h⟩:=bnd h;cases h;exact aA7 (S.e X C false v e' K h1) (S.kk X C r r' K h2)
theorem aIe (S:Snd E T k n):∀ X C op vs c pos,Kn X E T k C→cB (n + 1) C op vs=some c→JE X E (.BoolOp op vs pos) (wpE T c):=by
 intro X C op vs c pos K h;unfold cB at h;split at h
 · cases h
 · exact aEu (S.e X C false _ c K h)
 · obtain ⟨a',h1,h⟩:=bnd h;obtain ⟨b',h2,h⟩:=bnd h;cases op with
   | And=>cases h; exact aHn K.pl (S.e X C false _ a' K h1) (S.b X C .And _ b' pos K h2)
   | Or=>cases h; exact aIk K.pl (S.e X C false _ a' K h1) (S.b X C .Or _ b' pos K h2)
theorem aHf (S:Snd E T k n):∀ X C op vs c pos,Kn X E T k C→cW (n + 1) C op vs=some c→JW X E (.BoolOp op vs pos) (wpT T c):=by
 intro X C op vs c pos K h;unfold cW at h;split at h
 · cases h
 · cases op with
   | And=>exact aF3 (S.t X C _ c K h)
   | Or=>exact aE2 (S.t X C _ c K h)
 · obtain ⟨a',h1,h⟩:=bnd h;obtain ⟨b',h2,h⟩:=bnd h;cases op with
   | And=>cases h; exact aHg (S.t X C _ a' K h1) (S.w X C .And _ b' pos K h2)
   | Or=>cases h; exact aHm (S.t X C _ a' K h1) (S.w X C .Or _ b' pos K h2)
theorem aGG (S:Snd E T k n):∀ X C o c,Kn X E T k C→cO (n + 1) C o=some c→JO X E o (wpO T c):=by
 intro X C o c K h;unfold cO at h;split at h
 · cases h; exact aFC
 · obtain ⟨e',h1,h⟩:=bnd h;cases h;exact aBb (S.e X C false _ e' K h1)
theorem aE0 (S:Snd E T k n):∀ X C l c,Kn X E T k C→cTs (n + 1) C l=some c→OX X E l (wpT T c):=by
 intro X C l c K h;unfold cTs at h;split at h
 · cases h; exact aJL
 · exact aJM (S.t X C _ c K h)
 · cases h
theorem aIa (S:Snd E T k n):∀ X C e c,Kn X E T k C→cG (n + 1) C e=some c→JG X E e (wpG T c):=by
 intro X C e c K h;unfold cG at h;split at h
 · split at h
   · rename_i hl;obtain ⟨i,h1,h⟩:=bnd h;cases h;obtain ⟨a,b⟩:=K.loc hl;exact AM (by rw [K.N]; exact K.nd) (by rw [K.N]; exact eL h1) a b
   · cases h
 · split at h
   · rename_i hcm;obtain ⟨g,h1,h⟩:=bnd h;cases h;obtain ⟨a,b⟩:=S.gs X C _ g K h1;obtain ⟨l1,l2⟩:=tU (env:=X.env) b;exact YK K.pl (Nat.le_succ_of_le (K.cm hcm)) a l1 l2
   · cases h
 · cases h
theorem aFT (S:Snd E T k n):∀ X C es c,Kn X E T k C→cGs (n + 1) C es=some c→JGs X E es (fP T c)∧∀ e∈es,cH e=false:=by
 intro X C es c K h;cases es with
 | nil=>unfold cGs at h; cases h; exact ⟨aAP,fun e he=>nomatch he⟩
 | cons e r =>
   unfold cGs at h;dsimp only at h;split at h
   · cases h
   · rename_i hs;obtain ⟨e',h1,h⟩:=bnd h;obtain ⟨r',h2,h⟩:=bnd h;cases h;have hs:cH e=false:=by simpa using hs
     obtain ⟨a,b⟩:=S.gs X C r r' K h2;refine ⟨TY (S.g X C e e' K h1) a (by rw [EJ hs]; rfl),fun x hx=>?_⟩;rcases List.mem_cons.mp hx with z | z
     · rw [z]; exact hs
     · exact b x z
theorem aGM (S:Snd E T k n):∀ X C e c,Kn X E T k C→cT (n + 1) C e=some c→JT X E e (wpT T c):=by
 intro X C e c K h;unfold cT at h;split at h
 · rename_i c2 hx;cases h;exact S.xt X C e _ K hx
 split at h
 · exact (S.w X C _ _ c _ K h).jt
 · obtain ⟨a',h1,h⟩:=bnd h;cases h;exact aIQ (S.t X C _ a' K h1)
 · split at h
   · split at h
     · cases h
     · rename_i hs;obtain ⟨a',h1,h⟩:=bnd h;obtain ⟨b',h2,h⟩:=bnd h;cases h;exact aGp K.pl (jZ (by simpa using hs)) (S.e X C false _ a' K h1) (S.e X C false _ b' K h2)
   · split at h
     · cases h
     · rename_i hs;obtain ⟨a',h1,h⟩:=bnd h;obtain ⟨b',h2,h⟩:=bnd h;obtain ⟨c',h3,h⟩:=bnd h;cases h;exact aGr K.pl (aCH (by simpa using hs)) (S.e X C false _ a' K h1) (S.e X C false _ b' K h2) (S.e X C false _ c' K h3)
   · cases h
 · obtain ⟨e',h1,h⟩:=bnd h;cases h;exact AQ K.pl (S.e X C false _ e' K h1) fun _=>rfl
 · obtain ⟨e',h1,h⟩:=bnd h;cases h;exact AQ K.pl (S.e X C false _ e' K h1) fun _=>rfl
 · obtain ⟨e',h1,h⟩:=bnd h;cases h;exact AQ K.pl (S.e X C false _ e' K h1) fun _=>rfl
 · obtain ⟨e',h1,h⟩:=bnd h;cases h;exact AQ K.pl (S.e X C false _ e' K h1) fun _=>rfl
 · cases h
theorem aIo (S : Snd E T k n):∀ X C tg e c,Kn X E T k C→cI (n + 1) C tg e=some c→JI X E tg e (wpI T c):=by
 intro X C tg e c K h;unfold cI at h;split at h
 · split at h
   · rename_i hx;split at h
     · split at h
       · rename_i hb;rw [Bool.and_eq_true] at hb;obtain ⟨es',h1,h⟩:=bnd h;cases h;subst hx;obtain ⟨a,b⟩:=S.l X C _ es' K h1;exact aDS K.pl (K.gl hb.1) (K.gf.blt _ (by simpa using hb.2)) a (aS (b _ (wDq ..))) (dB fun y hy=>b y (wCq _ hy))
       · cases h
     · cases h
   · split at h
     · split at h
       · cases h
       · rename_i hs;split at h
         · rename_i hx;split at h
           · rename_i hb;rw [Bool.and_eq_true] at hb;obtain ⟨a',h1,h⟩:=bnd h;cases h;subst hx;exact aAa (K.gl hb.1) (K.gf.blt _ (by simpa using hb.2)) (S.e X C false _ a' K h1) (aS (by simpa using hs))
           · cases h
         · split at h
           · rename_i hx;split at h
             · split at h
               · rename_i hb;rw [Bool.and_eq_true] at hb;obtain ⟨a',h1,h⟩:=bnd h;cases h;subst hx;exact aD3 K.pl (K.gl hb.1) (K.gf.blt _ (by simpa using hb.2)) (S.e X C false _ a' K h1) (aS (by simpa using hs))
               · cases h
             · cases h
           · obtain ⟨e',h1,h⟩:=bnd h;cases h;exact AZ K.pl (S.e X C false _ e' K h1)
     · split at h
       · cases h
       · rename_i hs;have hs':=or2 hs;split at h
         · rename_i hx;split at h
           · rename_i hb;rw [Bool.and_eq_true] at hb;obtain ⟨a',h1,h⟩:=bnd h;obtain ⟨b',h2,h⟩:=bnd h;cases h;subst hx;exact aAb (K.gl hb.1) (K.gf.blt _ (by simpa using hb.2)) (S.e X C false _ a' K h1) (S.e X C false _ b' K h2) (by rw [aS hs'.1,aS hs'.2]; rfl) (aS hs'.2)
           · cases h
         · obtain ⟨e',h1,h⟩:=bnd h;cases h;exact AZ K.pl (S.e X C false _ e' K h1)
     · obtain ⟨e',h1,h⟩:=bnd h;cases h;exact AZ K.pl (S.e X C false _ e' K h1)
 · split at h
   · cases h
   · obtain ⟨e',h1,h⟩:=bnd h;cases h;exact AZ K.pl (S.e X C false _ e' K h1)
theorem YR (S:Snd E T k n) {X:Cx} {C:Cfg} {x:Str} {p pos:Pos} {e:Expr} {r:List Expr} {es':CE} (K:Kn X E T k C) (hg:glB C x=true) (hc:C.fns.contains x=true∨C.mks.contains x=true) (h:cL n C (e :: r)=some es'):JE X E (.Call (.Name x p) (e :: r) [] pos) (wpE T (.cal (C.key x) es')):=by
 obtain ⟨a,b⟩:=S.l X C _ es' K h;have s1:=aS (env:=X.env) (es:=r) (b e (wDq ..));have s2:=dB (pos:=pos) (env:=X.env) fun y hy=>b y (wCq _ hy);cases hy:C.ky.lookup x with
 | none =>
   rw [kF hy];rcases hc with hc | hc
   · obtain ⟨ad,fd,ps,F,hb⟩:=K.gf.fns x (by simpa using hc);exact TD (.of F.ok) (K.pl.room.mono (Nat.le_succ _)) (K.gl hg) F.mg F.kp hb F.db a s1 s2
   · obtain ⟨c,xi,ad,fd,ps,F,hb⟩:=K.gf.mks x (by simpa using hc);exact WQ F.mkr (.of F.ok) K.pl.room (K.gl hg) F.mg hb F.ms F.db a s1 s2
 | some y =>
   rw [kZ hy];have hz:=K.gf.kr _ (aY hy);obtain ⟨f1,f2⟩:=K.gf.kf _ (aY hy);rcases hc with hc | hc
   · obtain ⟨ad,fd,ps,F,hb⟩:=f1 (by simpa using hc);exact TD (K.co hz F.ok) (K.pl.room.mono (Nat.le_succ _)) (K.gl hg) F.mg F.kp hb F.db a s1 s2
   · obtain ⟨c,xi,ad,fd,ps,F,hb⟩:=f2 (by simpa using hc);exact WQ F.mkr (K.co hz F.ok) K.pl.room (K.gl hg) F.mg hb F.ms F.db a s1 s2
theorem XF (S:Snd E T k n) {X:Cx} {C:Cfg} {x:Str} {p pos:Pos} {e:Expr} {r:List Expr} {kws:List Keyword} {ks:List Str} {s:Str×Nat×List Str×List Ar} {es' ks':CE} (K:Kn X E T k C) (hg:glB C x=true) (hk:kwN kws=some ks)
   (hf:C.shs.find? (fun s=>s.1 == x && s.2.1 == (e :: r).length && s.2.2.1 == ks)=some s) (h:cL n C (e :: r)=some es') (h2:JK X E kws (wpL T ks')):JE X E (.Call (.Name x p) (e :: r) kws pos) (wpE T (.cak (C.key x) es' ks' s.2.2.2)):=by
 obtain ⟨a,b⟩:=S.l X C _ es' K h;have s1:=aS (env:=X.env) (es:=r) (b e (wDq ..));have s2:=dB (pos:=pos) (env:=X.env) (es:=e :: r) b;obtain ⟨hm,hp⟩:=tM hf;simp only [Bool.and_eq_true,beq_iff_eq] at hp;obtain ⟨⟨e1,e2⟩,e3⟩:=hp;obtain ⟨k1,k2,k3,k4⟩:=oM (pos:=pos) (env:=X.env) hk;cases hy:C.ky.lookup x with
 | none =>
   rw [kF hy];obtain ⟨ad,fd,ps,F,hb⟩:=K.gf.shs s hm;rw [e1] at F;exact VB (.of F.ok) (K.pl.room.mono (Nat.le_succ _)) (K.gl hg) F.mg F.kp hb F.db a h2 e2.symm (by rw [e3]; exact k4) k1 (by rw [e3]; exact k2) s1 (by rw [s2,k3]; rfl)
 | some y =>
   rw [kZ hy];obtain ⟨ad,fd,ps,F,hb⟩:=K.gf.ks s hm _ (aY hy) e1.symm;rw [e1] at F;exact VB (K.co (K.gf.kr _ (aY hy)) F.ok) (K.pl.room.mono (Nat.le_succ _)) (K.gl hg) F.mg F.kp hb F.db a h2 e2.symm (by rw [e3]; exact k4) k1 (by rw [e3]; exact k2) s1 (by rw [s2,k3]; rfl)
theorem aB1 {X:Cx} {C:Cfg} (K:Kn X E T k C):∀ y∈C.nes,NeM X E T k y.1 y.2:=fun y hy=>⟨K.gf.nes y hy⟩
theorem aE7 (S:Snd E T k n):∀ X C e c,Kn X E T k C→vE (n + 1) C e=some c→JE X E e (wpE T c):=by
 intro X C e c K h;unfold vE at h;split at h
 · rename_i o mth ap es pos;split at h
   · rename_i s hs;split at h
     · rename_i hc;simp only [Bool.and_eq_true,beq_iff_eq,Bool.not_eq_true',decide_eq_true_eq] at hc;obtain ⟨⟨⟨e1,e2⟩,e3⟩,e4⟩:=hc;obtain ⟨o',h1,h⟩:=bnd h;obtain ⟨es',h2,h⟩:=bnd h;cases h;have hm:=List.mem_of_find?_eq_some hs;have hp:=List.find?_some hs;simp only [Bool.and_eq_true,beq_iff_eq] at hp;obtain ⟨⟨p1,p2⟩,p3⟩:=hp;have hM:∀ y∈s.2.2.2,aAt X E T k s.1 s.2.1 s.2.2.1 y:=fun y hy=>by
         obtain ⟨ad,fd,ps,a,b,c,d⟩:=K.gf.mts s hm y hy;refine ⟨ad,fd,ps,a,b, ?_,c⟩;rcases d with d | ⟨hz,d⟩
         · exact .of d
         · exact K.co hz d
       rw [p1,p2,p3] at hM;have hr:=K.pl.room.mono (Nat.le_succ _);cases es with
       | nil =>
         have e0:es'= .nil:=by
           cases n with
           | zero=>cases h2
           | succ n=>unfold cL at h2; cases h2; rfl
         subst e0;exact aAe hr (S.e X C false _ o' K h1) hM (iD e1) (beq_iff_eq.mpr e4)
       | cons e es =>
         obtain ⟨ja,hst⟩:=S.l X C (e :: es) es' K h2;refine aEg hr (S.e X C false _ o' K h1) ja hM (iD e1) (beq_iff_eq.mpr e4) ?_ (aS (hst _ (wDq ..))) (dB fun y hy=>hst y (wCq _ hy));have an:=dB (pos:=pos) (env:=X.env) hst;have al:(backTo pos (starEach (e :: es) X.env)).all (fun x=> !x.1)=true:=by
           rw [List.all_eq_true];intro x hx;have:=List.any_eq_false.mp an x hx;simpa using this
         unfold methodCallForm;rw [al];show decide ((e :: es).length + 0 + 0 < 30)=true;exact decide_eq_true (by omega)
     · cases h
   · cases h
 · cases h
theorem aEO (S:Snd E T k n):∀ X C e c,Kn X E T k C→zE (n + 1) C e=some c→JE X E e (wpE T c):=by
 intro X C e c K h;simp [zE] at h
theorem aE9 (S:Snd E T k n):∀ X C m e c,Kn X E T k C→xE (n + 1) C m e=some c→JE X E e (wpE T c):=by
 intro X C m e c K h;unfold xE at h;split at h
 · split at h
   · cases h
   · rename_i hs;obtain ⟨a',h1,h⟩:=bnd h;obtain ⟨b',h2,h⟩:=bnd h;cases h;simp only [Bool.or_eq_true,not_or,Bool.not_eq_true] at hs;exact aFg K.pl (aB1 K) (jZ hs.1) (S.e X C false _ a' K h1) (S.e X C false _ b' K h2)
 · split at h
   · rename_i hg;split at h
     · rename_i s hf;cases h;obtain ⟨k1,k2,k3,k4⟩:=oM (pos:=_) (env:=X.env) (show kwN []=some [] from rfl);obtain ⟨hm,hp⟩:=tM hf;simp only [Bool.and_eq_true,beq_iff_eq] at hp;obtain ⟨e1,e3⟩:=hp;cases hy:C.ky.lookup _ with
       | none =>
         rw [kF hy];obtain ⟨c,xi,ad,fd,ps,F,hb⟩:=K.gf.mkk s hm;rw [e1] at F;exact tN F.mkr (.of F.ok) K.pl.room (K.gl hg) F.mg hb F.ms F.db zN (by rw [e3]; exact k4) k1 (by rw [e3]; exact k2) (by rw [k3]; rfl)
       | some y =>
         rw [kZ hy];obtain ⟨c,xi,ad,fd,ps,F,hb⟩:=K.gf.km s hm _ (aY hy) e1.symm;rw [e1] at F;exact tN F.mkr (K.co (K.gf.kr _ (aY hy)) F.ok) K.pl.room (K.gl hg) F.mg hb F.ms F.db zN (by rw [e3]; exact k4) k1 (by rw [e3]; exact k2) (by rw [k3]; rfl)
     · cases h
   · cases h
 · split at h
   · rename_i hh;obtain ⟨e1,e2,g1,g2,b1,b2,st⟩:=hh;obtain ⟨a',h1,h⟩:=bnd h;cases h;subst e1 e2;exact aES (K.gl g1) (K.gf.blt _ (by simpa using b1)) (K.gl g2) (K.gf.blt _ (by simpa using b2)) (aS st) (S.e X C false _ a' K h1)
   · split at h
     · rename_i hh;simp only [Bool.and_eq_true,beq_iff_eq,Bool.not_eq_true'] at hh;obtain ⟨⟨⟨_,e1⟩,g1⟩,b1⟩:=hh;obtain ⟨a',h1,h⟩:=bnd h;cases h;subst e1;exact ZH K.pl (K.gl g1) (K.gf.blt _ (by simpa using b1)) (aS rfl) (S.e X C false _ a' K h1)
     · cases h
 · split at h
   · rename_i hh;simp only [Bool.and_eq_true,beq_iff_eq,Bool.not_eq_true'] at hh;obtain ⟨⟨⟨⟨_,e1⟩,g1⟩,b1⟩,st⟩:=hh;obtain ⟨a',h1,h⟩:=bnd h;cases h;subst e1;exact ZH K.pl (K.gl g1) (K.gf.blt _ (by simpa using b1)) (aS st) (S.e X C false _ a' K h1)
   · cases h
 · cases h
theorem aFY (S:Snd E T k n):∀ X C e c,Kn X E T k C→xT (n + 1) C e=some c→JT X E e (wpT T c):=by
 intro X C e c K h;unfold xT at h;split at h
 · split at h
   · cases h
   · rename_i hs;obtain ⟨a',h1,h⟩:=bnd h;obtain ⟨b',h2,h⟩:=bnd h;cases h;simp only [Bool.or_eq_true,not_or,Bool.not_eq_true] at hs;exact aFK K.pl (aB1 K) (jZ hs.1) (S.e X C false _ a' K h1) (S.e X C false _ b' K h2)
 · cases h
theorem aHi (S:Snd E T k n):∀ X C m e c,Kn X E T k C→cE (n + 1) C m e=some c→JE X E e (wpE T c):=by
 intro X C m e c K h;unfold cE at h;split at h
 · rename_i c2 hx;cases h;exact S.ve X C e _ K hx
 split at h
 · rename_i c2 hx;cases h;exact S.ze X C e _ K hx
 split at h
 · rename_i c2 hx;cases h;exact S.xe X C m e _ K hx
 split at h
 · -- a name
   split at h
   · rename_i hp;obtain ⟨d1,d2⟩:=UQ hp;split at h
     · rename_i i hs;split at h
       · rename_i hv;cases h;exact aFk (by rw [K.N]; exact eL hs) (K.vis hv) d1 d2
       · cases h
     · split at h
       · rename_i hg;rw [Bool.and_eq_true,Bool.or_eq_true] at hg;cases h;rcases hg.2 with hh | hh
         · obtain ⟨u,v,h1,h2,h3⟩:=K.gf.gls _ (by simpa using hh);exact aDZ (K.gl hg.1) h1 h2 h3 d1
         · obtain ⟨h1,⟨nn,h2,h3⟩,h4⟩:=K.gf.tys _ (by simpa using hh);exact aGS (K.gl hg.1) h1 h2 h3 h4 d1
       · cases h
   · cases h
 · split at h
   · cases h; exact aEb
   · cases h; exact aHp
   · cases h; exact aFR
   · cases h; exact aFP
   · cases h
 · obtain ⟨a',h1,h⟩:=bnd h;obtain ⟨b',h2,h⟩:=bnd h;cases h;exact aDy K.pl (S.e X C false _ a' K h1) (S.e X C false _ b' K h2)
 · split at h
   · obtain ⟨a',h1,h⟩:=bnd h;cases h;exact aEF (S.e X C false _ a' K h1)
   · obtain ⟨a',h1,h⟩:=bnd h;cases h;exact aIH K.pl (S.e X C false _ a' K h1)
   · cases h
 · exact S.b X C _ _ c _ K h
 · split at h
   · split at h
     · cases h
     · rename_i hs;obtain ⟨a',h1,h⟩:=bnd h;obtain ⟨b',h2,h⟩:=bnd h;cases h;exact aDN K.pl (jZ (by simpa using hs)) (S.e X C false _ a' K h1) (S.e X C false _ b' K h2)
   · split at h
     · cases h
     · rename_i hs;obtain ⟨a',h1,h⟩:=bnd h;obtain ⟨b',h2,h⟩:=bnd h;obtain ⟨c',h3,h⟩:=bnd h;cases h;exact aEy K.pl (aCH (by simpa using hs)) (S.e X C false _ a' K h1) (S.e X C false _ b' K h2) (S.e X C false _ c' K h3)
   · cases h
 · obtain ⟨c',h1,h⟩:=bnd h;obtain ⟨a',h2,h⟩:=bnd h;obtain ⟨b',h3,h⟩:=bnd h;cases h;exact aDQ (S.t X C _ c' K h1) (S.e X C false _ a' K h2) (S.e X C false _ b' K h3)
 · obtain ⟨es',h1,h⟩:=bnd h;cases h;exact aF9 (S.l X C _ es' K h1).1
 · obtain ⟨es',h1,h⟩:=bnd h;cases h;exact aDe (S.l X C _ es' K h1).1
 · split at h
   · obtain ⟨a',h1,h⟩:=bnd h;obtain ⟨l',h2,h⟩:=bnd h;obtain ⟨u',h3,h⟩:=bnd h;cases h;exact aEv K.pl (S.e X C false _ a' K h1) (S.o X C _ l' K h2) (S.o X C _ u' K h3)
   · obtain ⟨a',h1,h⟩:=bnd h;cases h;exact aAJ (S.e X C false _ a' K h1)
   · obtain ⟨a',h1,h⟩:=bnd h;cases h;exact aAg (S.e X C false _ a' K h1)
   · split at h
     · cases h
     · rename_i hs;obtain ⟨a',h1,h⟩:=bnd h;obtain ⟨i',h2,h⟩:=bnd h;cases h;exact aEV K.pl (S.e X C false _ a' K h1) (S.e X C false _ i' K h2) (IP (by simpa using hs))
 · split at h
   · cases h
   · rename_i hs;obtain ⟨a',h1,h⟩:=bnd h;cases h;exact aDu K.pl (S.e X C false _ a' K h1) (iD (by simpa using hs))
 · split at h
   · split at h
     · rename_i hg;split at h
       · rename_i b hb;split at h
         · rename_i hc;obtain ⟨hc,hcm⟩:=Bool.and_eq_true_iff.mp hc;have h40:QS b=true→40≤k:=fun z=>K.cm (by rw [z] at hcm; simpa using hcm);obtain ⟨es',h1,h⟩:=bnd h;cases h;obtain ⟨a,st⟩:=S.l X C _ es' K h1;obtain ⟨b1,b2,b3⟩:=aBh _ (aY hb);split
           · rename_i ls hl;exact aC7 K.pl h40 (fun y hy=>⟨K.gf.ows _ (aY hl) b hb y hy⟩) (K.gl hg) (K.gf.blt _ (by simpa using hc)) b1 b2 b3 a (aS (st _ (wDq ..))) (dB fun y hy=>st y (wCq _ hy))
           exact aEJ K.pl (fun z=>Nat.le_succ_of_le (h40 z)) (K.gl hg) (K.gf.blt _ (by simpa using hc)) b1 b2 b3 a (aS (st _ (wDq ..))) (dB fun y hy=>st y (wCq _ hy))
         · cases h
       · split at h
         · rename_i s hf;obtain ⟨es',h1,h⟩:=bnd h;cases h;exact XF S K hg (ks:=[]) rfl hf h1 zN
         · split at h
           · rename_i hc;obtain ⟨es',h1,h⟩:=bnd h;cases h;rw [Bool.or_eq_true] at hc;exact YR S K hg hc h1
           · cases h
     · cases h
   · split at h
     · rename_i hg;obtain ⟨ks,hk,h⟩:=bnd h;split at h
       · rename_i s hf;obtain ⟨es',h1,h⟩:=bnd h;obtain ⟨ks',h2,h⟩:=bnd h;cases h;exact XF S K hg hk hf h1 (S.kk X C _ ks' K h2)
       · cases h
     · cases h
   · split at h
     · rename_i hg;obtain ⟨ks,hk,h⟩:=bnd h;obtain ⟨k1,k2,k3,k4⟩:=oM (pos:=_) (env:=X.env) hk;split at h
       · rename_i s hf;obtain ⟨ks',h2,h⟩:=bnd h;cases h;obtain ⟨hm,hp⟩:=tM hf;simp only [Bool.and_eq_true,beq_iff_eq] at hp;obtain ⟨⟨e1,e2⟩,e3⟩:=hp;cases hy:C.ky.lookup _ with
         | none =>
           rw [kF hy];obtain ⟨ad,fd,ps,F,hb⟩:=K.gf.shs s hm;rw [e1] at F;rw [e2] at hb;exact MB (.of F.ok) (K.pl.room.mono (Nat.le_succ _)) (K.gl hg) F.mg F.kp hb F.db (S.kk X C _ ks' K h2) (by rw [e3]; exact k4) k1 (by rw [e3]; exact k2) (by rw [k3]; rfl)
         | some y =>
           rw [kZ hy];obtain ⟨ad,fd,ps,F,hb⟩:=K.gf.ks s hm _ (aY hy) e1.symm;rw [e1] at F;rw [e2] at hb;exact MB (K.co (K.gf.kr _ (aY hy)) F.ok) (K.pl.room.mono (Nat.le_succ _)) (K.gl hg) F.mg F.kp hb F.db (S.kk X C _ ks' K h2) (by rw [e3]; exact k4) k1 (by rw [e3]; exact k2) (by rw [k3]; rfl)
       · split at h
         · rename_i s hf;obtain ⟨ks',h2,h⟩:=bnd h;cases h;obtain ⟨hm,hp⟩:=tM hf;simp only [Bool.and_eq_true,beq_iff_eq] at hp;obtain ⟨e1,e3⟩:=hp;cases hy:C.ky.lookup _ with
           | none =>
             rw [kF hy];obtain ⟨c,xi,ad,fd,ps,F,hb⟩:=K.gf.mkk s hm;rw [e1] at F;exact tN F.mkr (.of F.ok) K.pl.room (K.gl hg) F.mg hb F.ms F.db (S.kk X C _ ks' K h2) (by rw [e3]; exact k4) k1 (by rw [e3]; exact k2) (by rw [k3]; rfl)
           | some y =>
             rw [kZ hy];obtain ⟨c,xi,ad,fd,ps,F,hb⟩:=K.gf.km s hm _ (aY hy) e1.symm;rw [e1] at F;exact tN F.mkr (K.co (K.gf.kr _ (aY hy)) F.ok) K.pl.room (K.gl hg) F.mg hb F.ms F.db (S.kk X C _ ks' K h2) (by rw [e3]; exact k4) k1 (by rw [e3]; exact k2) (by rw [k3]; rfl)
         · cases h
     · cases h
   · split at h
     · rename_i hc;simp only [Bool.and_eq_true,decide_eq_true_eq,Bool.not_eq_true'] at hc;obtain ⟨⟨⟨e1,e2⟩,e3⟩,e4⟩:=hc;obtain ⟨o',h1,h⟩:=bnd h;obtain ⟨e',h2,h⟩:=bnd h;cases h;subst e1;exact aEe (S.e X C false _ o' K h1) (S.e X C false _ e' K h2) (iD e2) (aS e3) e4
     · split at h
       · rename_i hc;simp only [Bool.and_eq_true,decide_eq_true_eq,Bool.not_eq_true'] at hc;obtain ⟨⟨⟨e1,e2⟩,e3⟩,e4⟩:=hc;obtain ⟨o',h1,h⟩:=bnd h;obtain ⟨e',h2,h⟩:=bnd h;cases h;subst e1;exact aFt (S.e X C false _ o' K h1) (S.e X C false _ e' K h2) (iD e2) (aS e3) e4
       · cases h
   · cases h
 · split at h
   · split at h
     · rename_i hb;rw [Bool.and_eq_true] at hb;obtain ⟨it',h1,h⟩:=bnd h;obtain ⟨tg',h2,h⟩:=bnd h;obtain ⟨ts',h3,h⟩:=bnd h;obtain ⟨el',h4,h⟩:=bnd h;cases h;obtain ⟨cl,B,KB⟩:=K.block hb.1;exact aAR B K.pl (Nat.le_succ_of_le (K.cm (RE hb.1))) (S.i X C _ _ it' K h1) (fun C0 s₀ H₀ ex=>S.g _ _ _ tg' (KB C0 s₀ H₀ ex) h2) (fun C0 s₀ H₀ ex=>S.ts _ _ _ ts' (KB C0 s₀ H₀ ex) h3) (fun C0 s₀ H₀ ex=>S.e _ _ false _ el' (KB C0 s₀ H₀ ex) h4) (rX (by simpa using hb.2))
     · cases h
   · cases h
 · cases h
theorem snd:∀ n,Snd E T k n
 | 0=>aKg
 | n + 1=>⟨aHi (snd n),aE9 (snd n),aE7 (snd n),aEO (snd n),aFY (snd n),aGw (snd n),aHh (snd n),aIe (snd n),aGM (snd n),aHf (snd n),aGG (snd n),aE0 (snd n),aIa (snd n),aFT (snd n),aIo (snd n)⟩
end
section
variable {X:Cx} {E:Ev} {T:Tb} {k:Nat} {C:Cfg}
theorem BM (K:Kn X E T k C):X.env.blockKind= .function:=by
 unfold Env.blockKind;rw [K.kd]; rfl
noncomputable def aBJ:Expr→Bool
 | .Tuple .. =>true
 | _=>false
noncomputable def TH:Expr→Bool
 | .Tuple vs _ _=> !(vs.all (foldedForSure 8))
 | _=>false
theorem aEM {ts:List Expr} {kt:Nat} {pt:Pos} {value:Expr} {env:Env} (h:aBJ value=false):swappedStores [.Tuple ts kt pt] value env=pure none:=by
 cases value <;> first | rfl | (cases h)
theorem aBl {ts vs:List Expr} {kt kv:Nat} {pt pv:Pos} {env:Env} (h:vs.all (foldedForSure 8)=true):swappedStores [.Tuple ts kt pt] (.Tuple vs kv pv) env=pure none:=by
 unfold swappedStores;dsimp only;split
 · rfl
 · split
   · rfl
   · split
     · rfl
     · first | rfl | rw [if_pos h]
theorem VU {ts:List Expr} {kt:Nat} {pt:Pos} {v:Expr} {env:Env} (h:¬TH v=true):swappedStores [.Tuple ts kt pt] v env=pure none:=by
 cases v with
 | Tuple vs kv pv =>
   refine aBl ?_;cases e:vs.all (foldedForSure 8) with
   | true=>rfl
   | false=>exact absurd (show (!(vs.all (foldedForSure 8)))=true by rw [e]; rfl) h
 | _=>exact aEM rfl
theorem aDK (K:Kn X E T k C) {x y:Str} {px py pt pt2:Pos} {kt k2:Nat} {a b:Expr} (hx:C.names.lookup x=some .local) (hy:C.names.lookup y=some .local) (hl:py.line=px.line) (hne:x≠y) (sa:cH a=false) (sb:cH b=false)
   (nf: [a,b].all (foldedForSure 8)=false) (nc: [a,b].all (constantsAlone 8)=false):swappedStores [.Tuple [.Name x px,.Name y py] kt pt] (.Tuple [a,b] k2 pt2) X.env=pure (some [x,y]):=by
 unfold swappedStores;dsimp only;have kx:(X.env.kindOf x == some .local)=true:=by unfold Env.kindOf; rw [K.nm,hx]; rfl
 have ky:(X.env.kindOf y == some .local)=true:=by unfold Env.kindOf; rw [K.nm,hy]; rfl
 have e:∀ e:Expr,cH e=false→(match e with | .Starred .. =>true | _=>false)=false:=fun e h=>by cases e <;> first | rfl | (cases h)
 have c1:(!([Expr.Name x px,Expr.Name y py].length == 2 || [Expr.Name x px,Expr.Name y py].length == 3) || [a,b].length != [Expr.Name x px,Expr.Name y py].length || X.env.blockKind != ScopeKind.function)=false:=by
   rw [BM K]; rfl
 rw [if_neg (by rw [c1]; exact Bool.false_ne_true)];have nm:([x,y]:List Str).eraseDups.length=2:=by
   have hb:(y == x)=false:=beq_eq_false_iff_ne.mpr (Ne.symm hne);simp [List.eraseDups_cons,hb]
 split
 · rename_i h2;exfalso
   simp only [List.any_cons,List.any_nil,Bool.or_false,Bool.or_eq_true] at h2;rcases h2 with h2 | h2
   · cases a <;> first | (cases h2; done) | (cases sa)
   · cases b <;> first | (cases h2; done) | (cases sb)
 · simp only [List.filterMap_cons,List.filterMap_nil,kx,ky,List.head?_cons,Option.map_some,Option.getD_some,Bool.true_and,Expr.pos,hl,beq_self_eq_true,if_true,List.length_cons,List.length_nil,nm,nf,nc];rfl
noncomputable def aG7 (C:Cfg):Expr→Bool
 | .Name x _=> !(C.names.lookup x == some .local)
 | _=>false
theorem aCQ {α β:Type} {f:α→Option β}:∀ {l:List α},(∃ x∈l,f x=none)→(l.filterMap f).length < l.length
 | [],⟨_,h,_⟩=>nomatch h
 | a :: r,⟨x,h,e⟩=>by
   have le:(r.filterMap f).length≤r.length:=List.length_filterMap_le ..;rcases List.mem_cons.mp h with z | z
   · subst z;rw [List.filterMap_cons_none e,List.length_cons]; omega
   · have:=aCQ ⟨x,z,e⟩;cases ea:f a with
     | none=>rw [List.filterMap_cons_none ea,List.length_cons]; omega
     | some b=>rw [List.filterMap_cons_some ea,List.length_cons,List.length_cons]; omega
theorem aGa (K:Kn X E T k C) {ts:List Expr} {kt:Nat} {pt:Pos} {v:Expr} (hv:aBJ v=true) (h:ts.any (aG7 C)=true):swappedStores [.Tuple ts kt pt] v X.env=pure none:=by
 cases v with
 | Tuple vs kv pv =>
   unfold swappedStores;dsimp only;split
   · rfl
   · split
     · rfl
     · rw [if_pos ?_];obtain ⟨x,hx,hc⟩:=List.any_eq_true.mp h;rw [Bool.or_eq_true];refine .inl ?_;rw [bne_iff_ne];refine Nat.ne_of_lt (aCQ ⟨x,hx, ?_⟩);cases x with
       | Name y p =>
         dsimp only;rw [if_neg];intro z;rw [Bool.and_eq_true] at z;have e1:X.env.kindOf y=C.names.lookup y:=by unfold Env.kindOf; rw [K.nm]
         rw [e1] at z;have hc:(!(C.names.lookup y == some NameKind.local))=true:=hc;rw [z.1] at hc;cases hc
       | _=>cases hc
 | _=>cases hv
noncomputable def WP (C:Cfg):Expr→Bool
 | .ListComp .. =>true
 | .List .. =>true
 | .Name x _=>C.ls.contains x
 | _=>false
noncomputable def yS (n:Nat) (C:Cfg) (s:Stmt):Option CS:=match s with
 | .Assign [.Tuple gs kt pt] v pos=>if WP C v && C.cm then (cE n C false v).bind fun v'=>(cGs n C gs).bind fun g'=>some (.asg (.gl gs.length g') v')
     else if aBJ v && gs.any (aG7 C) && C.cm then (cE n C false v).bind fun v'=>(cGs n C gs).bind fun g'=>some (.asg (.gt gs.length g') v') else none
 | .Assign [.Name x px] (.ListComp elt gens sc vp) pos=>if RG C x && C.names.lookup x == some .cell then (slot C.N x).bind fun i=>(cE n C (C.M.contains x) (.ListComp elt gens sc vp)).bind fun v'=>some (.asg (.gn i) v') else none
 | _=>none
theorem IJ {X:Cx} {E:Ev} {T:Tb} {k:Nat} {C:Cfg} (K:Kn X E T k C) {x:Str} {px vp:Pos} {l:Nat} {elt:Expr} {gens:List Comprehension} {sc:Scope} (c3:(C.names.lookup x == some .cell)=true) :
   swapsWithSole [.Name x px] (.ListComp elt gens sc vp) l X.env=pure false:=by
 unfold swapsWithSole swapsWith;dsimp only;have e1:X.env.kindOf x=C.names.lookup x:=by unfold Env.kindOf; rw [K.nm]
 rw [BM K,e1,beq_iff_eq.mp c3];rfl
mutual
noncomputable def cS:Nat→Cfg→Stmt→Option CS
 | 0,_,_=>none
 | n + 1,C,s=>match yS n C s with
 | some c=>some c
 | none => match s with
   | .Expr e _=>(match e with
     | .Constant (.str _) _ _=>some .nil
     | e=>if uV e then none else (cE n C false e).bind fun e'=>some (.ex e'))
   | .Pass _=>some .nil
   | .Raise .. =>some .nev
   | .AugAssign (.Attribute o f _) .Add v _=>(cE n C false o).bind fun o'=>(cE n C false v).bind fun v'=>some (.fda o' f v')
   | .Return o _=>(match o with
     | none=>some .retN
     | some e=>(cE n C C.rm e).bind fun e'=>some (.ret e'))
   | .If c a b _=>(cT n C c).bind fun c'=>(cSs n C a).bind fun a'=>(cSs n C b).bind fun b'=>some (.iff c' a' b')
   | .While c b o _=>(match o with
     | []=>(cT n C c).bind fun c'=>some (.wh c' ((cSs n C b).getD .nev))
     | _=>none)
   | .For tg it b o _=>(match o with
     | []=>if rC it || !C.cm then none else (cI n C tg it).bind fun i'=>(cG n C tg).bind fun g'=>(cSs n C b).bind fun b'=>some (.fr g' i' b')
     | _=>none)
   | .Assign ts v pos=>(match ts with
     | [.Name x px]=>if RG C x then (slot C.N x).bind fun i=>(match v with
         | .ListComp elt gens sc vp=>(match gens with
           | [⟨tg,iter,ifs,0⟩]=>if yO C sc && !rC iter && C.names.lookup x == some .local && px.line == vp.line && !(sc.names.any fun y=>y.1 == x && (y.2 == .local || y.2 == .cell)) then
               (cI n C tg iter).bind fun it'=>(cG n (GV C sc) tg).bind fun tg'=>(cTs n (GV C sc) ifs).bind fun ts'=>(cE n (GV C sc) false elt).bind fun el'=>some (.asg (.gn i) (.cmpr (C.M.contains x) tg' it' ts' el' ((lX C sc.names).map (·.2))))
             else none
           | _=>none)
         | v=>if uV v then none else (cE n C (C.M.contains x) v).bind fun v'=>some (.asg (.gn i) v')) else none
     | [.Attribute o f _]=>if uV v then none else (cE n C false o).bind fun o'=>(cE n C false v).bind fun v'=>some (.fld o' f v')
     | [.Subscript o i _]=>if uV v || aBn i then none else (cE n C false o).bind fun o'=>(cE n C false i).bind fun i'=>(cE n C false v).bind fun v'=>some (.sub o' i' v')
     | [.Tuple gs kt pt]=>if TH v then (match gs,v with
         | [.Name x px,.Name y py],.Tuple [a,b] _ _=>if C.names.lookup x == some .local && C.names.lookup y == some .local && py.line == px.line && x != y && !cH a && !cH b && !([a,b].all (constantsAlone 8)) && C.cm then
             (slot C.N x).bind fun i=>(slot C.N y).bind fun j=>(cE n C (C.M.contains x) a).bind fun a'=>(cE n C (C.M.contains y) b).bind fun b'=>some (.par i j a' b') else none
         | _,_=>none)
       else if uV v then none else (cE n C false v).bind fun v'=>(cG n C (.Tuple gs kt pt)).bind fun g'=>some (.asg g' v')
     | _=>none)
   | _=>none
noncomputable def cSs:Nat→Cfg→List Stmt→Option CS
 | 0,_,_=>none
 | n + 1,C,l=>match l with
   | []=>some .nil
   | [s]=>cS n C s
   | s :: t :: r=>(cS n C s).bind fun s'=>(cSs n C (t :: r)).bind fun r'=>some (.seq s' r')
end
theorem rZ {e:Expr} {t:Option Expr} {l:Nat} {env:Env} (h:uV e=false):swapsWith e t l env=pure false:=by
 cases e <;> first | rfl | (cases h)
theorem JH (K:Kn X E T k C) {x:Str} {px vp:Pos} {l:Nat} {elt:Expr} {gens:List Comprehension} {sc:Scope} (c3:(C.names.lookup x == some .local)=true) (c4:(px.line == vp.line)=true) (c5:(!(sc.names.any fun y=>y.1 == x && (y.2 == .local || y.2 == .cell)))=true) :
   swapsWith (.ListComp elt gens sc vp) (some (.Name x px)) l X.env=pure true:=by
 unfold swapsWith;dsimp only;have e1:X.env.kindOf x=C.names.lookup x:=by unfold Env.kindOf; rw [K.nm]
 rw [BM K,e1,c3];have e2:(!(sc.names.any fun (n,k)=>n == x && (k == .local || k == .cell)))=true:=by rw [←c5]
 show pure (true && true && (px.line == vp.line) && !(sc.names.any fun (n,k)=>n == x && (k == .local || k == .cell)))=pure true;rw [c4,e2]; rfl
theorem mL {e t:Expr} {l:Nat} {env:Env} (h:uV e=false):swapsWithSole [t] e l env=pure false:=rZ h
theorem aBy {o i:Expr} {pos':Pos} {env:Env} (h:aBn i=false) (v:Value):assign (.Subscript o i pos') env v=(do
     let ov ←holding [v] (eval o env)
     let iv ←holding [v,ov] (eval i env)
     standAt pos'
     holding [v,ov,iv] (setItem ov iv v)
     release [v,ov,iv] []):=by
 cases i <;> first | rfl | (cases h)
theorem MY {gs:List Expr} {kt:Nat} {pt:Pos} {v:Expr} {l:Nat} {env:Env} (h:WP C v=true):swapsWithSole [.Tuple gs kt pt] v l env=pure false:=by
 cases v <;> first | rfl | (cases h)
theorem ZI {gs:List Expr} {kt:Nat} {pt:Pos} {v:Expr} {l:Nat} {env:Env} (h:aBJ v=true):swapsWithSole [.Tuple gs kt pt] v l env=pure false:=by
 cases v <;> first | rfl | (cases h)
theorem VY {v:Expr} (h:WP C v=true):¬TH v=true:=by
 cases v <;> first | (intro z; cases z; done) | (cases h)
structure Sns (E:Ev) (T:Tb) (k:Nat) (n:Nat):Prop where
 s:∀ X C s c,Kn X E T k C→cS n C s=some c→JS X E s (wpS T c)
 ss:∀ X C s c,Kn X E T k C→cSs n C s=some c→JSs X E s (wpS T c)
theorem aEw {n:Nat} (S:Sns E T k n):∀ X C l c,Kn X E T k C→cSs (n + 1) C l=some c→JSs X E l (wpS T c):=by
 intro X C l c K h;unfold cSs at h;split at h
 · cases h; exact aDY
 · exact aFp (S.s X C _ c K h)
 · obtain ⟨s',h1,h⟩:=bnd h;obtain ⟨r',h2,h⟩:=bnd h;cases h;exact aEl (S.s X C _ s' K h1) (S.ss X C _ r' K h2)
theorem aIU {n:Nat} (S0:∀ k E T,Sns E T k n) (S:Sns E T k n):∀ X C l c,Kn X E T k C→cS (n + 1) C l=some c→JS X E l (wpS T c):=by
 intro X C l c K h;have R:Snd E T k n:=snd n;unfold cS at h;split at h
 · rename_i c2 hx;cases h;unfold yS at hx;split at hx
   · split at hx
     · rename_i hl;obtain ⟨hl,hcm⟩:=Bool.and_eq_true_iff.mp hl;obtain ⟨v',h1,hx⟩:=bnd hx;obtain ⟨g',h2,hx⟩:=bnd hx;cases hx;obtain ⟨ga,gb⟩:=R.gs X C _ g' K h2;obtain ⟨l1,l2⟩:=tU (env:=X.env) gb;exact vF (R.e X C _ _ v' K h1) (aFl K.pl (Nat.le_succ_of_le (K.cm hcm)) ga l1 l2) (MY hl) (VU (VY hl)) rfl
     · split at hx
       · rename_i hl;obtain ⟨hl,hcm⟩:=Bool.and_eq_true_iff.mp hl;obtain ⟨hl1,hl2⟩:=Bool.and_eq_true_iff.mp hl;obtain ⟨v',h1,hx⟩:=bnd hx;obtain ⟨g',h2,hx⟩:=bnd hx;cases hx;obtain ⟨ga,gb⟩:=R.gs X C _ g' K h2;obtain ⟨l1,l2⟩:=tU (env:=X.env) gb;exact vF (R.e X C _ _ v' K h1) (YK K.pl (Nat.le_succ_of_le (K.cm hcm)) ga l1 l2) (ZI hl1) (aGa K hl1 hl2) rfl
       · cases hx
   · split at hx
     · rename_i hc;obtain ⟨c1,c2⟩:=Bool.and_eq_true_iff.mp hc;obtain ⟨l1,l2⟩:=K.loc c1;obtain ⟨i,h1,hx⟩:=bnd hx;obtain ⟨v',h2,hx⟩:=bnd hx;cases hx;exact vF (R.e X C _ _ v' K h2) (AM (by rw [K.N]; exact K.nd) (by rw [K.N]; exact eL h1) l1 l2) (IJ K c2) rfl rfl
     · cases hx
   · cases hx
 split at h
 · split at h
   · cases h; exact aGg
   · split at h
     · cases h
     · rename_i hc;obtain ⟨e',h1,h⟩:=bnd h;cases h;exact aID (R.e X C false _ e' K h1) (rZ (by simpa using hc))
 · cases h; exact aAU
 · cases h; exact aEr
 · obtain ⟨o',h1,h⟩:=bnd h;obtain ⟨v',h2,h⟩:=bnd h;cases h;exact aFj K.pl (R.e X C _ _ o' K h1) (R.e X C _ _ v' K h2)
 · split at h
   · cases h; exact aAz
   · obtain ⟨e',h1,h⟩:=bnd h;cases h;exact aFS (R.e X C C.rm _ e' K h1)
 · obtain ⟨c',h1,h⟩:=bnd h;obtain ⟨a',h2,h⟩:=bnd h;obtain ⟨b',h3,h⟩:=bnd h;cases h;exact aHA (R.t X C _ c' K h1) (S.ss X C _ a' K h2) (S.ss X C _ b' K h3)
 · split at h
   · obtain ⟨c',h1,h⟩:=bnd h;cases h;refine aHk K.ps (R.t X C _ c' K h1) ?_;cases h2:cSs n C _ with
     | none=>exact aAH
     | some b'=>exact S.ss X C _ b' K h2
   · cases h
 · split at h
   · split at h
     · cases h
     · rename_i hs;obtain ⟨hs,hcm⟩:=or2 hs;have hcm:C.cm=true:=by simpa using hcm
       obtain ⟨i',h1,h⟩:=bnd h;obtain ⟨g',h2,h⟩:=bnd h;obtain ⟨b',h3,h⟩:=bnd h;cases h;exact aFa K.pl (Nat.le_succ_of_le (K.cm hcm)) K.ps (R.i X C _ _ i' K h1) (R.g X C _ g' K h2) (S.ss X C _ b' K h3) (rX (by simpa using hs))
   · cases h
 · split at h
   · split at h
     · rename_i hl;obtain ⟨i,h1,h⟩:=bnd h;obtain ⟨l1,l2⟩:=K.loc hl;split at h
       · split at h
         · split at h
           · rename_i hc;rw [Bool.and_eq_true,Bool.and_eq_true,Bool.and_eq_true,Bool.and_eq_true] at hc;obtain ⟨⟨⟨⟨c1,c2⟩,c3⟩,c4⟩,c5⟩:=hc;obtain ⟨it',g1,h⟩:=bnd h;obtain ⟨tg',g2,h⟩:=bnd h;obtain ⟨ts',g3,h⟩:=bnd h;obtain ⟨el',g4,h⟩:=bnd h;cases h;obtain ⟨cl,B,KB⟩:=K.block c1;refine aAO B K.pl (Nat.le_succ_of_le (K.cm (RE c1))) (by rw [K.N]; exact K.nd) (by rw [K.N]; exact eL h1) (by rw [K.nm]; exact beq_iff_eq.mp c3) (R.i X C _ _ it' K g1) (fun C0 s₀ H₀ ex=>R.g _ _ _ tg' (KB C0 s₀ H₀ ex) g2) (fun C0 s₀ H₀ ex=>R.ts _ _ _ ts' (KB C0 s₀ H₀ ex) g3) (fun C0 s₀ H₀ ex=>R.e _ _ false _ el' (KB C0 s₀ H₀ ex) g4) ?_ (rX (by simpa using c2));exact JH K c3 c4 c5
           · cases h
         · cases h
       · split at h
         · cases h
         · rename_i hc;obtain ⟨v',h2,h⟩:=bnd h;cases h;exact vF (R.e X C _ _ v' K h2) (AM (by rw [K.N]; exact K.nd) (by rw [K.N]; exact eL h1) l1 l2) (mL (by simpa using hc)) rfl rfl
     · cases h
   · split at h
     · cases h
     · rename_i hc;obtain ⟨o',h1,h⟩:=bnd h;obtain ⟨v',h2,h⟩:=bnd h;cases h;exact aGf K.pl (R.e X C _ _ o' K h1) (R.e X C _ _ v' K h2) (rZ (by simpa using hc))
   · split at h
     · cases h
     · rename_i hc;obtain ⟨hc1,hc2⟩:=or2 hc;obtain ⟨o',h1,h⟩:=bnd h;obtain ⟨i',h2,h⟩:=bnd h;obtain ⟨v',h3,h⟩:=bnd h;cases h;exact aDj (R.e X C _ _ v' K h3) (R.e X C _ _ o' K h1) (R.e X C _ _ i' K h2) (aBy hc2) (mL hc1) rfl
   · split at h
     · split at h
       · split at h
         · rename_i hc;simp only [Bool.and_eq_true,Bool.not_eq_true',beq_iff_eq,bne_iff_ne,ne_eq] at hc;obtain ⟨⟨⟨⟨⟨⟨⟨c1,c2⟩,c3⟩,c4⟩,c5⟩,c6⟩,c7⟩,hcm⟩:=hc;obtain ⟨i,g1,h⟩:=bnd h;obtain ⟨j,g2,h⟩:=bnd h;obtain ⟨a',g3,h⟩:=bnd h;obtain ⟨b',g4,h⟩:=bnd h;cases h;have ij:i≠j:=fun e=>by
             subst e;have a1:=eL g1;have a2:=eL g2;rw [a1] at a2;exact c4 (Option.some.inj a2)
           exact aDG K.pl (Nat.le_succ_of_le (K.cm hcm)) (by rw [K.N]; exact K.nd) (by rw [K.N]; exact eL g1) (by rw [K.N]; exact eL g2) ij (by rw [K.nm]; exact c1) (by rw [K.nm]; exact c2) (R.e X C _ _ a' K g3) (R.e X C _ _ b' K g4) (aS c5) (aS c6) (aDK K c1 c2 c3 c4 c5 c6 (by have hf:= ‹TH _=true›; unfold TH at hf; exact Bool.not_eq_true' _▸hf) c7) rfl
         · cases h
       · cases h
     · rename_i hf;split at h
       · cases h
       · rename_i hc;obtain ⟨v',h1,h⟩:=bnd h;obtain ⟨g',h2,h⟩:=bnd h;cases h;exact vF (R.e X C _ _ v' K h1) (R.g X C _ g' K h2) (mL (by simpa using hc)) (VU hf) rfl
   · cases h
 · cases h
theorem sns:∀ n k E T,Sns E T k n
 | 0,_,_,_=>⟨(fun X C s c K h=>by unfold cS at h; cases h),(fun X C s c K h=>by unfold cSs at h; cases h)⟩
 | n + 1,k,E,T=>⟨aIU (sns n) (sns n k E T),aEw (sns n k E T)⟩
end
structure bH (K:W.Frag) (x qual:Str) (st:Stmt) (dV:Value) (f:Addr) (fd:FuncData):Prop where
 ex :∃ (oc:Value) (od:Option Addr) (kV doc pm:Value) (an:Option Addr) (cdv ct:Value) (osl:Array (Option Value)),
   fd=W.fnOf x qual (gX st) (aC st) (aB st) dV kV doc pm an cdv ct∧K.lookup f=some ⟨oc,od,.func fd,osl⟩∧W.codeIn K cdv qual=true
 kp:W.keepIn K (.ref f)=true
noncomputable def Wk (Q:PK1):PK1:=fun x G=>∃ G2:Gh,(∀ a o,G2 a=some o→G a=some o)∧(Q x G2∨(∃ p xs,x= .ref p∧G2 p=none∧G p=some (.lst xs)∧Q (.lst xs) G2)∨∃ p c ns xs,x= .ref p∧G2 p=none∧G p=some (.ins c ns xs)∧Q (.ob c ns xs) G2)
theorem Wk.here {Q:PK1} {x:PV} {G:Gh} (q:Q x G):Wk Q x G:=⟨G,fun _ _ z=>z,.inl q⟩
theorem Wk.of {Q:PK1} {x:PV} {G G2:Gh} (q:Q x G2) (h:∀ a o,G2 a=some o→G a=some o):Wk Q x G:=⟨G2,h,.inl q⟩
theorem Wk.frz {Q:PK1} {p:Addr} {xs:List PV} {G G2:Gh} (hG:G p=some (.lst xs)) (q:Q (.lst xs) G2) (h:∀ a o,G2 a=some o→G a=some o) (n:G2 p=none):Wk Q (.ref p) G:=⟨G2,h,.inr (.inl ⟨p,xs,rfl,n,hG,q⟩)⟩
theorem Wk.frzI {Q:PK1} {p:Addr} {c:String} {ns:List Str} {xs:List PV} {G G2:Gh} (hG:G p=some (.ins c ns xs)) (q:Q (.ob c ns xs) G2) (h:∀ a o,G2 a=some o→G a=some o) (n:G2 p=none):Wk Q (.ref p) G:=⟨G2,h,.inr (.inr ⟨p,c,ns,xs,rfl,n,hG,q⟩)⟩
theorem ZA {E:Ev} {F Z Z1 H1:Hp} {G1:Gh} {Q':PK1} {Q:VK} {y:PV} {v:V} (kq:Kq E F Z Q' Q) (s1:aM Z Z1) (S1:Sim E F H1 Z1 G1) (r1:RP E Z1 y v) (w:Wk Q' y G1):Q v H1:=by
 obtain ⟨G2,hG,q1 | ⟨p,xs,e,n,hp,q1⟩ | ⟨p,c,ns,xs,e,n,hp,q1⟩⟩:=w
 · exact kq _ _ _ _ _ s1 (S1.weak hG) r1 q1
 case inr.inr =>
   subst e;have e:v= .ref p:=r1;subst e;obtain ⟨z,o',ho,dx,vs,e,l,t⟩:=S1.g _ _ hp;subst e;refine kq (.ob c ns xs) _ _ _ _ (s1.trans (bG z _)) ((S1.frz hp ho).weak fun a o q=>?_) ⟨p,dx,vs,rfl,aW,l,t.mono (bG z _)⟩ q1;by_cases ea:a=p
   · subst ea; rw [n] at q; cases q
   · rw [tS ea]; exact hG a o q
 · subst e;have e:v= .ref p:=r1;subst e;obtain ⟨z,o',ho,vs,e,t⟩:=S1.g _ _ hp;subst e;refine kq _ _ _ _ _ (s1.trans (bG z _)) ((S1.frz hp ho).weak fun a o q=>?_) (jK z t) q1;by_cases ea:a=p
   · subst ea; rw [n] at q; cases q
   · rw [tS ea]; exact hG a o q
noncomputable def aT (Q:PK1):iG:=⟨fun _ G=>Wk Q .non G,Wk Q,fun _ _=>False,fun _ _=>False⟩
structure aR (st:Stmt) (ps:List Str) (C:Cfg):Prop where
 sc:BH C.N ps (aB st)
 nm:(aB st).names=C.names
 bk:C.blk=false
structure Ck (K:W.Frag) (E:Ev) (T:Tb):Prop where
 hK:E.K=K
 cls:SV E T.cs
 fld:∀ c f,(c,f)∈T.fl→Cls K (E.cls c)∧cX K (E.cls c) f
structure Xo (K:W.Frag) (mg:Str→Option Value) (E:Ev) (T:Tb):Prop where
 xi:∀ c n r,(c,n,r)∈T.xi→XAt K (E.cls c)∧((∃ a,mg n=some (.ref a)∧W.kitOne K (.ref (E.cls c)) (.ref a)=some r)∨∃ t,mg n=none∧bootBuiltins n=some (.type t)∧n≠"__name__"∧W.kitOne K (.ref (E.cls c)) (.type t)=some r)
 fx:∀ c f,(c,f)∈T.fx→XAt K (E.cls c)∧W.findIn K (.ref (E.cls c)) f=some none
theorem Xo.no {K:W.Frag} {mg:Str→Option Value} {E:Ev} {T:Tb} (h1:T.xi=[]) (h2:T.fx=[]):Xo K mg E T:=⟨(fun c n r h=>by rw [h1] at h; cases h),(fun c f h=>by rw [h2] at h; cases h)⟩
theorem Tf.no {P:Program} {w:World} {K:W.Frag} {mg:Str→Option Value} {base:Heap} {E:Ev} {T:Tb} {k:Nat} {C:Cfg} (h:C.tr=false):Tf P w K mg base E T k C:=⟨(fun z=>by rw [h] at z; cases z),(fun z=>by rw [h] at z; cases z),(fun z=>by rw [h] at z; cases z)⟩
theorem aV {P:Program} {w:World} {K:W.Frag} {mg:Str→Option Value} {base:Heap} {E:Ev} {T:Tb} {k n:Nat} {C:Cfg} {x qual:Str} {st:Stmt} {dV:Value} {f:Addr} {fd:FuncData} {ps:List Str} {sp:Sp3} {code:CS}
   (F:bH K x qual st dV f fd) (D:aR st ps C) (ck:Ck K E T) (gf:Gf P w K mg base E T k C) (hc:cSs n C (aC st)=some code) (xo:Xo K mg E T) (tf:Tf P w K mg base E T k C) (hz:C.rz=false) (hcm:C.cm=true→40≤k) (hrp:C.rp=true→79≤k)
   (len:∀ xs G Q,sp xs G Q→xs.length=ps.length) (hw:∀ xs G Q,sp xs G Q→wpS T code (aT Q) (aF C.N.length xs) G):bN P w K mg base CX0 (k + 2) f fd ps (iW E sp):=by
 obtain ⟨oc,od,kV,doc,pm,an,cdv,ct,osl,e,lk,hcd⟩:=F.ex;subst e;refine aHF lk hcd D.sc (by rintro vs H Q E' ⟨xs,Z,G,F',Q',r,S,q,kq⟩;rw [←r.length]; exact len xs G Q' q) fun A outer s H vs Q E' hr hsp=>?_;obtain ⟨xs,Z,G,F',Q',r,S,q,kq⟩:=hsp;have kn:Kn (NE CX0 P w K mg base C.N qual (aB st) f cdv A outer s H E').nox E T k C:=by
   refine ⟨⟨ck.hK,(fun z=>Option.isNone_iff_eq_none.mpr (hr.hd z)),hr,ck.cls,ck.fld⟩,rfl,D.sc.nd,D.nm,D.sc.kind,fun _ _=>rfl,fun y hy=>?_,PassesOwn.never,gf,fun _=>⟨rfl,rfl⟩,(fun z=>by rw [hz] at z; cases z),⟨xo.xi,xo.fx⟩,hcm,(fun z=>hr.gd (Nat.succ_le_succ (hrp z))),tf⟩;exact wO (n:=s.heap.objs.size + 1) (by rw [D.nm]; exact hy)
 have js:=(sns n k E T).ss _ C _ code kn hc F';refine ⟨_,js.nox,aF C.N.length xs,Z,G,aT Q',RSt.start r,S,hw xs G Q' q,⟨?_, ?_, ?_, ?_⟩⟩
 · rintro σ1 σ2 Z1 G1 H1 s1 S1 rs1 w;exact ZA kq s1 S1 rM w
 · rintro y v Z1 G1 H1 s1 S1 r1 w;exact ZA kq s1 S1 r1 w
 · rintro σ1 σ2 Z1 G1 H1 s1 S1 rs1 z; exact z
 · rintro σ1 σ2 Z1 G1 H1 s1 S1 rs1 z; exact z
def CA:Sp3:=fun xs G Q=>∃ ns:List Int,xs=[.scr ns]∧ns.length≤63∧∀ G',Q (.bl true) G'
noncomputable def KS (K:W.Frag):Sp:=fun vs H Q _=>∃ (p:Addr) (ns:List Int),vs=[.ref p]∧SqL K H p (ns.map V.int)∧ns.length≤63∧∀ H',Q (.bl true) H'
theorem aFm {E:Ev} {vs:List V} {H:Hp} {Q:VK} {X:XK} (h0:aM E.z0 H) (hf:aM E.f0 fun _=>none) (h:KS E.K vs H Q X):iW E CA vs H Q X:=by
 obtain ⟨p,ns,e,hS,hl,q⟩:=h;subst e;refine ⟨[.scr ns],H,fun _=>none,fun _=>none,fun x _=>x= .bl true,⟨.ref p,[],rfl,⟨p,rfl,hS⟩,rfl⟩,⟨aM.refl H,(fun a o z=>nomatch z),(fun a o z=>nomatch z),h0,hf⟩,⟨ns,rfl,hl,fun _=>rfl⟩, ?_⟩;intro x v Z1 G1 H1 s1 S1 r1 e;subst e;have e:v= .bl true:=r1;subst e;exact q H1
theorem NI {K:W.Frag} {H:Hp} {a:Addr} {ns:List Int} (hl:ns.length≤63) (_:YQ H) (h:SqL K H a (ns.map V.int)):KS K [.ref a] H (fun v _=>v= .bl true) fun _ _ _=>False:=⟨a,ns,rfl,h,hl,fun _=>rfl⟩
theorem aAI {K:W.Frag} {x qual:Str} {st:Stmt} {f:Addr} {oc:Value} {od an:Option Addr} {osl:Array (Option Value)} {dV kV doc pm cdv ct:Value} (l:K.lookup f=some ⟨oc,od,.func (W.fnOf x qual (gX st) (aC st) (aB st) dV kV doc pm an cdv ct),osl⟩)
   (c:W.codeIn K cdv qual=true) (k:W.keepIn K (.ref f)=true):bH K x qual st dV f (W.fnOf x qual (gX st) (aC st) (aB st) dV kV doc pm an cdv ct):=⟨⟨oc,od,kV,doc,pm,an,cdv,ct,osl,rfl,l,c⟩,k⟩
theorem bH.binds {K:W.Frag} {x qual:Str} {st:Stmt} {dV:Value} {f:Addr} {fd:FuncData} {ps:List Str} (F:bH K x qual st dV f fd)
   (h:∀ (kV doc pm:Value) (an:Option Addr) (cdv ct:Value) (s:Shared) (us:List Value),K.In s.heap→us.length=ps.length→BindsTo s (W.fnOf x qual (gX st) (aC st) (aB st) dV kV doc pm an cdv ct) ⟨us,[]⟩ (ps.zip us)):L2.aH K fd ps []:=by
 obtain ⟨oc,od,kV,doc,pm,an,cdv,ct,osl,rfl,lk,hcd⟩:=F.ex;intro s us hK hl;rw [List.append_nil] at hl ⊢;exact h kV doc pm an cdv ct s us hK hl
theorem bH.sh {K:W.Frag} {x qual:Str} {st:Stmt} {dV:Value} {f:Addr} {fd:FuncData} {ps:List Str} {n:Nat} {ks:List Str} {ar:List Ar} (F:bH K x qual st dV f fd) (hl:ar.length=ps.length)
   (h:∀ (kV doc pm:Value) (an:Option Addr) (cdv ct:Value) (s:Shared) (us ws:List Value),K.In s.heap→us.length=n→ws.length=ks.length→∃ bs,BindsTo s (W.fnOf x qual (gX st) (aC st) (aB st) dV kV doc pm an cdv ct) ⟨us,ks.zip ws⟩ (ps.zip bs)∧∀ vs zs,aJ vs us→aJ zs ws→aJ (ar.map (Ar.valV (vs ++ zs))) bs):hZ K fd ps n ks ar:=by
 obtain ⟨oc,od,kV,doc,pm,an,cdv,ct,osl,rfl,lk,hcd⟩:=F.ex;exact ⟨hl,h kV doc pm an cdv ct⟩
theorem ac {α:Type} {P:α→Prop} {x:α} {l:List α} (h:P x) (t:∀ y∈l,P y):∀ y∈x :: l,P y:=List.forall_mem_cons.mpr ⟨h,t⟩
theorem an {α:Type} {P:α→Prop}:∀ y∈([]:List α),P y:=fun _ h=>nomatch h
theorem RU {E:Ev} {mg:Str→Option Value} {x:Str} {i:Int} {t:Tok} (h:mg x=some (.int i t)):∃ u v,mg x=some u∧aN v u∧RP E (fun _=>none) (.int i) v:=⟨_,.int i,h,⟨t,rfl⟩,rfl⟩
theorem jY {E:Ev} {mg:Str→Option Value} {x:Str} {c:String} {a:Addr} (h:mg x=some (.ref a)) (e:E.cls c=a):∃ u v,mg x=some u∧aN v u∧RP E (fun _=>none) (.cl c) v:=⟨_,.ref a,h,rfl,by rw [←e]; rfl⟩
theorem aAN {E:Ev} {K:W.Frag} {mg:Str→Option Value} {x:Str} {a:Addr} {i j:Int} {t u:Tok} {n:Nat} {sl:Array (Option Value)} (hK:E.K=K) (h:mg x=some (.ref a)) (l:K.lookup a=some ⟨.type "tuple",none,.seq #[.int i t,.int j u] n,sl⟩):∃ u v,mg x=some u∧aN v u∧RP E (fun _=>none) (.tup [.int i,.int j]) v :=
 ⟨_,.ref a,h,rfl,a,[.int i,.int j],rfl,.inr ⟨_,_,_,by rw [hK]; exact l,rfl,rfl,by show 2≤sizeLine; decide,.cons ⟨t,rfl⟩ (.cons ⟨u,rfl⟩ .nil),rfl⟩,_,_,rfl,rfl,_,_,rfl,rfl,rfl⟩
theorem aAf {E:Ev} {mg:Str→Option Value} {x:Str} {y z:PV} (h:∃ u v,mg x=some u∧aN v u∧RP E (fun _=>none) y v) (e:z=y):∃ u v,mg x=some u∧aN v u∧RP E (fun _=>none) z v:=e▸h
end L3
namespace L3
open PySem PySem.W PyProof.Rows
theorem aHJ {p q:Program} {loose:List Str} {Xt:Shared→Bool} {α:Type} {Yf:Shared→α} {Ya:World→α} {N:Nat} {g0:Bool} {H₀:Params→Heap} {gs₀:Array GenState} {d₀:Drawn} {k₀ m₀:Nat} {ann:Option Value} {M:Nat}
   (open_:∀ w:World,(fencedOpening treeTable p w N).map (fun s=>(s.heap,s.gens,s.drawn,s.toks))=some (H₀ w.params,gs₀,d₀,k₀))
   (size:∀ w:World,((H₀ w.params).isNs mainGlobals && gs₀.size == 0,(H₀ w.params).objs.size,(H₀ w.params).nsMap mainGlobals "__annotations__")=(true,m₀,ann)) (le:Nat.ble M N=true)
   (run:∀ (w:World) (os:OsState),∃ s₁,topRun treeTable p w m₀ ann M ⟨H₀ w.params,gs₀,d₀,k₀,os⟩ (topStub p)=some s₁∧
     (staticsOk (importedModules p.main.body) (H₀ w.params) s₁.heap && namesBound p s₁.heap && gensDone s₁ && laidKept (H₀ w.params) s₁.heap,openSeen q loose (importedModules p.main.body) Xt g0 s₁,Yf s₁)=(true,openGood q loose,Ya w)):LeftO p q loose Xt Yf Ya N g0:=fun w=>by
 obtain ⟨⟨h,gs,d,k,os⟩,e,e'⟩:=Option.map_eq_some_iff.mp (open_ w);obtain ⟨rfl,rfl,rfl,rfl⟩:h=H₀ w.params∧gs=gs₀∧d=d₀∧k=k₀:=by simpa using e'
 obtain ⟨z1,z2,z3⟩:_∧_∧_:=by simpa only [Prod.mk.injEq] using size w
 obtain ⟨s₁,r,l⟩:=run w os;obtain ⟨l1,l2,l3⟩:_∧_∧_:=by simpa only [Prod.mk.injEq] using l
 have r:=topRun_mono (N - M) _ _ _ _ r;rw [show M + (N - M)=N by have:=Nat.le_of_ble_eq_true le; omega] at r;have t:topFrom treeTable p w N ⟨H₀ w.params,gs,d,k,os⟩=some s₁:=by
   unfold topFrom;dsimp only;rw [z1,z2,z3,r];show (match staticsOk (importedModules p.main.body) (H₀ w.params) s₁.heap && namesBound p s₁.heap && gensDone s₁ && laidKept (H₀ w.params) s₁.heap with | true=>_ | false=>_)=_;rw [l1]
 unfold openEnds;rw [e];show (topFrom treeTable p w N _).map _=_;rw [t];exact congrArg some (Prod.ext l2 l3)
noncomputable def aHR (o:Option (Shared×Thread)) (s:Shared):Shared:=match o with | some x=>x.1 | none=>s
noncomputable def aHs (o:Option (Flow×Shared×Code×Pos)) (s:Shared):Shared:=match o with | some x=>x.2.1 | none=>s
end L3
namespace L3
open PySem PySem.Spec
open PyProof.Rows hiding St
open L2
section
variable {G:Gh} {Q:PK1} {x y:PV} {i j:Int} {s:Str} {b c:Bool} {a:Addr}
theorem kK {C:Int→Int→Prop} {g:Int→Int→PV}:pI C g (.int i) (.int j) G Q=(C i j∧Q (g i j) G):=rfl
theorem fH:FI .Add=EC:=rfl
theorem nK:FI .Sub=pI (fun _ _=>True) fun i j=>.int (i - j):=rfl
theorem iK:FI .Mult (.int i) (.int j) G Q=(yP i j∧Q (.int (i * j)) G):=rfl
theorem vZ:FI .FloorDiv=pI yK fun i j=>.int (i / j):=rfl
theorem uN:FI .Mod=pI aCs fun i j=>.int (i % j):=rfl
theorem UU:FI .Pow=pI SQ fun i j=>.int (i ^ j.toNat):=rfl
theorem fI:EC (.int i) (.int j) G Q=Q (.int (i + j)) G:=rfl
theorem aHz {t:Str}:EC (.str s) (.str t) G Q=(s.length + t.length≤sizeLine∧Q (.str (s ++ t)) G):=rfl
theorem DL {xs ys:List PV}:EC (.lst xs) (.lst ys) G Q=(xs.length + ys.length≤sizeLine∧Q (.lst (xs ++ ys)) G):=by
 show (∃ xs' ys',some xs=some xs'∧some ys=some ys'∧_)=_;exact propext ⟨by rintro ⟨_,_,e1,e2,h⟩;cases e1; cases e2; exact h,fun h=>⟨_,_,rfl,rfl,h⟩⟩
theorem aHq {xs ys:List PV}:EC (.tup xs) (.tup ys) G Q=(xs.length + ys.length≤sizeLine∧Q (.tup (xs ++ ys)) G):=rfl
theorem tT:nV .Lt=pI (fun _ _=>True) fun i j=>.bl (decide (i < j)):=rfl
theorem LS:nV .LtE=pI (fun _ _=>True) fun i j=>.bl (decide (i≤j)):=rfl
theorem MM:nV .Gt=pI (fun _ _=>True) fun i j=>.bl (decide (j < i)):=rfl
theorem MJ:nV .GtE=pI (fun _ _=>True) fun i j=>.bl (decide (j≤i)):=rfl
theorem eM:nV .Eq=pEq false:=rfl
theorem pC:nV .NotEq=pEq true:=rfl
theorem aBu:nV .Is=pIs false:=rfl
theorem aIR:nV .IsNot=pIs true:=rfl
theorem eO:pEq false (.int i) (.int j) G Q=Q (.bl (decide (i=j))) G:=by
 show (true=true∧true=true∧Q (.bl (i == j)) G)=_;simp only [true_and]; congr 2
theorem oU:pEq true (.int i) (.int j) G Q=Q (.bl (!decide (i=j))) G:=by
 show (true=true∧true=true∧Q (.bl (!(i == j))) G)=_;simp only [true_and]; congr 2
theorem fF {R:Bool→Gh→Prop}:BK (.bl b) G R=R b G:=rfl
theorem aII {R:Bool→Gh→Prop}:BK .non G R=R false G:=rfl
theorem aHY {R:Bool→Gh→Prop} {xs:List PV}:BK (.tup xs) G R=R (!xs.isEmpty) G:=rfl
theorem WX:aDi (.int i) G Q=Q (.int (-i)) G:=rfl
theorem ZS (h:x≠.non):pIs false x .non G Q=Q (.bl false) G:=propext ⟨fun z=>z.elim (fun z=>absurd z.1 h) (fun z=>z.2),fun q=>.inr ⟨h,q⟩⟩
theorem kN {xs:List PV}:xH (.tup xs) (.int i) G Q=(∃ v,atI xs i=some v∧Q v G):=rfl
theorem VJ {ns:List Int}:xH (.scr ns) (.int i) G Q=(∃ n,atI ns i=some n∧Q (.int n) G):=rfl
theorem pD {xs:List PV}:xH (.lst xs) (.int i) G Q=(∃ v,atI xs i=some v∧Q v G):=by
 show (∃ ys v,some xs=some ys∧_)=_;exact propext ⟨by rintro ⟨_,v,e1,h⟩;cases e1; exact ⟨v,h⟩,by rintro ⟨v,h⟩;exact ⟨_,v,rfl,h⟩⟩
theorem cP {xs:List PV} (h:G a=some (.lst xs)):bS G (.ref a)=some xs:=by unfold bS; dsimp only; rw [h]
theorem lH {xs:List PV}:bS G (.lst xs)=some xs:=rfl
theorem QO {xs:List PV}:bS (gup G a (.lst xs)) (.ref a)=some xs:=cP aD
theorem FZ {xs:List PV} (h:G a=some (.lst xs)):xH (.ref a) (.int i) G Q=(∃ v,atI xs i=some v∧Q v G):=by
 show (∃ ys v,bS G (.ref a)=some ys∧_)=_;rw [cP h];exact propext ⟨by rintro ⟨_,v,e1,h⟩;cases e1; exact ⟨v,h⟩,by rintro ⟨v,h⟩;exact ⟨_,v,rfl,h⟩⟩
theorem CW {xs:List PV}:xH (.ref a) (.int i) (gup G a (.lst xs)) Q=(∃ v,atI xs i=some v∧Q v (gup G a (.lst xs))):=FZ aD
theorem CF {xs:List PV} {v:PV} {R:Gh→Prop} (h:G a=some (.lst xs)):aBT (.ref a) (.int i) v G R=(∃ j,ixN xs.length i=some j∧R (gup G a (.lst (xs.set j v)))):=propext
 ⟨by rintro ⟨_,_,_,j,e1,e2,e3,e4,r⟩;cases e1; cases e2; rw [h] at e3; cases e3; exact ⟨j,e4,r⟩,by rintro ⟨j,e4,r⟩;exact ⟨_,_,_,j,rfl,rfl,h,e4,r⟩⟩
theorem TX {xs:List PV} {v:PV} {R:Gh→Prop}:aBT (.ref a) (.int i) v (gup G a (.lst xs)) R=(∃ j,ixN xs.length i=some j∧R (gup G a (.lst (xs.set j v)))):=by
 rw [CF aD]; simp only [dP]
variable {cs:List String}
theorem nM {xs:List PV}:dG cs .len [.tup xs] G Q=Q (.int xs.length) G:=by
 refine propext ⟨fun h=>?_,fun q=>.inl ⟨_,rfl,q⟩⟩;rcases h with ⟨ys,e,q⟩ | ⟨ys,e,q⟩ | ⟨z,e,_⟩ | ⟨ys,e,q⟩
 · cases e; exact q
 · cases e
 · cases e
 · cases e
theorem DV {xs:List Int}:dG cs .len [.scr xs] G Q=Q (.int xs.length) G:=by
 refine propext ⟨fun h=>?_,fun q=>.inr (.inl ⟨_,rfl,q⟩)⟩;rcases h with ⟨ys,e,q⟩ | ⟨ys,e,q⟩ | ⟨z,e,_⟩ | ⟨ys,e,q⟩
 · cases e
 · cases e; exact q
 · cases e
 · cases e
theorem vS {xs:List PV}:dG cs .len [.lst xs] G Q=Q (.int xs.length) G:=by
 refine propext ⟨fun h=>?_,fun q=>.inr (.inr (.inr ⟨_,rfl,q⟩))⟩;rcases h with ⟨ys,e,q⟩ | ⟨ys,e,q⟩ | ⟨z,e,_⟩ | ⟨ys,e,q⟩
 · cases e
 · cases e
 · cases e
 · cases e; exact q
theorem CL:dG cs .abs [.int i] G Q=Q (.int (i.natAbs:Int)) G:=rfl
theorem DO:dG cs .max [.int i,.int j] G Q=Q (.int (max i j)) G:=rfl
theorem XT:dG cs .min [.int i,.int j] G Q=Q (.int (min i j)) G:=rfl
theorem aGH:dG cs .int [.int i] G Q=Q (.int i) G:=rfl
theorem aAn:dG cs .int [.bl b] G Q=Q (.int (if b then 1 else 0)) G:=rfl
theorem LD {n T:String} (h:pK x G=some n):dG cs .isi [x,.ty T] G Q=(T∈mP∧Q (.bl (AK n T)) G):=propext
 ⟨by rintro ⟨hT,h'⟩;exact ⟨hT,by
   rcases h' with ⟨m,e,q⟩ | ⟨c,e,_,q⟩
   · rw [h] at e; cases e; exact q
   · exfalso; cases x <;> first | (cases e; done) | skip
     · cases h
     · unfold pK at h; unfold OO at e; dsimp only at h e;split at h
       · rename_i q; rw [q] at e; cases e
       · cases h⟩,by rintro ⟨hT,q⟩;exact ⟨hT,.inl ⟨n,h,q⟩⟩⟩
theorem aIl:pK (.int i) G=some "int":=rfl
theorem aI6:pK (.bl b) G=some "bool":=rfl
theorem aIC:pK (.str s) G=some "str":=rfl
theorem aG9:pK .non G=some "NoneType":=rfl
theorem aHN {xs:List PV}:pK (.tup xs) G=some "tuple":=rfl
theorem aGv {xs:List PV}:pK (.lst xs) G=some "list":=rfl
theorem SX {T:String}:dG cs .isi [.int i,.ty T] G Q=(T∈mP∧Q (.bl (AK "int" T)) G):=LD rfl
theorem vW {T:String} {xs:List PV}:dG cs .isi [.tup xs,.ty T] G Q=(T∈mP∧Q (.bl (AK "tuple" T)) G):=LD rfl
theorem KE {c:String} {ns:List Str} {xs:List PV}:dG cs .isi [.ob c ns xs,.cl c] G Q=(c∈cs∧Q (.bl true) G):=propext
 ⟨by rintro ⟨hc,h'⟩;exact ⟨hc,by
   rcases h' with ⟨m,e,q⟩ | ⟨c',e,_,q⟩
   · cases e
   · cases e; rw [decide_eq_true rfl] at q; exact q⟩,by rintro ⟨hc,q⟩;exact ⟨hc,.inr ⟨c,rfl,hc,by rw [decide_eq_true rfl]; exact q⟩⟩⟩
theorem oE {xs:List PV}:dG cs .tuple [.lst xs] G Q=Q (.tup xs) G:=propext
 ⟨fun h=>by
   rcases h with ⟨ys,e,q⟩ | ⟨ys,e,q⟩
   · cases e
   · cases e; exact q,fun q=>.inr ⟨_,rfl,q⟩⟩
theorem VG {xs:List PV} (h:G a=some (.lst xs)):dG cs .tuple [.ref a] G Q=Q (.tup xs) G:=propext
 ⟨fun h'=>by
   rcases h' with ⟨ys,e,q⟩ | ⟨ys,e,q⟩
   · cases e
   · rw [cP h] at e; cases e; exact q,fun q=>.inr ⟨_,cP h,q⟩⟩
theorem uU {xs:List PV}:dG cs .tuple [.ref a] (gup G a (.lst xs)) Q=Q (.tup xs) (gup G a (.lst xs)):=VG aD
theorem wI {xs:List PV}:dG cs .all [.lst xs] G Q=(∃ b,AH xs=some b∧Q (.bl b) G):=propext
 ⟨by rintro ⟨_,b,e,eb,q⟩;cases e; exact ⟨b,eb,q⟩,by rintro ⟨b,eb,q⟩;exact ⟨_,b,rfl,eb,q⟩⟩
theorem wE {xs:List PV}:rH true G xs Q= ∀ p,G p=none→Q (.ref p) (gup G p (.lst xs)):=rfl
theorem fZ {xs:List PV}:rH false G xs Q=Q (.lst xs) G:=rfl
theorem oX {xs:List PV} {R:(Gh→Prop)→List PV→Gh→Prop}:TK (.tup xs) G R=R (fun _=>True) xs G:=rfl
theorem iJ {xs:List PV} {R:(Gh→Prop)→List PV→Gh→Prop}:TK (.lst xs) G R=R (fun _=>True) xs G:=rfl
theorem aIv {xs:List Int} {R:(Gh→Prop)→List PV→Gh→Prop}:TK (.scr xs) G R=R (fun _=>True) (xs.map .int) G:=rfl
theorem LF {α:Type} {v:α} {R:α→Prop}:(∃ c,some v=some c∧R c)=R v:=propext ⟨by rintro ⟨_,e,r⟩;cases e; exact r,fun r=>⟨v,rfl,r⟩⟩
end
theorem at0 {α:Type} {x:α} {xs:List α}:atI (x :: xs) 0=some x:=dD (xs:=x :: xs) (j:=0) rfl
theorem at1 {α:Type} {x y:α} {xs:List α}:atI (x :: y :: xs) 1=some y:=dD (xs:=x :: y :: xs) (j:=1) rfl
theorem at2 {α:Type} {x y z:α} {xs:List α}:atI (x :: y :: z :: xs) 2=some z:=dD (xs:=x :: y :: z :: xs) (j:=2) rfl
theorem at3 {α:Type} {x y z u:α} {xs:List α}:atI (x :: y :: z :: u :: xs) 3=some u:=dD (xs:=x :: y :: z :: u :: xs) (j:=3) rfl
theorem at4 {α:Type} {x y z u v:α} {xs:List α}:atI (x :: y :: z :: u :: v :: xs) 4=some v:=dD (xs:=x :: y :: z :: u :: v :: xs) (j:=4) rfl
theorem aI8 {Q:PK1}:(aT Q).rt=Wk Q:=rfl
theorem aI7 {Q:PK1} {σ:PSt} {G:Gh}:(aT Q).nx σ G=Wk Q .non G:=rfl
theorem aO:("int"∈mP)=True∧("bool"∈mP)=True∧("tuple"∈mP)=True∧("str"∈mP)=True∧("list"∈mP)=True:=⟨eq_true (by decide),eq_true (by decide),eq_true (by decide),eq_true (by decide),eq_true (by decide)⟩
theorem aEZ:AK "int" "int"=true:=by decide
theorem aFi:AK "int" "bool"=false:=by decide
theorem HR:AK "tuple" "tuple"=true:=by decide
theorem sz2:(2:Nat)≤sizeLine:=by decide
theorem sz1:(1:Nat)≤sizeLine:=by decide
theorem sz3:(3:Nat)≤sizeLine:=by decide
theorem szN {n:Nat} (h:n≤1000):n≤sizeLine:=Nat.le_trans h (by decide)
noncomputable def FQ (q:Rat):PV:=.tup [.int q.num,.int (q.den:Int)]
def dO:Sp3:=fun xs G Q=>∃ i,xs=[.int i]∧Q (.bl true) G
def kJ:Sp3:=fun xs G Q=>∃ i j:Int,xs=[.int i,.int j]∧0≤i∧0≤j∧Q (.int (Int.gcd i j)) G
def jV:Sp3:=fun xs G Q=>∃ q,xs=[FQ q]∧Q (.bl true) G
def bR:Sp3:=fun xs G Q=>∃ t b:Int,xs=[.int t,.int b]∧b≠0∧Sm 9000 b∧Q (FQ (Rat.divInt t b)) G
def Bd (n:Nat) (q:Rat):Prop:=Sm n q.num∧Sm n (q.den:Int)
theorem Bd.mono {n m:Nat} {q:Rat} (h:Bd n q) (e:n≤m):Bd m q:=⟨h.1.mono e,h.2.mono e⟩
theorem WC {t b:Int} (hb:b≠0):0 < b.gcd t:=Int.gcd_pos_of_ne_zero_left _ hb
theorem Bd.divInt {n:Nat} {t b:Int} (ht:Sm n t) (hb:Sm n b) (h0:b≠0):Bd n (Rat.divInt t b):=by
 have gp:(0:Int) < (b.gcd t:Int):=by have:=WC (t:=t) h0; omega
 constructor
 · rw [Rat.num_divInt];have e:Sm n (b.sign * t):=by
     rcases Int.lt_trichotomy b 0 with z | z | z
     · rw [Int.sign_eq_neg_one_of_neg z,Int.neg_one_mul]; exact ht.neg
     · exact absurd z h0
     · rw [Int.sign_eq_one_of_pos z,Int.one_mul]; exact ht
   exact e.div gp
 · rw [Rat.den_divInt,if_neg h0];have e:Sm n ((b.natAbs:Int)):=by unfold Sm at *; omega
   have:=e.div gp;rw [Int.natCast_ediv];exact this
theorem HY {t b:Int} (hb:0 < b):FQ (Rat.divInt t b)= .tup [.int (t / (Int.gcd t b:Int)),.int (b / (Int.gcd t b:Int))]:=by
 unfold FQ;rw [Rat.num_divInt,Rat.den_divInt,if_neg (by omega),Int.sign_eq_one_of_pos hb,Int.one_mul,Int.gcd_comm,Int.natCast_ediv];have:(b.natAbs:Int)=b:=by omega
 rw [this]
theorem aCV (a b:Rat):Rat.divInt (a.num * (b.den:Int) + b.num * (a.den:Int)) ((a.den:Int) * (b.den:Int))=a + b:=by
 rw [Rat.add_def',←Rat.divInt_ofNat,Int.natCast_mul]
theorem aB5 (a b:Rat):Rat.divInt (a.num * b.num) ((a.den:Int) * (b.den:Int))=a * b:=by
 rw [Rat.mul_def',←Rat.divInt_ofNat,Int.natCast_mul]
theorem aB6 (a b:Rat):Rat.divInt (a.num * (b.den:Int)) ((a.den:Int) * b.num)=a / b:=by
 rw [Rat.div_def,Rat.inv_def];conv=>rhs; rw [←Rat.num_divInt_den a]
 rw [Rat.divInt_mul_divInt]
theorem fL {q:Rat}:(q.den:Int)≠0:=by have:=q.den_pos; omega
theorem tZ {q:Rat}:(0:Int) < q.den:=by have:=q.den_pos; omega
theorem mN {a b:Int} (ha:a≠0) (hb:b≠0):a * b≠0:=Int.mul_ne_zero ha hb
theorem Bd.add {n m l:Nat} {a b:Rat} (ha:Bd n a) (hb:Bd m b) (e:n + m + 1≤l):Bd l (a + b):=by
 rw [←aCV];refine Bd.divInt ?_ ?_ (mN fL fL)
 · exact ((ha.1.mul hb.2)).add ((hb.1.mul ha.2).mono (by omega)) e
 · exact (ha.2.mul hb.2).mono (by omega)
theorem Bd.mul {n m l:Nat} {a b:Rat} (ha:Bd n a) (hb:Bd m b) (e:n + m≤l):Bd l (a * b):=by
 rw [←aB5];exact Bd.divInt ((ha.1.mul hb.1).mono e) ((ha.2.mul hb.2).mono e) (mN fL fL)
theorem Bd.dv {n m l:Nat} {a b:Rat} (ha:Bd n a) (hb:Bd m b) (h0:b≠0) (e:n + m≤l):Bd l (a / b):=by
 rw [←aB6];exact Bd.divInt ((ha.1.mul hb.2).mono e) ((ha.2.mul hb.1).mono e) (mN fL (fun z=>h0 (Rat.num_eq_zero.mp z)))
theorem Bd.int {n:Nat} {i:Int} (h:Sm n i) (e:1≤n):Bd n (i:Rat):=⟨h,by
 show Sm n ((1:Nat):Int);unfold Sm;have:2 ^ 1≤2 ^ n:=Nat.pow_le_pow_right (by decide) e;show 1 < 2 ^ n;omega⟩
theorem BR {i:Int}:PV.tup [.int i,.int 1]=FQ (i:Rat):=rfl
theorem smK {x:Int} {n:Nat} (a: -1000000000000≤x) (b:x < 1000000000000) (e:41≤n):Sm n x:=by
 have:Sm 41 x:=by unfold Sm; omega
 exact this.mono e
def nF:Sp3:=fun xs G Q=>∃ qs:List Rat,xs=[.tup (qs.map FQ)]∧qs.length≤2∧Q .non G
def kA:Sp3:=fun xs G Q=>∃ a b,xs=[FQ a,FQ b]∧Bd 4000 a∧Bd 4000 b∧Q (FQ (a + b)) G
def lP:Sp3:=fun xs G Q=>∃ a b,xs=[FQ a,FQ b]∧Bd 4000 a∧Bd 4000 b∧Q (FQ (a - b)) G
def fR:Sp3:=fun xs G Q=>∃ a b,xs=[FQ a,FQ b]∧Bd 4000 a∧Bd 4000 b∧Q (FQ (a * b)) G
def kS:Sp3:=fun xs G Q=>∃ a b,xs=[FQ a,FQ b]∧Bd 4000 a∧Bd 4000 b∧b≠0∧Q (FQ (a / b)) G
def lD:Sp3:=fun xs G Q=>∃ a b,xs=[FQ a,FQ b]∧Bd 4000 a∧Bd 4000 b∧Q (.bl (decide (a < b))) G
noncomputable def nw (q:Rat):Int:=(2 * q.num + (q.den:Int)) / (2 * (q.den:Int))
def AD:Sp3:=fun xs G Q=>∃ a,xs=[FQ a]∧Bd 8900 a∧Q (.int (nw a)) G
def iP:Sp3:=fun xs G Q=>∃ a,xs=[FQ a]∧0≤a∧a≤1∧Q (.bl true) G
noncomputable def SH (a b c:Rat):PV:=.ob "Shade" ["ember","leaf","sky"] [FQ a,FQ b,FQ c]
def In1 (a:Rat):Prop:=0≤a∧a≤1
def lN:Sp3:=fun xs G Q=>∃ a b c,xs=[FQ a,FQ b,FQ c]∧In1 a∧In1 b∧In1 c∧Q (SH a b c) G
def oH:Sp3:=fun xs G Q=>∃ p a b c,xs=[.ref p,FQ a,FQ b,FQ c]∧G p=some (.ins "Shade" [] [])∧In1 a∧In1 b∧In1 c∧Q .non (gup G p (.ins "Shade" ["ember","leaf","sky"] [FQ a,FQ b,FQ c]))
def fV:Sp3:=fun xs G Q=>∃ a b c,xs=[SH a b c]∧Q (.bl true) G
def lJ:Sp3:=fun xs G Q=>∃ a b c,xs=[SH a b c]∧Q .non G
def dZ:Sp3:=fun xs G Q=>∃ a b c,xs=[SH a b c]∧Q (.tup [FQ a,FQ b,FQ c]) G
def fS:Sp3:=fun xs G Q=>∃ x a b c,xs=[x]∧bS G x=some [FQ a,FQ b,FQ c]∧In1 a∧In1 b∧In1 c∧Q (SH a b c) G
def nJ:Sp3:=fun xs G Q=>∃ g:Int,xs=[.int g]∧1≤g∧g≤1000∧Q .non G
def AL:Sp3:=fun xs G Q=>∃ g:Int,xs=[.int g]∧1≤g∧g≤1000∧Q (.bl true) G
def nD:Sp3:=fun xs G Q=>∃ s g:Int,xs=[.int s,.int g]∧0≤s∧s≤g∧Q (.bl true) G
def iZ:Sp3:=fun xs G Q=>∃ s g:Int,xs=[.int s,.int g]∧0≤s∧s≤g∧Q .non G
noncomputable def stp (a:Rat) (g:Int):PV:=.int (nw (a * (g:Rat)))
def pT:Sp3:=fun xs G Q=>∃ a b c g,xs=[SH a b c,.int g]∧1≤g∧g≤1000∧Bd 3000 a∧Bd 3000 b∧Bd 3000 c∧Q (.tup [stp a g,stp b g,stp c g]) G
noncomputable def aDL (s g:Int):Rat:=Rat.divInt (max (2 * s - 1) 0) (2 * g)
noncomputable def aDt (s g:Int):Rat:=if s=g then 1 else Rat.divInt (2 * s + 1) (2 * g)
def HK:Sp3:=fun xs G Q=>∃ s g:Int,xs=[.int s,.int g]∧1≤g∧g≤1000∧0≤s∧s≤g∧Q (.tup [FQ (aDL s g),FQ (aDt s g),.bl (decide (s=g))]) G
structure PT (T:Tb):Prop where
 is_whole:T.S "is_whole"=dO
 common:T.S "common"=kJ
 is_fraction:T.S "is_fraction"=jV
 lowest:T.S "lowest"=bR
 need_fractions:T.S "need_fractions"=nF
 plus:T.S "plus"=kA
 minus:T.S "minus"=lP
 times:T.S "times"=fR
 over:T.S "over"=kS
 below:T.S "below"=lD
 nearest_whole:T.S "nearest_whole"=AD
 is_share:T.S "is_share"=iP
 shade:T.S "Shade"=lN
 shadeI:T.S "Shade.__init__"=oH
 is_shade:T.S "is_shade"=fV
 need_shade:T.S "need_shade"=lJ
 shares_of:T.S "shares_of"=dZ
 shade_of:T.S "shade_of"=fS
 is_grade:T.S "is_grade"=AL
 need_grade:T.S "need_grade"=nJ
 is_step:T.S "is_step"=nD
 need_step:T.S "need_step"=iZ
 printed:T.S "printed"=pT
 span_of:T.S "span_of"=HK
 gv_ONE:T.gv "ONE"=FQ 1
 gv_ZERO:T.gv "ZERO"=FQ 0
 gv_MOST_GRADE:T.gv "MOST_GRADE"= .int 1000
 gv_Shade:T.gv "Shade"= .cl "Shade"
 cs: "Shade"∈T.cs
 fl_e:("Shade",("ember":Str))∈T.fl
 fl_l:("Shade",("leaf":Str))∈T.fl
 fl_s:("Shade",("sky":Str))∈T.fl
 ty_int:T.gv "int"= .ty "int"
 ty_bool:T.gv "bool"= .ty "bool"
 ty_tuple:T.gv "tuple"= .ty "tuple"
theorem aDH {q:Rat} {G:Gh} {Q:PK1} {cs:List String}:dG cs .len [FQ q] G Q=Q (.int 2) G:=nM
theorem aAu {q:Rat} {G:Gh} {Q:PK1}:xH (FQ q) (.int 0) G Q=Q (.int q.num) G:=by unfold FQ; rw [kN,at0,LF]
theorem aAl {q:Rat} {G:Gh} {Q:PK1}:xH (FQ q) (.int 1) G Q=Q (.int q.den) G:=by unfold FQ; rw [kN,at1,LF]
theorem aD4 {q:Rat} {G:Gh} {Q:PK1} {cs:List String} {t:String}:dG cs .isi [FQ q,.ty t] G Q=(t∈mP∧Q (.bl (AK "tuple" t)) G):=vW
theorem sD {a b:Rat}:(FQ a=FQ b)=(a=b):=propext ⟨fun h=>by
 unfold FQ at h;injection h with h;injection h with h1 h;injection h with h2 _;injection h1 with h1;injection h2 with h2;exact Rat.ext h1 (by omega),fun h=>by rw [h]⟩
theorem aFb {q:Rat}:(1:Int)≤q.den:=by have:=q.den_pos; omega
theorem aGq {q:Rat}:Int.gcd (q.num.natAbs:Int) (q.den:Int)=1:=q.reduced
theorem RX {G:Gh} {Q:PK1} {a b:Rat}:nF [.tup [FQ a,FQ b]] G Q=Q .non G:=propext ⟨by rintro ⟨_,e,_,q⟩;exact q,fun q=>⟨[a,b],rfl,by show 2≤2; decide,q⟩⟩
theorem XE {chk:Gh→Prop} {g:PTG} {tb:PTS} {D:iG} {σ:PSt} {G:Gh}:rY chk g tb D [] σ G=(chk G∧D.nx σ G):=rfl
theorem QM {chk:Gh→Prop} {g:PTG} {tb:PTS} {D:iG} {x:PV} {r:List PV} {σ:PSt} {G:Gh}:rY chk g tb D (x :: r) σ G=(chk G∧g x σ G fun σ2 G2=>tb { D with nx:=rY chk g tb D r,ct:=rY chk g tb D r,bk:=D.nx } σ2 G2):=rfl
theorem eG {chk:Gh→Prop} {g:PTG} {ts:PTT} {te:PTE} {acc:List PV} {σ:PSt} {G:Gh} {Q:List PV→Gh→Prop}:gR chk g ts te [] acc σ G Q=(chk G∧Q acc G):=rfl
theorem cY {chk:Gh→Prop} {g:PTG} {ts:PTT} {te:PTE} {x:PV} {r acc:List PV} {σ:PSt} {G:Gh} {Q:List PV→Gh→Prop}:gR chk g ts te (x :: r) acc σ G Q=(chk G∧g x σ G fun σ2 G2=>ts σ2 G2 fun ok G3=>if ok=true then te σ2 G3 fun y G4=>gR chk g ts te r (acc ++ [y]) σ2 G4 Q else gR chk g ts te r acc σ2 G3 Q):=rfl
theorem aHS {a:PV}:DW [a]=[.tup [.int 0,a]]:=rfl
theorem aHX {a b:PV}:DW [a,b]=[.tup [.int 0,a],.tup [.int 1,b]]:=rfl
theorem aIh {a b c:PV}:DW [a,b,c]=[.tup [.int 0,a],.tup [.int 1,b],.tup [.int 2,c]]:=rfl
theorem aKz:rW 0 (3:Int).toNat=[.int 0,.int 1,.int 2]:=rfl
theorem IF:rW 0 3=[.int 0,.int 1,.int 2]:=rfl
theorem BL {a b c a' b' c':Rat}:(SH a b c=SH a' b' c')=(a=a'∧b=b'∧c=c'):=propext ⟨fun h=>by
 unfold SH at h;injection h with _ _ h;injection h with h1 h;injection h with h2 h;injection h with h3 _;rw [sD] at h1 h2 h3;exact ⟨h1,h2,h3⟩,by rintro ⟨h1,h2,h3⟩;rw [h1,h2,h3]⟩
def mW0:=aO.1
def mW1:=aO.2.1
def mW2:=aO.2.2.1
def wk (s:String):Lean.MacroM Lean.Syntax:=do
 let n←(s.splitOn " ").filterMapM fun x=>do if (←Lean.Macro.resolveGlobalName x.toName).isEmpty then pure none else pure (some x.toName)
 let l←n.mapM fun x=>`(Lean.Parser.Tactic.simpLemma| $(Lean.mkIdent x):term)
 return (←`(tactic| simp only [$(l.toArray),*, *])).raw
def wqB:="wpS wpE wpL wpT wpO wpI wpG fP aT aF List.length_cons List.length_nil List.cons_append List.nil_append List.append_nil List.replicate Nat.reduceAdd Nat.reduceSub Nat.zero_add List.getElem?_cons_zero List.getElem?_cons_succ List.set_cons_zero List.set_cons_succ Option.some.injEq exists_eq_left' true_and and_true ite_self kK eM eO fF mW0 mW1 mW2 List.cons.injEq PV.int.injEq PV.bl.injEq PV.str.injEq PV.ref.injEq PV.tup.injEq and_assoc exists_and_left eq_self List.map Bool.not_true Bool.not_false Bool.and_self Bool.and_true Bool.true_and if_true if_false ite_true ite_false Bool.false_eq_true decide_eq_true_eq decide_true decide_false reduceCtorEq sz2 Wk.here fH iK fI fZ bR exists_eq' vR Option.getD_some sz3 exists_false false_and and_false or_false iJ Int.reduceToNat Int.reducePow gN"
local macro_rules | `(tactic| walk_at "rd") => wk (wqB++" vZ uN tT MJ pC oU WX nM CL SX vW aEZ aFi HR aIz aIn dO kJ")
section
variable {T:Tb}
noncomputable def fE:CS:=(.ret (.an (.blt .isi (.cons (.var 0) (.cons (.glo "int") .nil))) (.no (.blt .isi (.cons (.var 0) (.cons (.glo "bool") .nil))))))
theorem uJ (h:PT T):∀ xs G Q,dO xs G Q→wpS T fE (aT Q) (aF 1 xs) G:=by
 rintro xs G Q ⟨i,rfl,q⟩;unfold fE;have:=h.ty_int;have:=h.ty_bool;walk_at "rd"
theorem EN {x y:Int} (hx:0≤x) (hy:0 < y):Int.gcd y (x % y)=Int.gcd x y:=by
 rw [Int.gcd_comm x y];show y.natAbs.gcd (x % y).natAbs=y.natAbs.gcd x.natAbs;have e:(x % y).natAbs=x.natAbs % y.natAbs:=by rw [Int.natAbs_emod_of_nonneg hx]
 rw [e,Nat.gcd_rec y.natAbs x.natAbs,Nat.gcd_comm]
noncomputable def kY:CS:=(.seq (.wh (.tsb (.cmp .NotEq (.var 1) (.int 0))) (.par 0 1 (.var 1) (.bin .Mod (.var 0) (.var 1))))
 (.ret (.var 0)))
theorem RY (h:PT T):∀ xs G Q,kJ xs G Q→wpS T kY (aT Q) (aF 2 xs) G:=by
 rintro xs G Q ⟨i,j,rfl,hi,hj,q⟩;unfold kY;walk_at "rd"
 refine ⟨fun m σ H=>∃ x y,σ=[some (.int x),some (.int y)]∧H=G∧0≤x∧0≤y∧Int.gcd x y=Int.gcd i j∧m=y.toNat,⟨_,i,j,rfl,rfl,hi,hj,rfl,rfl⟩, ?_⟩;rintro m σ H ⟨x,y,rfl,rfl,hx,hy,hg,rfl⟩;walk_at "rd"
 split
 · rename_i hy0;have hy0:y≠0:=by simpa using hy0
   have h2:=Int.emod_lt_of_pos x (show 0 < y by omega);have h3:=Int.emod_nonneg x (show y≠0 by omega);exact ⟨by show 0 < y; omega,(x % y).toNat,by omega,h3,(EN hx (by omega)).trans hg,rfl⟩
 · rename_i hy0;have e:y=0:=by simpa using hy0
   subst e;have g:((Int.gcd x 0:Nat):Int)=x:=by rw [Int.gcd_zero_right]; omega
   refine Wk.here ?_;rw [←g,hg]; exact q
noncomputable def fB:CS:=(.seq (.iff (.oo (.no (.tst (.blt .isi (.cons (.var 0) (.cons (.glo "tuple") .nil))))) (.tsb (.cmp .NotEq (.blt .len (.cons (.var 0) .nil)) (.int 2)))) (.ret (.bl false)) .nil)
 (.seq (.asg (.gt 2 (.cons (.gn 1) (.cons (.gn 2) .nil))) (.var 0))
 (.ret (.an (.cal "is_whole" (.cons (.var 1) .nil)) (.an (.cal "is_whole" (.cons (.var 2) .nil)) (.an (.cmp .GtE (.var 2) (.int 1)) (.cmp .Eq (.cal "common" (.cons (.blt .abs (.cons (.var 1) .nil)) (.cons (.var 2) .nil))) (.int 1))))))))
theorem xQ (h:PT T):∀ xs G Q,jV xs G Q→wpS T fB (aT Q) (aF 3 xs) G:=by
 rintro xs G Q ⟨q,rfl,hq⟩;unfold fB;have:=h.ty_tuple;have:=h.is_whole;have:=h.common;have h1:=aFb (q:=q);have h2:=aGq (q:=q);unfold FQ;walk_at "rd"
 exact ⟨by omega,by omega⟩
noncomputable def jW:CS:=(.seq (.iff (.tsb (.cmp .Lt (.var 1) (.int 0))) (.par 0 1 (.neg (.var 0)) (.neg (.var 1))) .nil)
 (.seq (.asg (.gn 2) (.cal "common" (.cons (.blt .abs (.cons (.var 0) .nil)) (.cons (.var 1) .nil))))
 (.ret (.tup (.cons (.bin .FloorDiv (.var 0) (.var 2)) (.cons (.bin .FloorDiv (.var 1) (.var 2)) .nil))))))
theorem AI (t b:Int):Int.gcd (t.natAbs:Int) b=Int.gcd t b:=by show (t.natAbs:Int).natAbs.gcd _=_; rw [Int.natAbs_natCast]; rfl
theorem zK {t b:Int} (hb:0 < b) (sb:Sm 9000 b):yK t (Int.gcd t b:Int)∧yK b (Int.gcd t b:Int):=by
 have gp:(0:Int) < (Int.gcd t b:Int):=by have:=Int.gcd_pos_of_ne_zero_right t (show b≠0 by omega); omega
 have gl:(Int.gcd t b:Int)≤b:=Int.le_of_dvd hb (Int.gcd_dvd_right _ _);have sg:Sm 9000 (Int.gcd t b:Int):=sb.le (by omega) gl;exact ⟨aAE gp sg,aAE gp sg⟩
theorem VE (h:PT T):∀ xs G Q,bR xs G Q→wpS T jW (aT Q) (aF 3 xs) G:=by
 rintro xs G Q ⟨t,b,rfl,h0,sb,hq⟩;unfold jW;have:=h.common;walk_at "rd"
 split
 · rename_i hb;obtain ⟨d1,d2⟩:=zK (t:= -t) (b:= -b) (by omega) sb.neg;simp only [AI];refine ⟨by omega,by omega,d1,d2,Wk.here ?_⟩;rw [←HY (by omega),Rat.neg_divInt_neg]; exact hq
 · rename_i hb;obtain ⟨d1,d2⟩:=zK (t:=t) (b:=b) (by omega) sb;simp only [AI];refine ⟨by omega,by omega,d1,d2,Wk.here ?_⟩;rw [←HY (by omega)]; exact hq
end
local macro_rules | `(tactic| walk_at "rd") => wk (wqB++" List.map_cons List.map_nil nK vZ LS DO oE oX aAu aAl sD dO jV RX XE QM eG cY aHS aHX aIh BL fR AD iP fV lJ dZ nJ AL nD iZ sz1")
section
variable {T:Tb}
noncomputable def dF:CS:=(.fr (.gt 2 (.cons (.gn 1) (.cons (.gn 2) .nil))) (.ien (.var 0)) (.iff (.no (.tst (.cal "is_fraction" (.cons (.var 2) .nil)))) .nev .nil))
theorem rV (h:PT T):∀ xs G Q,nF xs G Q→wpS T dF (aT Q) (aF 3 xs) G:=by
 rintro xs G Q ⟨qs,rfl,hl,hq⟩;unfold dF;have:=h.is_fraction
 match qs,hl with
 | [],_=>simp only [List.map_nil]; walk_at "rd"; exact ⟨trivial,Wk.here hq⟩
 | [a],_=>simp only [List.map_cons,List.map_nil]; walk_at "rd"
 | [a,b],_=>simp only [List.map_cons,List.map_nil]; walk_at "rd"
noncomputable def mJ:CS:=(.seq (.ex (.cal "need_fractions" (.cons (.tup (.cons (.var 0) (.cons (.var 1) .nil))) .nil)))
 (.ret (.cal "lowest" (.cons (.bin .Mult (.idx (.var 0) (.int 0)) (.idx (.var 1) (.int 0))) (.cons (.bin .Mult (.idx (.var 0) (.int 1)) (.idx (.var 1) (.int 1))) .nil)))))
theorem aH9 {a b:Rat} (ha:Bd 4000 a) (hb:Bd 4000 b):Sm 9000 ((a.den:Int) * (b.den:Int)):=(ha.2.mul hb.2).mono (by decide)
theorem aBt (h:PT T):∀ xs G Q,fR xs G Q→wpS T mJ (aT Q) (aF 2 xs) G:=by
 rintro xs G Q ⟨a,b,rfl,ha,hb,hq⟩;unfold mJ;have:=h.need_fractions;have:=h.lowest;walk_at "rd"
 refine ⟨sC ha.1 hb.1,sC ha.2 hb.2,mN fL fL,aH9 ha hb,Wk.here ?_⟩;rw [aB5]; exact hq
noncomputable def rR:CS:=(.seq (.ex (.cal "need_fractions" (.cons (.tup (.cons (.var 0) (.cons (.var 1) .nil))) .nil)))
 (.ret (.cal "lowest" (.cons (.bin .Add (.bin .Mult (.idx (.var 0) (.int 0)) (.idx (.var 1) (.int 1))) (.bin .Mult (.idx (.var 1) (.int 0)) (.idx (.var 0) (.int 1)))) (.cons (.bin .Mult (.idx (.var 0) (.int 1)) (.idx (.var 1) (.int 1))) .nil)))))
theorem aET (h:PT T):∀ xs G Q,kA xs G Q→wpS T rR (aT Q) (aF 2 xs) G:=by
 rintro xs G Q ⟨a,b,rfl,ha,hb,hq⟩;unfold rR;have:=h.need_fractions;have:=h.lowest;walk_at "rd"
 refine ⟨sC ha.1 hb.2,sC hb.1 ha.2,sC ha.2 hb.2,mN fL fL,aH9 ha hb,Wk.here ?_⟩;rw [aCV]; exact hq
noncomputable def hV:CS:=(.ret (.an (.cal "is_fraction" (.cons (.var 0) .nil)) (.chn .LtE .LtE (.int 0) (.idx (.var 0) (.int 0)) (.idx (.var 0) (.int 1)))))
theorem aC9 {a:Rat} (h:0≤a):0≤a.num:=Rat.num_nonneg.mpr h
theorem aE5 {a:Rat} (h:a≤1):a.num≤(a.den:Int):=by
 have:=(Rat.le_iff a 1).mp h;simpa using this
theorem IT (h:PT T):∀ xs G Q,iP xs G Q→wpS T hV (aT Q) (aF 1 xs) G:=by
 rintro xs G Q ⟨a,rfl,h0,h1,hq⟩;unfold hV;have:=h.is_fraction;have:=aC9 h0;have:=aE5 h1;walk_at "rd"
noncomputable def iA:CS:=(.ret (.blt .isi (.cons (.var 0) (.cons (.glo "Shade") .nil))))
theorem VX {a b c:Rat} {G:Gh} {Q:PK1} {cs:List String}:dG cs .isi [SH a b c,.cl "Shade"] G Q=("Shade"∈cs∧Q (.bl true) G):=KE
theorem GT (h:PT T):∀ xs G Q,fV xs G Q→wpS T iA (aT Q) (aF 1 xs) G:=by
 rintro xs G Q ⟨a,b,c,rfl,hq⟩;unfold iA;have:=h.gv_Shade;have:=h.cs;have:=@VX;walk_at "rd"
noncomputable def fM:CS:=(.iff (.no (.tst (.cal "is_shade" (.cons (.var 0) .nil)))) .nev .nil)
theorem AS (h:PT T):∀ xs G Q,lJ xs G Q→wpS T fM (aT Q) (aF 1 xs) G:=by
 rintro xs G Q ⟨a,b,c,rfl,hq⟩;unfold fM;have:=h.is_shade;walk_at "rd"
noncomputable def gO:CS:=(.seq (.ex (.cal "need_shade" (.cons (.var 0) .nil)))
 (.ret (.tup (.cons (.att (.var 0) "ember") (.cons (.att (.var 0) "leaf") (.cons (.att (.var 0) "sky") .nil))))))
theorem lM {c:String} {ns:List Str} {xs:List PV} {f:Str} {v:PV} {G:Gh} {Q:PK1} (hf:(c,f)∈T.fl) (hl:(ns.zip xs).lookup f=some v):gB T (.ob c ns xs) f G Q=Q v G:=by
 refine propext ⟨fun h=>?_,fun q=>⟨_,_,_,_,.inl rfl,hf,hl,q⟩⟩;obtain ⟨c',ns',xs',v',e,_,l,q⟩:=h;rcases e with e | ⟨_,e,_⟩
 · cases e;rw [hl] at l;cases l;exact q
 · cases e
theorem aIP (h:PT T) {a b c:Rat} {G:Gh} {Q:PK1}:gB T (SH a b c) "ember" G Q=Q (FQ a) G:=lM h.fl_e rfl
theorem aGN (h:PT T) {a b c:Rat} {G:Gh} {Q:PK1}:gB T (SH a b c) "leaf" G Q=Q (FQ b) G:=lM h.fl_l rfl
theorem aIZ (h:PT T) {a b c:Rat} {G:Gh} {Q:PK1}:gB T (SH a b c) "sky" G Q=Q (FQ c) G:=lM h.fl_s rfl
theorem ES (h:PT T):∀ xs G Q,dZ xs G Q→wpS T gO (aT Q) (aF 1 xs) G:=by
 rintro xs G Q ⟨a,b,c,rfl,hq⟩;unfold gO;have:=h.need_shade;have e1:=@aIP T h;have e2:=@aGN T h;have e3:=@aIZ T h;walk_at "rd"
noncomputable def dE:CS:=(.seq (.fr (.gt 2 (.cons (.gn 4) (.cons (.gn 5) .nil))) (.ien (.tup (.cons (.var 1) (.cons (.var 2) (.cons (.var 3) .nil))))) (.iff (.no (.tst (.cal "is_share" (.cons (.var 5) .nil)))) .nev .nil))
 (.seq (.fld (.var 0) "ember" (.var 1))
 (.seq (.fld (.var 0) "leaf" (.var 2))
 (.fld (.var 0) "sky" (.var 3)))))
theorem rE (h:PT T):∀ xs G Q,oH xs G Q→wpS T dE (aT Q) (aF 6 xs) G:=by
 rintro xs G Q ⟨p,a,b,c,rfl,hp,⟨a1,a2⟩,⟨b1,b2⟩,⟨c1,c2⟩,hq⟩;unfold dE;have:=h.is_share;walk_at "rd"
 refine ⟨"Shade",[],[],rfl,h.fl_e,by decide,"Shade",["ember"],[FQ a],aD,h.fl_l,by decide,"Shade",["ember","leaf"],[FQ a,FQ b],aD,h.fl_s,by decide, ?_⟩;simp only [dP];exact Wk.here hq
theorem uQ (h:PT T):aHT T "Shade" "Shade" "Shade.__init__":=by
 intro xs G Q q p hp;rw [h.shade] at q;rw [h.shadeI];obtain ⟨a,b,c,rfl,ha,hb,hc,q⟩:=q;refine ⟨p,a,b,c,rfl,aD,ha,hb,hc,rfl,_,_,aD, ?_⟩;rw [dP,VV hp];exact q
end
noncomputable def PU (x y z:Int):GO:=.lst [.int x,.int y,.int z]
def Pu (p:Addr) (G:Gh):Prop:= ∃ x y z,G p=some (PU x y z)
def Pn (p:Addr) (G G':Gh):Prop:= ∃ x y z,G'=gup G p (PU x y z)
theorem Pn.pu {p:Addr} {G G':Gh} (h:Pn p G G'):Pu p G':=let ⟨x,y,z,e⟩:=h; ⟨x,y,z,by rw [e]; exact aD⟩
theorem Pn.ne {p q:Addr} {G G':Gh} (h:Pn p G G') (n:q≠p):G' q=G q:=let ⟨x,y,z,e⟩:=h; by rw [e]; exact cC n
theorem Pn.trans {p:Addr} {G G1 G2:Gh} (a:Pn p G G1) (b:Pn p G1 G2):Pn p G G2:=let ⟨x,y,z,e⟩:=a; let ⟨x',y',z',e'⟩:=b; ⟨x',y',z',by rw [e',e,dP]⟩
theorem Pu.ne {p q:Addr} {G:Gh} (h:Pu p G) (n:G q=none):q≠p:=fun e=>by subst e; obtain ⟨_,_,_,e⟩:=h; rw [n] at e; cases e
theorem Pu.new {p q:Addr} {G:Gh} {o:GO} (h:Pu p G) (n:G q=none):Pu p (gup G q o):=let ⟨x,y,z,e⟩:=h; ⟨x,y,z,by rw [cC (Ne.symm (h.ne n))]; exact e⟩
def gN:Sp3:=fun xs G Q=>∃ p m,xs=[.ref p,.int m]∧Pu p G∧0 < m∧Sm 8000 m∧∀ r G',0≤r→r < m→Pn p G G'→Q (.int r) G'
def wW:Sp3:=fun xs G Q=>∃ (ns:List Int) (k:Int),xs=[.scr ns,.int k]∧0≤k∧k < 64∧∀ c,Q (.int c) G
def nL:Sp3:=fun xs G Q=>∃ c:Int,xs=[.int c]∧∀ p x y z,G p=none→Q (.ref p) (gup G p (PU x y z))
def dJ:Sp3:=fun xs G Q=>∃ p,xs=[.ref p]∧Pu p G∧∀ q G',In1 q→Bd 12 q→Pn p G G'→Q (FQ q) G'
def iE:Sp3:=fun xs G Q=>∃ p,xs=[.ref p]∧Pu p G∧∀ a b c G',In1 a→In1 b→In1 c→Bd 12 a→Bd 12 b→Bd 12 c→Pn p G G'→Q (.tup [FQ a,FQ b,FQ c]) G'
def iC:Sp3:=fun xs G Q=>∃ q,xs=[FQ q]∧Bd 8900 q∧Q (.bl true) G
structure LT (T:Tb):Prop where
 cell:T.S "_law_cell"=wW
 purse:T.S "_law_purse"=nL
 pick:T.S "_law_pick"=gN
 whole:T.S "_law_whole"=dO
 low:T.S "_law_low"=bR
 plus:T.S "_law_plus"=kA
 minus:T.S "_law_minus"=lP
 times:T.S "_law_times"=fR
 over:T.S "_law_over"=kS
 below:T.S "_law_below"=lD
 is_fraction:T.S "_law_is_fraction"=iC
 share:T.S "_law_share"=dJ
 shares:T.S "_law_shares"=iE
local macro_rules | `(tactic| walk_at "rd") => wk (wqB++" nK vZ uN UU tT MM MJ pC oU pD CW TX CL aAn wE HR at0 at1 at2 aG4 aCX aBX aAu aAl aDH aD4 dO")
section
variable {T:Tb}
noncomputable def oV:CS:=fE
theorem MX (h:PT T):∀ xs G Q,dO xs G Q→wpS T oV (aT Q) (aF 1 xs) G:=uJ h
noncomputable def kH:CS:=(.seq (.sub (.var 0) (.int 2) (.bin .Add (.idx (.var 0) (.int 2)) (.int 1)))
 (.seq (.asg (.gn 2) (.bin .Mod (.idx (.var 0) (.int 0)) (.int 999999937)))
 (.seq (.sub (.var 0) (.int 0) (.bin .Add (.bin .Mult (.var 2) (.bin .Add (.bin .Mod (.var 2) (.int 50021)) (.int 20011))) (.bin .Mult (.int 90001) (.idx (.var 0) (.int 2)))))
 (.seq (.iff (.tsb (.cmp .Gt (.idx (.var 0) (.int 1)) (.int 0))) (.seq (.asg (.gn 3) (.bin .Mod (.idx (.var 0) (.int 1)) (.var 1)))
 (.seq (.sub (.var 0) (.int 1) (.bin .FloorDiv (.idx (.var 0) (.int 1)) (.var 1)))
 (.ret (.var 3)))) .nil)
 (.ret (.bin .Mod (.bin .FloorDiv (.bin .Mod (.idx (.var 0) (.int 0)) (.int 999999937)) (.int 16)) (.var 1)))))))
theorem YG {G:Gh} {p:Addr} {o:GO} (h:G p=some o):gup G p o=G:=by
 funext b; unfold gup; split
 · rename_i e; rw [e]; exact h.symm
 · rfl
theorem HH {x:Int} (a:0≤x) (b:x < 1000000000000):Sm 64 x:=by unfold Sm; omega
theorem WT:∀ xs G Q,gN xs G Q→wpS T kH (aT Q) (aF 4 xs) G:=by
 rintro xs G Q ⟨p,m,rfl,⟨x,y,z,hp⟩,h0,h1,hq⟩;unfold kH;have e:G=gup G p (.lst [.int x,.int y,.int z]):=(YG hp).symm;have fin:∀ r x' y' z',0≤r→r < m→Q (.int r) (gup G p (.lst [.int x',.int y',.int z'])):=fun r x' y' z' a b=>hq r _ a b ⟨x',y',z',rfl⟩;generalize hG:gup G p (.lst [.int x,.int y,.int z])=G1 at e;rw [←hG] at e;rw [e];clear e hG;walk_at "rd"
 refine ⟨by show (0:Int) < 999999937; decide,by show (0:Int) < 50021; decide,VH (HH (Int.emod_nonneg _ (by decide)) (Int.lt_trans (Int.emod_lt_of_pos _ (by decide)) (by decide))),VH (HH (by decide) (by decide)), ?_⟩;split
 · exact ⟨h0,aAE (k:=8000) h0 h1,Wk.here (fin _ _ _ _ (Int.emod_nonneg _ (by omega)) (Int.emod_lt_of_pos _ h0))⟩
 · exact ⟨by show (0:Int) < 999999937; decide,aAE (k:=64) (by decide) (HH (by decide) (by decide)),h0,Wk.here (fin _ _ _ _ (Int.emod_nonneg _ (by omega)) (Int.emod_lt_of_pos _ h0))⟩
noncomputable def iY:CS:=(.ret (.lst true (.cons (.bin .Add (.bin .Mult (.bin .Mod (.var 0) (.int 999999937)) (.int 7001)) (.int 3301)) (.cons (.idx (.lst false (.cons (.int 0) (.cons (.var 0) .nil))) (.blt .int (.cons (.cmp .GtE (.var 0) (.bin .Pow (.int 10) (.int 18))) .nil))) (.cons (.int 0) .nil)))))
theorem PY:∀ xs G Q,nL xs G Q→wpS T iY (aT Q) (aF 1 xs) G:=by
 rintro xs G Q ⟨c,rfl,hq⟩;unfold iY;walk_at "rd"
 refine ⟨by show (0:Int) < 999999937; decide,aIK (HH (by decide) (by decide)),⟨by decide,by decide,by decide⟩, ?_⟩;have e:∃ x,atI [PV.int 0,PV.int c] (if decide ((10:Int) ^ Int.toNat 18≤c)=true then 1 else 0)=some (.int x):=by
   split
   · exact ⟨_,at1⟩
   · exact ⟨_,at0⟩
 obtain ⟨x,e⟩:=e;simp only [decide_eq_true_eq] at e;refine ⟨_,e,fun p n=>Wk.here (hq p _ _ _ n)⟩
noncomputable def wK:CS:=(.seq (.par 2 3 (.blt .abs (.cons (.var 0) .nil)) (.var 1))
 (.seq (.wh (.tsb (.cmp .Gt (.var 3) (.int 0))) (.par 2 3 (.var 3) (.bin .Mod (.var 2) (.var 3))))
 (.ret (.tup (.cons (.bin .FloorDiv (.var 0) (.var 2)) (.cons (.bin .FloorDiv (.var 1) (.var 2)) .nil))))))
noncomputable def mW:CS:=(.seq (.iff (.tsb (.cmp .Lt (.var 1) (.int 0))) (.par 0 1 (.bin .Sub (.int 0) (.var 0)) (.bin .Sub (.int 0) (.var 1))) .nil) wK)
theorem DJ {t b:Int} {G:Gh} {Q:PK1} (hb:0 < b) (sb:Sm 9000 b) (hq:Q (FQ (Rat.divInt t b)) G) :
   wpS T wK (aT Q) [some (.int t),some (.int b),none,none] G:=by
 unfold wK;walk_at "rd"
 refine ⟨fun m σ H=>∃ x y,σ=[some (.int t),some (.int b),some (.int x),some (.int y)]∧H=G∧0≤x∧0≤y∧Int.gcd x y=Int.gcd t b∧m=y.toNat,⟨_,_,_,rfl,rfl,by omega,by omega,AI t b,rfl⟩, ?_⟩;rintro m σ H ⟨x,y,rfl,rfl,hx,hy,hg,rfl⟩;walk_at "rd"
 split
 · rename_i hy0;have h2:=Int.emod_lt_of_pos x (show 0 < y by omega);have h3:=Int.emod_nonneg x (show y≠0 by omega);exact ⟨by show 0 < y; omega,(x % y).toNat,by omega,h3,(EN hx (by omega)).trans hg,rfl⟩
 · rename_i hy0;have e:y=0:=by omega
   subst e;have g:x=((Int.gcd t b:Nat):Int):=by rw [←hg,Int.gcd_zero_right]; omega
   obtain ⟨d1,d2⟩:=zK (t:=t) (b:=b) hb sb;subst g;refine ⟨d1,d2,Wk.here ?_⟩;rw [←HY hb]; exact hq
theorem aAv:∀ xs G Q,bR xs G Q→wpS T mW (aT Q) (aF 4 xs) G:=by
 rintro xs G Q ⟨t,b,rfl,h0,sb,hq⟩;unfold mW;have e0:∀ x:Int,0 - x= -x:=fun x=>by omega
 walk_at "rd"
 split
 · rename_i hb;refine DJ (by omega) sb.neg ?_;rw [Rat.neg_divInt_neg]; exact hq
 · rename_i hb;exact DJ (by omega) sb hq
noncomputable def dX:CS:=(.seq (.iff (.oo (.no (.tst (.blt .isi (.cons (.var 0) (.cons (.glo "tuple") .nil))))) (.oo (.tsb (.cmp .NotEq (.blt .len (.cons (.var 0) .nil)) (.int 2))) (.oo (.no (.tst (.cal "_law_whole" (.cons (.idx (.var 0) (.int 0)) .nil)))) (.no (.tst (.cal "_law_whole" (.cons (.idx (.var 0) (.int 1)) .nil))))))) (.ret (.bl false)) .nil)
 (.ret (.an (.cmp .Gt (.idx (.var 0) (.int 1)) (.int 0)) (.cmp .Eq (.cal "_law_low" (.cons (.idx (.var 0) (.int 0)) (.cons (.idx (.var 0) (.int 1)) .nil))) (.var 0)))))
theorem RZ {q:Rat}:shp (FQ q)=true:=rfl
theorem YN {G:Gh} {q:Rat}:pur G (FQ q)=FQ q:=rfl
theorem II {a b:Rat}:peq (FQ a) (FQ b)=decide (a=b):=by
 have:peq (FQ a) (FQ b)=(a.num == b.num && ((a.den:Int) == (b.den:Int) && true)):=by unfold FQ; simp only [peq,kG]
 rw [this,Bool.and_true,Bool.eq_iff_iff,Bool.and_eq_true,decide_eq_true_eq,beq_iff_eq,beq_iff_eq];exact ⟨by rintro ⟨x,y⟩;exact Rat.ext x (by omega),fun e=>by rw [e]; exact ⟨rfl,rfl⟩⟩
theorem aBE {G:Gh} {Q:PK1} {a b:Rat}:pEq false (FQ a) (FQ b) G Q=Q (.bl (decide (a=b))) G:=by
 show (shp (pur G (FQ a))=true∧shp (pur G (FQ b))=true∧Q (.bl (peq (FQ a) (FQ b))) G)=_;rw [YN,YN,RZ,RZ,II]; simp
theorem sW (hp:PT T) (h:LT T):∀ xs G Q,iC xs G Q→wpS T dX (aT Q) (aF 1 xs) G:=by
 rintro xs G Q ⟨q,rfl,hb,hq⟩;unfold dX;have:=hp.ty_tuple;have:=h.whole;have:=h.low;have:=tZ (q:=q);have:=hb.2.mono (show 8900≤9000 by decide);have:=fL (q:=q);have:=Rat.num_divInt_den q;have:=@aBE;walk_at "rd"
 exact fL
end
local macro_rules | `(tactic| walk_at "rd") => wk (wqB++" uN tT kN VJ pD CW DV uU wE at0 at1 at2 sD eG cY IF dJ lN")
section
variable {T:Tb}
noncomputable def jU:CS:=(.seq (.iff (.tsb (.cmp .Lt (.var 1) (.blt .len (.cons (.var 0) .nil)))) (.ret (.idx (.var 0) (.var 1))) .nil)
 (.seq (.asg (.gn 2) (.bin .Mod (.bin .Mult (.int 60013) (.bin .Add (.bin .Add (.bin .Mult (.var 1) (.var 1)) (.bin .Mult (.int 7) (.var 1))) (.int 3))) (.int 999999937)))
 (.seq (.fr (.gn 3) (.isq (.sli (.var 0) .nil (.tst (.int 4)))) (.asg (.gn 2) (.bin .Mod (.bin .Add (.bin .Mult (.var 2) (.int 30103)) (.var 3)) (.int 999999937))))
 (.ret (.var 2)))))
theorem uA {g:PTG} {tb:PTS} {D:iG} (I:PSt→Gh→Prop):∀ {xs:List PV} {σ:PSt} {G:Gh},I σ G→(∀ x∈xs,∀ σ G R,I σ G→(∀ σ' G',I σ' G'→R σ' G')→g x σ G fun σ2 G2=>tb { D with nx:=R,ct:=R,bk:=D.nx } σ2 G2)→(∀ σ G,I σ G→D.nx σ G)→rY (fun _=>True) g tb D xs σ G
 | [],σ,G,h,_,hd=>⟨trivial,hd σ G h⟩
 | x :: r,σ,G,h,hs,hd=>⟨trivial,hs x (wDq ..) σ G _ h fun σ' G' h'=>uA I h' (fun y hy=>hs y (wCq _ hy)) hd⟩
theorem ZD {ns:List Int} {lo hi:Option Int} {G:Gh} {Q:PK1}:SD (.scr ns) lo hi G Q=Q (.lst (lW (ns.map .int) lo hi)) G:=rfl
theorem DZ {ns:List PV} {lo hi:Option Int} {G:Gh} {Q:PK1}:SD (.lst ns) lo hi G Q=Q (.lst (lW ns lo hi)) G:=propext ⟨by rintro ⟨_,e,q⟩;cases e; exact q,fun q=>⟨_,rfl,q⟩⟩
theorem SF:∀ xs G Q,wW xs G Q→wpS T jU (aT Q) (aF 4 xs) G:=by
 rintro xs G Q ⟨ns,k,rfl,h0,h1,hq⟩;unfold jU;have:=@ZD;walk_at "rd"
 split
 · rename_i hk;obtain ⟨j,rfl⟩:=Int.eq_ofNat_of_zero_le h0;have hj:j < ns.length:=by omega
   exact ⟨ns[j],dD (by simp [hj])⟩
 · have sk:Sm 64 k:=HH h0 (by omega);refine ⟨VH sk,aIK sk,VH (HH (by decide) (by decide)),by show (0:Int) < 999999937; decide, ?_⟩;refine uA (fun σ G'=>G'=G∧∃ st u,σ=[some (.scr ns),some (.int k),some (.int st),u]∧0≤st∧st < 999999937) ⟨rfl,_,_,rfl,Int.emod_nonneg _ (by decide),Int.emod_lt_of_pos _ (by decide)⟩ ?_ ?_
   · rintro x hx σ G' R ⟨rfl,st,u,rfl,a1,a2⟩ hR;have hx':x∈ns.map PV.int:=by
       unfold lW at hx;exact List.mem_of_mem_drop (List.mem_of_mem_take hx)
     obtain ⟨c,_,rfl⟩:=List.mem_map.mp hx';walk_at "rd"
     exact ⟨VH (HH a1 (by omega)),by show (0:Int) < 999999937; decide,hR _ _ ⟨rfl,_,_,rfl,Int.emod_nonneg _ (by decide),Int.emod_lt_of_pos _ (by decide)⟩⟩
   · rintro σ G' ⟨rfl,st,u,rfl,a1,a2⟩;walk_at "rd"
theorem aDP {r k:Int} (a:0≤r) (b:r < 10) (c:0≤k) (d:k < 997):∃ v,atI [PV.int 1,PV.int 2,PV.int 3,PV.int 4,PV.int 6,PV.int 12,PV.int 60,PV.int 255,PV.int 510,PV.int (1 + k)] r=some (.int v)∧1≤v∧v≤997:=by
 have e:r=0∨r=1∨r=2∨r=3∨r=4∨r=5∨r=6∨r=7∨r=8∨r=9:=by omega
 rcases e with rfl | rfl | rfl | rfl | rfl | rfl | rfl | rfl | rfl | rfl
 · exact ⟨_,at0,by omega,by omega⟩
 · exact ⟨_,at1,by omega,by omega⟩
 · exact ⟨_,at2,by omega,by omega⟩
 · exact ⟨_,at3,by omega,by omega⟩
 · exact ⟨_,at4,by omega,by omega⟩
 · exact ⟨_,dD (j:=5) rfl,by omega,by omega⟩
 · exact ⟨_,dD (j:=6) rfl,by omega,by omega⟩
 · exact ⟨_,dD (j:=7) rfl,by omega,by omega⟩
 · exact ⟨_,dD (j:=8) rfl,by omega,by omega⟩
 · exact ⟨_,dD (j:=9) rfl,by omega,by omega⟩
noncomputable def jJ:CS:=(.seq (.asg (.gn 1) (.cal "_law_pick" (.cons (.var 0) (.cons (.int 10) .nil))))
 (.seq (.asg (.gn 2) (.idx (.lst false (.cons (.int 1) (.cons (.int 2) (.cons (.int 3) (.cons (.int 4) (.cons (.int 6) (.cons (.int 12) (.cons (.int 60) (.cons (.int 255) (.cons (.int 510) (.cons (.bin .Add (.int 1) (.cal "_law_pick" (.cons (.var 0) (.cons (.int 997) .nil)))) .nil))))))))))) (.var 1)))
 (.ret (.cal "_law_low" (.cons (.cal "_law_pick" (.cons (.var 0) (.cons (.bin .Add (.var 2) (.int 1)) .nil))) (.cons (.var 2) .nil))))))
theorem smP {x:Int} (a:0≤x) (b:x < 1000000000000):Sm 8000 x:=smK (by omega) b (by decide)
theorem LM {t b:Int} (h0:0≤t) (h1:t≤b) (hb:0 < b):In1 (Rat.divInt t b):=by
 constructor
 · exact Rat.divInt_nonneg h0 (by omega)
 · rw [Rat.divInt_eq_div];have hb':(0:Rat) < (b:Rat):=Rat.intCast_pos.mpr hb;have h2:(t:Rat)≤(b:Rat):=Rat.intCast_le_intCast.mpr h1;have h3:(t:Rat) / (b:Rat) * (b:Rat)=(t:Rat):=Rat.div_mul_cancel (by grind);refine Rat.le_of_mul_le_mul_right (c:=(b:Rat)) ?_ hb'
   grind
theorem UG {t b:Int} {n:Nat} (ht:Sm n t) (hb:Sm n b) (h0:b≠0):Bd n (Rat.divInt t b):=Bd.divInt ht hb h0
theorem QZ (h:LT T):∀ xs G Q,dJ xs G Q→wpS T jJ (aT Q) (aF 3 xs) G:=by
 rintro xs G Q ⟨p,rfl,hp,hq⟩;unfold jJ;have:=h.pick;have:=h.low;walk_at "rd"
 refine ⟨by decide,smP (by decide) (by decide),fun r1 G1 a1 b1 n1=>⟨n1.pu,by decide,smP (by decide) (by decide),fun r2 G2 a2 b2 n2=>?_⟩⟩;obtain ⟨v,e,c1,c2⟩:=aDP a1 b1 a2 b2;refine ⟨by decide,_,e, ?_⟩;walk_at "rd"
 refine ⟨n2.pu,by omega,smP (by omega) (by omega),fun r3 G3 a3 b3 n3=>?_⟩;refine ⟨by omega,smK (by omega) (by omega) (by decide),Wk.here (hq _ _ (LM a3 (by omega) (by omega)) (UG ?_ ?_ (by omega)) ((n1.trans n2).trans n3))⟩
 · unfold Sm; omega
 · unfold Sm; omega
def Pk (p:Addr) (G K:Gh):Prop:= ∃ G',Pn p G G'∧∀ a u,G' a=some u→K a=some u
theorem Pk.of {p:Addr} {G G':Gh} (h:Pn p G G'):Pk p G G':=⟨G',h,fun _ _ z=>z⟩
theorem Pk.new {p l:Addr} {G K:Gh} {o:GO} (h:Pk p G K) (n:K l=none):Pk p G (gup K l o):=by
 obtain ⟨G',a,b⟩:=h;refine ⟨G',a,fun x u q=>?_⟩;have:=b x u q;rw [cC (fun e=>by rw [e,n] at this; cases this)]; exact this
theorem Pk.set {p l:Addr} {G K:Gh} {o:GO} (h:Pk p G K) (n:G l=none) (ne:l≠p):Pk p G (gup K l o):=by
 obtain ⟨G',a,b⟩:=h;refine ⟨G',a,fun x u q=>?_⟩;have e:x≠l:=fun e=>by rw [e,a.ne ne,n] at q; cases q
 rw [cC e]; exact b x u q
theorem Pk.pick {p:Addr} {G K K':Gh} (h:Pk p G K) (m:Pn p K K'):Pk p G K':=by
 obtain ⟨G',a,b⟩:=h;obtain ⟨x,y,z,e⟩:=m;refine ⟨gup G' p (PU x y z),a.trans ⟨x,y,z,rfl⟩,fun c u q=>?_⟩;rw [e];by_cases ec:c=p
 · subst ec; rw [aD] at q ⊢; exact q
 · rw [cC ec] at q ⊢; exact b c u q
theorem Pk.end_ {p:Addr} {G K:Gh} {Q:PK1} {x:PV} (h:Pk p G K) (q:∀ G',Pn p G G'→Q x G'):Wk Q x K:=let ⟨G',a,b⟩:=h; Wk.of (q G' a) b
noncomputable def hX:CS:=(.seq (.asg (.gn 1) (.cal "_law_pick" (.cons (.var 0) (.cons (.int 8) .nil))))
 (.seq (.asg (.gn 2) (.cmpr true (.gn 1) (.irg (.cons (.int 3) .nil)) .nil (.cal "_law_share" (.cons (.var 2) .nil)) [none,none,some 0]))
 (.seq (.iff (.tsb (.cmp .Eq (.var 1) (.int 1))) (.sub (.var 2) (.bin .Add (.int 1) (.cal "_law_pick" (.cons (.var 0) (.cons (.int 2) .nil)))) (.idx (.var 2) (.int 0))) .nil)
 (.seq (.iff (.tsb (.cmp .Eq (.var 1) (.int 3))) (.asg (.gn 2) (.lst true (.cons (.idx (.var 2) (.int 0)) (.cons (.idx (.var 2) (.int 0)) (.cons (.idx (.var 2) (.int 0)) .nil))))) .nil)
 (.ret (.blt .tuple (.cons (.var 2) .nil)))))))
theorem LH {j:Int} {R:Int→Prop} {A:Int→Int→Prop}:((∃ k,[PV.int j]=[PV.int k]∧R k)∨(∃ i k,[PV.int j]=[PV.int i,PV.int k]∧A i k))=R j:=propext
 ⟨fun h=>h.elim (by rintro ⟨_,e,r⟩;cases e; exact r) (by rintro ⟨_,_,e,_⟩;cases e),fun r=>.inl ⟨_,rfl,r⟩⟩
theorem JB (h:LT T):∀ xs G Q,iE xs G Q→wpS T hX (aT Q) (aF 3 xs) G:=by
 rintro xs G Q ⟨p,rfl,hp,hq⟩;unfold hX;have:=h.pick;have:=h.share;walk_at "rd"
 refine ⟨by decide,smP (by decide) (by decide),fun r1 G1 a1 b1 n1=>?_⟩;refine ⟨by decide,by decide,n1.pu,fun q1 G2 i1 d1 m1=>⟨m1.pu,fun q2 G3 i2 d2 m2=>⟨m2.pu,fun q3 G4 i3 d3 m3 l hl=>?_⟩⟩⟩;have nn:=((n1.trans m1).trans m2).trans m3;have lp:l≠p:=m3.pu.ne hl;have gl:G l=none:=by rw [←nn.ne lp]; exact hl
 have k0:Pk p G (gup G4 l (.lst [FQ q1,FQ q2,FQ q3])):=(Pk.of nn).new hl;split
 · rename_i e1;refine ⟨m3.pu.new hl,by decide,smP (by decide) (by decide),fun r G5 a b m4=>?_⟩;have g5:G5 l=some (.lst [FQ q1,FQ q2,FQ q3]):=by rw [m4.ne lp]; exact aD
   have hr:r=0∨r=1:=by omega
   rw [CF g5];have ne3:¬r1=3:=by omega
   have k1:∀ o,Pk p G (gup G5 l o):=fun o=>(k0.pick m4).set gl lp;rcases hr with rfl | rfl
   · refine ⟨1,aCX, ?_⟩;rw [if_neg ne3,uU];exact (k1 _).end_ fun G' g=>hq _ _ _ G' i1 i1 i3 d1 d1 d3 g
   · refine ⟨2,aBX, ?_⟩;rw [if_neg ne3,uU];exact (k1 _).end_ fun G' g=>hq _ _ _ G' i1 i2 i1 d1 d2 d1 g
 · split
   · intro l2 hl2;exact (k0.new hl2).end_ fun G' g=>hq _ _ _ G' i1 i1 i1 d1 d1 d1 g
   · exact k0.end_ fun G' g=>hq _ _ _ G' i1 i2 i3 d1 d2 d3 g
end
theorem cN {α:Type} {chk:Gh→Prop} {g:PTG} {te:PTE} {Q:List PV→Gh→Prop} (src:α→PV) (J:List α→PSt→Gh→List PV→Prop) (hc:∀ l σ G acc,J l σ G acc→chk G)
   (step:∀ x r σ G acc (R:PV→PSt→Gh→Prop),J (x :: r) σ G acc→(∀ y σ' G',J r σ' G' (acc ++ [y])→R y σ' G')→g (src x) σ G fun σ2 G2=>te σ2 G2 fun y G3=>R y σ2 G3)
   (fin:∀ σ G acc,J [] σ G acc→Q acc G):∀ (l:List α) σ G acc,J l σ G acc→gR chk g (fun _ G Q=>Q true G) te (l.map src) acc σ G Q
 | [],σ,G,acc,h=>⟨hc _ _ _ _ h,fin _ _ _ h⟩
 | x :: r,σ,G,acc,h=>by
   refine ⟨hc _ _ _ _ h, ?_⟩;simp only [if_true];exact step x r σ G acc (fun y σ' G'=>gR chk g (fun _ G Q=>Q true G) te (r.map src) (acc ++ [y]) σ' G' Q) h fun y σ' G' h'=>cN src J hc step fin r σ' G' _ h'
theorem fU {α:Type} {chk:Gh→Prop} {g:PTG} {tb:PTS} {D:iG} (src:α→PV) (J:List α→PSt→Gh→Prop) (hc:∀ l σ G,J l σ G→chk G)
   (step:∀ x r σ G (R:PSt→Gh→Prop),J (x :: r) σ G→(∀ σ' G',J r σ' G'→R σ' G')→g (src x) σ G fun σ2 G2=>tb { D with nx:=R,ct:=R,bk:=D.nx } σ2 G2)
   (fin:∀ σ G,J [] σ G→D.nx σ G):∀ (l:List α) σ G,J l σ G→rY chk g tb D (l.map src) σ G
 | [],σ,G,h=>⟨hc _ _ _ h,fin _ _ h⟩
 | x :: r,σ,G,h=>⟨hc _ _ _ h,step x r σ G _ h fun σ' G' h'=>fU src J hc step fin r σ' G' h'⟩
theorem aBs {α:Type} {f:α→PV} {xs:List α} {ws:List Int} (h:xs.length=ws.length):FM xs.length [xs.map f,ws.map PV.int]=(xs.zip ws).map fun p=>PV.tup [f p.1,.int p.2]:=by
 unfold FM;refine List.ext_getElem ?_ fun i h1 h2=>?_
 · simp only [List.length_map,List.length_range,List.length_zip]; omega
 · simp only [List.length_map,List.length_range] at h1;have h3:i < ws.length:=by omega
   simp only [List.getElem_map,List.getElem_range,List.map_cons,List.map_nil,List.getElem_zip,List.getD_eq_getElem?_getD,List.getElem?_map,wHq h1,wHq h3,Option.map_some,Option.getD_some]
theorem aIJ {a b:List PV} {n:Nat} (h1:a.length=n) (h2:b.length=n):∀ ys:List PV,ys∈ [a,b]→ys.length=n:=fun ys hy=>by
 rcases List.mem_cons.mp hy with e | hy
 · rw [e]; exact h1
 · rw [List.mem_singleton.mp hy]; exact h2
noncomputable abbrev R3:=Rat×Rat×Rat
noncomputable def aP (r:R3):PV:=.tup [FQ r.1,FQ r.2.1,FQ r.2.2]
noncomputable def shV (r:R3):PV:=SH r.1 r.2.1 r.2.2
def OkX (x:Rat):Prop:=In1 x∧Bd 400 x
def Ok3 (r:R3):Prop:=OkX r.1∧OkX r.2.1∧OkX r.2.2
def pF (r:R3):Prop:=(In1 r.1∧Bd 12 r.1)∧(In1 r.2.1∧Bd 12 r.2.1)∧(In1 r.2.2∧Bd 12 r.2.2)
theorem pF.ok {r:R3} (h:pF r):Ok3 r:=⟨⟨h.1.1,h.1.2.mono (by decide)⟩,⟨h.2.1.1,h.2.1.2.mono (by decide)⟩,h.2.2.1,h.2.2.2.mono (by decide)⟩
def WOk (ws:List Int):Prop:=(∀ w∈ws,0≤w∧w≤1000000)∧0 < ws.sum
noncomputable def jT:List (Rat×Int)→Rat
 | []=>0
 | p :: r=>p.1 * (p.2:Rat) + jT r
noncomputable def mq (xs:List Rat) (ws:List Int):Rat:=jT (xs.zip ws) / (ws.sum:Rat)
theorem IB:∀ {ws:List Int},(∀ w∈ws,0≤w∧w≤1000000)→0≤ws.sum∧ws.sum≤1000000 * (ws.length:Int)
 | [],_=>⟨by simp,by simp⟩
 | w :: r,h=>by
   have h1:=h w (wDq ..);have h2:=IB fun x hx=>h x (wCq _ hx);rw [List.sum_cons,List.length_cons];omega
theorem SA:∀ {xs:List Rat} {ws:List Int},xs.length=ws.length→(∀ x∈xs,In1 x)→(∀ w∈ws,0≤w∧w≤1000000)→0≤jT (xs.zip ws)∧jT (xs.zip ws)≤(ws.sum:Rat)
 | [],[],_,_,_=>⟨by simp [jT],by simp [jT]⟩
 | x :: xs,w :: ws,hl,hx,hw=>by
   obtain ⟨a1,a2⟩:=hx x (wDq ..);obtain ⟨b1,b2⟩:=hw w (wDq ..);obtain ⟨c1,c2⟩:=SA (xs:=xs) (ws:=ws) (by simpa using hl) (fun y hy=>hx y (wCq _ hy)) (fun y hy=>hw y (wCq _ hy));have w0:(0:Rat)≤(w:Rat):=Rat.intCast_nonneg.mpr b1;have m0:0≤x * (w:Rat):=Rat.mul_nonneg a1 w0;have m1:0≤(1 - x) * (w:Rat):=Rat.mul_nonneg (by grind) w0;rw [List.zip_cons_cons,List.sum_cons,Rat.intCast_add];simp only [jT];exact ⟨by grind,by grind⟩
theorem aHL {xs:List Rat} {ws:List Int} (hl:xs.length=ws.length) (hx:∀ x∈xs,In1 x) (hw:WOk ws):In1 (mq xs ws):=by
 obtain ⟨h1,h2⟩:=SA hl hx hw.1;have hp:(0:Rat) < (ws.sum:Rat):=Rat.intCast_pos.mpr hw.2;unfold mq;have e:jT (xs.zip ws) / (ws.sum:Rat) * (ws.sum:Rat)=jT (xs.zip ws):=Rat.div_mul_cancel (by grind);constructor
 · exact Rat.le_of_mul_le_mul_right (c:=(ws.sum:Rat)) (by grind) hp
 · exact Rat.le_of_mul_le_mul_right (c:=(ws.sum:Rat)) (by grind) hp
theorem bd0:Bd 2 0:=⟨by unfold Sm; decide,by unfold Sm; decide⟩
theorem aH6 {w:Int} (h:0≤w∧w≤1000000):Sm 20 w:=by unfold Sm; omega
theorem bdw {w:Int} (h:0≤w∧w≤1000000):Bd 20 (w:Rat):=Bd.int (aH6 h) (by decide)
theorem IO {b:Nat}:∀ {xs:List Rat} {ws:List Int},(∀ x∈xs,Bd b x)→(∀ w∈ws,0≤w∧w≤1000000)→Bd ((b + 22) * xs.length + 2) (jT (xs.zip ws))
 | [],ws,_,_=>by rw [List.zip_nil_left]; exact bd0
 | x :: xs,[],_,_=>by rw [List.zip_nil_right]; exact bd0.mono (by omega)
 | x :: xs,w :: ws,hx,hw=>by
   have ih:=IO (xs:=xs) (ws:=ws) (fun y hy=>hx y (wCq _ hy)) (fun y hy=>hw y (wCq _ hy));have m:=(hx x (wDq ..)).mul (bdw (hw w (wDq ..))) (Nat.le_refl _);have e:(b + 22) * (xs.length + 1)=(b + 22) * xs.length + (b + 22):=Nat.mul_succ ..;exact m.add ih (by rw [List.length_cons,e]; omega)
theorem aGu {b:Nat} {xs:List Rat} {ws:List Int} (hl:xs.length=ws.length) (h60:ws.length≤60) (hx:∀ x∈xs,Bd b x) (hw:WOk ws):Bd ((b + 22) * xs.length + 32) (mq xs ws):=by
 have h1:=IO hx hw.1;have h2:=IB hw.1;have hs:Bd 30 (ws.sum:Rat):=Bd.int (by unfold Sm; omega) (by decide);have hp:(0:Rat) < (ws.sum:Rat):=Rat.intCast_pos.mpr hw.2;exact h1.dv hs (by grind) (by omega)
theorem RB {t b w:Int} {x:Rat} (hb:0 < b):Rat.divInt (t * (x.den:Int) + w * x.num * b) (b * (x.den:Int))=Rat.divInt t b + x * (w:Rat):=by
 have hd:=tZ (q:=x);have b0:(b:Rat)≠0:=by have:(0:Rat) < (b:Rat):=Rat.intCast_pos.mpr hb; grind
 have d0:((x.den:Int):Rat)≠0:=by have:(0:Rat) < ((x.den:Int):Rat):=Rat.intCast_pos.mpr hd; grind
 have hx:(x.num:Rat)=x * ((x.den:Int):Rat):=by
   conv=>rhs; lhs; rw [←Rat.num_divInt_den x]
   rw [Rat.divInt_eq_div]; exact (Rat.div_mul_cancel d0).symm
 rw [Rat.divInt_eq_div,Rat.divInt_eq_div];simp only [Rat.intCast_add,Rat.intCast_mul];rw [hx];generalize ((x.den:Int):Rat)=D at *;have e:(t:Rat) / (b:Rat) * (b:Rat)=(t:Rat):=Rat.div_mul_cancel b0;generalize (t:Rat) / (b:Rat)=u at *;rw [←e];have key:u * (b:Rat) * D + (w:Rat) * (x * D) * (b:Rat)=(u + x * (w:Rat)) * ((b:Rat) * D):=by grind
 rw [key];exact Rat.mul_div_cancel (by intro z; rcases Rat.mul_eq_zero.mp z with z | z <;> contradiction)
theorem WU {t b s:Int} (hb:0 < b) (hs:0 < s):Rat.divInt t (b * s)=Rat.divInt t b / (s:Rat):=by
 have b0:(b:Rat)≠0:=by have:(0:Rat) < (b:Rat):=Rat.intCast_pos.mpr hb; grind
 have s0:(s:Rat)≠0:=by have:(0:Rat) < (s:Rat):=Rat.intCast_pos.mpr hs; grind
 rw [Rat.divInt_eq_div,Rat.divInt_eq_div,Rat.intCast_mul];have e:(t:Rat) / (b:Rat) * (b:Rat)=(t:Rat):=Rat.div_mul_cancel b0;generalize (t:Rat) / (b:Rat)=u at *;have e2:u / (s:Rat) * (s:Rat)=u:=Rat.div_mul_cancel s0;generalize u / (s:Rat)=v at *;rw [←e,←e2];have key:v * (s:Rat) * (b:Rat)=v * ((b:Rat) * (s:Rat)):=by grind
 rw [key];exact Rat.mul_div_cancel (by intro z; rcases Rat.mul_eq_zero.mp z with z | z <;> contradiction)
def fY:Sp3:=fun xs G Q=>∃ t b:Int,xs=[.int t,.int b]∧b≠0∧Sm 9000 b∧Q (FQ (Rat.divInt t b)) G
def oP:Sp3:=fun xs G Q=>∃ (rs:List R3) (a b:Int),xs=[.tup (rs.map shV),.int a,.int b]∧a≤(rs.length:Int)∧(rs.length:Int)≤b∧rs.length≤1000∧Q (.bl true) G
def pP:Sp3:=fun xs G Q=>∃ w l:Int,xs=[.int w,.int l]∧l≤w∧w≤1000000∧Q (.bl true) G
def pA:Sp3:=fun xs G Q=>∃ (ws:List Int) (n:Int),xs=[.tup (ws.map .int),.int n]∧n=(ws.length:Int)∧ws.length≤1000∧WOk ws∧Q (.bl true) G
def wP:Sp3:=fun xs G Q=>∃ (qs:List Rat) (ws:List Int),xs=[.lst (qs.map FQ),.tup (ws.map .int)]∧qs.length=ws.length∧ws.length≤9∧(∀ x∈qs,Bd 400 x)∧WOk ws∧Q (FQ (mq qs ws)) G
noncomputable def vQ (rs:List R3) (ws:List Int):R3:=(mq (rs.map (·.1)) ws,mq (rs.map (·.2.1)) ws,mq (rs.map (·.2.2)) ws)
def WV (x:PV) (ws:List Int) (n:Nat):Prop:=x= .tup (ws.map .int)
def xV (rs:List R3) (ws:List Int):Prop:=rs.length=ws.length∧1≤rs.length∧rs.length≤9∧(∀ r∈rs,Ok3 r)∧WOk ws
def JZ:Sp3:=fun xs G Q=>∃ (rs:List R3) (ws:List Int) (x:PV),xs=[.tup (rs.map shV),x]∧WV x ws rs.length∧xV rs ws∧Q (shV (vQ rs ws)) G
def JQ:Sp3:=fun xs G Q=>∃ r:R3,xs=[shV r]∧Bd 8900 r.1∧Bd 8900 r.2.1∧Bd 8900 r.2.2∧Q (aP r) G
def BB:Sp3:=fun xs G Q=>∃ p n,xs=[.ref p,.int n]∧Pu p G∧1≤n∧n≤9∧∀ (rs:List R3) G',(rs.length:Int)=n→(∀ r∈rs,pF r)→Pn p G G'→Q (.lst (rs.map aP)) G'
def JV:Sp3:=fun xs G Q=>∃ (r:R3) (w:Int),xs=[aP r,.int w]∧In1 r.1∧In1 r.2.1∧In1 r.2.2∧Q (shV r) G
noncomputable abbrev PR:=R3×Int
noncomputable def aQ (p:PR):PV:=.tup [shV p.1,.int p.2]
noncomputable def dt (f:R3→Rat):List PR→Rat
 | []=>0
 | p :: r=>f p.1 * (p.2:Rat) + dt f r
noncomputable def wsm:List PR→Int
 | []=>0
 | p :: r=>p.2 + wsm r
noncomputable def mn (f:R3→Rat) (ps:List PR):Rat:=dt f ps / (wsm ps:Rat)
noncomputable def dt3 (ps:List PR):R3:=(dt (·.1) ps,dt (·.2.1) ps,dt (·.2.2) ps)
noncomputable def bI (ps:List PR):R3:=(mn (·.1) ps,mn (·.2.1) ps,mn (·.2.2) ps)
theorem AJ:∀ ps:List PR,(ps.map (·.2)).sum=wsm ps
 | []=>rfl
 | p :: r=>by rw [List.map_cons,List.sum_cons,AJ r]; rfl
theorem CN (f:R3→Rat):∀ ps:List PR,jT (((ps.map (·.1)).map f).zip (ps.map (·.2)))=dt f ps
 | []=>rfl
 | p :: r=>by simp only [List.map_cons,List.zip_cons_cons,jT,dt,CN f r]
theorem BX (ps:List PR):vQ (ps.map (·.1)) (ps.map (·.2))=bI ps:=by
 unfold vQ bI mq mn;rw [AJ,CN,CN,CN]
def aAd (ps:List PR):Prop:= ∀ p∈ps,0≤p.2∧p.2≤1000000
def POk (ps:List PR):Prop:=1≤ps.length∧ps.length≤9∧(∀ p∈ps,Ok3 p.1)∧aAd ps∧0 < wsm ps
theorem POk.mx {ps:List PR} (h:POk ps):xV (ps.map (·.1)) (ps.map (·.2)):=by
 obtain ⟨h1,h2,h3,h4,h5⟩:=h;refine ⟨by simp,by simpa using h1,by simpa using h2,fun r hr=>?_,fun w hw=>?_,by rw [AJ]; exact h5⟩
 · obtain ⟨p,a,rfl⟩:=List.mem_map.mp hr; exact h3 p a
 · obtain ⟨p,a,rfl⟩:=List.mem_map.mp hw; exact h4 p a
noncomputable def AT (s t:R3):R3:=(s.1 + t.1,s.2.1 + t.2.1,s.2.2 + t.2.2)
noncomputable def aBF (w:Int) (s:R3):R3:=(s.1 * (w:Rat),s.2.1 * (w:Rat),s.2.2 * (w:Rat))
noncomputable def sdv (s:R3) (w:Int):R3:=(s.1 / (w:Rat),s.2.1 / (w:Rat),s.2.2 / (w:Rat))
def Bd3 (n:Nat) (s:R3):Prop:=Bd n s.1∧Bd n s.2.1∧Bd n s.2.2
def In3 (s:R3):Prop:=In1 s.1∧In1 s.2.1∧In1 s.2.2
noncomputable def z3:R3:=(0,0,0)
noncomputable abbrev BN:List Str:=["many","weight","sums"]
noncomputable def bvs (n w:Int) (s:R3):List PV:=[.int n,.int w,aP s]
noncomputable def BO (n w:Int) (s:R3):PV:=.ob "Blend" BN (bvs n w s)
noncomputable def BG (n w:Int) (s:R3):GO:=.ins "Blend" BN (bvs n w s)
def isB (G:Gh) (x:PV) (n w:Int) (s:R3):Prop:=x=BO n w s∨∃ p,x= .ref p∧G p=some (BG n w s)
noncomputable def blP (ps:List PR):PV:=BO (ps.length:Int) (wsm ps) (dt3 ps)
def KW:Sp3:=fun xs G Q=>∃ p,xs=[.ref p]∧G p=some (.ins "Blend" [] [])∧Q .non (gup G p (BG 0 0 z3))
def aFy:Sp3:=fun xs G Q=>xs=[]∧∀ p,G p=none→Q (.ref p) (gup G p (BG 0 0 z3))
def tR:Sp3:=fun xs G Q=>∃ (s t:R3) (y:PV),xs=[aP s,y]∧(y=aP t∨y= .lst [FQ t.1,FQ t.2.1,FQ t.2.2])∧Bd3 4000 s∧Bd3 4000 t∧Q (aP (AT s t)) G
def KO:Sp3:=fun xs G Q=>∃ (p:Addr) (r:R3) (w n W:Int) (s:R3),xs=[.ref p,shV r,.int w]∧G p=some (BG n W s)∧1≤w∧w≤1000000∧Bd3 400 r∧Bd3 400 s∧Q .non (gup G p (BG (n + 1) (W + w) (AT s (aBF w r))))
def iO:Sp3:=fun xs G Q=>∃ (x:PV) (n w:Int) (s:R3) (n' w':Int) (s':R3),xs=[x,BO n' w' s']∧isB G x n w s∧Bd3 400 s∧Bd3 400 s'∧Q (BO (n + n') (w + w') (AT s s')) G
def tV:Sp3:=fun xs G Q=>∃ (n w:Int) (s:R3),xs=[BO n w s]∧Q (.int w) G
def DI:Sp3:=fun xs G Q=>∃ (n w:Int) (s:R3),xs=[BO n w s]∧n≠0∧0 < w∧Sm 400 w∧Bd3 400 s∧In3 (sdv s w)∧Q (shV (sdv s w)) G
def KN:Sp3:=fun xs G Q=>∃ (n n' w:Int) (s:R3),xs=[BO n w s,BO n' w s]∧Q (.bl true) G
def zO:Sp3:=fun xs G Q=>∃ (n w:Int) (s:R3),xs=[BO n w s]∧0≤n∧n < 2 ^ 62∧Q (.int n) G
def LOk (ps:List PR):Prop:= ∀ p∈ps,pF p.1∧1≤p.2∧p.2≤1000
def MF:Sp3:=fun xs G Q=>∃ ps:List PR,xs=[.lst (ps.map aQ)]∧ps.length≤9∧LOk ps∧Q (blP ps) G
def zP:Sp3:=fun xs G Q=>∃ ps:List PR,xs=[.lst (ps.map aQ)]∧POk ps∧Q (shV (bI ps)) G
def MP:Sp3:=fun xs G Q=>∃ ps:List PR,xs=[.lst (ps.map aQ)]∧ps.length≤9∧Q (.int (wsm ps)) G
def AX:Sp3:=fun xs G Q=>∃ (p:Addr) (ps:List PR),xs=[.ref p,.lst (ps.map aQ)]∧Pu p G∧ps.length≤9∧∀ (qs:List PR) G',qs.Perm ps→Pn p G G'→Q (.lst (qs.map aQ)) G'
def gW:Sp3:=fun xs G Q=>∃ (p:Addr) (ps:List PR),xs=[.ref p,.lst (ps.map aQ),aP (bI ps)]∧Pu p G∧3≤ps.length∧ps.length≤7∧LOk ps∧∀ G',Pn p G G'→Q (.bl true) G'
structure L14 (T:Tb):Prop where
 fraction:T.S "fraction"=fY
 are_shades:T.S "are_shades"=oP
 is_weight:T.S "is_weight"=pP
 are_weights:T.S "are_weights"=pA
 mean:T.S "mean_share"=wP
 mix:T.S "mix"=JZ
 got:T.S "_law_got"=JQ
 plain:T.S "_law_plain_share"=dJ
 rows:T.S "_law_rows"=BB
 shadeL:T.S "_law_shade"=JV
 gv_MS:T.gv "MOST_SHADES"= .int 60
 gv_MW:T.gv "MOST_WEIGHT"= .int 1000000
 gv_Blend:T.gv "Blend"= .cl "Blend"
 csB: "Blend"∈T.cs
 fl_m:("Blend",("many":Str))∈T.fl
 fl_w:("Blend",("weight":Str))∈T.fl
 fl_u:("Blend",("sums":Str))∈T.fl
 blend:T.S "Blend"=aFy
 blendI:T.S "Blend.__init__"=KW
 added:T.S "added"=tR
 put:T.S "Blend.put"=KO
 joined:T.S "Blend.joined"=iO
 total:T.S "Blend.total"=tV
 bshade:T.S "Blend.shade"=DI
 beq:T.S "Blend.__eq__"=KN
 blen:T.S "Blend.__len__"=zO
 lblend:T.S "_law_blend"=MF
 lmix:T.S "_law_mix"=zP
 ltot:T.S "_law_total"=MP
 lturn:T.S "_law_turned"=AX
 mixes:T.S "_law_mixes_right"=gW
 blends:T.S "_law_blends_right"=gW
 ty_list:T.gv "list"= .ty "list"
theorem aCp {a b c:Rat}:shp (.tup [FQ a,FQ b,FQ c])=true:=rfl
theorem av0 {xs:List PV} {x:PV}:Ar.val (x :: xs) (.arg 0)=x:=rfl
theorem av1 {xs:List PV} {x y:PV}:Ar.val (x :: y :: xs) (.arg 1)=y:=rfl
theorem av2 {xs:List PV} {x y z:PV}:Ar.val (x :: y :: z :: xs) (.arg 2)=z:=rfl
theorem avn {xs:List PV}:Ar.val xs .non= .non:=rfl
theorem EL:kG [] []=true:=by simp only [kG]
theorem yN {x y:PV} {xs ys:List PV}:kG (x :: xs) (y :: ys)=(peq x y && kG xs ys):=by simp only [kG]
theorem VN {G:Gh} {Q:PK1} {a b c a' b' c':Rat}:pEq false (.tup [FQ a,FQ b,FQ c]) (.tup [FQ a',FQ b',FQ c']) G Q=Q (.bl (decide (a=a') && (decide (b=b') && decide (c=c')))) G:=by
 show (shp (.tup [FQ a,FQ b,FQ c])=true∧shp (.tup [FQ a',FQ b',FQ c'])=true∧Q (.bl (peq (.tup [FQ a,FQ b,FQ c]) (.tup [FQ a',FQ b',FQ c']))) G)=_;simp only [aCp,true_and,peq,yN,EL,II,Bool.and_true]
theorem MI {G:Gh} {Q:PK1} {a b c a' b' c':Rat}:pEq true (.tup [FQ a,FQ b,FQ c]) (.tup [FQ a',FQ b',FQ c']) G Q=Q (.bl (!(decide (a=a') && (decide (b=b') && decide (c=c'))))) G:=by
 show (shp (.tup [FQ a,FQ b,FQ c])=true∧shp (.tup [FQ a',FQ b',FQ c'])=true∧Q (.bl (!peq (.tup [FQ a,FQ b,FQ c]) (.tup [FQ a',FQ b',FQ c']))) G)=_;simp only [aCp,true_and,peq,yN,EL,II,Bool.and_true]
theorem TB {xs:List PV} {G:Gh} {Q:PK1}:pIs false (.tup xs) .non G Q=Q (.bl false) G:=ZS (fun z=>by cases z)
theorem RJ {ns:List Int} {G:Gh} {Q:PK1} {cs:List String}:dG cs .sum [.tup (ns.map PV.int)] G Q=Q (.int ns.sum) G:=by
 refine propext ⟨fun h=>?_,fun q=>.inr ⟨ns,rfl,q⟩⟩;rcases h with ⟨ys,b,e,_⟩ | ⟨ms,e,q⟩
 · cases e
 · injection e with e;have:ns=ms:=by
     have h:=congrArg (List.map (fun x=>match x with | PV.int i=>i | _=>0)) e;simpa [List.map_map,Function.comp_def] using h
   rw [this]; exact q
theorem nI:∀ n:Nat,AH (List.replicate n (.bl true))=some true
 | 0=>rfl
 | n + 1=>by rw [List.replicate_succ]; unfold AH; rw [nI n]; rfl
theorem WM {n:Nat} {G:Gh} {Q:PK1} {cs:List String} (q:Q (.bl true) G):dG cs .all [.lst (List.replicate n (.bl true))] G Q:=by rw [wI]; exact ⟨true,nI n,q⟩
local macro_rules | `(tactic| walk_at "rd") => wk (wqB++" LS MM pC oU nM vW wI oX HR aAu aAl sD dO BL lN fV RJ fY pP")
section
variable {T:Tb}
noncomputable def iB:CS:=(.seq (.iff (.no (.tst (.cal "is_whole" (.cons (.var 0) .nil)))) .nev .nil)
 (.seq (.iff (.oo (.no (.tst (.cal "is_whole" (.cons (.var 1) .nil)))) (.tsb (.cmp .Eq (.var 1) (.int 0)))) .nev .nil)
 (.ret (.cal "lowest" (.cons (.var 0) (.cons (.var 1) .nil))))))
theorem ID (h:PT T):∀ xs G Q,fY xs G Q→wpS T iB (aT Q) (aF 2 xs) G:=by
 rintro xs G Q ⟨t,b,rfl,h0,hs,hq⟩;unfold iB;have:=h.is_whole;have:=h.lowest;walk_at "rd"
 simp [h0]
noncomputable def hU:CS:=(.seq (.asg (.gl 3 (.cons (.gn 1) (.cons (.gn 2) (.cons (.gn 3) .nil)))) (.var 0))
 (.ret (.cal "Shade" (.cons (.var 1) (.cons (.var 2) (.cons (.var 3) .nil))))))
theorem GU (h:PT T):∀ xs G Q,fS xs G Q→wpS T hU (aT Q) (aF 4 xs) G:=by
 rintro xs G Q ⟨x,a,b,c,rfl,hx,ia,ib,ic,hq⟩;unfold hU;have:=h.shade;walk_at "rd"
noncomputable def fJ:CS:=(.seq (.iff (.oo (.no (.tst (.blt .isi (.cons (.var 0) (.cons (.glo "tuple") .nil))))) (.no (.tsb (.chn .LtE .LtE (.var 1) (.blt .len (.cons (.var 0) .nil)) (.var 2))))) (.ret (.bl false)) .nil)
 (.ret (.blt .all (.cons (.cmpr false (.gn 1) (.isq (.var 0)) .nil (.cal "is_shade" (.cons (.var 1) .nil)) [none,none]) .nil))))
theorem BF (h:PT T):∀ xs G Q,oP xs G Q→wpS T fJ (aT Q) (aF 3 xs) G:=by
 rintro xs G Q ⟨rs,a,b,rfl,h1,h2,h3,hq⟩;unfold fJ;have:=h.ty_tuple;have:=h.is_shade;walk_at "rd"
 simp only [List.length_map];have e1:decide (a≤(rs.length:Int))=true:=decide_eq_true h1;have e2:decide ((rs.length:Int)≤b)=true:=decide_eq_true h2;walk_at "rd"
 refine ⟨szN h3, ?_⟩;refine cN shV (fun l σ G' acc=>G'=G∧(∃ u v,σ=[u,v])∧acc ++ List.replicate l.length (.bl true)=List.replicate rs.length (.bl true)) (fun _ _ _ _ _=>trivial) ?_ ?_ rs _ _ _ ⟨rfl,⟨_,_,rfl⟩,rfl⟩
 · rintro x r σ G' acc R ⟨rfl,⟨u,v,rfl⟩,e⟩ hR;unfold shV;walk_at "rd"
   refine hR _ _ _ ⟨rfl,⟨_,_,rfl⟩, ?_⟩;rw [←e,List.length_cons,List.replicate_succ,List.append_assoc]; rfl
 · rintro σ G' acc ⟨rfl,_,e⟩;rw [List.length_nil,List.replicate_zero,List.append_nil] at e;rw [e];exact ⟨true,nI _,Wk.here hq⟩
noncomputable def gE:CS:=(.ret (.an (.cal "is_whole" (.cons (.var 0) .nil)) (.chn .LtE .LtE (.var 1) (.var 0) (.glo "MOST_WEIGHT"))))
theorem CD (h:PT T) (k:L14 T):∀ xs G Q,pP xs G Q→wpS T gE (aT Q) (aF 2 xs) G:=by
 rintro xs G Q ⟨w,l,rfl,h1,h2,hq⟩;unfold gE;have:=h.is_whole;have:=k.gv_MW;walk_at "rd"
noncomputable def eV:CS:=(.seq (.iff (.oo (.no (.tst (.blt .isi (.cons (.var 0) (.cons (.glo "tuple") .nil))))) (.tsb (.cmp .NotEq (.blt .len (.cons (.var 0) .nil)) (.var 1)))) (.ret (.bl false)) .nil)
 (.ret (.an (.blt .all (.cons (.cmpr false (.gn 1) (.isq (.var 0)) .nil (.cal "is_weight" (.cons (.var 1) (.cons (.int 0) .nil))) [none,none]) .nil)) (.cmp .Gt (.blt .sum (.cons (.var 0) .nil)) (.int 0)))))
theorem xN (h:PT T) (k:L14 T):∀ xs G Q,pA xs G Q→wpS T eV (aT Q) (aF 2 xs) G:=by
 rintro xs G Q ⟨ws,n,rfl,rfl,h3,⟨hw,hs⟩,hq⟩;unfold eV;have:=h.ty_tuple;have:=k.is_weight;walk_at "rd"
 simp only [List.length_map];walk_at "rd"
 refine ⟨szN h3, ?_⟩;refine cN PV.int (fun l σ G' acc=>G'=G∧(∃ u v,σ=[u,v])∧(∀ w∈l,0≤w∧w≤1000000)∧acc ++ List.replicate l.length (.bl true)=List.replicate ws.length (.bl true)) (fun _ _ _ _ _=>trivial) ?_ ?_ ws _ _ _ ⟨rfl,⟨_,_,rfl⟩,hw,rfl⟩
 · rintro x r σ G' acc R ⟨rfl,⟨u,v,rfl⟩,hl,e⟩ hR;obtain ⟨a1,a2⟩:=hl x (wDq ..);walk_at "rd"
   refine hR _ _ _ ⟨rfl,⟨_,_,rfl⟩,fun w hw=>hl w (wCq _ hw), ?_⟩;rw [←e,List.length_cons,List.replicate_succ,List.append_assoc]; rfl
 · rintro σ G' acc ⟨rfl,_,_,e⟩;rw [List.length_nil,List.replicate_zero,List.append_nil] at e;rw [e];refine ⟨true,nI _, ?_⟩;rw [if_pos rfl];exact Wk.here hq
noncomputable def fK:CS:=(.seq (.asg (.gn 2) (.int 0))
 (.seq (.asg (.gn 3) (.int 1))
 (.seq (.fr (.gt 2 (.cons (.gn 4) (.cons (.gn 5) .nil))) (.izp (.cons (.var 0) (.cons (.var 1) .nil))) (.seq (.asg (.gn 2) (.bin .Add (.bin .Mult (.var 2) (.idx (.var 4) (.int 1))) (.bin .Mult (.bin .Mult (.var 5) (.idx (.var 4) (.int 0))) (.var 3))))
 (.asg (.gn 3) (.bin .Mult (.var 3) (.idx (.var 4) (.int 1))))))
 (.ret (.cal "fraction" (.cons (.var 2) (.cons (.bin .Mult (.var 3) (.blt .sum (.cons (.var 1) .nil))) .nil)))))))
theorem BZ (k:L14 T):∀ xs G Q,wP xs G Q→wpS T fK (aT Q) (aF 6 xs) G:=by
 rintro xs G Q ⟨qs,ws,rfl,hl,h60,hb,hw,hq⟩;unfold fK;have:=k.fraction;walk_at "rd"
 refine ⟨.inl trivial,qs.length,[qs.map FQ,ws.map PV.int],rfl,.inl (aIJ (List.length_map ..) (by rw [List.length_map]; exact hl.symm)), ?_⟩;rw [aBs hl];refine fU (fun p:Rat×Int=>PV.tup [FQ p.1,.int p.2]) (fun l σ G'=>G'=G∧(∃ t b u v,σ=[some (.lst (qs.map FQ)),some (.tup (ws.map .int)),some (.int t),some (.int b),u,v]∧0 < b∧Rat.divInt t b + jT l=jT (qs.zip ws)∧
   Sm (422 * (9 - l.length) + 2) t∧Sm (422 * (9 - l.length) + 2) b)∧l.length≤9∧∀ p∈l,Bd 400 p.1∧(0≤p.2∧p.2≤1000000)) (fun _ _ _ _=>trivial) ?_ ?_ (qs.zip ws) _ _ ⟨rfl,⟨0,1,_,_,rfl,by decide, ?_, ?_, ?_⟩, ?_, ?_⟩
 · rintro ⟨x,w⟩ r σ G' R ⟨rfl,⟨t,b,u,v,rfl,b0,e,st,sb⟩,l60,hp⟩ hR;obtain ⟨⟨x1,x2⟩,w1⟩:=hp _ (wDq ..);have sw:=aH6 w1;have hd:=tZ (q:=x);walk_at "rd"
   rw [List.length_cons] at l60 st sb;have m1:=st.mul x2;have m2:=sw.mul x1;have m3:=m2.mul sb;have m4:=sb.mul x2;refine ⟨sC st x2 (by omega),sC sw x1,sC m2 sb (by omega),sC sb x2 (by omega),hR _ _ ⟨rfl,⟨_,_,_,_,rfl,Int.mul_pos b0 hd, ?_, ?_, ?_⟩,by omega,fun p hp'=>hp p (wCq _ hp')⟩⟩
   · rw [RB b0,←e]; simp only [jT]; grind
   · exact (m1.mono (l:=422 * (9 - (r.length + 1)) + 2 + 420) (by omega)).add (m3.mono (by omega)) (by omega)
   · exact m4.mono (by omega)
 · rintro σ G' ⟨rfl,⟨t,b,u,v,rfl,b0,e,st,sb⟩,l60,hp⟩;have h2:=IB hw.1;have hs:Sm 30 ws.sum:=by unfold Sm; omega
   walk_at "rd"
   refine ⟨sC sb hs (by simp),mN (by omega) (by have:=hw.2; omega),(sb.mul hs).mono (by simp),Wk.here ?_⟩;rw [WU b0 hw.2];simp only [jT] at e;have:Rat.divInt t b=jT (qs.zip ws):=by grind
   rw [this]; exact hq
 · have:Rat.divInt 0 1=0:=Rat.zero_divInt 1;rw [this]; grind
 · unfold Sm; simp only [Int.natAbs_zero]; exact Nat.two_pow_pos _
 · unfold Sm;show 1 < 2 ^ _;exact Nat.one_lt_two_pow (by omega)
 · rw [List.length_zip]; omega
 · rintro ⟨x,w⟩ hp;obtain ⟨h1,h2⟩:=List.of_mem_zip hp;exact ⟨hb x h1,hw.1 w h2⟩
end
theorem RN {rs:List R3} {f:R3→Rat} (hr:∀ r∈rs,Ok3 r) (hf:∀ r,Ok3 r→OkX (f r)):∀ x∈rs.map f,OkX x:=fun x hx=>by
 obtain ⟨r,h,rfl⟩:=List.mem_map.mp hx;exact hf r (hr r h)
theorem xV.mq {rs:List R3} {ws:List Int} {f:R3→Rat} (h:xV rs ws) (hf:∀ r,Ok3 r→OkX (f r)):In1 (mq (rs.map f) ws)∧Bd 3900 (mq (rs.map f) ws):=by
 obtain ⟨h1,h2,h3,h4,h5⟩:=h;have o:=RN h4 hf;exact ⟨aHL (by rw [List.length_map]; exact h1) (fun x hx=>(o x hx).1) h5,(aGu (by rw [List.length_map]; exact h1) (by omega) (fun x hx=>(o x hx).2) h5).mono (by rw [List.length_map]; omega)⟩
theorem xV.in3 {rs:List R3} {ws:List Int} (h:xV rs ws):In1 (vQ rs ws).1∧In1 (vQ rs ws).2.1∧In1 (vQ rs ws).2.2:=⟨(h.mq fun r q=>q.1).1,(h.mq fun r q=>q.2.1).1,(h.mq fun r q=>q.2.2).1⟩
theorem xV.bd3 {rs:List R3} {ws:List Int} (h:xV rs ws):Bd 8900 (vQ rs ws).1∧Bd 8900 (vQ rs ws).2.1∧Bd 8900 (vQ rs ws).2.2:=⟨(h.mq fun r q=>q.1).2.mono (by decide),(h.mq fun r q=>q.2.1).2.mono (by decide),(h.mq fun r q=>q.2.2).2.mono (by decide)⟩
local macro_rules | `(tactic| walk_at "rd") => wk (wqB++" aBu kN nM lH wI oX at0 at1 at2 sD VX eG cY IF BL iC lN dZ fS sz1 TB wP oP pA av0 av1 av2")
section
variable {T:Tb}
noncomputable def WJ:CE:=(.cal "mean_share" (.cons (.cmpr false (.gn 1) (.isq (.var 2)) .nil (.idx (.var 1) (.var 2)) [none,none,some 1]) (.cons (.var 3) .nil)))
theorem BT (k:L14 T) {rs:List R3} {ws:List Int} {u:Option PV} {j:Int} {f:R3→Rat} {G:Gh} {Q:PK1} (hj:∀ r:R3,atI [FQ r.1,FQ r.2.1,FQ r.2.2] j=some (FQ (f r))) (hf:∀ r,Ok3 r→OkX (f r)) (h:xV rs ws) (hq:Q (FQ (mq (rs.map f) ws)) G) :
   wpE T WJ [u,some (.int j),some (.lst (rs.map aP)),some (.tup (ws.map .int))] G Q:=by
 obtain ⟨h1,h2,h3,h4,h5⟩:=h;unfold WJ;have:=k.mean;walk_at "rd"
 refine ⟨by rw [List.length_map]; exact szN (by omega), ?_⟩;refine cN aP (fun l σ G' acc=>G'=G∧(∃ u v,σ=[u,v,some (.int j)])∧∃ l0,rs=l0 ++ l∧acc=(l0.map f).map FQ) (fun _ _ _ _ _=>trivial) ?_ ?_ rs _ _ _ ⟨rfl,⟨_,_,rfl⟩,[],rfl,rfl⟩
 · rintro x r σ G' acc R ⟨rfl,⟨u,v,rfl⟩,l0,e1,e2⟩ hR;unfold aP;walk_at "rd"
   refine hR _ _ _ ⟨rfl,⟨_,_,rfl⟩,l0 ++ [x],by rw [e1,List.append_assoc]; rfl, ?_⟩;rw [e2,List.map_append,List.map_append]; rfl
 · rintro σ G' acc ⟨rfl,_,l0,e1,e2⟩;rw [List.append_nil] at e1;subst e1 e2;exact ⟨rs.map f,rfl,ws,rfl,by rw [List.length_map]; exact h1,by omega,fun x hx=>(RN h4 hf x hx).2,h5,hq⟩
noncomputable def GK:CE:=(.cmpr false (.gn 1) (.isq (.var 0)) .nil (.cal "shares_of" (.cons (.var 1) .nil)) [none,none])
theorem VZ (h:PT T) {rs:List R3} {a b c:Option PV} {G:Gh} {Q:PK1} (hz:rs.length≤9) (hq:Q (.lst (rs.map aP)) G):wpE T GK [some (.tup (rs.map shV)),a,b,c] G Q:=by
 unfold GK;have:=h.shares_of;walk_at "rd"
 refine ⟨by rw [List.length_map]; exact szN (by omega), ?_⟩;refine cN shV (fun l σ G' acc=>G'=G∧(∃ u v,σ=[u,v])∧∃ l0,rs=l0 ++ l∧acc=l0.map aP) (fun _ _ _ _ _=>trivial) ?_ ?_ rs _ _ _ ⟨rfl,⟨_,_,rfl⟩,[],rfl,rfl⟩
 · rintro x r σ G' acc R ⟨rfl,⟨u,v,rfl⟩,l0,e1,e2⟩ hR;unfold shV;walk_at "rd"
   refine hR _ _ _ ⟨rfl,⟨_,_,rfl⟩,l0 ++ [x],by rw [e1,List.append_assoc]; rfl, ?_⟩;rw [e2,List.map_append]; rfl
 · rintro σ G' acc ⟨rfl,_,l0,e1,e2⟩;rw [List.append_nil] at e1;subst e1 e2;exact hq
noncomputable def aDX:CS:=(.seq (.asg (.gn 3) GK)
 (.ret (.cal "shade_of" (.cons (.cmpr false (.gn 1) (.irg (.cons (.int 3) .nil)) .nil WJ [none,none,some 3,some 1]) .nil))))
theorem aFM (h:PT T) (k:L14 T) {rs:List R3} {ws:List Int} {n:Int} {c:Option PV} {G:Gh} {Q:PK1} (m:xV rs ws) (hq:Q (shV (vQ rs ws)) G):wpS T aDX (aT Q) [some (.tup (rs.map shV)),some (.tup (ws.map .int)),some (.int n),c] G:=by
 unfold aDX;have:=h.shade_of;have:=@LH;walk_at "rd"
 refine VZ h m.2.2.1 ?_;refine ⟨by decide,by decide, ?_⟩;refine BT k (fun r=>at0) (fun r q=>q.1) m ?_;refine BT k (fun r=>at1) (fun r q=>q.2.1) m ?_;refine BT k (fun r=>at2) (fun r q=>q.2.2) m ?_;obtain ⟨i1,i2,i3⟩:=m.in3;exact ⟨_,rfl,_,rfl,_,rfl,i1,i2,i3,Wk.here hq⟩
noncomputable def vK:CS:=(.seq (.iff (.no (.tst (.cal "are_shades" (.cons (.var 0) (.cons (.int 1) (.cons (.glo "MOST_SHADES") .nil)))))) .nev .nil)
 (.seq (.asg (.gn 2) (.blt .len (.cons (.var 0) .nil)))
 (.seq (.iff (.tsb (.cmp .Is (.var 1) .non)) (.asg (.gn 1) (.bin .Mult (.tup (.cons (.int 1) .nil)) (.var 2))) .nil)
 (.seq (.iff (.no (.tst (.cal "are_weights" (.cons (.var 1) (.cons (.var 2) .nil))))) .nev .nil) aDX))))
theorem aH7 (h:PT T) (k:L14 T):∀ xs G Q,JZ xs G Q→wpS T vK (aT Q) (aF 4 xs) G:=by
 rintro xs G Q ⟨rs,ws,x,rfl,v,m,hq⟩;have m':=m;obtain ⟨h1,h2,h3,h4,h5⟩:=m';unfold vK;have:=k.are_shades;have:=k.are_weights;have:=k.gv_MS;walk_at "rd"
 refine ⟨rs,rfl,by omega,by omega,by omega, ?_⟩;subst v;walk_at "rd"
 exact ⟨ws,rfl,by rw [List.length_map,h1],by omega,h5,aFM h k m hq⟩
noncomputable def jH:CS:=(.seq (.iff (.tsb (.cmp .Eq (.var 1) (.int 1))) (.ret (.cak "Shade" .nil (.cons (.idx (.var 0) (.int 2)) (.cons (.idx (.var 0) (.int 0)) (.cons (.idx (.var 0) (.int 1)) .nil))) [.arg 1,.arg 2,.arg 0])) .nil)
 (.ret (.cal "Shade" (.cons (.idx (.var 0) (.int 0)) (.cons (.idx (.var 0) (.int 1)) (.cons (.idx (.var 0) (.int 2)) .nil))))))
theorem NM (h:PT T):∀ xs G Q,JV xs G Q→wpS T jH (aT Q) (aF 2 xs) G:=by
 rintro xs G Q ⟨r,w,rfl,i1,i2,i3,hq⟩;unfold jH aP;have:=h.shade;unfold shV at hq;walk_at "rd"
noncomputable def mO:CS:=(.seq (.iff (.no (.tst (.blt .isi (.cons (.var 0) (.cons (.glo "Shade") .nil))))) (.ret (.tup .nil)) .nil)
 (.seq (.asg (.gn 1) (.tup (.cons (.att (.var 0) "ember") (.cons (.att (.var 0) "leaf") (.cons (.att (.var 0) "sky") .nil)))))
 (.ret (.ite (.tst (.blt .all (.cons (.cmpr false (.gn 1) (.isq (.var 1)) .nil (.cal "_law_is_fraction" (.cons (.var 1) .nil)) [none,none]) .nil))) (.var 1) (.tup .nil)))))
theorem aBp:AH [.bl true,.bl true,.bl true]=some true:=rfl
theorem aBr (h:PT T) (l:LT T):∀ xs G Q,JQ xs G Q→wpS T mO (aT Q) (aF 2 xs) G:=by
 rintro xs G Q ⟨r,rfl,b1,b2,b3,hq⟩;unfold mO shV;have:=h.gv_Shade;have:=h.cs;have e1:=@aIP T h;have e2:=@aGN T h;have e3:=@aIZ T h;have:=l.is_fraction;have:=@aBp;unfold aP at hq;walk_at "rd"
noncomputable def eA:CS:=(.ret (.cal "_law_low" (.cons (.cal "_law_pick" (.cons (.var 0) (.cons (.int 61) .nil))) (.cons (.int 60) .nil))))
theorem tE (l:LT T):∀ xs G Q,dJ xs G Q→wpS T eA (aT Q) (aF 1 xs) G:=by
 rintro xs G Q ⟨p,rfl,hp,hq⟩;unfold eA;have:=l.pick;have:=l.low;walk_at "rd"
 refine ⟨by decide,smP (by decide) (by decide),fun r G1 a b n1=>⟨by decide,smK (by decide) (by decide) (by decide),Wk.here (hq _ _ (LM a (by omega) (by decide)) (UG ?_ ?_ (by decide)) n1)⟩⟩
 · unfold Sm; omega
 · unfold Sm; decide
end
theorem Pn.self {p:Addr} {G:Gh} (h:Pu p G):Pn p G G:=by
 obtain ⟨x,y,z,e⟩:=h;refine ⟨x,y,z, ?_⟩
 funext a
 by_cases ea:a=p
 · subst ea; rw [aD,e]
 · rw [cC ea]
theorem CM {xs:List PV} {G:Gh} {Q:PK1} {cs:List String} {a:Addr} (h:G a=some (.lst xs)) (q:Q (.int xs.length) G):dG cs .len [.ref a] G Q:=.inr (.inr (.inr ⟨_,cP h,q⟩))
theorem Pk.pu {p:Addr} {G K:Gh} (h:Pk p G K):Pu p K:=by
 obtain ⟨G',a,b⟩:=h;obtain ⟨x,y,z,e⟩:=a.pu;exact ⟨x,y,z,b _ _ e⟩
theorem yI:∀ rs:List R3,∃ ds,jB (rs.map aP)=some ds∧PyData.canLayAll0 ds=true∧PyData.depthAll ds≤2
 | []=>⟨[],by simp [jB],by simp [PyData.canLayAll0],by simp [PyData.depthAll]⟩
 | r :: rs=>by
   obtain ⟨ds,e,c,d⟩:=yI rs;have er:dat (aP r)=some (.tuple [.tuple [.int r.1.num,.int r.1.den],.tuple [.int r.2.1.num,.int r.2.1.den],.tuple [.int r.2.2.num,.int r.2.2.den]]):=by unfold aP FQ; simp only [dat,jB]
   refine ⟨_ :: ds,by rw [List.map_cons]; unfold jB; rw [er,e], ?_, ?_⟩
   · simp only [PyData.canLayAll0,PyData.canLay0,c,Bool.and_true,Bool.true_and]
   · simp only [PyData.depthAll,PyData.depth]; omega
theorem ZO {rs:List R3}:shp (.lst (rs.map aP))=true:=by
 obtain ⟨ds,e,c,d⟩:=yI rs;unfold shp;have e2:dat (.lst (rs.map aP))=some (.list ds):=by simp only [dat,e]
 rw [e2];show SeqAt.shaped (.list ds)=true;have h1:PyData.canLay0 (.list ds)=true:=by simp only [PyData.canLay0]; exact c
 have h2:PyData.depth (.list ds)≤64:=by simp only [PyData.depth]; omega
 unfold SeqAt.shaped;rw [h1,decide_eq_true h2]; rfl
theorem OA {rs:List R3} {G:Gh} {Q:PK1} {a:Addr} (h:G a=some (.lst (rs.map aP))) (q:Q (.bl (!rs.isEmpty)) G):pEq true (.ref a) (.lst []) G Q:=by
 have e:pur G (.ref a)= .lst (rs.map aP):=by unfold pur; dsimp only; rw [h]
 refine ⟨by rw [e]; exact ZO,rfl, ?_⟩;rw [e];show Q (.bl (!peq (.lst (rs.map aP)) (.lst []))) G;cases rs with
 | nil=>simpa [peq,kG] using q
 | cons r rs=>simpa [peq,kG] using q
local macro_rules | `(tactic| walk_at "rd") => wk (wqB++" List.map_nil tT pC oE wE eG cY IF dJ iE")
section
variable {T:Tb}
noncomputable def KG:CS:=(.seq (.asg (.gn 5) (.cal "_law_pick" (.cons (.var 0) (.cons (.int 6) .nil))))
 (.seq (.iff (.an (.tsb (.cmp .Eq (.var 5) (.int 1))) (.tsb (.cmp .NotEq (.var 2) (.lst false .nil)))) (.asg (.gn 4) (.idx (.var 2) (.cal "_law_pick" (.cons (.var 0) (.cons (.blt .len (.cons (.var 2) .nil)) .nil))))) .nil)
 (.ex (.app (.var 2) (.var 4)))))
theorem aAT (lt:LT T) (D:iG) {p q:Addr} {n k:PV} {rs:List R3} {r:R3} {w:Option PV} {G K:Gh} (hqp:q≠p) (gq:G q=none) (pk:Pk p G K) (g:K q=some (.lst (rs.map aP))) (h60:rs.length < 9) (hr:∀ r∈rs,pF r) (h:pF r)
   (hD:∀ r' w' v K',pF r'→Pk p G K'→K' q=some (.lst ((rs ++ [r']).map aP))→D.nx [some (.ref p),some n,some (.ref q),some k,v,w'] K') :
   wpS T KG D [some (.ref p),some n,some (.ref q),some k,some (aP r),w] K:=by
 unfold KG;have:=lt.pick;have pu:=pk.pu;have app:∀ {K1:Gh} {r1:R3} {w1:Option PV},Pk p G K1→K1 q=some (.lst (rs.map aP))→pF r1→∃ a xs,PV.ref q= .ref a∧K1 a=some (.lst xs)∧xs.length < sizeLine∧D.nx [some (.ref p),some n,some (.ref q),some k,some (aP r1),w1] (gup K1 a (.lst (xs ++ [aP r1]))):=fun {K1 r1 w1} pk1 g1 o1 =>
   ⟨q,_,rfl,g1,by rw [List.length_map]; exact wFq h60 (by decide),hD r1 w1 _ _ o1 (pk1.set gq hqp) (by rw [aD,List.map_append]; rfl)⟩
 walk_at "rd"
 refine ⟨by decide,smP (by decide) (by decide),fun y K1 b1 b2 m1=>?_⟩;have g1:K1 q=some (.lst (rs.map aP)):=by rw [m1.ne hqp]; exact g
 have pk1:=pk.pick m1;have ap1:=cP g1;by_cases hy:y=1
 · walk_at "rd"
   refine ⟨by decide,OA g1 ?_⟩;walk_at "rd"
   cases rs with
   | nil =>
     simp only [List.isEmpty_nil,Bool.not_true,Bool.false_eq_true,if_false];obtain ⟨a,xs,e,h1,h2,h3⟩:=app (w1:=some (.int y)) pk1 g1 h;cases e;subst hy;rw [g1] at h1;cases h1;exact ⟨_,rfl,h2,h3⟩
   | cons r0 rs0 =>
     simp only [List.isEmpty_cons,Bool.not_false,if_true];refine CM g1 ?_;walk_at "rd"
     have lm:(List.map aP rs0).length=rs0.length:=List.length_map ..;refine ⟨m1.pu,by omega,smP (by omega) (by simp only [List.length_cons] at h60; omega),fun j K2 c1 c2 m2=>?_⟩;have g2:K2 q=some (.lst ((r0 :: rs0).map aP)):=by rw [m2.ne hqp]; exact g1
     rw [FZ g2];obtain ⟨i,rfl⟩:=Int.eq_ofNat_of_zero_le c1;have hi:i < (r0 :: rs0).length:=by rw [List.length_cons]; omega
     refine ⟨aP (r0 :: rs0)[i],dD (by rw [List.getElem?_map,wHq hi]; rfl), ?_⟩;obtain ⟨a,xs,e,h1,h2,h3⟩:=app (w1:=some (.int y)) (pk1.pick m2) g2 (hr _ (List.getElem_mem hi));cases e;subst hy;exact ⟨⟨_,cP g2⟩,_,h1,h2,h3⟩
 · walk_at "rd"
   obtain ⟨a,xs,e,h1,h2,h3⟩:=app (w1:=some (.int y)) pk1 g1 h;cases e;rw [g1] at h1;cases h1;exact ⟨_,rfl,h2,h3⟩
noncomputable def aB3:CS:=(.seq (.asg (.gn 4) (.ite (.tsb (.cmp .Lt (.var 3) (.int 3))) (.cal "_law_shares" (.cons (.var 0) .nil)) (.blt .tuple (.cons (.cmpr false (.gn 1) (.irg (.cons (.int 3) .nil)) .nil (.cal "_law_plain_share" (.cons (.var 2) .nil)) [none,none,some 0]) .nil)))) KG)
noncomputable def gF:CS:=(.seq (.asg (.gn 2) (.lst true .nil))
 (.seq (.fr (.gn 3) (.irg (.cons (.var 1) .nil)) aB3)
 (.ret (.var 2))))
theorem EO (lt:LT T) (k:L14 T):∀ xs G Q,BB xs G Q→wpS T gF (aT Q) (aF 6 xs) G:=by
 rintro xs G Q ⟨p,n,rfl,hp,n1,n2,hq⟩;unfold gF;have:=lt.shares;have:=k.plain;have:=@LH;walk_at "rd"
 refine ⟨by decide,fun q hn=>⟨by omega,by omega, ?_⟩⟩;have hqp:q≠p:=hp.ne hn;unfold rW;refine fU (fun i:Nat=>PV.int (0 + (i:Int))) (fun l σ K=>∃ rs u v w,σ=[some (.ref p),some (.int n),some (.ref q),u,v,w]∧Pk p G K∧K q=some (.lst (rs.map aP))∧rs.length + l.length=n.toNat∧∀ r∈rs,pF r) (fun _ _ _ _=>trivial) ?_ ?_ (List.range n.toNat) _ _
   ⟨[],_,_,_,rfl,(Pk.of (Pn.self hp)).new hn,aD,by simp,fun r hr=>by cases hr⟩
 · rintro i l σ K R ⟨rs,u,v,w,rfl,pk,g,hl,hr⟩ hR;simp only [List.length_cons] at hl;have fin:∀ (D:iG),D.nx=R→∀ {K1:Gh} {r:R3},Pn p K K1→pF r→wpS T KG D [some (.ref p),some (.int n),some (.ref q),some (.int (0 + (i:Int))),some (aP r),w] K1:=fun D eD {K1 r} m1 o=>by
     subst eD;refine aAT lt _ hqp hn (pk.pick m1) (by rw [m1.ne hqp]; exact g) (by omega) hr o fun r' w' v' K' o' pk' g'=>hR _ _ ⟨rs ++ [r'],_,_,_,rfl,pk',g',by rw [List.length_append]; simp only [List.length_cons,List.length_nil]; omega,fun x hx=>?_⟩;rcases List.mem_append.mp hx with hx | hx
     · exact hr x hx
     · rw [List.mem_singleton.mp hx]; exact o'
   unfold aB3;walk_at "rd"
   by_cases h3:(0 + (i:Int)) < 3
   · rw [if_pos h3];exact ⟨pk.pu,fun a b c K1 i1 i2 i3 b1 b2 b3 m1=>fin _ rfl (r:=(a,b,c)) m1 ⟨⟨i1,b1⟩,⟨i2,b2⟩,⟨i3,b3⟩⟩⟩
   · rw [if_neg h3];exact ⟨by decide,by decide,pk.pu,fun a K1 i1 b1 m1=>⟨m1.pu,fun b K2 i2 b2 m2=>⟨m2.pu,fun c K3 i3 b3 m3=>fin _ rfl (r:=(a,b,c)) ((m1.trans m2).trans m3) ⟨⟨i1,b1⟩,⟨i2,b2⟩,⟨i3,b3⟩⟩⟩⟩⟩
 · rintro σ K ⟨rs,u,v,w,rfl,⟨G2,a,b⟩,g,hl,hr⟩;walk_at "rd"
   refine Wk.frz g (hq rs G2 ?_ hr a) b (by rw [a.ne hqp]; exact hn);simp only [List.length_nil,Nat.add_zero] at hl;omega
end
theorem aHG {a b c x y z:PV}:FM 3 [[a,b,c],[x,y,z]]=[.tup [a,x],.tup [b,y],.tup [c,z]]:=rfl
theorem wH {T:Tb} {c:String} {ns:List Str} {xs:List PV} {f:Str} {v:PV} {G:Gh} {Q:PK1} {p:Addr} (hf:(c,f)∈T.fl) (hG:G p=some (.ins c ns xs)) (hl:(ns.zip xs).lookup f=some v):gB T (.ref p) f G Q=Q v G:=by
 refine propext ⟨fun h=>?_,fun q=>⟨_,_,_,_,.inr ⟨p,rfl,hG⟩,hf,hl,q⟩⟩;obtain ⟨c',ns',xs',v',e,_,l,q⟩:=h;rcases e with e | ⟨_,e,g⟩
 · cases e
 · cases e;rw [hG] at g;cases g;rw [hl] at l;cases l;exact q
section
variable {T:Tb} {G:Gh} {x:PV} {n w:Int} {s:R3} {Q:PK1}
theorem LK (k:L14 T) (h:isB G x n w s):gB T x "many" G Q=Q (.int n) G:=by
 rcases h with rfl | ⟨p,rfl,g⟩
 · exact lM k.fl_m rfl
 · exact wH k.fl_m g rfl
theorem DD (k:L14 T) (h:isB G x n w s):gB T x "weight" G Q=Q (.int w) G:=by
 rcases h with rfl | ⟨p,rfl,g⟩
 · exact lM k.fl_w rfl
 · exact wH k.fl_w g rfl
theorem DS (k:L14 T) (h:isB G x n w s):gB T x "sums" G Q=Q (aP s) G:=by
 rcases h with rfl | ⟨p,rfl,g⟩
 · exact lM k.fl_u rfl
 · exact wH k.fl_u g rfl
theorem isB.new {q:Addr} {o:GO} (h:isB G x n w s) (hq:G q=none):isB (gup G q o) x n w s:=by
 rcases h with rfl | ⟨p,rfl,g⟩
 · exact .inl rfl
 · refine .inr ⟨p,rfl, ?_⟩;rw [cC (fun e=>by subst e; rw [hq] at g; cases g)]; exact g
theorem isB.o:isB G (BO n w s) n w s:=.inl rfl
theorem RI {cs:List String}:dG cs .isi [BO n w s,.cl "Blend"] G Q=("Blend"∈cs∧Q (.bl true) G):=KE
end
local macro_rules | `(tactic| walk_at "rd") => wk (wqB++" oE lH oX aAu aAl sD RX BL kA fR kS lJ dZ fS pP")
section
variable {T:Tb}
noncomputable def rN:CS:=(.seq (.ex (.cal "need_fractions" (.cons (.tup (.cons (.var 0) (.cons (.var 1) .nil))) .nil)))
 (.seq (.iff (.tsb (.cmp .Eq (.idx (.var 1) (.int 0)) (.int 0))) .nev .nil)
 (.ret (.cal "lowest" (.cons (.bin .Mult (.idx (.var 0) (.int 0)) (.idx (.var 1) (.int 1))) (.cons (.bin .Mult (.idx (.var 0) (.int 1)) (.idx (.var 1) (.int 0))) .nil))))))
theorem aEP (h:PT T):∀ xs G Q,kS xs G Q→wpS T rN (aT Q) (aF 2 xs) G:=by
 rintro xs G Q ⟨a,b,rfl,ha,hb,h0,hq⟩;unfold rN;have:=h.need_fractions;have:=h.lowest;have n0:¬b.num=0:=fun z=>h0 (Rat.num_eq_zero.mp z);walk_at "rd"
 refine ⟨sC ha.1 hb.2,sC ha.2 hb.1,mN fL n0,(ha.2.mul hb.1).mono (by decide),Wk.here ?_⟩;rw [aB6]; exact hq
noncomputable def mY:CS:=(.ret (.blt .tuple (.cons (.cmpr false (.gt 2 (.cons (.gn 1) (.cons (.gn 2) .nil))) (.izp (.cons (.var 0) (.cons (.var 1) .nil))) .nil (.cal "plus" (.cons (.var 1) (.cons (.var 2) .nil))) [none,none,none]) .nil)))
theorem aAA (h:PT T):∀ xs G Q,tR xs G Q→wpS T mY (aT Q) (aF 2 xs) G:=by
 rintro xs G Q ⟨s,t,y,rfl,hy,⟨s1,s2,s3⟩,⟨t1,t2,t3⟩,hq⟩;unfold mY;have:=h.plus;have hr: [aP s,y].map LG=[[FQ s.1,FQ s.2.1,FQ s.2.2],[FQ t.1,FQ t.2.1,FQ t.2.2]].map some:=by
   rcases hy with rfl | rfl <;> rfl
 unfold AT aP at hq;walk_at "rd"
 refine ⟨.inl trivial,3,_,hr,.inl (by simp), ?_⟩;rw [aHG];have:=@eG;have:=@cY;walk_at "rd"
noncomputable def dH:CS:=(.seq (.fld (.var 0) "many" (.int 0))
 (.seq (.fld (.var 0) "weight" (.int 0))
 (.fld (.var 0) "sums" (.tup (.cons (.glo "ZERO") (.cons (.glo "ZERO") (.cons (.glo "ZERO") .nil)))))))
theorem pH (h:PT T) (k:L14 T):∀ xs G Q,KW xs G Q→wpS T dH (aT Q) (aF 1 xs) G:=by
 rintro xs G Q ⟨p,rfl,hp,hq⟩;unfold dH;have:=h.gv_ZERO;walk_at "rd"
 refine ⟨"Blend",[],[],rfl,k.fl_m,by decide,"Blend",["many"],[.int 0],aD,k.fl_w,by decide,"Blend",["many","weight"],[.int 0,.int 0],aD,k.fl_u,by decide, ?_⟩;simp only [dP];exact Wk.here hq
theorem pV (k:L14 T):aHt T "Blend" "Blend" "Blend.__init__":=by
 intro xs G Q q p hp;rw [k.blend] at q;rw [k.blendI];obtain ⟨rfl,q⟩:=q;refine ⟨p,rfl,aD,rfl, ?_⟩;rw [dP];exact q p hp
noncomputable def gH:CS:=(.seq (.ex (.cal "need_shade" (.cons (.var 1) .nil)))
 (.seq (.iff (.no (.tst (.cal "is_weight" (.cons (.var 2) (.cons (.int 1) .nil))))) .nev .nil)
 (.seq (.asg (.gn 3) (.cmpr false (.gn 1) (.isq (.cal "shares_of" (.cons (.var 1) .nil))) .nil (.cal "times" (.cons (.var 1) (.cons (.tup (.cons (.var 2) (.cons (.int 1) .nil))) .nil))) [none,none,some 2]))
 (.seq (.fld (.var 0) "sums" (.cal "added" (.cons (.att (.var 0) "sums") (.cons (.var 3) .nil))))
 (.seq (.fda (.var 0) "weight" (.var 2))
 (.fda (.var 0) "many" (.int 1)))))))
theorem ED (h:PT T) (k:L14 T):∀ xs G Q,KO xs G Q→wpS T gH (aT Q) (aF 4 xs) G:=by
 rintro xs G Q ⟨p,r,w,n,W,s,rfl,hG,w1,w2,⟨r1,r2,r3⟩,⟨s1,s2,s3⟩,hq⟩;unfold gH shV;have:=h.need_shade;have:=h.shares_of;have:=h.times;have:=k.is_weight;have:=k.added;have a1:∀ {Q},gB T (.ref p) "sums" G Q=Q (aP s) G:=fun {Q}=>DS k (.inr ⟨p,rfl,hG⟩);have:=@eG;have:=@cY;have:=@BR;have bw:Bd 4000 (w:Rat):=(bdw ⟨by omega,w2⟩).mono (by decide);have b1:=r1.mono (show 400≤4000 by decide);have b2:=r2.mono (show 400≤4000 by decide);have b3:=r3.mono (show 400≤4000 by decide);walk_at "rd"
 have bw20:=bdw (show 0≤w∧w≤1000000 from ⟨by omega,w2⟩);refine ⟨s,aBF w r,_,rfl,.inr rfl,⟨s1.mono (by decide),s2.mono (by decide),s3.mono (by decide)⟩,⟨r1.mul bw20 (by decide),r2.mul bw20 (by decide),r3.mul bw20 (by decide)⟩, ?_⟩;refine ⟨"Blend",BN,_,hG,k.fl_u,by decide,"Blend",BN,_,aD,k.fl_w,W,rfl,BN,_,aD,by decide,"Blend",BN,_,aD,k.fl_m,n,rfl,BN,_,aD,by decide, ?_⟩;simp only [dP];exact Wk.here hq
noncomputable def eJ:CS:=(.seq (.iff (.no (.tst (.blt .isi (.cons (.var 1) (.cons (.glo "Blend") .nil))))) .nev .nil)
 (.seq (.asg (.gn 2) (.cak "Blend" .nil .nil []))
 (.seq (.fld (.var 2) "sums" (.cal "added" (.cons (.att (.var 0) "sums") (.cons (.att (.var 1) "sums") .nil))))
 (.seq (.fld (.var 2) "weight" (.bin .Add (.att (.var 0) "weight") (.att (.var 1) "weight")))
 (.seq (.fld (.var 2) "many" (.bin .Add (.att (.var 0) "many") (.att (.var 1) "many")))
 (.ret (.var 2)))))))
theorem uR (h:PT T) (k:L14 T):∀ xs G Q,iO xs G Q→wpS T eJ (aT Q) (aF 3 xs) G:=by
 rintro xs G Q ⟨x,n,w,s,n',w',s',rfl,hx,⟨s1,s2,s3⟩,⟨t1,t2,t3⟩,hq⟩;unfold eJ;have:=k.gv_Blend;have:=k.csB;have:=k.blend;have:=k.added;have:=@RI;have b1:∀ {K Q},gB T (BO n' w' s') "sums" K Q=Q (aP s') K:=fun {K Q}=>DS k isB.o;have b2:∀ {K Q},gB T (BO n' w' s') "weight" K Q=Q (.int w') K:=fun {K Q}=>DD k isB.o;have b3:∀ {K Q},gB T (BO n' w' s') "many" K Q=Q (.int n') K:=fun {K Q}=>LK k isB.o;walk_at "rd"
 refine ⟨rfl,fun q hq0=>?_⟩;have a1:∀ {o Q},gB T x "sums" (gup G q o) Q=Q (aP s) (gup G q o):=fun {o Q}=>DS k (hx.new hq0);have a2:∀ {o Q},gB T x "weight" (gup G q o) Q=Q (.int w) (gup G q o):=fun {o Q}=>DD k (hx.new hq0);have a3:∀ {o Q},gB T x "many" (gup G q o) Q=Q (.int n) (gup G q o):=fun {o Q}=>LK k (hx.new hq0);walk_at "rd"
 refine ⟨s,s',_,rfl,.inl rfl,⟨s1.mono (by decide),s2.mono (by decide),s3.mono (by decide)⟩,⟨t1.mono (by decide),t2.mono (by decide),t3.mono (by decide)⟩, ?_⟩;refine ⟨"Blend",BN,_,aD,k.fl_u,by decide, ?_⟩;rw [dP];walk_at "rd"
 refine ⟨"Blend",BN,_,aD,k.fl_w,by decide, ?_⟩;rw [dP];walk_at "rd"
 refine ⟨"Blend",BN,_,aD,k.fl_m,by decide, ?_⟩;rw [dP];refine Wk.frzI aD (G2:=G) hq (fun a o e=>?_) hq0;rw [cC (fun e'=>by subst e'; rw [hq0] at e; cases e)]; exact e
noncomputable def eT:CS:=(.ret (.att (.var 0) "weight"))
theorem xL (k:L14 T):∀ xs G Q,tV xs G Q→wpS T eT (aT Q) (aF 1 xs) G:=by
 rintro xs G Q ⟨n,w,s,rfl,hq⟩;unfold eT;have b2:∀ {K Q},gB T (BO n w s) "weight" K Q=Q (.int w) K:=fun {K Q}=>DD k isB.o;walk_at "rd"
noncomputable def eE:CS:=(.ret (.lnr (.att (.var 0) "many")))
theorem tD (k:L14 T):∀ xs G Q,zO xs G Q→wpS T eE (aT Q) (aF 1 xs) G:=by
 rintro xs G Q ⟨n,w,s,rfl,n0,n1,hq⟩;unfold eE;have b2:∀ {K Q},gB T (BO n w s) "many" K Q=Q (.int n) K:=fun {K Q}=>LK k isB.o;have n2:n < 4611686018427387904:=n1;walk_at "rd"
noncomputable def eP:CS:=(.ret (.an (.blt .isi (.cons (.var 1) (.cons (.glo "Blend") .nil))) (.an (.cmp .Eq (.att (.var 0) "weight") (.att (.var 1) "weight")) (.cmp .Eq (.att (.var 0) "sums") (.att (.var 1) "sums")))))
theorem wL (k:L14 T):∀ xs G Q,KN xs G Q→wpS T eP (aT Q) (aF 2 xs) G:=by
 rintro xs G Q ⟨n,n',w,s,rfl,hq⟩;unfold eP;have:=k.gv_Blend;have:=k.csB;have:=@RI;have b1:∀ {n K Q},gB T (BO n w s) "sums" K Q=Q (aP s) K:=fun {n K Q}=>DS k isB.o;have b2:∀ {n K Q},gB T (BO n w s) "weight" K Q=Q (.int w) K:=fun {n K Q}=>DD k isB.o;have e:∀ {K Q},pEq false (aP s) (aP s) K Q=Q (.bl true) K:=fun {K Q}=>by unfold aP; rw [VN]; simp
 walk_at "rd"
noncomputable def eR:CS:=(.seq (.iff (.tsb (.cmp .Eq (.att (.var 0) "many") (.int 0))) .nev .nil)
 (.ret (.cal "shade_of" (.cons (.cmpr false (.gn 1) (.isq (.att (.var 0) "sums")) .nil (.cal "over" (.cons (.var 1) (.cons (.tup (.cons (.att (.var 2) "weight") (.cons (.int 1) .nil))) .nil))) [none,none,some 0]) .nil))))
theorem xC (h:PT T) (k:L14 T):∀ xs G Q,DI xs G Q→wpS T eR (aT Q) (aF 1 xs) G:=by
 rintro xs G Q ⟨n,w,s,rfl,n0,w0,sw,⟨s1,s2,s3⟩,⟨i1,i2,i3⟩,hq⟩;unfold eR;have:=h.over;have:=h.shade_of;have b1:∀ {K Q},gB T (BO n w s) "sums" K Q=Q (.tup [FQ s.1,FQ s.2.1,FQ s.2.2]) K:=fun {K Q}=>DS k isB.o;have b2:∀ {K Q},gB T (BO n w s) "weight" K Q=Q (.int w) K:=fun {K Q}=>DD k isB.o;have b3:∀ {K Q},gB T (BO n w s) "many" K Q=Q (.int n) K:=fun {K Q}=>LK k isB.o;have:=@eG;have:=@cY;have:=@BR;have nz:¬(n=0):=n0;have wz:(w:Rat)≠0:=by have:(0:Rat) < (w:Rat):=Rat.intCast_pos.mpr w0; grind
 have bw:Bd 4000 (w:Rat):=(Bd.int sw (by decide)).mono (by decide);have c1:=s1.mono (show 400≤4000 by decide);have c2:=s2.mono (show 400≤4000 by decide);have c3:=s3.mono (show 400≤4000 by decide);unfold sdv shV at hq;unfold sdv at i1 i2 i3;walk_at "rd"
 exact ⟨wz,wz,wz⟩
end
theorem cM (f:R3→Rat):∀ (ps qs:List PR),dt f (ps ++ qs)=dt f ps + dt f qs
 | [],qs=>by simp only [List.nil_append,dt]; grind
 | p :: r,qs=>by simp only [List.cons_append,dt,cM f r qs]; grind
theorem bW:∀ (ps qs:List PR),wsm (ps ++ qs)=wsm ps + wsm qs
 | [],qs=>by simp only [List.nil_append,wsm]; omega
 | p :: r,qs=>by simp only [List.cons_append,wsm,bW r qs]; omega
theorem nY (f:R3→Rat) {ps qs:List PR} (h:ps.Perm qs):dt f ps=dt f qs:=by
 induction h with
 | nil=>rfl
 | cons x _ ih=>simp only [dt,ih]
 | swap x y l=>simp only [dt]; grind
 | trans _ _ i1 i2=>rw [i1,i2]
theorem oI {ps qs:List PR} (h:ps.Perm qs):wsm ps=wsm qs:=by
 induction h with
 | nil=>rfl
 | cons x _ ih=>simp only [wsm,ih]
 | swap x y l=>simp only [wsm]; omega
 | trans _ _ i1 i2=>rw [i1,i2]
theorem vX (ps qs:List PR):dt3 (ps ++ qs)=AT (dt3 ps) (dt3 qs):=by unfold dt3 AT; rw [cM,cM,cM]
theorem WW {ps qs:List PR} (h:ps.Perm qs):dt3 ps=dt3 qs:=by unfold dt3; rw [nY _ h,nY _ h,nY _ h]
theorem KZ {ps qs:List PR} {c:Rat} (hc:c≠0) (hw:(wsm qs:Rat)=c * (wsm ps:Rat)) (h:∀ f,dt f qs=c * dt f ps) (h0:0 < wsm ps):bI qs=bI ps:=by
 have w0:(wsm ps:Rat)≠0:=by have:(0:Rat) < (wsm ps:Rat):=Rat.intCast_pos.mpr h0; grind
 have key:∀ f,mn f qs=mn f ps:=fun f=>by
   unfold mn;rw [hw,h f];have e:dt f ps / (wsm ps:Rat) * (wsm ps:Rat)=dt f ps:=Rat.div_mul_cancel w0;generalize dt f ps / (wsm ps:Rat)=u at *;rw [←e,show c * (u * (wsm ps:Rat))=u * (c * (wsm ps:Rat)) by grind];exact Rat.mul_div_cancel (by intro z; rcases Rat.mul_eq_zero.mp z with z | z <;> contradiction)
 unfold bI;rw [key,key,key]
theorem pM {ps qs:List PR} (hw:wsm qs=wsm ps) (h:∀ f,dt f qs=dt f ps) (h0:0 < wsm ps):bI qs=bI ps:=KZ (c:=1) (by decide) (by rw [hw]; grind) (fun f=>by rw [h f]; grind) h0
theorem aHr (ps:List PR):sdv (dt3 ps) (wsm ps)=bI ps:=rfl
theorem DA (f:R3→Rat) (m:Int):∀ ps:List PR,dt f (ps.map fun p=>(p.1,p.2 * m))=(m:Rat) * dt f ps
 | []=>by simp only [List.map_nil,dt]; grind
 | p :: r=>by simp only [List.map_cons,dt,DA f m r,Rat.intCast_mul]; grind
theorem rQ (m:Int):∀ ps:List PR,wsm (ps.map fun p=>(p.1,p.2 * m))=m * wsm ps
 | []=>by simp only [List.map_nil,wsm]; omega
 | p :: r=>by simp only [List.map_cons,wsm,rQ m r]; grind
theorem BP {α β:Type} (f:α→β):∀ xs:List α,ev2 (xs.map f)=(ev2 xs).map f
 | []=>rfl
 | [_]=>rfl
 | x :: y :: r=>by simp only [List.map_cons,ev2,BP f r]
theorem xY:∀ ps:List PR,(ev2 ps ++ ev2 (ps.drop 1)).Perm ps
 | []=>.nil
 | [x]=>by simp [ev2]
 | x :: y :: r=>by
   have ih:=xY r;simp only [ev2,List.drop_succ_cons,List.drop_zero];have e:ev2 (y :: r)=y :: ev2 (r.drop 1):=by cases r <;> rfl
   rw [e,List.cons_append];refine .cons x (.trans List.perm_middle (.cons y ih))
theorem lQ:∀ {ps:List PR},LOk ps→0≤wsm ps∧wsm ps≤1000 * (ps.length:Int)∧(ps≠ []→0 < wsm ps)
 | [],_=>⟨by simp [wsm],by simp [wsm],fun h=>absurd rfl h⟩
 | p :: r,h=>by
   have h1:=h p (wDq ..);obtain ⟨a,b,c⟩:=lQ (ps:=r) fun x hx=>h x (wCq _ hx);simp only [wsm,List.length_cons];exact ⟨by omega,by omega,fun _=>by omega⟩
theorem LOk.sub {ps qs:List PR} (h:LOk ps) (s:∀ x∈qs,x∈ps):LOk qs:=fun x hx=>h x (s x hx)
theorem LOk.pok {ps:List PR} (h:LOk ps) (h1:1≤ps.length) (h2:ps.length≤9):POk ps :=
 ⟨h1,h2,fun p hp=>(h p hp).1.ok,fun p hp=>by have:=h p hp; omega,(lQ h).2.2 (fun e=>by subst e; simp at h1)⟩
theorem POk.perm {ps qs:List PR} (h:POk ps) (e:qs.Perm ps):POk qs:=by
 obtain ⟨h1,h2,h3,h4,h5⟩:=h;exact ⟨by rw [e.length_eq]; exact h1,by rw [e.length_eq]; exact h2,fun p hp=>h3 p (e.mem_iff.mp hp),fun p hp=>h4 p (e.mem_iff.mp hp),by rw [oI e]; exact h5⟩
theorem yW {b:Nat} (f:R3→Rat) {ps:List PR} (h:∀ p∈ps,Bd b (f p.1)) (hw:aAd ps):Bd ((b + 22) * ps.length + 2) (dt f ps):=by
 rw [←CN];have:=IO (xs:=(ps.map (·.1)).map f) (ws:=ps.map (·.2)) (b:=b) (fun x hx=>?_) (fun w hx=>?_)
 · simpa using this
 · simp only [List.map_map,List.mem_map,Function.comp] at hx;obtain ⟨p,hp,rfl⟩:=hx;exact h p hp
 · obtain ⟨p,hp,rfl⟩:=List.mem_map.mp hx;exact hw p hp
theorem wC {ps:List PR} (h:LOk ps) (h2:ps.length≤9):Bd3 400 (dt3 ps):=by
 have hw:aAd ps:=fun p hp=>by have:=h p hp; omega
 exact ⟨(yW (b:=12) _ (fun p hp=>(h p hp).1.1.2) hw).mono (by omega),(yW (b:=12) _ (fun p hp=>(h p hp).1.2.1.2) hw).mono (by omega),(yW (b:=12) _ (fun p hp=>(h p hp).1.2.2.2) hw).mono (by omega)⟩
theorem lS {ps:List PR} (h:POk ps):In3 (bI ps)∧Bd3 8900 (bI ps):=by
 rw [←BX];exact ⟨h.mx.in3,h.mx.bd3⟩
theorem LB {ps:List PR} (h:LOk ps) (h1:1≤ps.length) (h2:ps.length≤9):Ok3 (bI ps):=by
 have p:=h.pok h1 h2;obtain ⟨⟨i1,i2,i3⟩,_⟩:=lS p;have hw:aAd ps:=p.2.2.2.1;have hs:=lQ h;have bs:Bd 20 (wsm ps:Rat):=Bd.int (by unfold Sm; omega) (by decide);have w0:(wsm ps:Rat)≠0:=by have:(0:Rat) < (wsm ps:Rat):=Rat.intCast_pos.mpr p.2.2.2.2; grind
 exact ⟨⟨i1,(yW (b:=12) _ (fun p hp=>(h p hp).1.1.2) hw).dv bs w0 (by omega)⟩,⟨i2,(yW (b:=12) _ (fun p hp=>(h p hp).1.2.1.2) hw).dv bs w0 (by omega)⟩,i3,(yW (b:=12) _ (fun p hp=>(h p hp).1.2.2.2) hw).dv bs w0 (by omega)⟩
local macro_rules | `(tactic| walk_at "rd") => wk (wqB++" List.map_cons List.map_nil false_or vS oE lH wE")
section
variable {T:Tb}
theorem yU:∀ ns:List Int,IK (ns.map PV.int)=some ns.sum
 | []=>rfl
 | n :: r=>by simp only [List.map_cons,IK,yU r,List.sum_cons,Option.map_some]
noncomputable def prS:CE:=.cmpr false (.gt 2 (.cons (.gn 1) (.cons (.gn 2) .nil))) (.isq (.var 0)) .nil (.var 1) [none,none,none]
noncomputable def prW:CE:=.cmpr false (.gt 2 (.cons (.gn 1) (.cons (.gn 2) .nil))) (.isq (.var 0)) .nil (.var 2) [none,none,none]
theorem aIr {ps:List PR} {σ:PSt} {G:Gh} {Q:PK1} (h9:ps.length≤9) (hq:Q (.lst ((ps.map (·.1)).map shV)) G):wpE T prS (some (.lst (ps.map aQ)) :: σ) G Q:=by
 unfold prS;walk_at "rd"
 refine ⟨by rw [List.length_map]; exact szN (by omega), ?_⟩;refine cN aQ (fun l σ G' acc=>G'=G∧(∃ u v w,σ=[u,v,w])∧∃ l0,ps=l0 ++ l∧acc=(l0.map (·.1)).map shV) (fun _ _ _ _ _=>trivial) ?_ ?_ ps _ _ _ ⟨rfl,⟨_,_,_,rfl⟩,[],rfl,rfl⟩
 · rintro x r σ G' acc R ⟨rfl,⟨u,v,w,rfl⟩,l0,e1,e2⟩ hR;unfold aQ;walk_at "rd"
   refine hR _ _ _ ⟨rfl,⟨_,_,_,rfl⟩,l0 ++ [x],by rw [e1,List.append_assoc]; rfl, ?_⟩;rw [e2,List.map_append,List.map_append]; rfl
 · rintro σ G' acc ⟨rfl,_,l0,e1,e2⟩;rw [List.append_nil] at e1;subst e1 e2;exact hq
theorem aCP {ps:List PR} {σ:PSt} {G:Gh} {Q:PK1} (h9:ps.length≤9) (hq:Q (.lst ((ps.map (·.2)).map PV.int)) G):wpE T prW (some (.lst (ps.map aQ)) :: σ) G Q:=by
 unfold prW;walk_at "rd"
 refine ⟨by rw [List.length_map]; exact szN (by omega), ?_⟩;refine cN aQ (fun l σ G' acc=>G'=G∧(∃ u v w,σ=[u,v,w])∧∃ l0,ps=l0 ++ l∧acc=(l0.map (·.2)).map PV.int) (fun _ _ _ _ _=>trivial) ?_ ?_ ps _ _ _ ⟨rfl,⟨_,_,_,rfl⟩,[],rfl,rfl⟩
 · rintro x r σ G' acc R ⟨rfl,⟨u,v,w,rfl⟩,l0,e1,e2⟩ hR;unfold aQ;walk_at "rd"
   refine hR _ _ _ ⟨rfl,⟨_,_,_,rfl⟩,l0 ++ [x],by rw [e1,List.append_assoc]; rfl, ?_⟩;rw [e2,List.map_append,List.map_append]; rfl
 · rintro σ G' acc ⟨rfl,_,l0,e1,e2⟩;rw [List.append_nil] at e1;subst e1 e2;exact hq
noncomputable def jA:CS:=(.ret (.blt .sum (.cons prW .nil)))
theorem NZ:∀ xs G Q,MP xs G Q→wpS T jA (aT Q) (aF 1 xs) G:=by
 rintro xs G Q ⟨ps,rfl,h9,hq⟩;unfold jA;walk_at "rd"
 refine aCP h9 ?_;rw [←AJ] at hq;exact .inl ⟨_,_,rfl,yU _,Wk.here hq⟩
noncomputable def mT:CS:=(.ret (.cal "mix" (.cons (.blt .tuple (.cons prS .nil)) (.cons (.blt .tuple (.cons prW .nil)) .nil))))
theorem aA2 (k:L14 T):∀ xs G Q,zP xs G Q→wpS T mT (aT Q) (aF 1 xs) G:=by
 rintro xs G Q ⟨ps,rfl,ok,hq⟩;unfold mT;have:=k.mix;walk_at "rd"
 refine aIr ok.2.1 ?_;walk_at "rd"
 refine aCP ok.2.1 ?_;walk_at "rd"
 refine ⟨ps.map (·.1),ps.map (·.2),_,rfl,rfl,ok.mx,Wk.here ?_⟩;rw [BX]; exact hq
theorem oW {α β:Type} (f:α→β):∀ (xs:List α) (i:Nat),(xs.map f).eraseIdx i=(xs.eraseIdx i).map f
 | [],_=>rfl
 | _ :: _,0=>rfl
 | x :: r,i + 1=>by simp only [List.map_cons,List.eraseIdx_cons_succ,oW f r i]
theorem wQ {α:Type}:∀ {xs:List α} {i:Nat} (h:i < xs.length),([xs[i]] ++ xs.eraseIdx i).Perm xs
 | x :: r,0,h=>.refl _
 | x :: r,i + 1,h=>by
   have ih:=wQ (xs:=r) (i:=i) (by simpa using h);simp only [List.getElem_cons_succ,List.eraseIdx_cons_succ,List.cons_append,List.nil_append] at ih ⊢;exact .trans (.swap ..) (.cons x ih)
noncomputable def gZ:CS:=(.seq (.par 2 3 (.lco (.var 1)) (.lst true .nil))
 (.seq (.fr (.gn 4) (.irg (.cons (.blt .len (.cons (.var 1) .nil)) .nil)) (.ex (.app (.var 3) (.pop (.var 2) (.cal "_law_pick" (.cons (.var 0) (.cons (.blt .len (.cons (.var 2) .nil)) .nil)))))))
 (.ret (.var 3))))
theorem HL (lt:LT T):∀ xs G Q,AX xs G Q→wpS T gZ (aT Q) (aF 5 xs) G:=by
 rintro xs G Q ⟨p,ps,rfl,hp,h9,hq⟩;unfold gZ;have:=lt.pick;have:=@LH;walk_at "rd"
 refine fun a ha=>⟨by decide,fun b hb=>⟨by rw [List.length_map]; omega,by rw [List.length_map]; omega, ?_⟩⟩;have hab:b≠a:=fun e=>by subst e; rw [aD] at hb; cases hb
 have hb':G b=none:=by rw [cC hab] at hb; exact hb
 have hap:a≠p:=hp.ne ha;have hbp:b≠p:=hp.ne hb';unfold rW;refine fU (fun i:Nat=>PV.int (0 + (i:Int))) (fun l σ K=>∃ ls fs u,σ=[some (.ref p),some (.lst (ps.map aQ)),some (.ref a),some (.ref b),u]∧Pk p G K∧K a=some (.lst (ls.map aQ))∧K b=some (.lst (fs.map aQ))∧(fs ++ ls).Perm ps∧ls.length=l.length) (fun _ _ _ _=>trivial) ?_ ?_ _ _ _
   ⟨ps,[],_,rfl,((Pk.of (Pn.self hp)).new ha).new hb,by rw [cC (Ne.symm hab),aD],aD,by simp,by simp⟩
 · rintro i l σ K R ⟨ls,fs,u,rfl,pk,ga,gb,pm,hl⟩ hR;have la:=cP ga;have lb:=cP gb;have hl9:fs.length + ls.length≤9:=by have:=pm.length_eq; rw [List.length_append] at this; omega
   walk_at "rd"
   refine CM ga ?_;walk_at "rd"
   simp only [List.length_cons] at hl;have lm:(ls.map aQ).length=ls.length:=List.length_map ..;refine ⟨pk.pu,by omega,smP (by omega) (by omega),fun r K1 c1 c2 m1=>?_⟩;obtain ⟨j,rfl⟩:=Int.eq_ofNat_of_zero_le c1;have hj:j < ls.length:=by omega
   have ga1:K1 a=some (.lst (ls.map aQ)):=by rw [m1.ne hap]; exact ga
   have gb1:K1 b=some (.lst (fs.map aQ)):=by rw [m1.ne hbp]; exact gb
   refine ⟨_,ga1,c1,by omega,j,rfl,aQ ls[j], ?_, ?_⟩
   · rw [List.getElem?_map,wHq hj]; rfl
   refine ⟨_,by rw [cC hab]; exact gb1,by rw [List.length_map]; exact Nat.lt_of_le_of_lt (show fs.length≤9 by omega) (by decide),hR _ _ ⟨ls.eraseIdx j,fs ++ [ls[j]],_,rfl,((pk.pick m1).set ha hap).set hb' hbp, ?_, ?_, ?_, ?_⟩⟩
   · rw [cC (Ne.symm hab),aD,oW]
   · rw [aD,List.map_append]; rfl
   · rw [List.append_assoc];exact .trans (.append_left _ (wQ hj)) pm
   · rw [List.length_eraseIdx,if_pos hj]; omega
 · rintro σ K ⟨ls,fs,u,rfl,⟨G2,x,y⟩,ga,gb,pm,hl⟩;have:ls=[]:=List.eq_nil_of_length_eq_zero (by simpa using hl);subst this;rw [List.append_nil] at pm;walk_at "rd"
   exact Wk.frz gb (hq fs G2 pm x) y (by rw [x.ne hbp]; exact hb')
noncomputable def jF:CS:=(.seq (.asg (.gn 1) (.cak "Blend" .nil .nil []))
 (.seq (.fr (.gt 2 (.cons (.gn 2) (.cons (.gn 3) .nil))) (.isq (.var 0)) (.ex (.met "put" [("Blend","Blend.put",[.arg 0,.arg 1])] (.var 1) (.cons (.var 2) (.cons (.var 3) .nil)))))
 (.ret (.var 1))))
theorem QB (k:L14 T):∀ xs G Q,MF xs G Q→wpS T jF (aT Q) (aF 4 xs) G:=by
 rintro xs G Q ⟨ps,rfl,h9,ok,hq⟩;unfold jF;have:=k.blend;have:=k.put;walk_at "rd"
 refine ⟨rfl,fun b hb=>?_⟩;refine fU aQ (fun l σ K=>∃ l0 x u v,σ=[x,some (.ref b),u,v]∧ps=l0 ++ l∧K=gup G b (BG (l0.length:Int) (wsm l0) (dt3 l0))) (fun _ _ _ _=>trivial) ?_ ?_ ps _ _ ⟨[],_,_,_,rfl,rfl,rfl⟩
 · rintro ⟨r,w⟩ l σ K R ⟨l0,x,u,v,rfl,e,rfl⟩ hR;have hm:(r,w)∈ps:=by rw [e]; exact List.mem_append_right _ (wDq ..)
   obtain ⟨o1,o2,o3⟩:=ok _ hm;have ok0:LOk l0:=ok.sub fun x hx=>by rw [e]; exact List.mem_append_left _ hx
   have hl:l0.length≤9:=by have:=congrArg List.length e; rw [List.length_append] at this; omega
   unfold aQ;walk_at "rd"
   refine ⟨"Blend","Blend.put",[.arg 0,.arg 1],List.mem_singleton.mpr rfl,BN,_,aD,by decide, ?_⟩;rw [this];refine ⟨b,r,w,(l0.length:Int),wsm l0,dt3 l0,rfl,aD,o2,by omega,⟨o1.1.2.mono (by decide),o1.2.1.2.mono (by decide),o1.2.2.2.mono (by decide)⟩,wC ok0 hl, ?_⟩;refine hR _ _ ⟨l0 ++ [(r,w)],_,_,_,rfl,by rw [e,List.append_assoc]; rfl, ?_⟩;rw [dP,vX,bW,List.length_append];have e1:dt3 [(r,w)]=aBF w r:=by unfold dt3 aBF; simp only [dt]; congr 1 <;> first | grind | (congr 1 <;> grind)
   have e2:wsm [(r,w)]=w:=by simp [wsm]
   rw [e1,e2];rfl
 · rintro σ K ⟨l0,x,u,v,rfl,e,rfl⟩;rw [List.append_nil] at e;subst e;walk_at "rd"
   refine Wk.frzI aD (G2:=G) hq (fun a o e=>?_) hb;rw [cC (fun e'=>by subst e'; rw [hb] at e; cases e)]; exact e
end
theorem AF {α:Type} {f:α→PV} {ps:List α} {i:Nat}:lW (ps.map f) none (some (i:Int))=(ps.take i).map f:=by
 unfold lW;rw [HT.EE,HT.tQ,List.drop_zero,Nat.sub_zero,List.length_map,List.map_take];by_cases h:i≤ps.length
 · rw [Nat.min_eq_left h]
 · rw [Nat.min_eq_right (by omega),List.take_of_length_le (by simp),List.take_of_length_le (by simp; omega)]
theorem GQ {α:Type} {f:α→PV} {ps:List α} {i:Nat} (h:i≤ps.length):lW (ps.map f) (some (i:Int)) none=(ps.drop i).map f:=by
 unfold lW;rw [HT.EE,HT.tQ,List.length_map,Nat.min_eq_left h,List.map_drop,List.take_of_length_le (by simp)]
theorem aEx {α:Type} {f:α→PV} {ps:List α} {i:Nat} (h:i + 1≤ps.length):lW (ps.map f) (some (i:Int)) (some ((i:Int) + 1))=((ps.drop i).take 1).map f:=by
 unfold lW;rw [show ((i:Int) + 1)=((i + 1:Nat):Int) by omega,HT.tQ,HT.tQ,List.length_map,Nat.min_eq_left h,Nat.min_eq_left (by omega),List.map_take,List.map_drop,show i + 1 - i=1 by omega]
theorem CQ {ps qs:List PR} (h:ps.Perm qs):blP ps=blP qs:=by unfold blP; rw [h.length_eq,oI h,WW h]
section
variable {T:Tb} {G:Gh} {Q:PK1}
theorem OU {A B ps:List PR} (hp:(A ++ B).Perm ps) (ok:LOk ps) (h9:ps.length≤9) (q:Q (blP ps) G):iO [blP A,blP B] G Q:=by
 have oA:LOk A:=ok.sub fun x hx=>hp.mem_iff.mp (List.mem_append_left _ hx);have oB:LOk B:=ok.sub fun x hx=>hp.mem_iff.mp (List.mem_append_right _ hx);have hl:=hp.length_eq;rw [List.length_append] at hl;refine ⟨blP A,(A.length:Int),wsm A,dt3 A,(B.length:Int),wsm B,dt3 B,rfl,.inl rfl,wC oA (by omega),wC oB (by omega), ?_⟩;have e:blP ps=BO ((A.length:Int) + (B.length:Int)) (wsm A + wsm B) (AT (dt3 A) (dt3 B)):=by
   rw [←CQ hp]; unfold blP; rw [List.length_append,bW,vX,Int.natCast_add]
 rw [←e]; exact q
theorem aJC {b:Addr} {ps:List PR} (ok:LOk ps) (h9:ps.length≤9) (q:Q (blP ps) (gup G b (BG 0 0 z3))):iO [.ref b,blP ps] (gup G b (BG 0 0 z3)) Q:=by
 refine ⟨.ref b,0,0,z3,(ps.length:Int),wsm ps,dt3 ps,rfl,.inr ⟨b,rfl,aD⟩,⟨bd0.mono (by decide),bd0.mono (by decide),bd0.mono (by decide)⟩,wC ok h9, ?_⟩;have e:blP ps=BO (0 + (ps.length:Int)) (0 + wsm ps) (AT z3 (dt3 ps)):=by
   unfold blP AT z3;rw [Int.zero_add,Int.zero_add]
   congr 1
   unfold dt3;simp only
   congr 1
   · grind
   · congr 1 <;> grind
 rw [←e]; exact q
theorem aJf {ps:List PR} (ok:LOk ps) (h1:1≤ps.length) (h9:ps.length≤9) (q:Q (shV (bI ps)) G):DI [blP ps] G Q:=by
 have hs:=lQ ok;have h0:=hs.2.2 (fun e=>by subst e; simp at h1);exact ⟨(ps.length:Int),wsm ps,dt3 ps,rfl,by omega,h0,Sm.mono (show Sm 20 (wsm ps) by unfold Sm; omega) (by decide),wC ok h9,(lS (ok.pok h1 h9)).1,q⟩
theorem aCZ (k:L14 T) {ps:List PR} (q:Q (.bl false) G):QF T [("Blend","Blend.__eq__")] (blP ps) (blP ps) G Q:=by
 refine .inl ⟨"Blend","Blend.__eq__",BN,_,BN,_,List.mem_singleton.mpr rfl,rfl,rfl, ?_⟩;rw [k.beq];exact ⟨_,_,_,_,rfl,true,rfl,q⟩
theorem XH {eqs:List (String×Str)} {i j:Int} (e:i=j) (q:Q (.bl false) G):QF T eqs (.int i) (.int j) G Q:=by
 subst e;refine .inr ?_;rw [oU];simpa using q
theorem aEk {eqs:List (String×Str)} {r:R3} (q:Q (.bl false) G):QF T eqs (aP r) (aP r) G Q:=by
 refine .inr ?_;unfold aP;rw [MI];simpa using q
theorem aCe (k:L14 T) {ps:List PR} (h:ps.length≤9) (q:Q (.int (ps.length:Int)) G):WD T .len [("Blend","Blend.__len__")] [blP ps] G Q:=by
 refine .inl ⟨"Blend","Blend.__len__",BN,_,List.mem_singleton.mpr rfl,rfl, ?_⟩;rw [k.blen];exact ⟨(ps.length:Int),_,_,rfl,by omega,by omega,_,rfl,by omega,by omega,q⟩
theorem aCj {ls:List (String×Str)} {xs:List PV} (q:Q (.int (xs.length:Int)) G):WD T .len ls [.lst xs] G Q:=.inr (by rw [vS]; exact q)
theorem nX {m:Str} {ky:Str} {ar:List Ar} {ps:List PR} {R:Str→List Ar→Prop} (hm:m∉ BN) (r:R ky ar) :
   ∃ c k a,(c,k,a)∈ [(("Blend":String),ky,ar)]∧∃ x x1,(blP ps= .ob c x x1∨∃ p,blP ps= .ref p∧G p=some (.ins c x x1))∧¬m∈x∧R k a :=
 ⟨"Blend",ky,ar,List.mem_singleton.mpr rfl,BN,_,.inl rfl,hm,r⟩
theorem aI3 {m:Str} {ky:Str} {ar:List Ar} {b:Addr} {R:Str→List Ar→Prop} (hm:m∉ BN) (r:R ky ar) :
   ∃ c k a,(c,k,a)∈ [(("Blend":String),ky,ar)]∧∃ x x1,gup G b (BG 0 0 z3) b=some (.ins c x x1)∧¬m∈x∧R k a :=
 ⟨"Blend",ky,ar,List.mem_singleton.mpr rfl,BN,_,aD,hm,r⟩
end
theorem nj:("joined":Str)∉ BN:=by decide
theorem nt:("total":Str)∉ BN:=by decide
theorem ns:("shade":Str)∉ BN:=by decide
local macro_rules | `(tactic| walk_at "rd") => wk (wqB++" false_or nK DL pD at0 av0 DZ")
section
variable {T:Tb}
noncomputable def jn (a b:CE):CE:=.met "joined" [("Blend","Blend.joined",[.arg 0])] a (.cons b .nil)
noncomputable def aDs:CS:=(.seq (.iff (.oo (.tsb (.cne [("Blend","Blend.__eq__")] (.var 8) (.idx (.var 7) (.int 0)))) (.oo (.tsb (.cne [("Blend","Blend.__eq__")] (.idx (.var 7) (.int 0)) (.var 8))) (.tsb (.cne [("Blend","Blend.__eq__")] (.bow .len [("Blend","Blend.__len__")] (.cons (.var 8) .nil)) (.bow .len [("Blend","Blend.__len__")] (.cons (.var 1) .nil)))))) (.ret (.bl false)) .nil)
 (.seq (.iff (.tsb (.cne [("Blend","Blend.__eq__")] (.met "total" [("Blend","Blend.total",[])] (.var 8) .nil) (.cal "_law_total" (.cons (.var 1) .nil)))) (.ret (.bl false)) .nil)
 (.iff (.tsb (.cne [("Blend","Blend.__eq__")] (.cal "_law_got" (.cons (.met "shade" [("Blend","Blend.shade",[])] (.var 8) .nil) .nil)) (.var 2))) (.ret (.bl false)) .nil)))
theorem aGh (k:L14 T) {D:iG} {ps:List PR} {a d e f g:Option PV} {vs:List PV} {K:Gh} (ok:LOk ps) (h1:1≤ps.length) (h9:ps.length≤9)
   (hD:D.nx [a,some (.lst (ps.map aQ)),some (aP (bI ps)),d,e,f,g,some (.lst (blP ps :: vs)),some (blP ps)] K) :
   wpS T aDs D [a,some (.lst (ps.map aQ)),some (aP (bI ps)),d,e,f,g,some (.lst (blP ps :: vs)),some (blP ps)] K:=by
 unfold aDs;have:=k.total;have:=k.bshade;have:=k.ltot;have:=k.got;walk_at "rd"
 refine aCZ k ?_;walk_at "rd"
 refine aCZ k ?_;walk_at "rd"
 refine aCe k h9 (aCj (XH (by rw [List.length_map]) ?_));walk_at "rd"
 refine nX nt ?_;walk_at "rd"
 refine ⟨_,_,_,rfl,⟨ps,rfl,h9,XH rfl ?_⟩⟩;walk_at "rd"
 refine nX ns ?_;walk_at "rd"
 obtain ⟨_,b1,b2,b3⟩:=lS (ok.pok h1 h9);refine aJf ok h1 h9 ⟨bI ps,rfl,b1,b2,b3,aEk ?_⟩;walk_at "rd"
noncomputable def br4:CS:=(.seq (.fr (.gn 8) (.isq (.var 7)) aDs)
 (.ret (.an (.cmp .Eq (.bow .len [("Blend","Blend.__len__")] (.cons (.var 4) .nil)) (.var 3)) (.cmp .Eq (.met "total" [("Blend","Blend.total",[])] (.var 4) .nil) (.cal "_law_total" (.cons (.sli (.var 1) .nil (.tst (.var 3))) .nil))))))
theorem aIy (k:L14 T) {ps:List PR} {i:Nat} {a f g h:Option PV} {K:Gh} {R:PK1} (ok:LOk ps) (h1:1≤ps.length) (h9:ps.length≤9) (hi:i≤ps.length) (hq:Wk R (.bl true) K) :
   wpS T br4 (aT R) [a,some (.lst (ps.map aQ)),some (aP (bI ps)),some (.int (i:Int)),some (blP (ps.take i)),f,g,some (.lst [blP ps,blP ps,blP ps,blP ps,blP ps,blP ps]),h] K:=by
 unfold br4;walk_at "rd"
 refine fU (fun _:Unit=>blP ps) (fun l σ K'=>K'=K∧∃ u,σ=[a,some (.lst (ps.map aQ)),some (aP (bI ps)),some (.int (i:Int)),some (blP (ps.take i)),f,g,some (.lst [blP ps,blP ps,blP ps,blP ps,blP ps,blP ps]),u]) (fun _ _ _ _=>trivial) ?_ ?_ [(),(),(),(),(),()] _ _ ⟨rfl,_,rfl⟩
 · rintro _ l σ K' R' ⟨rfl,u,rfl⟩ hR;walk_at "rd"
   exact aGh k ok h1 h9 (hR _ _ ⟨rfl,_,rfl⟩)
 · rintro σ K' ⟨rfl,u,rfl⟩;have ht:(ps.take i).length=i:=by rw [List.length_take]; omega
   have:=k.total;have:=k.ltot;walk_at "rd"
   refine aCe k (by omega) ?_;walk_at "rd"
   refine nX nt ?_;rw [AF];walk_at "rd"
   refine ⟨_,_,_,rfl,⟨ps.take i,rfl,by omega, ?_⟩⟩;walk_at "rd"
noncomputable def br3:CS:=(.seq (.asg (.gn 7) (.bin .Add (.var 7) (.lst false (.cons (.cal "_law_blend" (.cons (.cal "_law_turned" (.cons (.var 0) (.cons (.var 1) .nil))) .nil)) (.cons (jn (.cak "Blend" .nil .nil []) (.cal "_law_blend" (.cons (.var 1) .nil))) .nil))))) br4)
theorem aI0 (k:L14 T) {ps:List PR} {i:Nat} {p:Addr} {f g h:Option PV} {K:Gh} {R:PK1} (hp:Pu p K) (ok:LOk ps) (h1:1≤ps.length) (h9:ps.length≤9) (hi:i≤ps.length) (hq:∀ K',Pk p K K'→Wk R (.bl true) K') :
   wpS T br3 (aT R) [some (.ref p),some (.lst (ps.map aQ)),some (aP (bI ps)),some (.int (i:Int)),some (blP (ps.take i)),f,g,some (.lst [blP ps,blP ps,blP ps,blP ps]),h] K:=by
 unfold br3 jn;have:=k.lblend;have:=k.lturn;have:=k.blend;have:=k.joined;walk_at "rd"
 refine ⟨p,ps,rfl,hp,h9,fun qs K1 pm m1=>⟨qs,rfl,by rw [pm.length_eq]; exact h9,ok.sub fun x hx=>pm.mem_iff.mp hx, ?_⟩⟩;rw [CQ pm];walk_at "rd"
 refine ⟨rfl,fun b hb=>?_⟩;walk_at "rd"
 refine aI3 nj ?_;walk_at "rd"
 refine ⟨ps,rfl,h9,ok, ?_⟩;walk_at "rd"
 refine aJC ok h9 ?_;refine ⟨by decide, ?_⟩;exact aIy k ok h1 h9 hi (hq _ ((Pk.of m1).new hb))
noncomputable def br2:CS:=(.seq (.asg (.gn 7) (.lst false (.cons (jn (jn (.var 4) (.var 6)) (.var 5)) (.cons (jn (.var 4) (jn (.var 6) (.var 5))) .nil))))
 (.seq (.asg (.gn 7) (.bin .Add (.var 7) (.lst false (.cons (jn (jn (.var 5) (.var 4)) (.var 6)) (.cons (.cal "_law_blend" (.cons (.var 1) .nil)) .nil))))) br3))
theorem aH2 (k:L14 T) {ps:List PR} {i:Nat} {p:Addr} {h h':Option PV} {K:Gh} {R:PK1} (hp:Pu p K) (ok:LOk ps) (h9:ps.length≤9) (hi:i + 1≤ps.length) (hq:∀ K',Pk p K K'→Wk R (.bl true) K') :
   wpS T br2 (aT R) [some (.ref p),some (.lst (ps.map aQ)),some (aP (bI ps)),some (.int (i:Int)),some (blP (ps.take i)),some (blP (ps.drop (i + 1))),some (blP ((ps.drop i).take 1)),h,h'] K:=by
 unfold br2 jn;have:=k.lblend;have:=k.joined;have e0:ps=ps.take i ++ ((ps.drop i).take 1 ++ ps.drop (i + 1)):=by
   rw [←List.drop_drop,List.take_append_drop,List.take_append_drop]
 have l3:=congrArg List.length e0;simp only [List.length_append] at l3;have fin:=@aI0 T k ps i p (some (blP (ps.drop (i + 1)))) (some (blP ((ps.drop i).take 1))) h' K R hp ok (by omega) h9 (by omega) hq;generalize ps.take i=A at *;generalize (ps.drop i).take 1=B at *;generalize ps.drop (i + 1)=C at *;subst e0;have oAB:LOk (A ++ B):=ok.sub fun x hx=>by rw [←List.append_assoc]; exact List.mem_append_left _ hx
 have oBC:LOk (B ++ C):=ok.sub fun x hx=>List.mem_append_right _ hx;have oCA:LOk (C ++ A):=ok.sub fun x hx=>by
   rcases List.mem_append.mp hx with hx | hx
   · exact List.mem_append_right _ (List.mem_append_right _ hx)
   · exact List.mem_append_left _ hx
 walk_at "rd"
 refine nX nj ?_;walk_at "rd"
 refine OU (ps:=A ++ B) (.refl _) oAB (by rw [List.length_append]; omega) (nX nj ?_);walk_at "rd"
 refine OU (ps:=A ++ (B ++ C)) (by rw [List.append_assoc]) ok h9 (nX nj ?_);walk_at "rd"
 refine nX nj ?_;walk_at "rd"
 refine OU (ps:=B ++ C) (.refl _) oBC (by rw [List.length_append]; omega) ?_;refine OU (ps:=A ++ (B ++ C)) (.refl _) ok h9 ?_;refine nX nj ?_;walk_at "rd"
 refine OU (ps:=C ++ A) (.refl _) oCA (by rw [List.length_append]; omega) (nX nj ?_);walk_at "rd"
 refine OU (ps:=A ++ (B ++ C)) (by rw [List.append_assoc]; exact .trans List.perm_append_comm (by rw [List.append_assoc])) ok h9 ?_;refine ⟨A ++ (B ++ C),rfl,h9,ok, ?_⟩;exact ⟨by decide,fin⟩
noncomputable def br1:CS:=(.seq (.par 4 5 (.cal "_law_blend" (.cons (.sli (.var 1) .nil (.tst (.var 3))) .nil)) (.cal "_law_blend" (.cons (.sli (.var 1) (.tst (.bin .Add (.var 3) (.int 1))) .nil) .nil)))
 (.seq (.asg (.gn 6) (.cal "_law_blend" (.cons (.sli (.var 1) (.tst (.var 3)) (.tst (.bin .Add (.var 3) (.int 1)))) .nil))) br2))
noncomputable def dI:CS:=(.seq (.asg (.gn 3) (.bin .Add (.int 1) (.cal "_law_pick" (.cons (.var 0) (.cons (.bin .Sub (.bow .len [("Blend","Blend.__len__")] (.cons (.var 1) .nil)) (.int 2)) .nil))))) br1)
theorem aHM (k:L14 T) {ps:List PR} {i:Nat} {p:Addr} {a b c h h':Option PV} {K:Gh} {R:PK1} (hp:Pu p K) (ok:LOk ps) (h9:ps.length≤9) (hi:i + 1≤ps.length) (hq:∀ K',Pk p K K'→Wk R (.bl true) K') :
   wpS T br1 (aT R) [some (.ref p),some (.lst (ps.map aQ)),some (aP (bI ps)),some (.int (i:Int)),a,b,c,h,h'] K:=by
 unfold br1;have:=k.lblend;walk_at "rd"
 rw [AF,aEx hi,show ((i:Int) + 1)=((i + 1:Nat):Int) by omega,GQ hi];refine ⟨_,rfl,by rw [List.length_take]; omega,ok.sub fun x hx=>List.mem_of_mem_take hx,⟨_,rfl,by rw [List.length_drop]; omega,ok.sub fun x hx=>List.mem_of_mem_drop hx,⟨_,rfl,by rw [List.length_take]; omega,ok.sub fun x hx=>List.mem_of_mem_drop (List.mem_of_mem_take hx), ?_⟩⟩⟩;exact aH2 k hp ok h9 hi hq
theorem pN (lt:LT T) (k:L14 T):∀ xs G Q,gW xs G Q→wpS T dI (aT Q) (aF 9 xs) G:=by
 rintro xs G Q ⟨p,ps,rfl,hp,h3,h7,ok,hq⟩;unfold dI;have:=lt.pick;walk_at "rd"
 refine aCj ?_;walk_at "rd"
 have lm:(ps.map aQ).length=ps.length:=List.length_map ..;refine ⟨by omega,smP (by omega) (by omega),fun r K c1 c2 m1=>?_⟩;obtain ⟨j,rfl⟩:=Int.eq_ofNat_of_zero_le c1;rw [show (1:Int) + (j:Int)=((j + 1:Nat):Int) by omega];have e:∀ {K1:Gh},Pk p K K1→Pk p G K1:=fun {K1} ⟨G2,x,y⟩=>⟨G2,m1.trans x,y⟩;exact aHM k m1.pu ok (by omega) (by omega) fun K1 pk=>(e pk).end_ hq
end
noncomputable def lsV (qs:List PR):PV:=.lst (qs.map aQ)
def Gd (ps qs:List PR):Prop:=POk qs∧bI qs=bI ps
section
variable {ps qs:List PR}
theorem MO (ok:POk ps) (h:qs.Perm ps):Gd ps qs:=⟨ok.perm h,pM (oI h) (fun f=>nY f h) ok.2.2.2.2⟩
theorem IE (f:R3→Rat) (r:R3) (w:Int):dt f [(r,w)]=f r * (w:Rat):=by simp only [dt]; grind
theorem tP (r:R3) (w:Int):wsm [(r,w)]=w:=by simp [wsm]
theorem POk.app {r:R3} {w:Int} (ok:POk ps) (h8:ps.length≤8) (hr:Ok3 r) (h0:0≤w) (h1:w≤1000000):POk (ps ++ [(r,w)]):=by
 obtain ⟨a1,a2,a3,a4,a5⟩:=ok;refine ⟨by rw [List.length_append]; omega,by rw [List.length_append]; simp; omega,fun p hp=>?_,fun p hp=>?_,by rw [bW,tP]; omega⟩
 · rcases List.mem_append.mp hp with hp | hp
   · exact a3 p hp
   · rw [List.mem_singleton.mp hp]; exact hr
 · rcases List.mem_append.mp hp with hp | hp
   · exact a4 p hp
   · rw [List.mem_singleton.mp hp]; exact ⟨h0,h1⟩
theorem LA {r:R3} (ok:POk ps) (h8:ps.length≤8) (hr:Ok3 r):Gd ps (ps ++ [(r,0)]):=by
 refine ⟨ok.app h8 hr (by decide) (by decide),pM ?_ (fun f=>?_) ok.2.2.2.2⟩
 · rw [bW,tP]; omega
 · rw [cM,IE]; simp; grind
theorem XA {r:R3} (ok:POk ps) (h8:ps.length≤8) (hr:Ok3 r):Gd ps ([(r,0)] ++ ps):=by
 obtain ⟨a,b⟩:=LA ok h8 hr;obtain ⟨c,d⟩:=MO a (qs:=[(r,0)] ++ ps) List.perm_append_comm;exact ⟨c,d.trans b⟩
theorem VD {m:Int} (ok:LOk ps) (h1:1≤ps.length) (h9:ps.length≤9) (m1:1≤m) (m2:m≤1000):Gd ps (ps.map fun p=>(p.1,p.2 * m)):=by
 have pk:=ok.pok h1 h9;refine ⟨⟨by simpa using h1,by simpa using h9,fun p hp=>?_,fun p hp=>?_, ?_⟩,KZ (c:=(m:Rat)) ?_ ?_ (fun f=>DA f m ps) pk.2.2.2.2⟩
 · obtain ⟨q,hq,rfl⟩:=List.mem_map.mp hp; exact (ok q hq).1.ok
 · obtain ⟨q,hq,rfl⟩:=List.mem_map.mp hp;obtain ⟨_,b1,b2⟩:=ok q hq;have:=Int.mul_nonneg (show 0≤q.2 by omega) (show 0≤m by omega);have:=Int.mul_le_mul b2 m2 (by omega) (by decide);exact ⟨by assumption,by simpa using this⟩
 · rw [rQ]; exact Int.mul_pos (by omega) pk.2.2.2.2
 · have:(0:Rat) < (m:Rat):=Rat.intCast_pos.mpr (by omega)
   grind
 · rw [rQ,Rat.intCast_mul]
theorem WA {i:Nat} {r:R3} {w h:Int} (ok:LOk ps) (h8:ps.length≤8) (hi:i < ps.length) (e:ps[i]=(r,w)) (h0:0≤h) (h1:h≤w):Gd ps (ps.take i ++ [(r,h)] ++ ps.drop (i + 1) ++ [(r,w - h)]):=by
 have e0:ps=ps.take i ++ (r,w) :: ps.drop (i + 1):=by rw [←e,List.getElem_cons_drop,List.take_append_drop]
 have hm:(r,w)∈ps:=by rw [←e]; exact List.getElem_mem hi
 have pk:=ok.pok (by omega) (by omega);obtain ⟨o1,o2,o3⟩:=ok _ hm;have hw:wsm (ps.take i ++ [(r,h)] ++ ps.drop (i + 1) ++ [(r,w - h)])=wsm ps:=by
   conv=>rhs; rw [e0]
   rw [bW,bW,bW,bW,tP,tP];simp only [wsm]; omega
 refine ⟨⟨?_, ?_,fun p hp=>?_,fun p hp=>?_,by rw [hw]; exact pk.2.2.2.2⟩,pM hw (fun f=>?_) pk.2.2.2.2⟩
 · simp only [List.length_append,List.length_cons,List.length_nil]; omega
 · simp only [List.length_append,List.length_cons,List.length_nil,List.length_take,List.length_drop]; omega
 · rcases List.mem_append.mp hp with hp | hp
   · rcases List.mem_append.mp hp with hp | hp
     · rcases List.mem_append.mp hp with hp | hp
       · exact (ok p (List.mem_of_mem_take hp)).1.ok
       · rw [List.mem_singleton.mp hp]; exact o1.ok
     · exact (ok p (List.mem_of_mem_drop hp)).1.ok
   · rw [List.mem_singleton.mp hp]; exact o1.ok
 · rcases List.mem_append.mp hp with hp | hp
   · rcases List.mem_append.mp hp with hp | hp
     · rcases List.mem_append.mp hp with hp | hp
       · have:=ok p (List.mem_of_mem_take hp); omega
       · rw [List.mem_singleton.mp hp]; simp only; omega
     · have:=ok p (List.mem_of_mem_drop hp); omega
   · rw [List.mem_singleton.mp hp]; simp only at o2 o3 ⊢; omega
 · conv=>rhs; rw [e0]
   rw [cM,cM,cM,cM,IE,IE];simp only [dt,Rat.intCast_sub]; grind
theorem SJ {A B:List PR} (ok:LOk ps) (h9:ps.length≤9) (h:(A ++ B).Perm ps) (hA:A≠ []) (hB:B≠ []):Gd ps [(bI A,wsm A),(bI B,wsm B)]:=by
 have oA:LOk A:=ok.sub fun x hx=>h.mem_iff.mp (List.mem_append_left _ hx);have oB:LOk B:=ok.sub fun x hx=>h.mem_iff.mp (List.mem_append_right _ hx);have hl:=h.length_eq;rw [List.length_append] at hl;have lA:1≤A.length:=List.length_pos_iff.mpr hA;have lB:1≤B.length:=List.length_pos_iff.mpr hB;obtain ⟨a1,a2,a3⟩:=lQ oA;obtain ⟨b1,b2,b3⟩:=lQ oB;have a3:=a3 hA;have b3:=b3 hB;have key:∀ (f:R3→Rat) (C:List PR),0 < wsm C→mn f C * (wsm C:Rat)=dt f C:=fun f C h0=>by
   have:(0:Rat) < (wsm C:Rat):=Rat.intCast_pos.mpr h0;exact Rat.div_mul_cancel (by grind)
 have ws:wsm [(bI A,wsm A),(bI B,wsm B)]=wsm ps:=by
   rw [←oI h,bW]; simp only [wsm]; omega
 have pk:=ok.pok (by omega) h9;refine ⟨⟨by simp,by simp,fun p hp=>?_,fun p hp=>?_,by rw [ws]; exact pk.2.2.2.2⟩, ?_⟩
 · simp only [List.mem_cons,List.not_mem_nil,or_false] at hp;rcases hp with rfl | rfl
   · exact LB oA lA (by omega)
   · exact LB oB lB (by omega)
 · simp only [List.mem_cons,List.not_mem_nil,or_false] at hp;rcases hp with rfl | rfl <;> simp only <;> omega
 · have dd:∀ f:R3→Rat,dt f ps=dt f A + dt f B:=fun f=>by rw [←nY f h,cM]
   have one:∀ f:R3→Rat,f (bI A)=mn f A→f (bI B)=mn f B→mn f [(bI A,wsm A),(bI B,wsm B)]=mn f ps:=fun f fa fb=>by
     show dt f [(bI A,wsm A),(bI B,wsm B)] / (wsm [(bI A,wsm A),(bI B,wsm B)]:Rat)=dt f ps / (wsm ps:Rat);rw [ws,dd,←key f A a3,←key f B b3];simp only [dt,fa,fb]
     congr 1
     grind
   show (mn (·.1) [(bI A,wsm A),(bI B,wsm B)],mn (·.2.1) [(bI A,wsm A),(bI B,wsm B)],mn (·.2.2) [(bI A,wsm A),(bI B,wsm B)])=(mn (·.1) ps,mn (·.2.1) ps,mn (·.2.2) ps);rw [one _ rfl rfl,one _ rfl rfl,one _ rfl rfl]
theorem UN {r:R3} {w h:Int} (hw:0 < w) (h0:0≤h):bI [(r,w),(r,h)]=r:=by
 have:(0:Rat) < ((w + h:Int):Rat):=Rat.intCast_pos.mpr (by omega);have key:∀ f:R3→Rat,mn f [(r,w),(r,h)]=f r:=fun f=>by
   unfold mn;have e:dt f [(r,w),(r,h)]=f r * ((w + h:Int):Rat):=by simp only [dt,Rat.intCast_add]; grind
   have e2:wsm [(r,w),(r,h)]=w + h:=by simp only [wsm]; omega
   rw [e,e2];exact Rat.mul_div_cancel (by grind)
 unfold bI;rw [key,key,key]
end
theorem WR {G:Gh} {Q:PK1} {r s:R3} (h:r=s) (q:Q (.bl true) G):pEq false (aP r) (aP s) G Q:=by
 subst h; unfold aP; rw [VN]; simpa using q
theorem aAD {G:Gh} {Q:PK1} {r s:R3} (h:r=s) (q:Q (.bl false) G):pEq true (aP r) (aP s) G Q:=by
 subst h; unfold aP; rw [MI]; simpa using q
theorem UR {α:Type}:∀ {xs:List α},xs≠ []→ev2 xs≠ []
 | [],h=>absurd rfl h
 | [_],_=>by simp [ev2]
 | _ :: _ :: _,_=>by simp [ev2]
local macro_rules | `(tactic| walk_at "rd") => wk (wqB++" List.map_cons List.map_nil nK DL pC kN pD vS lH QO wE at0 sz1 DZ BR")
section
variable {T:Tb}
noncomputable def mxP:CE:=(.cmpr false (.gn 1) (.isq (.var 10)) .nil (.tup (.cons (.cal "_law_mix" (.cons (.var 1) .nil)) (.cons (.cal "_law_total" (.cons (.var 1) .nil)) .nil))) [none,none])
noncomputable def mxF:CS:=(.seq (.asg (.gn 11) mxP)
 (.seq (.iff (.tsb (.cmp .NotEq (.cal "_law_got" (.cons (.cal "mix" (.cons (.tup (.cons (.var 5) (.cons (.var 5) .nil))) (.cons (.tup (.cons (.var 6) (.cons (.var 7) .nil))) .nil))) .nil)) (.cal "_law_got" (.cons (.var 5) .nil)))) (.ret (.bl false)) .nil)
 (.ret (.cmp .Eq (.cal "_law_got" (.cons (.cal "_law_mix" (.cons (.var 11) .nil)) .nil)) (.var 2)))))
theorem aIw (k:L14 T) {A B:List PR} {a b c d e f g h i j l:Option PV} {K:Gh} {Q:PK1} (oA:POk A) (oB:POk B) (hq:Q (lsV [(bI A,wsm A),(bI B,wsm B)]) K) :
   wpE T mxP [a,b,c,d,e,f,g,h,i,j,some (.lst [lsV A,lsV B]),l] K Q:=by
 unfold mxP;have:=k.lmix;have:=k.ltot;have:=@eG;have:=@cY;walk_at "rd"
 refine ⟨A,rfl,oA,⟨A,rfl,oA.2.1,⟨B,rfl,oB,⟨B,rfl,oB.2.1, ?_⟩⟩⟩⟩;exact hq
theorem aCq (k:L14 T) {ps A B:List PR} {r:R3} {w h:Int} {a b c d i j l:Option PV} {K:Gh} {R:PK1} (ok:LOk ps) (h9:ps.length≤9) (hp:(A ++ B).Perm ps) (hA:A≠ []) (hB:B≠ []) (hr:pF r) (w0:0 < w) (w1:w≤1000) (h0:0≤h) (h1:h≤w) (hq:Wk R (.bl true) K) :
   wpS T mxF (aT R) [a,b,some (aP (bI ps)),c,d,some (shV r),some (.int w),some (.int h),i,j,some (.lst [lsV A,lsV B]),l] K:=by
 obtain ⟨o1,o2⟩:=SJ ok h9 hp hA hB;have oA:LOk A:=ok.sub fun x hx=>hp.mem_iff.mp (List.mem_append_left _ hx);have oB:LOk B:=ok.sub fun x hx=>hp.mem_iff.mp (List.mem_append_right _ hx);have hl:=hp.length_eq;rw [List.length_append] at hl;have lA:1≤A.length:=List.length_pos_iff.mpr hA;have lB:1≤B.length:=List.length_pos_iff.mpr hB;unfold mxF;have:=k.mix;have:=k.got;have:=k.lmix;walk_at "rd"
 refine aIw k (oA.pok lA (by omega)) (oB.pok lB (by omega)) ?_;have m2:POk [(r,w),(r,h)]:=⟨by simp,by simp,fun p hp=>by
   simp only [List.mem_cons,List.not_mem_nil,or_false] at hp;rcases hp with rfl | rfl <;> exact hr.ok,fun p hp=>by
   simp only [List.mem_cons,List.not_mem_nil,or_false] at hp;rcases hp with rfl | rfl <;> simp only <;> omega,by simp only [wsm]; omega⟩
 refine ⟨[r,r],[w,h],_,rfl,rfl,m2.mx, ?_⟩;have e2:vQ [r,r] [w,h]=r:=(BX [(r,w),(r,h)]).trans (UN w0 h0);rw [e2];have br:Bd 8900 r.1∧Bd 8900 r.2.1∧Bd 8900 r.2.2:=⟨hr.1.2.mono (by decide),hr.2.1.2.mono (by decide),hr.2.2.2.mono (by decide)⟩;refine ⟨r,rfl,br.1,br.2.1,br.2.2,⟨r,rfl,br.1,br.2.1,br.2.2,aAD rfl ?_⟩⟩;walk_at "rd"
 obtain ⟨_,b1,b2,b3⟩:=lS o1;refine ⟨_,rfl,o1,⟨_,rfl,b1,b2,b3,WR o2 hq⟩⟩
noncomputable def mxE:CS:=(.seq (.asg (.gn 9) (.bin .Add (.int 1) (.cal "_law_pick" (.cons (.var 0) (.cons (.bin .Sub (.blt .len (.cons (.var 1) .nil)) (.int 1)) .nil)))))
 (.seq (.asg (.gn 10) (.lst false (.cons (.sli (.var 1) .nil (.tst (.var 9))) (.cons (.sli (.var 1) (.tst (.var 9)) .nil) .nil))))
 (.seq (.iff (.tsb (.cmp .Eq (.cal "_law_pick" (.cons (.var 0) (.cons (.int 2) .nil))) (.int 1))) (.asg (.gn 10) (.lst false (.cons (.stp false (.var 1)) (.cons (.stp true (.var 1)) .nil)))) .nil) mxF)))
theorem aHl (lt:LT T) (k:L14 T) {ps:List PR} {r:R3} {w h:Int} {p:Addr} {c d i j g l:Option PV} {G K:Gh} {R:PK1} (pk:Pk p G K) (ok:LOk ps) (h3:3≤ps.length) (h9:ps.length≤9) (hr:pF r) (w0:0 < w) (w1:w≤1000) (h0:0≤h) (h1:h≤w) (hq:∀ K',Pk p G K'→Wk R (.bl true) K') :
   wpS T mxE (aT R) [some (.ref p),some (.lst (ps.map aQ)),some (aP (bI ps)),c,d,some (shV r),some (.int w),some (.int h),i,j,g,l] K:=by
 unfold mxE;have:=lt.pick;have lm:(ps.map aQ).length=ps.length:=List.length_map ..;walk_at "rd"
 refine ⟨pk.pu,by omega,smP (by omega) (by omega),fun r1 K1 c1 c2 m1=>?_⟩;obtain ⟨n,rfl⟩:=Int.eq_ofNat_of_zero_le c1;rw [show (1:Int) + (n:Int)=((n + 1:Nat):Int) by omega,AF,GQ (by omega)];have pk1:=pk.pick m1;refine ⟨m1.pu,by decide,smP (by decide) (by decide),fun r2 K2 _ _ m2=>?_⟩;have q2:=hq K2 (pk1.pick m2);split
 · rw [←List.map_drop,BP,BP];exact aCq k (A:=ev2 ps) (B:=ev2 (ps.drop 1)) ok h9 (xY ps) (UR (fun e=>by rw [e] at h3; simp at h3)) (UR (fun e=>by have:=congrArg List.length e; rw [List.length_drop] at this; simp at this; omega)) hr w0 w1 h0 h1 q2
 · exact aCq k (A:=ps.take (n + 1)) (B:=ps.drop (n + 1)) ok h9 (by rw [List.take_append_drop]) (fun e=>by have:=congrArg List.length e; rw [List.length_take,List.length_nil] at this; omega) (fun e=>by have:=congrArg List.length e; rw [List.length_drop] at this; simp at this; omega) hr w0 w1 h0 h1 q2
noncomputable def aEA:CE:=(.cmpr false (.gn 1) (.isq (.var 8)) .nil (.cmp .Eq (.cal "_law_got" (.cons (.cal "_law_mix" (.cons (.var 1) .nil)) .nil)) (.var 2)) [none,none,some 2])
theorem aFu (k:L14 T) {ps:List PR} {gs:List (List PR)} {q:Addr} {a b c d e f g h i j:Option PV} {K:Gh} {Q:PK1} (gq:K q=some (.lst (gs.map lsV))) (hl:gs.length≤9) (hg:∀ x∈gs,Gd ps x) (hq:Q (.lst (List.replicate gs.length (.bl true))) K) :
   wpE T aEA (a :: b :: some (aP (bI ps)) :: c :: d :: e :: f :: g :: some (.ref q) :: h :: i :: [j]) K Q:=by
 unfold aEA;have:=k.lmix;have:=k.got;walk_at "rd"
 refine ⟨_,gq,by rw [List.length_map]; exact szN (by omega), ?_⟩;refine cN lsV (fun l σ K' acc=>K'=K∧(∃ u v,σ=[u,v,some (aP (bI ps))])∧(∀ x∈l,Gd ps x)∧acc ++ List.replicate l.length (.bl true)=List.replicate gs.length (.bl true)) (fun _ _ _ _ h=>by rw [h.1]; exact gq) ?_ ?_ gs _ _ _ ⟨rfl,⟨_,_,rfl⟩,hg,rfl⟩
 · rintro x l σ K' acc R ⟨rfl,⟨u,v,rfl⟩,hx,e⟩ hR;obtain ⟨o1,o2⟩:=hx x (wDq ..);obtain ⟨_,b1,b2,b3⟩:=lS o1;walk_at "rd"
   refine ⟨x,rfl,o1,⟨_,rfl,b1,b2,b3,WR o2 (hR _ _ _ ⟨rfl,⟨_,_,rfl⟩,fun y hy=>hx y (wCq _ hy), ?_⟩)⟩⟩;rw [←e,List.length_cons,List.replicate_succ,List.append_assoc]; rfl
 · rintro σ K' acc ⟨rfl,_,_,e⟩;rw [List.length_nil,List.replicate_zero,List.append_nil] at e;rw [e];exact hq
noncomputable def mxD:CS:=(.seq (.iff (.no (.tst (.blt .all (.cons aEA .nil)))) (.ret (.bl false)) .nil) mxE)
noncomputable def mxS:CE:=(.cmpr false (.gt 2 (.cons (.gn 1) (.cons (.gn 2) .nil))) (.isq (.var 1)) .nil (.tup (.cons (.var 1) (.cons (.bin .Mult (.var 2) (.var 3)) .nil))) [none,none,none,some 4])
theorem aIq {ps:List PR} {m:Int} {a b c d e f g h i j:Option PV} {K:Gh} {Q:PK1} (ok:LOk ps) (h9:ps.length≤9) (m0:0≤m) (m1:m≤1000) (hq:Q (lsV (ps.map fun p=>(p.1,p.2 * m))) K) :
   wpE T mxS (a :: some (.lst (ps.map aQ)) :: b :: c :: some (.int m) :: d :: e :: f :: g :: h :: i :: [j]) K Q:=by
 unfold mxS;walk_at "rd"
 refine ⟨by rw [List.length_map]; exact szN (by omega), ?_⟩;refine cN aQ (fun l σ K' acc=>K'=K∧(∃ u v w,σ=[u,v,w,some (.int m)])∧∃ l0,ps=l0 ++ l∧acc=(l0.map fun p=>(p.1,p.2 * m)).map aQ) (fun _ _ _ _ h=>trivial) ?_ ?_ ps _ _ _ ⟨rfl,⟨_,_,_,rfl⟩,[],rfl,rfl⟩
 · rintro ⟨r,w⟩ l σ K' acc R ⟨rfl,⟨u,v,w',rfl⟩,l0,e1,e2⟩ hR;have hm:=ok (r,w) (by rw [e1]; exact List.mem_append_right _ (wDq ..));have s1:Sm 20 w:=by unfold Sm; simp only at hm; omega
   have s2:Sm 20 m:=by unfold Sm; omega
   unfold aQ;walk_at "rd"
   refine ⟨sC s1 s2,hR _ _ _ ⟨rfl,⟨_,_,_,rfl⟩,l0 ++ [(r,w)],by rw [e1,List.append_assoc]; rfl, ?_⟩⟩;rw [e2,List.map_append,List.map_append]; rfl
 · rintro σ K' acc ⟨rfl,_,l0,e1,e2⟩;rw [List.append_nil] at e1;subst e1 e2;exact hq
noncomputable def mxC:CS:=(.seq (.ex (.app (.var 8) mxS))
 (.seq (.ex (.app (.var 8) (.bin .Add (.bin .Add (.bin .Add (.sli (.var 1) .nil (.tst (.var 3))) (.lst false (.cons (.tup (.cons (.var 5) (.cons (.var 7) .nil))) .nil))) (.sli (.var 1) (.tst (.bin .Add (.var 3) (.int 1))) .nil)) (.lst false (.cons (.tup (.cons (.var 5) (.cons (.bin .Sub (.var 6) (.var 7)) .nil))) .nil)))))
 (.seq (.ex (.app (.var 8) (.bin .Add (.lst false (.cons (.tup (.cons (.cal "_law_shade" (.cons (.tup (.cons (.tup (.cons (.int 0) (.cons (.int 1) .nil))) (.cons (.tup (.cons (.int 1) (.cons (.int 1) .nil))) (.cons (.tup (.cons (.int 0) (.cons (.int 1) .nil))) .nil)))) (.cons (.int 1) .nil))) (.cons (.int 0) .nil))) .nil)) (.var 1)))) mxD)))
theorem aHV (lt:LT T) (k:L14 T) {ps:List PR} {n:Nat} {r:R3} {w m h:Int} {p q:Addr} {g1 g2:List PR} {i j l:Option PV} {G K:Gh} {R:PK1} (pk:Pk p G K) (hG:G q=none) (hqp:q≠p) (gq:K q=some (.lst ([g1,g2].map lsV))) (ok:LOk ps) (h3:3≤ps.length) (h8:ps.length≤8) (d1:Gd ps g1) (d2:Gd ps g2)
   (hn:n < ps.length) (en:ps[n]=(r,w)) (m1:1≤m) (m2:m≤1000) (h0:0≤h) (h1:h≤w) (hq:∀ K',Pk p G K'→Wk R (.bl true) K') :
   wpS T mxC (aT R) [some (.ref p),some (.lst (ps.map aQ)),some (aP (bI ps)),some (.int (n:Int)),some (.int m),some (shV r),some (.int w),some (.int h),some (.ref q),i,j,l] K:=by
 unfold mxC;have:=k.shadeL;have lq:=cP gq;walk_at "rd"
 refine aIq ok (by omega) (by omega) m2 ?_;rw [AF,show ((n:Int) + 1)=((n + 1:Nat):Int) by omega,GQ (by omega)];have l1:((ps.take n).map aQ).length≤8:=by rw [List.length_map,List.length_take]; omega
 have l2:((ps.drop (n + 1)).map aQ).length≤8:=by rw [List.length_map,List.length_drop]; omega
 have l3:(ps.map aQ).length≤8:=by rw [List.length_map]; exact h8
 have small:∀ {x:Nat},x≤100→x < sizeLine:=fun {x} hx=>Nat.lt_of_le_of_lt hx (by decide);obtain ⟨o1,o2,o3⟩:=ok (r,w) (by rw [←en]; exact List.getElem_mem hn);simp only at o2 o3;refine ⟨_,gq,small (by simp),szN (by omega),szN (by rw [List.length_append]; simp only [List.length_cons,List.length_nil]; omega),szN (by rw [List.length_append,List.length_append]; simp only [List.length_cons,List.length_nil]; omega),_,aD,small (by simp), ?_⟩;refine ⟨(0,1,0),1,rfl,⟨by decide,by decide⟩,⟨by decide,by decide⟩,⟨by decide,by decide⟩,szN (by omega),_,aD,small (by simp), ?_⟩;simp only [dP];have e4:PV.lst ((ps.take n).map aQ ++ [PV.tup [shV r,.int h]] ++ (ps.drop (n + 1)).map aQ ++ [PV.tup [shV r,.int (w - h)]])=lsV (ps.take n ++ [(r,h)] ++ ps.drop (n + 1) ++ [(r,w - h)]):=by
   unfold lsV; simp only [List.map_append]; rfl
 have e5:PV.lst (PV.tup [shV ((0,1,0):R3),.int 0] :: ps.map aQ)=lsV ([((0,1,0),0)] ++ ps):=by unfold lsV; simp only [List.map_append]; rfl
 rw [e4,e5];have pok:=ok.pok (by omega) (by omega);have d3:=VD ok (by omega) (by omega) m1 m2;have d4:=WA ok h8 hn en h0 h1;have d5:Gd ps ([((0,1,0),0)] ++ ps):=XA pok h8 ⟨⟨⟨by decide,by decide⟩,by unfold Bd Sm; decide⟩,⟨⟨by decide,by decide⟩,by unfold Bd Sm; decide⟩,⟨by decide,by decide⟩,by unfold Bd Sm; decide⟩;generalize List.map (fun p=>(p.1,p.2 * m)) ps=g3 at *;generalize ps.take n ++ [(r,h)] ++ ps.drop (n + 1) ++ [(r,w - h)]=g4 at *;generalize [((0,1,0),0)] ++ ps=g5 at *;unfold mxD;walk_at "rd"
 refine aFu k (gs:=[g1,g2,g3,g4,g5]) (by rw [aD]; rfl) (by simp) ?_ ?_
 · intro x hx;simp only [List.mem_cons,List.not_mem_nil,or_false] at hx;rcases hx with rfl | rfl | rfl | rfl | rfl <;> assumption
 · refine WM ?_;walk_at "rd"
   exact aHl lt k (pk.set hG hqp) ok h3 (by omega) o1 (by omega) o3 h0 h1 hq
noncomputable def mxB:CS:=(.seq (.asg (.gn 8) (.lst true (.cons (.cal "_law_turned" (.cons (.var 0) (.cons (.var 1) .nil))) (.cons (.bin .Add (.var 1) (.lst false (.cons (.tup (.cons (.idx (.idx (.var 1) (.var 3)) (.int 0)) (.cons (.int 0) .nil))) .nil))) .nil)))) mxC)
noncomputable def dR:CS:=(.seq (.asg (.gt 2 (.cons (.gn 3) (.cons (.gn 4) .nil))) (.tup (.cons (.cal "_law_pick" (.cons (.var 0) (.cons (.blt .len (.cons (.var 1) .nil)) .nil))) (.cons (.bin .Add (.int 2) (.cal "_law_pick" (.cons (.var 0) (.cons (.int 900) .nil)))) .nil))))
 (.seq (.asg (.gt 2 (.cons (.gn 5) (.cons (.gn 6) .nil))) (.idx (.var 1) (.var 3)))
 (.seq (.asg (.gn 7) (.cal "_law_pick" (.cons (.var 0) (.cons (.bin .Add (.var 6) (.int 1)) .nil)))) mxB)))
theorem sV (lt:LT T) (k:L14 T):∀ xs G Q,gW xs G Q→wpS T dR (aT Q) (aF 12 xs) G:=by
 rintro xs G Q ⟨p,ps,rfl,hp,h3,h7,ok,hq⟩;unfold dR;have:=lt.pick;have lm:(ps.map aQ).length=ps.length:=List.length_map ..;walk_at "rd"
 refine ⟨by omega,smP (by omega) (by omega),fun r1 K1 a1 a2 m1=>⟨m1.pu,by decide,smP (by decide) (by decide),fun r2 K2 b1 b2 m2=>?_⟩⟩;obtain ⟨n,rfl⟩:=Int.eq_ofNat_of_zero_le a1;have hn:n < ps.length:=by omega
 obtain ⟨r,w,en⟩:∃ r w,ps[n]=(r,w):=⟨_,_,rfl⟩;have hat:atI (ps.map aQ) (n:Int)=some (.tup [shV r,.int w]):=dD (by rw [List.getElem?_map,wHq hn,en]; rfl);obtain ⟨o1,o2,o3⟩:=ok (r,w) (by rw [←en]; exact List.getElem_mem hn);simp only at o2 o3;refine ⟨_,hat, ?_⟩;walk_at "rd"
 refine ⟨m2.pu,by omega,smP (by omega) (by omega),fun h K3 c1 c2 m3=>?_⟩;have m123:=(m1.trans m2).trans m3;have pok:=ok.pok (by omega) (by omega);unfold mxB;have:=k.lturn;walk_at "rd"
 refine ⟨p,ps,rfl,m3.pu,by omega,fun qs K4 pm m4=>?_⟩;walk_at "rd"
 refine ⟨szN (by omega),fun q hq0=>?_⟩;have mm:=m123.trans m4;have hqp:q≠p:=m4.pu.ne hq0;have hG:G q=none:=by rw [mm.ne hqp] at hq0; exact hq0
 have e2:PV.lst (ps.map aQ ++ [PV.tup [shV r,.int 0]])=lsV (ps ++ [(r,0)]):=by unfold lsV; simp only [List.map_append]; rfl
 rw [e2];exact aHV lt k (g1:=qs) (g2:=ps ++ [(r,0)]) ((Pk.of mm).new hq0) hG hqp aD ok h3 (by omega) (MO pok pm) (LA pok (by omega) o1.ok) hn en (by omega) (by omega) c1 (by omega) fun K' pk'=>pk'.end_ hq
end
theorem aAw {G:Gh} {Q:PK1} {r:R3}:pEq false (aP r) (.tup []) G Q=Q (.bl false) G:=by
 show (shp (aP r)=true∧shp (.tup [])=true∧Q (.bl (peq (aP r) (.tup []))) G)=_;have e1:shp (aP r)=true:=rfl;have e2:shp (.tup [])=true:=rfl;rw [e1,e2];unfold aP;simp only [peq,kG,true_and]
theorem aAY {lo:Int} {n:Nat} {x:PV} (h:x∈rW lo n):∃ k:Nat,x= .int (lo + (k:Int))∧k < n:=by
 unfold rW at h;obtain ⟨k,hk,rfl⟩:=List.mem_map.mp h;exact ⟨k,rfl,List.mem_range.mp hk⟩
local macro_rules | `(tactic| walk_at "rd") => wk (wqB++" DV DO XT wW nL")
section
variable {T:Tb}
noncomputable def UW:CE:=(.cmpr false (.gn 1) (.isq (.cal "_law_rows" (.cons (.var 2) (.cons (.var 3) .nil)))) .nil (.tup (.cons (.cal "_law_shade" (.cons (.var 1) (.cons (.int 0) .nil))) (.cons (.bin .Add (.int 1) (.cal "_law_pick" (.cons (.var 2) (.cons (.int 1000) .nil)))) .nil))) [none,none,some 2])
theorem aAq (lt:LT T) (k:L14 T) {a b d e:Option PV} {p:Addr} {n:Int} {G:Gh} {Q:PK1} (hp:Pu p G) (n1:1≤n) (n9:n≤9) (hq:∀ (ps:List PR) G',(ps.length:Int)=n→LOk ps→Pn p G G'→Q (.lst (ps.map aQ)) G') :
   wpE T UW [a,b,some (.ref p),some (.int n),d,e] G Q:=by
 unfold UW;have:=lt.pick;have e1:=k.rows;have:=k.shadeL;have sr:∀ {Q:PK1},(∀ (rs:List R3) G',(rs.length:Int)=n→(∀ r∈rs,pF r)→Pn p G G'→Q (.lst (rs.map aP)) G')→T.S "_law_rows" [.ref p,.int n] G Q:=fun {Q} q=>by rw [e1]; exact ⟨p,n,rfl,hp,n1,n9,q⟩
 clear e1;walk_at "rd"
 refine sr fun rs G1 hl hr m1=>?_;walk_at "rd"
 refine ⟨by rw [List.length_map]; exact szN (by omega), ?_⟩;refine cN aP (fun l σ K acc=>Pn p G K∧(∃ u v,σ=[u,v,some (.ref p)])∧(∀ r∈l,pF r)∧∃ ps:List PR,acc=ps.map aQ∧LOk ps∧ps.length + l.length=rs.length) (fun _ _ _ _ _=>trivial) ?_ ?_ rs _ _ _ ⟨m1,⟨_,_,rfl⟩,hr,[],rfl,(fun x hx=>by cases hx),by simp⟩
 · rintro r l σ K acc R ⟨m,⟨u,v,rfl⟩,hl',ps,rfl,ok,hlen⟩ hR;have o:=hl' r (wDq ..);walk_at "rd"
   refine ⟨r,0,rfl,o.1.1,o.2.1.1,o.2.2.1,m.pu,by decide,smP (by decide) (by decide),fun w K2 b1 b2 m2=>?_⟩;refine hR _ _ _ ⟨m.trans m2,⟨_,_,rfl⟩,fun x hx=>hl' x (wCq _ hx),ps ++ [(r,1 + w)],by rw [List.map_append]; rfl,fun x hx=>?_,by rw [List.length_append]; simp only [List.length_cons,List.length_nil] at hlen ⊢; omega⟩;rcases List.mem_append.mp hx with hx | hx
   · exact ok x hx
   · rw [List.mem_singleton.mp hx]; exact ⟨o,by simp only; omega,by simp only; omega⟩
 · rintro σ K acc ⟨m,_,_,ps,rfl,ok,hlen⟩;exact hq ps K (by simp only [List.length_nil,Nat.add_zero] at hlen; omega) ok m
noncomputable def XU:CS:=(.seq (.asg (.gn 2) (.cal "_law_purse" (.cons (.cal "_law_cell" (.cons (.var 0) (.cons (.var 1) .nil))) .nil)))
 (.seq (.asg (.gn 3) (.bin .Add (.int 3) (.cal "_law_pick" (.cons (.var 2) (.cons (.int 5) .nil)))))
 (.seq (.asg (.gn 4) UW)
 (.seq (.asg (.gn 5) (.cal "_law_got" (.cons (.cal "_law_mix" (.cons (.var 4) .nil)) .nil)))
 (.iff (.oo (.tsb (.cmp .Eq (.var 5) (.tup .nil))) (.oo (.no (.tst (.cal "_law_mixes_right" (.cons (.var 2) (.cons (.var 4) (.cons (.var 5) .nil)))))) (.no (.tst (.cal "_law_blends_right" (.cons (.var 2) (.cons (.var 4) (.cons (.var 5) .nil)))))))) (.ret (.bl false)) .nil)))))
noncomputable def uW:CS:=(.seq (.fr (.gn 1) (.irg (.cons (.blt .max (.cons (.int 2) (.cons (.blt .min (.cons (.blt .len (.cons (.var 0) .nil)) (.cons (.int 3) .nil))) .nil))) .nil)) XU)
 (.ret (.bl true)))
theorem aHH (lt:LT T) (k:L14 T) (D:iG) {ns:List Int} {j:Int} {x2 x3 x4 x5:Option PV} {G:Gh} (j0:0≤j) (j1:j < 64) (hR:∀ σ G',(∃ y1 y2 y3 y4 y5,σ=[some (.scr ns),y1,y2,y3,y4,y5])→D.nx σ G') :
   wpS T XU D [some (.scr ns),some (.int j),x2,x3,x4,x5] G:=by
 unfold XU;have:=lt.cell;have:=lt.purse;have:=lt.pick;have:=k.got;have:=k.lmix;have:=k.mixes;have:=k.blends;walk_at "rd"
 refine ⟨ns,rfl,fun c p x y z hp0=>⟨⟨_,_,_,aD⟩,by decide,smP (by decide) (by decide),fun r G1 a1 a2 m1=>aAq lt k m1.pu (by omega) (by omega) fun ps G2 hl ok m2=>?_⟩⟩;have pok:=ok.pok (by omega) (by omega);obtain ⟨_,b1,b2,b3⟩:=lS pok;refine ⟨ps,rfl,pok,⟨bI ps,rfl,b1,b2,b3,Nat.zero_le _, ?_⟩⟩;rw [aAw];refine ⟨false,rfl, ?_⟩;rw [if_neg Bool.false_ne_true];refine ⟨p,ps,rfl,m2.pu,by omega,by omega,ok,fun G3 m3=>?_⟩;dsimp only;rw [fF];rw [if_neg (by decide)];refine ⟨p,ps,rfl,m3.pu,by omega,by omega,ok,fun G4 m4=>?_⟩;dsimp only;rw [fF];rw [if_neg (by decide)];trivial
theorem aH1 (lt:LT T) (k:L14 T):∀ xs G Q,CA xs G Q→wpS T uW (aT Q) (aF 6 xs) G:=by
 rintro xs G Q ⟨ns,rfl,hl,hq⟩;have:=@LH;unfold uW;walk_at "rd"
 refine ⟨by omega,by omega, ?_⟩;refine uA (fun σ _=>∃ y1 y2 y3 y4 y5,σ=[some (.scr ns),y1,y2,y3,y4,y5]) ⟨_,_,_,_,_,rfl⟩ ?_ ?_
 · rintro x hx σ G' R ⟨x1,x2,x3,x4,x5,rfl⟩ hR;obtain ⟨j,rfl,hj⟩:=aAY hx;walk_at "rd"
   exact aHH lt k _ (by omega) (by omega) hR
 · rintro σ G' ⟨x1,x2,x3,x4,x5,rfl⟩;have:=hq G';walk_at "rd"
end
end L3
namespace My
open PySem L2 L3 PyProof.Rows
noncomputable def top (i:Nat):Stmt:=PySem.Challenge.pw_lightshares_k14_whole_mixing_in_any_turn.main.body.getD i (.Pass ⟨0,0,0,0⟩)
noncomputable abbrev bC:Stmt:=aU (top 41) 0
noncomputable abbrev C_Blend___init__:Cfg:={ N:=["self"],names:=(aB bC).names,gls:=["ZERO"] }
local macro_rules | `(tactic| walk_at "dk") => `(tactic| exact ⟨⟨rfl,rfl,rfl,by decide +kernel,rfl,by decide +kernel,by decide +kernel⟩,rfl,rfl⟩)
theorem mZ:aR bC ["self"] C_Blend___init__:=by walk_at "dk"
theorem nO:cSs 80 C_Blend___init__ (aC bC)=some dH:=by kernel_rfl
noncomputable abbrev gJ:Stmt:=top 14
noncomputable abbrev C_common:Cfg:={ N:=["one","other"],names:=(aB gJ).names }
theorem QA:aR gJ ["one","other"] C_common:=by walk_at "dk"
theorem ND:cSs 80 C_common (aC gJ)=some kY:=by kernel_rfl
noncomputable abbrev gD:Stmt:=top 16
noncomputable abbrev C_lowest:Cfg:={ N:=["top","bottom","shared"],names:=(aB gD).names,fns:=["common"],blt:=["abs"] }
theorem QV:aR gD ["top","bottom"] C_lowest:=by walk_at "dk"
theorem QH:cSs 80 C_lowest (aC gD)=some jW:=by kernel_rfl
noncomputable abbrev dW:Stmt:=top 13
noncomputable abbrev C_is_whole:Cfg:={ N:=["thing"],names:=(aB dW).names,tys:=["bool","int"],blt:=["isinstance"] }
theorem EY:aR dW ["thing"] C_is_whole:=by walk_at "dk"
theorem FH:cSs 80 C_is_whole (aC dW)=some fE:=by kernel_rfl
noncomputable abbrev bU:Stmt:=top 15
noncomputable abbrev C_is_fraction:Cfg:={ N:=["thing","top","bottom"],names:=(aB bU).names,fns:=["common","is_whole"],tys:=["tuple"],blt:=["abs","isinstance","len"] }
theorem uD:aR bU ["thing"] C_is_fraction:=by walk_at "dk"
theorem uG:cSs 80 C_is_fraction (aC bU)=some fB:=by kernel_rfl
noncomputable abbrev aZ:Stmt:=top 17
noncomputable abbrev C_need_fractions:Cfg:={ N:=["things","place","thing"],names:=(aB aZ).names,fns:=["is_fraction"],blt:=["enumerate"] }
theorem pG:aR aZ ["things"] C_need_fractions:=by walk_at "dk"
theorem oZ:cSs 80 C_need_fractions (aC aZ)=some dF:=by kernel_rfl
noncomputable abbrev mK:Stmt:=top 19
noncomputable abbrev C_plus:Cfg:={ N:=["one","other"],names:=(aB mK).names,fns:=["lowest","need_fractions"] }
theorem ZW:aR mK ["one","other"] C_plus:=by walk_at "dk"
theorem ZY:cSs 80 C_plus (aC mK)=some rR:=by kernel_rfl
noncomputable abbrev iU:Stmt:=top 40
noncomputable abbrev C_added:Cfg:={ N:=["shares","others"],names:=(aB iU).names,fns:=["plus"],tys:=["tuple"],blt:=["tuple","zip"] }
theorem SC:aR iU ["shares","others"] C_added:=by walk_at "dk"
theorem YJ:cSs 80 C_added (aC iU)=some mY:=by kernel_rfl
noncomputable abbrev cZ:Stmt:=top 35
noncomputable abbrev C_is_weight:Cfg:={ N:=["thing","least"],names:=(aB cZ).names,fns:=["is_whole"],gls:=["MOST_WEIGHT"] }
theorem zL:aR cZ ["thing","least"] C_is_weight:=by walk_at "dk"
theorem zQ:cSs 80 C_is_weight (aC cZ)=some gE:=by kernel_rfl
noncomputable abbrev dS:Stmt:=top 28
noncomputable abbrev C_is_shade:Cfg:={ N:=["thing"],names:=(aB dS).names,gls:=["Shade"],blt:=["isinstance"] }
theorem FS:aR dS ["thing"] C_is_shade:=by walk_at "dk"
theorem EG:cSs 80 C_is_shade (aC dS)=some iA:=by kernel_rfl
noncomputable abbrev cF:Stmt:=top 29
noncomputable abbrev C_need_shade:Cfg:={ N:=["thing"],names:=(aB cF).names,fns:=["is_shade"] }
theorem xU:aR cF ["thing"] C_need_shade:=by walk_at "dk"
theorem xR:cSs 80 C_need_shade (aC cF)=some fM:=by kernel_rfl
noncomputable abbrev dC:Stmt:=top 30
noncomputable abbrev C_shares_of:Cfg:={ N:=["shade"],names:=(aB dC).names,fns:=["need_shade"] }
theorem AE:aR dC ["shade"] C_shares_of:=by walk_at "dk"
theorem zR:cSs 80 C_shares_of (aC dC)=some gO:=by kernel_rfl
noncomputable abbrev iX:Stmt:=top 20
noncomputable abbrev C_times:Cfg:={ N:=["one","other"],names:=(aB iX).names,fns:=["lowest","need_fractions"] }
theorem YS:aR iX ["one","other"] C_times:=by walk_at "dk"
theorem VA:cSs 80 C_times (aC iX)=some mJ:=by kernel_rfl
noncomputable abbrev cU:Stmt:=aU (top 41) 1
noncomputable abbrev C_Blend_put:Cfg:={ N:=["self","shade","weight","weighed"],names:=(aB cU).names,fns:=["added","is_weight","need_shade","shares_of","times"] }
theorem AN:aR cU ["self","shade","weight"] C_Blend_put:=by walk_at "dk"
theorem BQ:cSs 80 C_Blend_put (aC cU)=some gH:=by kernel_rfl
noncomputable abbrev eX:Stmt:=top 57
noncomputable abbrev C_l_blend:Cfg:={ N:=["_law_pairs","_law_found","_law_shade_here","_law_weight"],names:=(aB eX).names,mkk:=[("Blend",[],[])],gls:=["Blend"],mts:=[("put",2,[],[("Blend","Blend.put",[.arg 0,.arg 1])])],bmts:=[("put",2,[],[("Blend","Blend.put",[.arg 0,.arg 1])])] }
theorem IU:aR eX ["_law_pairs"] C_l_blend:=by walk_at "dk"
theorem JD:cSs 80 C_l_blend (aC eX)=some jF:=by kernel_rfl
noncomputable abbrev jM:Stmt:=top 47
noncomputable abbrev C_l_low:Cfg:={ N:=["_law_top","_law_bottom","_law_one","_law_other"],names:=(aB jM).names,blt:=["abs"] }
theorem VP:aR jM ["_law_top","_law_bottom"] C_l_low:=by walk_at "dk"
theorem XM:cSs 80 C_l_low (aC jM)=some mW:=by kernel_rfl
noncomputable abbrev eW:Stmt:=top 46
noncomputable abbrev C_l_whole:Cfg:={ N:=["_law_thing"],names:=(aB eW).names,tys:=["bool","int"],blt:=["isinstance"] }
theorem GX:aR eW ["_law_thing"] C_l_whole:=by walk_at "dk"
theorem GN:cSs 80 C_l_whole (aC eW)=some oV:=by kernel_rfl
noncomputable abbrev bM:Stmt:=top 48
noncomputable abbrev C_l_is_fraction:Cfg:={ N:=["_law_thing"],names:=(aB bM).names,fns:=["_law_low","_law_whole"],tys:=["tuple"],blt:=["isinstance","len"] }
theorem rJ:aR bM ["_law_thing"] C_l_is_fraction:=by walk_at "dk"
theorem sA:cSs 80 C_l_is_fraction (aC bM)=some dX:=by kernel_rfl
noncomputable abbrev jE:Stmt:=top 53
noncomputable abbrev C_l_got:Cfg:={ N:=["_law_thing","_law_found"],names:=(aB jE).names,fns:=["_law_is_fraction"],gls:=["Shade"],blt:=["all","isinstance"] }
theorem RW:aR jE ["_law_thing"] C_l_got:=by walk_at "dk"
theorem ZF:cSs 80 C_l_got (aC jE)=some mO:=by kernel_rfl
noncomputable abbrev fW:Stmt:=top 45
noncomputable abbrev C_l_pick:Cfg:={ N:=["_law_purse_here","_law_many","_law_state","_law_taken"],names:=(aB fW).names }
theorem OD:aR fW ["_law_purse_here","_law_many"] C_l_pick:=by walk_at "dk"
theorem OQ:cSs 80 C_l_pick (aC fW)=some kH:=by kernel_rfl
noncomputable abbrev eU:Stmt:=top 58
noncomputable abbrev C_l_total:Cfg:={ N:=["_law_pairs"],names:=(aB eU).names,blt:=["sum"] }
theorem HU:aR eU ["_law_pairs"] C_l_total:=by walk_at "dk"
theorem IG:cSs 80 C_l_total (aC eU)=some jA:=by kernel_rfl
noncomputable abbrev dY:Stmt:=top 55
noncomputable abbrev C_l_turned:Cfg:={ N:=["_law_purse_here","_law_things","_law_left","_law_found","_law_k"],names:=(aB dY).names,fns:=["_law_pick"],tys:=["list"],blt:=["len","list","range"],M:=["_law_found","_law_left"] }
theorem DR:aR dY ["_law_purse_here","_law_things"] C_l_turned:=by walk_at "dk"
theorem GD:cSs 80 C_l_turned (aC dY)=some gZ:=by kernel_rfl
noncomputable abbrev bP:Stmt:=aU (top 41) 5
noncomputable abbrev C_Blend___eq__:Cfg:={ N:=["self","other"],names:=(aB bP).names,gls:=["Blend"],blt:=["isinstance"] }
theorem sS:aR bP ["self","other"] C_Blend___eq__:=by walk_at "dk"
theorem tI:cSs 80 C_Blend___eq__ (aC bP)=some eP:=by kernel_rfl
noncomputable abbrev bL:Stmt:=aU (top 41) 6
noncomputable abbrev C_Blend___len__:Cfg:={ N:=["self"],names:=(aB bL).names,blt:=["len","range"] }
theorem pY:aR bL ["self"] C_Blend___len__:=by walk_at "dk"
theorem pS:cSs 80 C_Blend___len__ (aC bL)=some eE:=by kernel_rfl
noncomputable abbrev bO:Stmt:=aU (top 41) 2
noncomputable abbrev C_Blend_joined:Cfg:={ N:=["self","other","both"],names:=(aB bO).names,fns:=["added"],mkk:=[("Blend",[],[])],gls:=["Blend"],blt:=["isinstance"] }
theorem tB:aR bO ["self","other"] C_Blend_joined:=by walk_at "dk"
theorem tK:cSs 80 C_Blend_joined (aC bO)=some eJ:=by kernel_rfl
noncomputable abbrev mQ:Stmt:=top 21
noncomputable abbrev C_over:Cfg:={ N:=["one","other"],names:=(aB mQ).names,fns:=["lowest","need_fractions"] }
theorem aBB:aR mQ ["one","other"] C_over:=by walk_at "dk"
theorem aBq:cSs 80 C_over (aC mQ)=some rN:=by kernel_rfl
noncomputable abbrev eB:Stmt:=top 26
noncomputable abbrev C_is_share:Cfg:={ N:=["thing"],names:=(aB eB).names,fns:=["is_fraction"] }
theorem CP:aR eB ["thing"] C_is_share:=by walk_at "dk"
theorem FL:cSs 80 C_is_share (aC eB)=some hV:=by kernel_rfl
noncomputable abbrev bB:Stmt:=aU (top 27) 0
noncomputable abbrev C_Shade___init__:Cfg:={ N:=["self","ember","leaf","sky","light","share"],names:=(aB bB).names,fns:=["is_share"],blt:=["enumerate"] }
theorem oQ:aR bB ["self","ember","leaf","sky"] C_Shade___init__:=by walk_at "dk"
theorem nZ:cSs 80 C_Shade___init__ (aC bB)=some dE:=by kernel_rfl
noncomputable abbrev eF:Stmt:=top 31
noncomputable abbrev C_shade_of:Cfg:={ N:=["shares","ember","leaf","sky"],names:=(aB eF).names,mks:=["Shade"],gls:=["Shade"],ls:=["shares"] }
theorem DU:aR eF ["shares"] C_shade_of:=by walk_at "dk"
theorem FR:cSs 80 C_shade_of (aC eF)=some hU:=by kernel_rfl
noncomputable abbrev bX:Stmt:=aU (top 41) 4
noncomputable abbrev C_Blend_shade:Cfg:={ N:=["self"],names:=(aB bX).names,fns:=["over","shade_of"] }
theorem uS:aR bX ["self"] C_Blend_shade:=by walk_at "dk"
theorem vV:cSs 80 C_Blend_shade (aC bX)=some eR:=by kernel_rfl
noncomputable abbrev bT:Stmt:=aU (top 41) 3
noncomputable abbrev C_Blend_total:Cfg:={ N:=["self"],names:=(aB bT).names }
theorem vI:aR bT ["self"] C_Blend_total:=by walk_at "dk"
theorem vT:cSs 80 C_Blend_total (aC bT)=some eT:=by kernel_rfl
noncomputable abbrev bA:Stmt:=top 60
noncomputable abbrev C_l_blends_right:Cfg:={ N:=["_law_purse_here","_law_pairs","_law_due","_law_at","_law_one","_law_third","_law_other","_law_some","_law_found"],names:=(aB bA).names,fns:=["_law_blend","_law_got","_law_pick","_law_total","_law_turned"],mkk:=[("Blend",[],[])],gls:=["Blend"],blt:=["len"],nes:=[("Blend","Blend.__eq__")],ows:=[("len",[("Blend","Blend.__len__")])],mts:=[("joined",1,[],[("Blend","Blend.joined",[.arg 0])]),("shade",0,[],[("Blend","Blend.shade",[])]),("total",0,[],[("Blend","Blend.total",[])])],bmts:=[("joined",1,[],[("Blend","Blend.joined",[.arg 0])]),("shade",0,[],[("Blend","Blend.shade",[])]),("total",0,[],[("Blend","Blend.total",[])])] }
theorem nS:aR bA ["_law_purse_here","_law_pairs","_law_due"] C_l_blends_right:=by walk_at "dk"
theorem nW:cSs 80 C_l_blends_right (aC bA)=some dI:=by kernel_rfl
noncomputable abbrev gL:Stmt:=top 43
noncomputable abbrev C_l_cell:Cfg:={ N:=["_law_script","_law_k","_law_state","_law_cell_here"],names:=(aB gL).names,blt:=["len"] }
theorem OF:aR gL ["_law_script","_law_k"] C_l_cell:=by walk_at "dk"
theorem NT:cSs 80 C_l_cell (aC gL)=some jU:=by kernel_rfl
noncomputable abbrev cA:Stmt:=top 32
noncomputable abbrev C_are_shades:Cfg:={ N:=["thing","least","most"],names:=(aB cA).names,fns:=["is_shade"],tys:=["tuple"],blt:=["all","isinstance","len"] }
theorem xP:aR cA ["thing","least","most"] C_are_shades:=by walk_at "dk"
theorem xX:cSs 80 C_are_shades (aC cA)=some fJ:=by kernel_rfl
noncomputable abbrev bV:Stmt:=top 36
noncomputable abbrev C_are_weights:Cfg:={ N:=["thing","many"],names:=(aB bV).names,fns:=["is_weight"],tys:=["tuple"],blt:=["all","isinstance","len","sum"] }
theorem uX:aR bV ["thing","many"] C_are_weights:=by walk_at "dk"
theorem wA:cSs 80 C_are_weights (aC bV)=some eV:=by kernel_rfl
noncomputable abbrev dQ:Stmt:=top 18
noncomputable abbrev C_fraction:Cfg:={ N:=["top","bottom"],names:=(aB dQ).names,fns:=["is_whole","lowest"] }
theorem FX:aR dQ ["top","bottom"] C_fraction:=by walk_at "dk"
theorem DX:cSs 80 C_fraction (aC dQ)=some iB:=by kernel_rfl
noncomputable abbrev cD:Stmt:=top 37
noncomputable abbrev C_mean_share:Cfg:={ N:=["shares","weights","top","bottom","share","weight"],names:=(aB cD).names,fns:=["fraction"],blt:=["sum","zip"] }
theorem xK:aR cD ["shares","weights"] C_mean_share:=by walk_at "dk"
theorem xS:cSs 80 C_mean_share (aC cD)=some fK:=by kernel_rfl
noncomputable abbrev wZ:Stmt:=top 38
noncomputable abbrev C_mix:Cfg:={ N:=["shades","weights","many","rows"],names:=(aB wZ).names,fns:=["are_shades","are_weights","mean_share","shade_of","shares_of"],gls:=["MOST_SHADES"],blt:=["len","range"] }
theorem aDI:aR wZ ["shades","weights"] C_mix:=by walk_at "dk"
theorem aDa:cSs 80 C_mix (aC wZ)=some vK:=by kernel_rfl
noncomputable abbrev iS:Stmt:=top 56
noncomputable abbrev C_l_mix:Cfg:={ N:=["_law_pairs"],names:=(aB iS).names,fns:=["mix"],tys:=["tuple"],blt:=["tuple"] }
theorem SB:aR iS ["_law_pairs"] C_l_mix:=by walk_at "dk"
theorem SK:cSs 80 C_l_mix (aC iS)=some mT:=by kernel_rfl
noncomputable abbrev eZ:Stmt:=top 52
noncomputable abbrev C_l_shade:Cfg:={ N:=["_law_row","_law_way"],names:=(aB eZ).names,mks:=["Shade"],mkk:=[("Shade",["sky","ember","leaf"],[.arg 1,.arg 2,.arg 0])],gls:=["Shade"] }
theorem HE:aR eZ ["_law_row","_law_way"] C_l_shade:=by walk_at "dk"
theorem HC:cSs 80 C_l_shade (aC eZ)=some jH:=by kernel_rfl
noncomputable abbrev bK:Stmt:=top 59
noncomputable abbrev C_l_mixes_right:Cfg:={ N:=["_law_purse_here","_law_pairs","_law_due","_law_k","_law_times_more","_law_shade_here","_law_weight","_law_half","_law_some","_law_at","_law_groups","_law_parts"],names:=(aB bK).names,fns:=["_law_got","_law_mix","_law_pick","_law_shade","_law_total","_law_turned","mix"],blt:=["all","len"],M:=["_law_some"] }
theorem rT:aR bK ["_law_purse_here","_law_pairs","_law_due"] C_l_mixes_right:=by walk_at "dk"
theorem pU:cSs 80 C_l_mixes_right (aC bK)=some dR:=by kernel_rfl
noncomputable abbrev eY:Stmt:=top 44
noncomputable abbrev C_l_purse:Cfg:={ N:=["_law_cell_here"],names:=(aB eY).names,tys:=["int"],blt:=["int"],rm:=true }
theorem GH:aR eY ["_law_cell_here"] C_l_purse:=by walk_at "dk"
theorem GM:cSs 80 C_l_purse (aC eY)=some iY:=by kernel_rfl
noncomputable abbrev bJ:Stmt:=top 50
noncomputable abbrev C_l_plain_share:Cfg:={ N:=["_law_purse_here"],names:=(aB bJ).names,fns:=["_law_low","_law_pick"] }
theorem sB:aR bJ ["_law_purse_here"] C_l_plain_share:=by walk_at "dk"
theorem rG:cSs 80 C_l_plain_share (aC bJ)=some eA:=by kernel_rfl
noncomputable abbrev eS:Stmt:=top 49
noncomputable abbrev C_l_share:Cfg:={ N:=["_law_purse_here","_law_way","_law_bottom"],names:=(aB eS).names,fns:=["_law_low","_law_pick"] }
theorem JM:aR eS ["_law_purse_here"] C_l_share:=by walk_at "dk"
theorem HX:cSs 80 C_l_share (aC eS)=some jJ:=by kernel_rfl
noncomputable abbrev dU:Stmt:=top 51
noncomputable abbrev C_l_shares:Cfg:={ N:=["_law_purse_here","_law_alike","_law_row"],names:=(aB dU).names,fns:=["_law_pick","_law_share"],tys:=["tuple"],blt:=["range","tuple"],M:=["_law_row"] }
theorem CK:aR dU ["_law_purse_here"] C_l_shares:=by walk_at "dk"
theorem DN:cSs 80 C_l_shares (aC dU)=some hX:=by kernel_rfl
noncomputable abbrev gK:Stmt:=top 54
noncomputable abbrev C_l_rows:Cfg:={ N:=["_law_purse_here","_law_many","_law_found","_law_k","_law_row","_law_again"],names:=(aB gK).names,fns:=["_law_pick","_law_plain_share","_law_shares"],tys:=["tuple"],blt:=["len","range","tuple"],M:=["_law_found"],rm:=true }
theorem PL:aR gK ["_law_purse_here","_law_many"] C_l_rows:=by walk_at "dk"
theorem NP:cSs 80 C_l_rows (aC gK)=some gF:=by kernel_rfl
noncomputable abbrev sJ:Stmt:=top 61
noncomputable abbrev C_law:Cfg:={ N:=["_law_script","_law_k","_law_purse_here","_law_many","_law_pairs","_law_due"],names:=(aB sJ).names,fns:=["_law_blends_right","_law_cell","_law_got","_law_mix","_law_mixes_right","_law_pick","_law_purse","_law_rows","_law_shade"],blt:=["len","max","min","range"] }
theorem aEt:aR sJ ["_law_script"] C_law:=by walk_at "dk"
theorem aE3:cSs 80 C_law (aC sJ)=some uW:=by kernel_rfl
noncomputable abbrev zS0:Value:=.str "law_lightshares_k14_whole_mixing_in_any_turn" 705
noncomputable abbrev zS1:Value:=.str "lightshares.errors" 187
noncomputable abbrev zS2:Value:=.str "lightshares.shades" 461
noncomputable abbrev zS3:Value:=.str "lightshares.blends" 608
noncomputable abbrev zS4:Value:=.str "lightshares.fractions" 359
noncomputable abbrev zS5:Value:=.str "lightshares.mixing" 572
noncomputable abbrev fX (a b:Str) (s:Stmt) (d m c:Value):FuncData:=W.fnOf a b (gX s) (aC s) (aB s) d .none .none m none c .none
noncomputable abbrev oC (l:List Value):Obj:=⟨.type "code",none,.fields l.toArray, #[]⟩
noncomputable abbrev oT (l:List Value):Obj:=⟨.type "tuple",none,.seq l.toArray 0, #[]⟩
noncomputable abbrev oL (l:List Value):Obj:=⟨.none,none,.fields l.toArray, #[]⟩
noncomputable abbrev oN (a b:Str) (s:Stmt):Obj:=⟨.none,none,.func { W.fnOf a b (gX s) (aC s) (aB s) .none .none .none .none none .none .none with globals:=0,builtins:=0 }, #[]⟩
noncomputable abbrev oF (a b:Str) (s:Stmt) (d m:Value) (c:Addr):Obj:=⟨.type "function",none,.func (W.fnOf a b (gX s) (aC s) (aB s) d .none .none m none (.ref c) .none), #[]⟩
noncomputable abbrev oR (c l:Addr) (m:Value):Obj:=⟨.type "frame",none,.plain, #[some (.ref c),some (.ref 3),some (.ref l),none,some m,none,some (.ref 0)]⟩
noncomputable abbrev oS (c:Addr):Obj:=⟨.type "super",none,.fields #[.ref c,.ref c,.ref c], #[]⟩
noncomputable abbrev oB (n:String) (c:Value):Obj:=⟨.type "builtin_function_or_method",none,.fields #[.builtin n,c], #[]⟩
noncomputable abbrev fC (n:Tok):Value:=.str "/claim/cut.py" n
noncomputable abbrev iV (n:Int):Value:=.int n 0
noncomputable abbrev oD (l:List DictEntry):Obj:=⟨.type "dict",none,.dict l.toArray 0, #[]⟩
noncomputable def kE (P:Params) (x:Str) (t:Tok) (v:Value):DictEntry:=⟨PyData.keyHash P x,.str x t,v⟩
noncomputable abbrev zV (n:Nat):Value:=if n=0 then .none else .ref n
noncomputable abbrev zXt (a b:Str) (i l n c x y u v w q:Nat):Obj:=oC [.str a i,.str b (i + 1),fC (i + 2),iV l,iV n,iV 0,iV 0,iV c,.ref x,.bool true,iV 181,.ref y,.none,zV u,zV v,zV w,iV q,iV l,fC (q + 1)]
noncomputable abbrev zOt (a:Str):=zXt a a
noncomputable abbrev zXf (a b:Str) (i l n c x y u v w q:Nat):Obj:=oC [.str a i,.str b (i + 1),fC (i + 2),iV l,iV n,iV 0,iV 0,iV c,.ref x,.bool false,iV 181,.ref y,.none,zV u,zV v,zV w,iV q,iV l,fC (q + 1)]
noncomputable abbrev zOf (a:Str):=zXf a a
noncomputable abbrev zY (n:Str) (e w:String) (b c d x i j:Nat):Obj:=⟨.type "type",none,.cls ⟨n,[.ref b],[.ref c,.ref b,.type e,.type "Exception",.type "BaseException",.type "object"],d,n,true,[],[],false,none,false⟩, #[some (.ref x),none,some (.str n i),some (.str n j),some (.builtin w),some (.bool true)]⟩
noncomputable abbrev kL (P:Params) (n l:Nat):DictEntry:=kE P "__firstlineno__" n (.int l (n - 1))
noncomputable abbrev kT (P:Params) (n l:Nat):DictEntry:=kE P "__static_attributes__" n (.ref l)
noncomputable abbrev kI (P:Params) (n l:Nat):DictEntry:=kE P "__init__" n (.ref l)
noncomputable abbrev kD (P:Params) (n:Nat):DictEntry:=kE P "__doc__" n .none
noncomputable abbrev kQ (P:Params) (n:Nat) (x:Str):DictEntry:=kE P "__qualname__" n (.str x (n - 1))
noncomputable abbrev kM (P:Params) (n:Nat):DictEntry:=kE P "__module__" n zS1
noncomputable abbrev oDn (l:List DictEntry) (n:Nat):Obj:=⟨.type "dict",none,.dict l.toArray n, #[]⟩
noncomputable def ko3 (P:Params):Obj:=⟨(.type "dict"),none,.dict #[kE P "__name__" 165 zS0,kD P 166,kE P "__package__" 167 .none,kE P "__loader__" 168 (.builtin "__main__.__loader__#opaque"),kE P "__spec__" 169 .none,kE P "__annotations__" 170 (.ref 6),kE P "__builtins__" 171 (.ref 4),kE P "__file__" 173 (.str "/claim/cut.py" 172),kE P "__cached__" 174 .none,kE P "ShadeError" 206 (.ref 24),kE P "MixError" 226 (.ref 37),kE P "NoNumber" 251 (.ref 57),kE P "NoShade" 276 (.ref 76),kE P "NoWeights" 301 (.ref 95),kE P "NoWeight" 326 (.ref 114),kE P "EmptyMix" 342 (.ref 126),kE P "NoBlend" 358 (.ref 138),kE P "ZERO" 363 (.ref 141),kE P "PIECE_FIGURES" 365 (.int 64 364),kE P "PIECE" 369 (.int 10000000000000000000000000000000000000000000000000000000000000000 368),kE P "is_whole" 376 (.ref 148),kE P "common" 384 (.ref 155),kE P "is_fraction" 393 (.ref 162),kE P "lowest" 402 (.ref 169),kE P "need_fractions" 411 (.ref 176),kE P "fraction" 420 (.ref 184),kE P "plus" 428 (.ref 191),kE P "times" 436 (.ref 198),kE P "over" 444 (.ref 205),kE P "figures" 453 (.ref 212),kE P "written" 460 (.ref 219),kE P "MOST_SHADES" 464 (.int 60 463),kE P "is_share" 471 (.ref 226),kE P "Shade" 534 (.ref 267),kE P "is_shade" 541 (.ref 278),kE P "need_shade" 548 (.ref 285),kE P "shares_of" 555 (.ref 292),kE P "shade_of" 565 (.ref 299),kE P "are_shades" 571 (.ref 304),kE P "MOST_WEIGHT" 575 (.int 1000000 574),kE P "is_weight" 583 (.ref 311),kE P "are_weights" 589 (.ref 316),kE P "mean_share" 601 (.ref 323),kE P "mix" 607 (.ref 329),kE P "added" 615 (.ref 334),kE P "Blend" 704 (.ref 404),kE P "_law_cell" 716 (.ref 415),kE P "_law_purse" 723 (.ref 422),kE P "_law_pick" 733 (.ref 429),kE P "_law_whole" 740 (.ref 436),kE P "_law_low" 750 (.ref 443),kE P "_law_is_fraction" 757 (.ref 450),kE P "_law_share" 766 (.ref 457),kE P "_law_plain_share" 773 (.ref 464),kE P "_law_shares" 779 (.ref 469),kE P "_law_shade" 787 (.ref 476),kE P "_law_got" 793 (.ref 481),kE P "_law_rows" 799 (.ref 486),kE P "_law_turned" 810 (.ref 493),kE P "_law_mix" 816 (.ref 498),kE P "_law_blend" 826 (.ref 505),kE P "_law_total" 832 (.ref 510),kE P "_law_mixes_right" 838 (.ref 515),kE P "_law_blends_right" 853 (.ref 522),kE P "law" 859 (.ref 527)] 65, #[]⟩
def IM (P:Params):=oDn [kM P 196,kL P 200 2,kT P 201 22,kE P "__weakref__" 203 (.ref 25),kD P 204] 3
noncomputable def IW:Obj:=⟨(.type "type"),none,.cls ⟨"ShadeError",[(.type "ValueError")],[(.ref 24),(.type "ValueError"),(.type "Exception"),(.type "BaseException"),(.type "object")],23,"ShadeError",true,[],[(.ref 57),(.ref 76)],false,none,false⟩, #[(some (.ref 15)),none,(some (.str "ShadeError" 189)),(some (.str "ShadeError" 197)),(some (.builtin "ValueError.__new__")),(some (.bool true))]⟩
def GL (P:Params):=oDn [kM P 214,kL P 218 4,kT P 219 35,kE P "__weakref__" 221 (.ref 38),kD P 222] 3
noncomputable def SL:Obj:=⟨(.type "type"),none,.cls ⟨"MixError",[(.type "ArithmeticError")],[(.ref 37),(.type "ArithmeticError"),(.type "Exception"),(.type "BaseException"),(.type "object")],36,"MixError",true,[],[(.ref 95),(.ref 114),(.ref 126),(.ref 138)],false,none,false⟩, #[(some (.ref 28)),none,(some (.str "MixError" 207)),(some (.str "MixError" 215)),(some (.builtin "ArithmeticError.__new__")),(some (.bool true))]⟩
def HJ (P:Params):=oDn [kM P 234,kL P 238 6,kI P 246 54,kT P 248 55,kD P 249] 2
def HQ:=zY "NoNumber" "ValueError" "ValueError.__new__" 24 57 56 41 227 235
def IZ (P:Params):=oDn [kM P 259,kL P 263 11,kI P 271 73,kT P 273 74,kD P 274] 2
def HB:=zY "NoShade" "ValueError" "ValueError.__new__" 24 76 75 60 252 260
def QG (P:Params):=oDn [kM P 284,kL P 288 16,kI P 296 92,kT P 298 93,kD P 299] 2
def PN:=zY "NoWeights" "ArithmeticError" "ArithmeticError.__new__" 37 95 94 79 277 285
def yY (P:Params):=oDn [kM P 309,kL P 313 21,kI P 321 111,kT P 323 112,kD P 324] 2
def yA:=zY "NoWeight" "ArithmeticError" "ArithmeticError.__new__" 37 114 113 98 302 310
def DH (P:Params):=oDn [kM P 334,kL P 338 26,kT P 339 124,kD P 340] 2
def FV:=zY "EmptyMix" "ArithmeticError" "ArithmeticError.__new__" 37 126 125 117 327 335
def FA (P:Params):=oDn [kM P 350,kL P 354 28,kT P 355 136,kD P 356] 2
def FY:=zY "NoBlend" "ArithmeticError" "ArithmeticError.__new__" 37 138 137 129 343 351
def CC:=oT [.int 0 361,.int 1 362]
def GB:=zOt "is_whole" 370 34 1 3 142 143 144 145 146 374
def CJ:=oF "is_whole" "is_whole" dW .none zS4 147
def GC:=zOt "common" 377 36 2 3 149 150 151 152 153 382
def ER:=oF "common" "common" gJ .none zS4 154
def EB:=zOt "is_fraction" 385 40 1 3 156 157 158 159 160 391
def EV:=oF "is_fraction" "is_fraction" bU .none zS4 161
def CU:=zOt "lowest" 394 45 2 3 163 164 165 166 167 400
def CY:=oF "lowest" "lowest" gD .none zS4 168
def FW:=zOt "need_fractions" 403 50 1 3 170 171 172 173 174 409
def EZ:=oF "need_fractions" "need_fractions" aZ .none zS4 175
def LV:=oT [.int 1 412]
def KM:=zOt "fraction" 413 54 2 3 178 179 180 181 182 418
def KC:=oF "fraction" "fraction" dQ (.ref 177) zS4 183
def LQ:=zOt "plus" 421 60 2 3 185 186 187 188 189 426
def LP:=oF "plus" "plus" mK .none zS4 190
def LI:=zOt "times" 429 63 2 3 192 193 194 195 196 434
def MC:=oF "times" "times" iX .none zS4 197
def MV:=zOt "over" 437 66 2 3 199 200 201 202 203 442
def JY:=oF "over" "over" mQ .none zS4 204
def LC:=zOt "is_share" 465 84 1 3 220 221 222 223 224 469
def KH:=oF "is_share" "is_share" eB .none zS2 225
def LL:=zXt "__init__" "Shade.__init__" 484 88 4 3 234 235 236 237 238 493
def LY:=oF "__init__" "Shade.__init__" bB .none zS2 239
def MQ (P:Params):=oDn [kE P "__module__" 479 zS2,kL P 483 86,kI P 495 240,kE P "__eq__" 503 (.ref 247),kE P "__len__" 509 (.ref 252),kE P "__str__" 515 (.ref 257),kE P "__repr__" 522 (.ref 264),kT P 526 265,kE P "__dict__" 528 (.ref 268),kE P "__weakref__" 530 (.ref 269),kD P 531,kE P "__hash__" 532 .none] 5
noncomputable def KU:Obj:=⟨(.type "type"),none,.cls ⟨"Shade",[(.type "object")],[(.ref 267),(.type "object")],266,"Shade",true,[],[],false,none,false⟩, #[none,none,(some (.str "Shade" 472)),(some (.str "Shade" 480)),(some (.builtin "object.__new__")),(some (.bool true))]⟩
def KL:=zOt "is_shade" 535 107 1 3 272 273 274 275 276 539
def MH:=oF "is_shade" "is_shade" dS .none zS2 277
def ME:=zOt "need_shade" 542 109 1 3 279 280 281 282 283 546
def MG:=oF "need_shade" "need_shade" cF .none zS2 284
def VS:=zOt "shares_of" 549 112 1 3 286 287 288 289 290 553
def WI:=oF "shares_of" "shares_of" dC .none zS2 291
def RK:=zOt "shade_of" 556 115 1 3 293 294 295 296 297 563
def UV:=oF "shade_of" "shade_of" eF .none zS2 298
def XV:=zOt "are_shades" 566 118 3 3 300 301 0 0 302 569
def ZC:=oF "are_shades" "are_shades" cA .none zS2 303
def ZB:=zOt "is_weight" 576 124 2 3 305 306 307 308 309 581
def UE:=oF "is_weight" "is_weight" cZ .none zS5 310
def YW:=zOt "are_weights" 584 126 2 3 312 313 0 0 314 587
def SY:=oF "are_weights" "are_weights" bV .none zS5 315
def WE:=zOt "mean_share" 590 130 2 3 317 318 319 320 321 599
def ZJ:=oF "mean_share" "mean_share" cD .none zS5 322
def YC:=oT [.none]
def UM:=zOt "mix" 602 137 2 3 325 326 0 0 327 605
def SO:=oF "mix" "mix" wZ (.ref 324) zS5 328
def SM:=zOt "added" 610 148 2 3 330 331 0 0 332 613
def YH:=oF "added" "added" iU .none zS3 333
def RV:=zXt "__init__" "Blend.__init__" 628 152 1 3 342 343 344 345 346 632
def VL:=oF "__init__" "Blend.__init__" bC .none zS3 347
def TL:=oT [.int 1 635]
def RH:=zXt "put" "Blend.put" 636 157 3 3 350 351 0 0 352 639
def RL:=oF "put" "Blend.put" cU (.ref 349) zS3 353
def UD:=zXt "joined" "Blend.joined" 642 166 2 3 355 356 357 358 359 648
def VW:=oF "joined" "Blend.joined" bO .none zS3 360
def UL:=zXt "total" "Blend.total" 651 175 1 3 362 363 364 365 366 655
def VI:=oF "total" "Blend.total" bT .none zS3 367
def XG:=zXt "shade" "Blend.shade" 658 178 1 3 369 370 0 0 371 661
def YX:=oF "shade" "Blend.shade" bX .none zS3 372
def TZ:=zXt "__eq__" "Blend.__eq__" 664 183 2 3 374 375 376 377 378 669
def SW:=oF "__eq__" "Blend.__eq__" bP .none zS3 379
def XL:=zXt "__len__" "Blend.__len__" 672 186 1 3 381 382 383 384 385 676
def ST:=oF "__len__" "Blend.__len__" bL .none zS3 386
def XZ (P:Params):=oDn [kE P "__module__" 623 zS3,kL P 627 150,kI P 634 348,kE P "put" 641 (.ref 354),kE P "joined" 650 (.ref 361),kE P "total" 657 (.ref 368),kE P "shade" 663 (.ref 373),kE P "__eq__" 671 (.ref 380),kE P "__len__" 678 (.ref 387),kE P "__str__" 685 (.ref 394),kE P "__repr__" 692 (.ref 401),kT P 696 402,kE P "__dict__" 698 (.ref 405),kE P "__weakref__" 700 (.ref 406),kD P 701,kE P "__hash__" 702 .none] 5
noncomputable def UP:Obj:=⟨(.type "type"),none,.cls ⟨"Blend",[(.type "object")],[(.ref 404),(.type "object")],403,"Blend",true,[],[],false,none,false⟩, #[none,none,(some (.str "Blend" 616)),(some (.str "Blend" 624)),(some (.builtin "object.__new__")),(some (.bool true))]⟩
def aCz:=zOt "_law_cell" 707 197 2 3 409 410 411 412 413 714
def aCW:=oF "_law_cell" "_law_cell" gL .none zS0 414
def aCg:=zOt "_law_purse" 717 204 1 3 416 417 418 419 420 721
def aCc:=oF "_law_purse" "_law_purse" eY .none zS0 421
def aCB:=zOt "_law_pick" 724 206 2 3 423 424 425 426 427 731
def aCm:=oF "_law_pick" "_law_pick" fW .none zS0 428
def aC0:=zOt "_law_whole" 734 215 1 3 430 431 432 433 434 738
def aCF:=oF "_law_whole" "_law_whole" eW .none zS0 435
def aCu:=zOt "_law_low" 741 217 2 3 437 438 439 440 441 748
def aCD:=oF "_law_low" "_law_low" jM .none zS0 442
def aB4:=zOt "_law_is_fraction" 751 224 1 3 444 445 446 447 448 755
def aCR:=oF "_law_is_fraction" "_law_is_fraction" bM .none zS0 449
def aCA:=zOt "_law_share" 758 228 1 3 451 452 453 454 455 764
def aCn:=oF "_law_share" "_law_share" eS .none zS0 456
def aCK:=zOt "_law_plain_share" 767 232 1 3 458 459 460 461 462 771
def aC5:=oF "_law_plain_share" "_law_plain_share" bJ .none zS0 463
def aCG:=zOt "_law_shares" 774 234 1 3 465 466 0 0 467 777
def aCx:=oF "_law_shares" "_law_shares" dU .none zS0 468
def aCb:=zOt "_law_shade" 780 242 2 3 470 471 472 473 474 785
def aCO:=oF "_law_shade" "_law_shade" eZ .none zS0 475
def aCi:=zOt "_law_got" 788 246 1 3 477 478 0 0 479 791
def aCd:=oF "_law_got" "_law_got" jE .none zS0 480
def aCr:=zOt "_law_rows" 794 251 2 3 482 483 0 0 484 797
def aB7:=oF "_law_rows" "_law_rows" gK .none zS0 485
def aCw:=zOt "_law_turned" 800 260 2 3 487 488 489 490 491 808
def aCT:=oF "_law_turned" "_law_turned" dY .none zS0 492
def aC3:=zOt "_law_mix" 811 265 1 3 494 495 0 0 496 814
def aCI:=oF "_law_mix" "_law_mix" iS .none zS0 497
def aCJ:=zOt "_law_blend" 817 267 1 3 499 500 501 502 503 824
def aCl:=oF "_law_blend" "_law_blend" eX .none zS0 504
def aB2:=zOt "_law_total" 827 272 1 3 506 507 0 0 508 830
def aCY:=oF "_law_total" "_law_total" eU .none zS0 509
def aCo:=zOt "_law_mixes_right" 833 274 3 3 511 512 0 0 513 836
def aCL:=oF "_law_mixes_right" "_law_mixes_right" bK .none zS0 514
def aB8:=zOt "_law_blends_right" 839 292 3 3 516 517 518 519 520 851
def aC4:=oF "_law_blends_right" "_law_blends_right" bA .none zS0 521
def aCv:=zOt "law" 854 307 1 3 523 524 0 0 525 857
def aCk:=oF "law" "law" sJ .none zS0 526
noncomputable def K0:Params→W.Frag:=fun P=>[(3,ko3 P),(23,IM P),(24,IW),(36,GL P),(37,SL),(56,HJ P),(57,HQ),(75,IZ P),(76,HB),(94,QG P),(95,PN),(113,yY P),(114,yA),(125,DH P),(126,FV),(137,FA P),(138,FY),(141,CC),(147,GB),(148,CJ),(154,GC),(155,ER),(161,EB),(162,EV),(168,CU),(169,CY),(175,FW),(176,EZ),(177,LV),(183,KM),(184,KC),(190,LQ),(191,LP),(197,LI),(198,MC),(204,MV),(205,JY),(225,LC),(226,KH),(239,LL),(240,LY),(266,MQ P),(267,KU),(277,KL),(278,MH),(284,ME),(285,MG),(291,VS),(292,WI),(298,RK),(299,UV),(303,XV),(304,ZC),(310,ZB),(311,UE),(315,YW),(316,SY),(322,WE),(323,ZJ),(324,YC),(328,UM),(329,SO),(333,SM),(334,YH),(347,RV),(348,VL),(349,TL),(353,RH),(354,RL),(360,UD),(361,VW),(367,UL),(368,VI),(372,XG),(373,YX),(379,TZ),(380,SW),(386,XL),(387,ST),(403,XZ P),(404,UP),(414,aCz),(415,aCW),(421,aCg),(422,aCc),(428,aCB),(429,aCm),(435,aC0),(436,aCF),(442,aCu),(443,aCD),(449,aB4),(450,aCR),(456,aCA),(457,aCn),(463,aCK),(464,aC5),(468,aCG),(469,aCx),(475,aCb),(476,aCO),(480,aCi),(481,aCd),(485,aCr),(486,aB7),(492,aCw),(493,aCT),(497,aC3),(498,aCI),(504,aCJ),(505,aCl),(509,aB2),(510,aCY),(514,aCo),(515,aCL),(521,aB8),(522,aC4),(526,aCv),(527,aCk)]
noncomputable def aK:List Addr:=[3,23,24,36,37,56,57,75,76,94,95,113,114,125,126,137,138,141,147,148,154,155,161,162,168,169,175,176,177,183,184,190,191,197,198,204,205,225,226,239,240,266,267,277,278,284,285,291,292,298,299,303,304,310,311,315,316,322,323,324,328,329,333,334,347,348,349,353,354,360,361,367,368,372,373,379,380,386,387,403,404,414,415,421,422,428,429,435,436,442,443,449,450,456,457,463,464,468,469,475,476,480,481,485,486,492,493,497,498,504,505,509,510,514,515,521,522,526,527]
noncomputable def qv:Program:={ PySem.Challenge.pw_lightshares_k14_whole_mixing_in_any_turn with main:={ PySem.Challenge.pw_lightshares_k14_whole_mixing_in_any_turn.main with body:=[top 61] } }
noncomputable def lo:List Str:=(["ShadeError","MixError","NoNumber","NoShade","NoWeights","NoWeight","EmptyMix","NoBlend","ZERO","PIECE_FIGURES","PIECE","is_whole","common","is_fraction","lowest","need_fractions","fraction","plus","times","over","figures","written","MOST_SHADES","is_share","Shade","is_shade","need_shade","shares_of","shade_of","are_shades","MOST_WEIGHT","is_weight","are_weights","mean_share","mix","added","Blend","_law_cell","_law_purse","_law_pick","_law_whole","_law_low","_law_is_fraction","_law_share","_law_plain_share","_law_shares","_law_shade","_law_got","_law_rows","_law_turned","_law_mix","_law_blend","_law_total","_law_mixes_right","_law_blends_right"]:List String).map Str.ofString
noncomputable def nmS:List Str:=(["is_whole","common","is_fraction","lowest","need_fractions","plus","minus","times","over","below","nearest_whole","is_share","Shade","Shade.__init__","is_shade","need_shade","shares_of","shade_of","is_grade","need_grade","is_step","need_step","printed","span_of","_law_cell","_law_purse","_law_pick","_law_whole","_law_low","_law_plus","_law_minus","_law_times","_law_over","_law_below","_law_is_fraction","_law_share","_law_shares","fraction","are_shades","is_weight","are_weights","mean_share","mix","_law_got","_law_plain_share","_law_rows","_law_shade","Blend","Blend.__init__","added","Blend.put","Blend.joined","Blend.total","Blend.shade","Blend.__eq__","Blend.__len__","_law_blend","_law_mix","_law_total","_law_turned","_law_mixes_right","_law_blends_right","law"]:List String).map Str.ofString
noncomputable def pkS (y:PX):Nat→Sp3
 | 0=>dO
 | 1=>kJ
 | 2=>jV
 | 3=>bR
 | 4=>nF
 | 5=>kA
 | 6=>lP
 | 7=>fR
 | 8=>kS
 | 9=>lD
 | 10=>AD
 | 11=>iP
 | 12=>lN
 | 13=>oH
 | 14=>fV
 | 15=>lJ
 | 16=>dZ
 | 17=>fS
 | 18=>AL
 | 19=>nJ
 | 20=>nD
 | 21=>iZ
 | 22=>pT
 | 23=>HK
 | 24=>wW
 | 25=>nL
 | 26=>gN
 | 27=>dO
 | 28=>bR
 | 29=>kA
 | 30=>lP
 | 31=>fR
 | 32=>kS
 | 33=>lD
 | 34=>iC
 | 35=>dJ
 | 36=>iE
 | 37=>fY
 | 38=>oP
 | 39=>pP
 | 40=>pA
 | 41=>wP
 | 42=>JZ
 | 43=>JQ
 | 44=>dJ
 | 45=>BB
 | 46=>JV
 | 47=>aFy
 | 48=>KW
 | 49=>tR
 | 50=>KO
 | 51=>iO
 | 52=>tV
 | 53=>DI
 | 54=>KN
 | 55=>zO
 | 56=>MF
 | 57=>zP
 | 58=>MP
 | 59=>AX
 | 60=>gW
 | 61=>gW
 | 62=>CA
 | _=>fun _ _ _=>False
noncomputable def nmG:List Str:=(["ONE","ZERO","MOST_GRADE","Shade","int","bool","tuple","MOST_SHADES","MOST_WEIGHT","Blend","list"]:List String).map Str.ofString
noncomputable def pkG:Nat→PV
 | 0=>FQ 1
 | 1=>FQ 0
 | 2=>.int 1000
 | 3=>.cl "Shade"
 | 4=>.ty "int"
 | 5=>.ty "bool"
 | 6=>.ty "tuple"
 | 7=>.int 60
 | 8=>.int 1000000
 | 9=>.cl "Blend"
 | 10=>.ty "list"
 | _=>.non
noncomputable abbrev tcs:List String:=["Blend","Shade"]
noncomputable abbrev tfl:List (String×Str):=[("Blend","many"),("Blend","sums"),("Blend","weight"),("Shade","ember"),("Shade","leaf"),("Shade","sky")]
noncomputable def T (y:PX):Tb:={ S:=fun f=>pkS y (nmS.idxOf f),gv:=fun f=>pkG (nmG.idxOf f),cs:=tcs,fl:=tfl,fam:=fun x f=>pkS x (nmS.idxOf f),xp:=y,xi:=[],fx:=[] }
theorem uY {y:PX}:(T y).S "is_whole"=dO:=by kernel_rfl
theorem EA {y:PX}:(T y).S "common"=kJ:=by kernel_rfl
theorem lY {y:PX}:(T y).S "is_fraction"=jV:=by kernel_rfl
theorem FK {y:PX}:(T y).S "lowest"=bR:=by kernel_rfl
theorem iN {y:PX}:(T y).S "need_fractions"=nF:=by kernel_rfl
theorem XI {y:PX}:(T y).S "plus"=kA:=by kernel_rfl
theorem aBU {y:PX}:(T y).S "minus"=lP:=by kernel_rfl
theorem KI {y:PX}:(T y).S "times"=fR:=by kernel_rfl
theorem VO {y:PX}:(T y).S "over"=kS:=by kernel_rfl
theorem ZT {y:PX}:(T y).S "below"=lD:=by kernel_rfl
theorem tH {y:PX}:(T y).S "nearest_whole"=AD:=by kernel_rfl
theorem wB {y:PX}:(T y).S "is_share"=iP:=by kernel_rfl
theorem aAy {y:PX}:(T y).S "Shade"=lN:=by kernel_rfl
theorem iR {y:PX}:(T y).S "Shade.__init__"=oH:=by kernel_rfl
theorem tW {y:PX}:(T y).S "is_shade"=fV:=by kernel_rfl
theorem nB {y:PX}:(T y).S "need_shade"=lJ:=by kernel_rfl
theorem sP {y:PX}:(T y).S "shares_of"=dZ:=by kernel_rfl
theorem vJ {y:PX}:(T y).S "shade_of"=fS:=by kernel_rfl
theorem GR {y:PX}:(T y).S "is_grade"=AL:=by kernel_rfl
theorem AR {y:PX}:(T y).S "need_grade"=nJ:=by kernel_rfl
theorem PP {y:PX}:(T y).S "is_step"=nD:=by kernel_rfl
theorem FB {y:PX}:(T y).S "need_step"=iZ:=by kernel_rfl
theorem QL {y:PX}:(T y).S "printed"=pT:=by kernel_rfl
theorem QW {y:PX}:(T y).S "span_of"=HK:=by kernel_rfl
theorem DB {y:PX}:(T y).S "_law_cell"=wW:=by kernel_rfl
theorem yE {y:PX}:(T y).S "_law_purse"=nL:=by kernel_rfl
theorem FG {y:PX}:(T y).S "_law_pick"=gN:=by kernel_rfl
theorem yQ {y:PX}:(T y).S "_law_whole"=dO:=by kernel_rfl
theorem KR {y:PX}:(T y).S "_law_low"=bR:=by kernel_rfl
theorem VF {y:PX}:(T y).S "_law_plus"=kA:=by kernel_rfl
theorem ON {y:PX}:(T y).S "_law_minus"=lP:=by kernel_rfl
theorem OJ {y:PX}:(T y).S "_law_times"=fR:=by kernel_rfl
theorem UY {y:PX}:(T y).S "_law_over"=kS:=by kernel_rfl
theorem NB {y:PX}:(T y).S "_law_below"=lD:=by kernel_rfl
theorem jS {y:PX}:(T y).S "_law_is_fraction"=iC:=by kernel_rfl
theorem xZ {y:PX}:(T y).S "_law_share"=dJ:=by kernel_rfl
theorem tX {y:PX}:(T y).S "_law_shares"=iE:=by kernel_rfl
theorem vB {y:PX}:(T y).S "fraction"=fY:=by kernel_rfl
theorem nA {y:PX}:(T y).S "are_shades"=oP:=by kernel_rfl
theorem sE {y:PX}:(T y).S "is_weight"=pP:=by kernel_rfl
theorem mG {y:PX}:(T y).S "are_weights"=pA:=by kernel_rfl
theorem nN {y:PX}:(T y).S "mean_share"=wP:=by kernel_rfl
theorem aCt {y:PX}:(T y).S "mix"=JZ:=by kernel_rfl
theorem ML {y:PX}:(T y).S "_law_got"=JQ:=by kernel_rfl
theorem jR {y:PX}:(T y).S "_law_plain_share"=dJ:=by kernel_rfl
theorem FE {y:PX}:(T y).S "_law_rows"=BB:=by kernel_rfl
theorem yB {y:PX}:(T y).S "_law_shade"=JV:=by kernel_rfl
theorem aAj {y:PX}:(T y).S "Blend"=aFy:=by kernel_rfl
theorem iF {y:PX}:(T y).S "Blend.__init__"=KW:=by kernel_rfl
theorem KK {y:PX}:(T y).S "added"=tR:=by kernel_rfl
theorem sL {y:PX}:(T y).S "Blend.put"=KO:=by kernel_rfl
theorem kC {y:PX}:(T y).S "Blend.joined"=iO:=by kernel_rfl
theorem lZ {y:PX}:(T y).S "Blend.total"=tV:=by kernel_rfl
theorem mF {y:PX}:(T y).S "Blend.shade"=DI:=by kernel_rfl
theorem jX {y:PX}:(T y).S "Blend.__eq__"=KN:=by kernel_rfl
theorem jQ {y:PX}:(T y).S "Blend.__len__"=zO:=by kernel_rfl
theorem yM {y:PX}:(T y).S "_law_blend"=MF:=by kernel_rfl
theorem MR {y:PX}:(T y).S "_law_mix"=zP:=by kernel_rfl
theorem yV {y:PX}:(T y).S "_law_total"=MP:=by kernel_rfl
theorem uF {y:PX}:(T y).S "_law_turned"=AX:=by kernel_rfl
theorem jP {y:PX}:(T y).S "_law_mixes_right"=gW:=by kernel_rfl
theorem iH {y:PX}:(T y).S "_law_blends_right"=gW:=by kernel_rfl
theorem aCC {y:PX}:(T y).S "law"=CA:=by kernel_rfl
theorem aIY {y:PX}:(T y).gv "ONE"=FQ 1:=by kernel_rfl
theorem ZM {y:PX}:(T y).gv "ZERO"=FQ 0:=by kernel_rfl
theorem BI {y:PX}:(T y).gv "MOST_GRADE"= .int 1000:=by kernel_rfl
theorem pE {y:PX}:(T y).gv "Shade"= .cl "Shade":=by kernel_rfl
theorem KF {y:PX}:(T y).gv "int"= .ty "int":=by kernel_rfl
theorem JJ {y:PX}:(T y).gv "bool"= .ty "bool":=by kernel_rfl
theorem fQ {y:PX}:(T y).gv "tuple"= .ty "tuple":=by kernel_rfl
theorem mE {y:PX}:(T y).gv "MOST_SHADES"= .int 60:=by kernel_rfl
theorem mI {y:PX}:(T y).gv "MOST_WEIGHT"= .int 1000000:=by kernel_rfl
theorem oO {y:PX}:(T y).gv "Blend"= .cl "Blend":=by kernel_rfl
theorem SS {y:PX}:(T y).gv "list"= .ty "list":=by kernel_rfl
theorem hPT {y:PX}:PT (T y):={ is_whole:=uY,common:=EA,is_fraction:=lY,lowest:=FK,need_fractions:=iN,plus:=XI,minus:=aBU,times:=KI,over:=VO,below:=ZT,nearest_whole:=tH,is_share:=wB,shade:=aAy,shadeI:=iR,is_shade:=tW,need_shade:=nB,shares_of:=sP,shade_of:=vJ,is_grade:=GR,need_grade:=AR,is_step:=PP,need_step:=FB,printed:=QL,span_of:=QW,gv_ONE:=aIY,gv_ZERO:=ZM,gv_MOST_GRADE:=BI,gv_Shade:=pE,cs:=(by decide +kernel: "Shade"∈tcs),fl_e:=(by decide +kernel:("Shade",("ember":Str))∈tfl),fl_l:=(by decide +kernel:("Shade",("leaf":Str))∈tfl),fl_s:=(by decide +kernel:("Shade",("sky":Str))∈tfl),ty_int:=KF,ty_bool:=JJ,ty_tuple:=fQ }
theorem hLT {y:PX}:LT (T y):={ cell:=DB,purse:=yE,pick:=FG,whole:=yQ,low:=KR,plus:=VF,minus:=ON,times:=OJ,over:=UY,below:=NB,is_fraction:=jS,share:=xZ,shares:=tX }
theorem iI {y:PX}:L14 (T y):={ fraction:=vB,are_shades:=nA,is_weight:=sE,are_weights:=mG,mean:=nN,mix:=aCt,got:=ML,plain:=jR,rows:=FE,shadeL:=yB,gv_MS:=mE,gv_MW:=mI,gv_Blend:=oO,csB:=(by decide +kernel: "Blend"∈tcs),fl_m:=(by decide +kernel:("Blend",("many":Str))∈tfl),fl_w:=(by decide +kernel:("Blend",("weight":Str))∈tfl),fl_u:=(by decide +kernel:("Blend",("sums":Str))∈tfl),blend:=aAj,blendI:=iF,added:=KK,put:=sL,joined:=kC,total:=lZ,bshade:=mF,beq:=jX,blen:=jQ,lblend:=yM,lmix:=MR,ltot:=yV,lturn:=uF,mixes:=jP,blends:=iH,ty_list:=SS }
noncomputable def FF (a:Nat→Addr) (c:String):Addr:=if c="Blend" then a 47 else if c="Shade" then a 48 else 0
theorem aG {a:Nat→Addr}:FF a "Blend"=a 47:=by unfold FF; simp
theorem aX {a:Nat→Addr}:FF a "Shade"=a 48:=by unfold FF; simp
structure Tx (K:W.Frag) (mg:Str→Option Value) (a:Nat→Addr) (d:Nat→FuncData) (v:Nat→Value):Prop where
 qa:bH K "__init__" "Blend.__init__" bC (.none) (a 0) (d 0)
 qb:bH K "common" "common" gJ (.none) (a 1) (d 1)
 qc:mg "common"=some (.ref (a 1))
 qd:bH K "lowest" "lowest" gD (.none) (a 2) (d 2)
 qe:mg "lowest"=some (.ref (a 2))
 qf:bH K "is_whole" "is_whole" dW (.none) (a 3) (d 3)
 qg:mg "is_whole"=some (.ref (a 3))
 qh:bH K "is_fraction" "is_fraction" bU (.none) (a 4) (d 4)
 qi:mg "is_fraction"=some (.ref (a 4))
 qj:bH K "need_fractions" "need_fractions" aZ (.none) (a 5) (d 5)
 qk:mg "need_fractions"=some (.ref (a 5))
 ql:bH K "plus" "plus" mK (.none) (a 6) (d 6)
 qm:mg "plus"=some (.ref (a 6))
 qo:bH K "added" "added" iU (.none) (a 7) (d 7)
 qp:mg "added"=some (.ref (a 7))
 qq:bH K "is_weight" "is_weight" cZ (.none) (a 8) (d 8)
 qr:mg "is_weight"=some (.ref (a 8))
 qt:bH K "is_shade" "is_shade" dS (.none) (a 9) (d 9)
 qu:mg "is_shade"=some (.ref (a 9))
 qw:bH K "need_shade" "need_shade" cF (.none) (a 10) (d 10)
 qx:mg "need_shade"=some (.ref (a 10))
 qy:bH K "shares_of" "shares_of" dC (.none) (a 11) (d 11)
 qz:mg "shares_of"=some (.ref (a 11))
 qA:bH K "times" "times" iX (.none) (a 12) (d 12)
 qB:mg "times"=some (.ref (a 12))
 qC:bH K "put" "Blend.put" cU (v 13) (a 13) (d 13)
 qD:∃ (b:Addr) (oc:Value) (od:Option Addr) (n:Nat) (sl:Array (Option Value)) (t0:Tok),v 13= .ref b∧K.lookup b=some ⟨oc,od,.seq #[.int 1 t0] n,sl⟩
 qE:fO K (a 47) "put" (a 13)
 qF:bH K "_law_blend" "_law_blend" eX (.none) (a 14) (d 14)
 qG:mg "_law_blend"=some (.ref (a 14))
 qH:bH K "_law_low" "_law_low" jM (.none) (a 15) (d 15)
 qI:mg "_law_low"=some (.ref (a 15))
 qJ:bH K "_law_whole" "_law_whole" eW (.none) (a 16) (d 16)
 qK:mg "_law_whole"=some (.ref (a 16))
 qL:bH K "_law_is_fraction" "_law_is_fraction" bM (.none) (a 17) (d 17)
 qM:mg "_law_is_fraction"=some (.ref (a 17))
 qN:bH K "_law_got" "_law_got" jE (.none) (a 18) (d 18)
 qO:mg "_law_got"=some (.ref (a 18))
 qP:bH K "_law_pick" "_law_pick" fW (.none) (a 19) (d 19)
 qQ:mg "_law_pick"=some (.ref (a 19))
 qR:bH K "_law_total" "_law_total" eU (.none) (a 20) (d 20)
 qS:mg "_law_total"=some (.ref (a 20))
 qT:bH K "_law_turned" "_law_turned" dY (.none) (a 21) (d 21)
 qU:mg "_law_turned"=some (.ref (a 21))
 qV:bH K "__eq__" "Blend.__eq__" bP (.none) (a 22) (d 22)
 qW:fO K (a 47) "__eq__" (a 22)
 qX:bH K "__len__" "Blend.__len__" bL (.none) (a 23) (d 23)
 qY:fO K (a 47) "__len__" (a 23)
 qZ:bH K "joined" "Blend.joined" bO (.none) (a 24) (d 24)
 qz1:fO K (a 47) "joined" (a 24)
 qz2:bH K "over" "over" mQ (.none) (a 25) (d 25)
 qz3:mg "over"=some (.ref (a 25))
 qz4:bH K "is_share" "is_share" eB (.none) (a 26) (d 26)
 qz5:mg "is_share"=some (.ref (a 26))
 qz6:bH K "__init__" "Shade.__init__" bB (.none) (a 27) (d 27)
 qz7:bH K "shade_of" "shade_of" eF (.none) (a 28) (d 28)
 qz8:mg "shade_of"=some (.ref (a 28))
 qz9:bH K "shade" "Blend.shade" bX (.none) (a 29) (d 29)
 qz10:fO K (a 47) "shade" (a 29)
 qz11:bH K "total" "Blend.total" bT (.none) (a 30) (d 30)
 qz12:fO K (a 47) "total" (a 30)
 qz13:bH K "_law_blends_right" "_law_blends_right" bA (.none) (a 31) (d 31)
 qz14:mg "_law_blends_right"=some (.ref (a 31))
 qz15:bH K "_law_cell" "_law_cell" gL (.none) (a 32) (d 32)
 qz16:mg "_law_cell"=some (.ref (a 32))
 qz17:bH K "are_shades" "are_shades" cA (.none) (a 33) (d 33)
 qz18:mg "are_shades"=some (.ref (a 33))
 qz19:bH K "are_weights" "are_weights" bV (.none) (a 34) (d 34)
 qz20:mg "are_weights"=some (.ref (a 34))
 qz21:bH K "fraction" "fraction" dQ (v 35) (a 35) (d 35)
 qz22:∃ (b:Addr) (oc:Value) (od:Option Addr) (n:Nat) (sl:Array (Option Value)) (t0:Tok),v 35= .ref b∧K.lookup b=some ⟨oc,od,.seq #[.int 1 t0] n,sl⟩
 qz23:mg "fraction"=some (.ref (a 35))
 qz24:bH K "mean_share" "mean_share" cD (.none) (a 36) (d 36)
 qz25:mg "mean_share"=some (.ref (a 36))
 qz26:bH K "mix" "mix" wZ (v 37) (a 37) (d 37)
 qz27:∃ (b:Addr) (oc:Value) (od:Option Addr) (n:Nat) (sl:Array (Option Value)) ,v 37= .ref b∧K.lookup b=some ⟨oc,od,.seq #[.none] n,sl⟩
 qz28:mg "mix"=some (.ref (a 37))
 qz29:bH K "_law_mix" "_law_mix" iS (.none) (a 38) (d 38)
 qz30:mg "_law_mix"=some (.ref (a 38))
 qz31:bH K "_law_shade" "_law_shade" eZ (.none) (a 39) (d 39)
 qz32:mg "_law_shade"=some (.ref (a 39))
 qz33:bH K "_law_mixes_right" "_law_mixes_right" bK (.none) (a 40) (d 40)
 qz34:mg "_law_mixes_right"=some (.ref (a 40))
 qz35:bH K "_law_purse" "_law_purse" eY (.none) (a 41) (d 41)
 qz36:mg "_law_purse"=some (.ref (a 41))
 qz37:bH K "_law_plain_share" "_law_plain_share" bJ (.none) (a 42) (d 42)
 qz38:mg "_law_plain_share"=some (.ref (a 42))
 qz39:bH K "_law_share" "_law_share" eS (.none) (a 43) (d 43)
 qz40:mg "_law_share"=some (.ref (a 43))
 qz41:bH K "_law_shares" "_law_shares" dU (.none) (a 44) (d 44)
 qz42:mg "_law_shares"=some (.ref (a 44))
 qz43:bH K "_law_rows" "_law_rows" gK (.none) (a 45) (d 45)
 qz44:mg "_law_rows"=some (.ref (a 45))
 qz45:bH K "law" "law" sJ (.none) (a 46) (d 46)
 m_law:mg "law"=some (.ref (a 46))
 qz46:TU K (a 47)
 qz47:mg "Blend"=some (.ref (a 47))
 qz48:Mk K (a 47) (a 0)
 qz49:NeC K (a 47)
 qz50:∀ n∈NV,W.kitOne K (.type n) (.ref (a 47))=some false
 qz51:∀ n∈mP,W.kitOne K (.ref (a 47)) (.type n)=some false
 qz52:W.kitOne K (.ref (a 47)) (.ref (a 48))=some false
 qz53:cX K (a 47) "many"
 qz54:cX K (a 47) "sums"
 qz55:cX K (a 47) "weight"
 qz56:TU K (a 48)
 qz57:mg "Shade"=some (.ref (a 48))
 qz58:Mk K (a 48) (a 27)
 qz59:∀ n∈NV,W.kitOne K (.type n) (.ref (a 48))=some false
 qz60:∀ n∈mP,W.kitOne K (.ref (a 48)) (.type n)=some false
 qz61:W.kitOne K (.ref (a 48)) (.ref (a 47))=some false
 qz62:cX K (a 48) "ember"
 qz63:cX K (a 48) "leaf"
 qz64:cX K (a 48) "sky"
 qz65:∃ t,mg "MOST_SHADES"=some (.int 60 t)
 qz66:∃ t,mg "MOST_WEIGHT"=some (.int 1000000 t)
 qz67:∃ a t0 t1 n sl,mg "ZERO"=some (.ref a)∧K.lookup a=some ⟨.type "tuple",none,.seq #[.int 0 t0,.int 1 t1] n,sl⟩
 qz68:mg "abs"=none
 qz69:mg "all"=none
 qz70:mg "bool"=none
 qz71:mg "enumerate"=none
 qz72:mg "int"=none
 qz73:mg "isinstance"=none
 qz74:mg "len"=none
 qz75:mg "list"=none
 qz76:mg "max"=none
 qz77:mg "min"=none
 qz78:mg "range"=none
 qz79:mg "sum"=none
 qz80:mg "tuple"=none
 qz81:mg "zip"=none
variable {P:Program} {w:World} {K:W.Frag} {mg:Str→Option Value} {base:Heap} {a:Nat→Addr} {d:Nat→FuncData} {v:Nat→Value} {f0 z0:Hp} {y:PX}
theorem lnS {n:Nat} {l:List Value} (h:l.length=n + 1):∃ a t,l=a :: t∧t.length=n:=by
 cases l with
 | nil=>cases h
 | cons a t=>exact ⟨a,t,rfl,Nat.succ.inj h⟩
theorem ln0 {l:List Value} (h:l.length=0):l=[]:=List.eq_nil_of_length_eq_zero h
theorem ln1 {l:List Value} (h:l.length=1):∃ a,l=[a]:=by
 obtain ⟨a,t,rfl,h2⟩:=lnS h;exact ⟨a,by rw [ln0 h2]⟩
theorem ln2 {l:List Value} (h:l.length=2):∃ a b,l=[a,b]:=by
 obtain ⟨a,t,rfl,h2⟩:=lnS h;obtain ⟨b,rfl⟩:=ln1 h2;exact ⟨a,b,rfl⟩
theorem ln3 {l:List Value} (h:l.length=3):∃ a b c,l=[a,b,c]:=by
 obtain ⟨a,t,rfl,h2⟩:=lnS h;obtain ⟨b,c,rfl⟩:=ln2 h2;exact ⟨a,b,c,rfl⟩
theorem ln4 {l:List Value} (h:l.length=4):∃ a b c d,l=[a,b,c,d]:=by
 obtain ⟨a,t,rfl,h2⟩:=lnS h;obtain ⟨b,c,d,rfl⟩:=ln3 h2;exact ⟨a,b,c,d,rfl⟩
noncomputable abbrev Ew (K:W.Frag) (a:Nat→Addr) (f0 z0:Hp):Ev:={ K:=K,cls:=FF a,f0:=f0,z0:=z0 }
theorem DY (X:Tx K mg a d v):L2.aH K (d 1) ["one","other"] []:=X.qb.binds fun _ _ _ _ _ _ _ us _ hl=>by obtain ⟨_,_,rfl⟩:=ln2 hl; exact .of_eq rfl
theorem YO (X:Tx K mg a d v):L2.aH K (d 2) ["top","bottom"] []:=X.qd.binds fun _ _ _ _ _ _ _ us _ hl=>by obtain ⟨_,_,rfl⟩:=ln2 hl; exact .of_eq rfl
theorem mU (X:Tx K mg a d v):L2.aH K (d 3) ["thing"] []:=X.qf.binds fun _ _ _ _ _ _ _ us _ hl=>by obtain ⟨_,rfl⟩:=ln1 hl; exact .of_eq rfl
theorem mD (X:Tx K mg a d v):L2.aH K (d 4) ["thing"] []:=X.qh.binds fun _ _ _ _ _ _ _ us _ hl=>by obtain ⟨_,rfl⟩:=ln1 hl; exact .of_eq rfl
theorem fA (X:Tx K mg a d v):L2.aH K (d 5) ["things"] []:=X.qj.binds fun _ _ _ _ _ _ _ us _ hl=>by obtain ⟨_,rfl⟩:=ln1 hl; exact .of_eq rfl
theorem aGk (X:Tx K mg a d v):L2.aH K (d 6) ["one","other"] []:=X.ql.binds fun _ _ _ _ _ _ _ us _ hl=>by obtain ⟨_,_,rfl⟩:=ln2 hl; exact .of_eq rfl
theorem LO (X:Tx K mg a d v):L2.aH K (d 7) ["shares","others"] []:=X.qo.binds fun _ _ _ _ _ _ _ us _ hl=>by obtain ⟨_,_,rfl⟩:=ln2 hl; exact .of_eq rfl
theorem sI (X:Tx K mg a d v):L2.aH K (d 8) ["thing","least"] []:=X.qq.binds fun _ _ _ _ _ _ _ us _ hl=>by obtain ⟨_,_,rfl⟩:=ln2 hl; exact .of_eq rfl
theorem uP (X:Tx K mg a d v):L2.aH K (d 9) ["thing"] []:=X.qt.binds fun _ _ _ _ _ _ _ us _ hl=>by obtain ⟨_,rfl⟩:=ln1 hl; exact .of_eq rfl
theorem nR (X:Tx K mg a d v):L2.aH K (d 10) ["thing"] []:=X.qw.binds fun _ _ _ _ _ _ _ us _ hl=>by obtain ⟨_,rfl⟩:=ln1 hl; exact .of_eq rfl
theorem sK (X:Tx K mg a d v):L2.aH K (d 11) ["shade"] []:=X.qy.binds fun _ _ _ _ _ _ _ us _ hl=>by obtain ⟨_,rfl⟩:=ln1 hl; exact .of_eq rfl
theorem aBi (X:Tx K mg a d v):L2.aH K (d 12) ["one","other"] []:=X.qA.binds fun _ _ _ _ _ _ _ us _ hl=>by obtain ⟨_,_,rfl⟩:=ln2 hl; exact .of_eq rfl
theorem OP (X:Tx K mg a d v):L2.aH K (d 14) ["_law_pairs"] []:=X.qF.binds fun _ _ _ _ _ _ _ us _ hl=>by obtain ⟨_,rfl⟩:=ln1 hl; exact .of_eq rfl
theorem CB (X:Tx K mg a d v):L2.aH K (d 15) ["_law_top","_law_bottom"] []:=X.qH.binds fun _ _ _ _ _ _ _ us _ hl=>by obtain ⟨_,_,rfl⟩:=ln2 hl; exact .of_eq rfl
theorem OK (X:Tx K mg a d v):L2.aH K (d 16) ["_law_thing"] []:=X.qJ.binds fun _ _ _ _ _ _ _ us _ hl=>by obtain ⟨_,rfl⟩:=ln1 hl; exact .of_eq rfl
theorem tG (X:Tx K mg a d v):L2.aH K (d 17) ["_law_thing"] []:=X.qL.binds fun _ _ _ _ _ _ _ us _ hl=>by obtain ⟨_,rfl⟩:=ln1 hl; exact .of_eq rfl
theorem AV (X:Tx K mg a d v):L2.aH K (d 18) ["_law_thing"] []:=X.qN.binds fun _ _ _ _ _ _ _ us _ hl=>by obtain ⟨_,rfl⟩:=ln1 hl; exact .of_eq rfl
theorem XY (X:Tx K mg a d v):L2.aH K (d 19) ["_law_purse_here","_law_many"] []:=X.qP.binds fun _ _ _ _ _ _ _ us _ hl=>by obtain ⟨_,_,rfl⟩:=ln2 hl; exact .of_eq rfl
theorem zA (X:Tx K mg a d v):L2.aH K (d 20) ["_law_pairs"] []:=X.qR.binds fun _ _ _ _ _ _ _ us _ hl=>by obtain ⟨_,rfl⟩:=ln1 hl; exact .of_eq rfl
theorem vU (X:Tx K mg a d v):L2.aH K (d 21) ["_law_purse_here","_law_things"] []:=X.qT.binds fun _ _ _ _ _ _ _ us _ hl=>by obtain ⟨_,_,rfl⟩:=ln2 hl; exact .of_eq rfl
theorem wN (X:Tx K mg a d v):L2.aH K (d 22) ["self","other"] []:=X.qV.binds fun _ _ _ _ _ _ _ us _ hl=>by obtain ⟨_,_,rfl⟩:=ln2 hl; exact .of_eq rfl
theorem sR (X:Tx K mg a d v):L2.aH K (d 23) ["self"] []:=X.qX.binds fun _ _ _ _ _ _ _ us _ hl=>by obtain ⟨_,rfl⟩:=ln1 hl; exact .of_eq rfl
theorem aD2 (X:Tx K mg a d v):L2.aH K (d 25) ["one","other"] []:=X.qz2.binds fun _ _ _ _ _ _ _ us _ hl=>by obtain ⟨_,_,rfl⟩:=ln2 hl; exact .of_eq rfl
theorem HD (X:Tx K mg a d v):L2.aH K (d 26) ["thing"] []:=X.qz4.binds fun _ _ _ _ _ _ _ us _ hl=>by obtain ⟨_,rfl⟩:=ln1 hl; exact .of_eq rfl
theorem iQ (X:Tx K mg a d v):L2.aH K (d 27) ["self","ember","leaf","sky"] []:=X.qz6.binds fun _ _ _ _ _ _ _ us _ hl=>by obtain ⟨_,_,_,_,rfl⟩:=ln4 hl; exact .of_eq rfl
theorem uI (X:Tx K mg a d v):L2.aH K (d 28) ["shares"] []:=X.qz7.binds fun _ _ _ _ _ _ _ us _ hl=>by obtain ⟨_,rfl⟩:=ln1 hl; exact .of_eq rfl
theorem rL (X:Tx K mg a d v):L2.aH K (d 31) ["_law_purse_here","_law_pairs","_law_due"] []:=X.qz13.binds fun _ _ _ _ _ _ _ us _ hl=>by obtain ⟨_,_,_,rfl⟩:=ln3 hl; exact .of_eq rfl
theorem WK (X:Tx K mg a d v):L2.aH K (d 32) ["_law_script","_law_k"] []:=X.qz15.binds fun _ _ _ _ _ _ _ us _ hl=>by obtain ⟨_,_,rfl⟩:=ln2 hl; exact .of_eq rfl
theorem AC (X:Tx K mg a d v):L2.aH K (d 33) ["thing","least","most"] []:=X.qz17.binds fun _ _ _ _ _ _ _ us _ hl=>by obtain ⟨_,_,_,rfl⟩:=ln3 hl; exact .of_eq rfl
theorem xM (X:Tx K mg a d v):L2.aH K (d 34) ["thing","many"] []:=X.qz19.binds fun _ _ _ _ _ _ _ us _ hl=>by obtain ⟨_,_,rfl⟩:=ln2 hl; exact .of_eq rfl
theorem GI (X:Tx K mg a d v):L2.aH K (d 35) ["top","bottom"] []:=by
 obtain ⟨b,oc,od,n,sl,t0,e,hb⟩:=X.qz22;exact X.qz21.binds fun _ _ _ _ _ _ _ us hK hl=>by obtain ⟨_,_,rfl⟩:=ln2 hl; exact W.binds_K hK e hb rfl rfl rfl
theorem AY (X:Tx K mg a d v):L2.aH K (d 36) ["shares","weights"] []:=X.qz24.binds fun _ _ _ _ _ _ _ us _ hl=>by obtain ⟨_,_,rfl⟩:=ln2 hl; exact .of_eq rfl
theorem aC1 (X:Tx K mg a d v):L2.aH K (d 37) ["shades","weights"] []:=by
 obtain ⟨b,oc,od,n,sl,e,hb⟩:=X.qz27;exact X.qz26.binds fun _ _ _ _ _ _ _ us hK hl=>by obtain ⟨_,_,rfl⟩:=ln2 hl; exact W.binds_K hK e hb rfl rfl rfl
theorem KY (X:Tx K mg a d v):L2.aH K (d 38) ["_law_pairs"] []:=X.qz29.binds fun _ _ _ _ _ _ _ us _ hl=>by obtain ⟨_,rfl⟩:=ln1 hl; exact .of_eq rfl
theorem zJ (X:Tx K mg a d v):L2.aH K (d 39) ["_law_row","_law_way"] []:=X.qz31.binds fun _ _ _ _ _ _ _ us _ hl=>by obtain ⟨_,_,rfl⟩:=ln2 hl; exact .of_eq rfl
theorem sX (X:Tx K mg a d v):L2.aH K (d 40) ["_law_purse_here","_law_pairs","_law_due"] []:=X.qz33.binds fun _ _ _ _ _ _ _ us _ hl=>by obtain ⟨_,_,_,rfl⟩:=ln3 hl; exact .of_eq rfl
theorem OI (X:Tx K mg a d v):L2.aH K (d 41) ["_law_cell_here"] []:=X.qz35.binds fun _ _ _ _ _ _ _ us _ hl=>by obtain ⟨_,rfl⟩:=ln1 hl; exact .of_eq rfl
theorem sT (X:Tx K mg a d v):L2.aH K (d 42) ["_law_purse_here"] []:=X.qz37.binds fun _ _ _ _ _ _ _ us _ hl=>by obtain ⟨_,rfl⟩:=ln1 hl; exact .of_eq rfl
theorem QX (X:Tx K mg a d v):L2.aH K (d 43) ["_law_purse_here"] []:=X.qz39.binds fun _ _ _ _ _ _ _ us _ hl=>by obtain ⟨_,rfl⟩:=ln1 hl; exact .of_eq rfl
theorem IQ (X:Tx K mg a d v):L2.aH K (d 44) ["_law_purse_here"] []:=X.qz41.binds fun _ _ _ _ _ _ _ us _ hl=>by obtain ⟨_,rfl⟩:=ln1 hl; exact .of_eq rfl
theorem WS (X:Tx K mg a d v):L2.aH K (d 45) ["_law_purse_here","_law_many"] []:=X.qz43.binds fun _ _ _ _ _ _ _ us _ hl=>by obtain ⟨_,_,rfl⟩:=ln2 hl; exact .of_eq rfl
theorem lC (X:Tx K mg a d v):hZ K (d 0) ["self"] 1 [] [.arg 0]:=by
 refine X.qa.sh rfl fun _ _ _ _ _ _ _ us ws hK hl hl2=>?_;obtain ⟨u0,rfl⟩:=ln1 hl;obtain rfl:=ln0 hl2;refine ⟨[u0],.of_eq rfl,fun vs zs r rz=>?_⟩;obtain _ | ⟨r_u0,r⟩:=r;cases r;cases rz;exact (.cons r_u0 .nil)
theorem gP (X:Tx K mg a d v):hZ K (d 27) ["self","ember","leaf","sky"] 1 ["sky","ember","leaf"] [.arg 0,.arg 2,.arg 3,.arg 1]:=by
 refine X.qz6.sh rfl fun _ _ _ _ _ _ _ us ws hK hl hl2=>?_;obtain ⟨u0,rfl⟩:=ln1 hl;obtain ⟨w0,w1,w2,rfl⟩:=ln3 hl2;refine ⟨[u0,w1,w2,w0],.of_eq rfl,fun vs zs r rz=>?_⟩;obtain _ | ⟨r_u0,r⟩:=r;cases r;obtain _ | ⟨r_w0,rz⟩:=rz;obtain _ | ⟨r_w1,rz⟩:=rz;obtain _ | ⟨r_w2,rz⟩:=rz;cases rz;exact (.cons r_u0 (.cons r_w1 (.cons r_w2 (.cons r_w0 .nil))))
theorem jN (X:Tx K mg a d v):hZ K (d 13) ["self","shade","weight"] 3 [] [.arg 0,.arg 1,.arg 2]:=by
 obtain ⟨b,oc,od,n,sl,t0,e,hb⟩:=X.qD;refine X.qC.sh rfl fun _ _ _ _ _ _ _ us ws hK hl hl2=>?_;obtain ⟨u0,u1,u2,rfl⟩:=ln3 hl;obtain rfl:=ln0 hl2;refine ⟨[u0,u1,u2],W.binds_K hK e hb rfl rfl rfl,fun vs zs r rz=>?_⟩;obtain _ | ⟨r_u0,r⟩:=r;obtain _ | ⟨r_u1,r⟩:=r;obtain _ | ⟨r_u2,r⟩:=r;cases r;cases rz;exact (.cons r_u0 (.cons r_u1 (.cons r_u2 .nil)))
theorem gI (X:Tx K mg a d v):hZ K (d 24) ["self","other"] 2 [] [.arg 0,.arg 1]:=by
 refine X.qZ.sh rfl fun _ _ _ _ _ _ _ us ws hK hl hl2=>?_;obtain ⟨u0,u1,rfl⟩:=ln2 hl;obtain rfl:=ln0 hl2;refine ⟨[u0,u1],.of_eq rfl,fun vs zs r rz=>?_⟩;obtain _ | ⟨r_u0,r⟩:=r;obtain _ | ⟨r_u1,r⟩:=r;cases r;cases rz;exact (.cons r_u0 (.cons r_u1 .nil))
theorem gQ (X:Tx K mg a d v):hZ K (d 29) ["self"] 1 [] [.arg 0]:=by
 refine X.qz9.sh rfl fun _ _ _ _ _ _ _ us ws hK hl hl2=>?_;obtain ⟨u0,rfl⟩:=ln1 hl;obtain rfl:=ln0 hl2;refine ⟨[u0],.of_eq rfl,fun vs zs r rz=>?_⟩;obtain _ | ⟨r_u0,r⟩:=r;cases r;cases rz;exact (.cons r_u0 .nil)
theorem gS (X:Tx K mg a d v):hZ K (d 30) ["self"] 1 [] [.arg 0]:=by
 refine X.qz11.sh rfl fun _ _ _ _ _ _ _ us ws hK hl hl2=>?_;obtain ⟨u0,rfl⟩:=ln1 hl;obtain rfl:=ln0 hl2;refine ⟨[u0],.of_eq rfl,fun vs zs r rz=>?_⟩;obtain _ | ⟨r_u0,r⟩:=r;cases r;cases rz;exact (.cons r_u0 .nil)
abbrev FO (P:Program) (w:World) (K:W.Frag) (mg:Str→Option Value) (base:Heap) (a:Nat→Addr) (d:Nat→FuncData) (n i:Nat) (f0 z0:Hp) (y:PX) (ps:List Str) (x:Str):Prop:=bN P w K mg base CX0 n (a i) (d i) ps (iW (Ew K a f0 z0) ((T y).S x))
theorem ck (X:Tx K mg a d v):Ck K (Ew K a f0 z0) (T y):=by
 refine ⟨rfl,⟨?_, ?_, ?_, ?_⟩, ?_⟩
 · exact ac (by rw [show (Ew K a f0 z0).cls "Blend"=a 47 from aG]; exact X.qz46) (ac (by rw [show (Ew K a f0 z0).cls "Shade"=a 48 from aX]; exact X.qz56) (an))
 · exact ac (by rw [show (Ew K a f0 z0).cls "Blend"=a 47 from aG]; exact X.qz50) (ac (by rw [show (Ew K a f0 z0).cls "Shade"=a 48 from aX]; exact X.qz59) (an))
 · exact ac (by rw [show (Ew K a f0 z0).cls "Blend"=a 47 from aG]; exact X.qz51) (ac (by rw [show (Ew K a f0 z0).cls "Shade"=a 48 from aX]; exact X.qz60) (an))
 · exact ac (ac (fun h=>absurd rfl h) (ac (fun _=>by rw [show (Ew K a f0 z0).cls "Blend"=a 47 from aG,show (Ew K a f0 z0).cls "Shade"=a 48 from aX]; exact X.qz52) (an))) (ac (ac (fun _=>by rw [show (Ew K a f0 z0).cls "Shade"=a 48 from aX,show (Ew K a f0 z0).cls "Blend"=a 47 from aG]; exact X.qz61) (ac (fun h=>absurd rfl h) (an))) (an))
 · intro c f h;have key:∀ p∈(T y).fl,Cls K ((Ew K a f0 z0).cls p.1)∧cX K ((Ew K a f0 z0).cls p.1) p.2:=ac (by dsimp only; rw [aG]; exact ⟨X.qz46.cl,X.qz53⟩) (ac (by dsimp only; rw [aG]; exact ⟨X.qz46.cl,X.qz54⟩) (ac (by dsimp only; rw [aG]; exact ⟨X.qz46.cl,X.qz55⟩) (ac (by dsimp only; rw [aX]; exact ⟨X.qz56.cl,X.qz62⟩) (ac (by dsimp only; rw [aX]; exact ⟨X.qz56.cl,X.qz63⟩) (ac (by dsimp only; rw [aX]; exact ⟨X.qz56.cl,X.qz64⟩) (an))))));exact key (c,f) h
local macro_rules | `(tactic| walk_at "sl") => `(tactic| (intro xs G Q h; repeat (first | exact (congrArg List.length h.1).trans rfl | (obtain ⟨_, h⟩ := h))))
theorem xo (X:Tx K mg a d v):Xo K mg (Ew K a f0 z0) (T y):=by
 exact Xo.no rfl rfl
theorem oG (X:Tx K mg a d v):Gf P w K mg base (Ew K a f0 z0) (T y) 40 C_Blend___init__ :=
 ⟨an,an,an,an,ac (by obtain ⟨b,t0,t1,n,sl,h,l⟩:=X.qz67; rw [ZM]; exact aAf (aAN rfl h l) (by first | rfl | exact BR.symm)) (an),an,an,an,an,an,an,an,an,an,an,an,an,an,an,an,an,an,an⟩
theorem eQ (X:Tx K mg a d v):FO P w K mg base a d 42 0 f0 z0 y ["self"] "Blend.__init__":=by
 rw [FO,iF]; exact aV (T:=T y) X.qa mZ (ck X) (oG X) nO (xo X) (Tf.no rfl) rfl (fun _=>by decide) (fun z=>by cases z) (by walk_at "sl") (pH hPT iI)
theorem OR (X:Tx K mg a d v):Gf P w K mg base (Ew K a f0 z0) (T y) 40 C_common :=
 ⟨an,an,an,an,an,an,an,an,an,an,an,an,an,an,an,an,an,an,an,an,an,an,an⟩
theorem yC (X:Tx K mg a d v):FO P w K mg base a d 42 1 f0 z0 y ["one","other"] "common":=by
 rw [FO,EA]; exact aV (T:=T y) X.qb QA (ck X) (OR X) ND (xo X) (Tf.no rfl) rfl (fun _=>by decide) (fun z=>by cases z) (by walk_at "sl") (RY hPT)
theorem NY (X:Tx K mg a d v):Gf P w K mg base (Ew K a f0 z0) (T y) 42 C_lowest :=
 ⟨ac (⟨_,_,_,⟨(yC X).mono (by decide),X.qc,X.qb.kp,by decide +kernel⟩,DY X⟩) (an),an,an,an,an,an,ac (X.qz68) (an),an,an,an,an,an,an,an,an,an,an,an,an,an,an,an,an⟩
theorem QI (X:Tx K mg a d v):FO P w K mg base a d 44 2 f0 z0 y ["top","bottom"] "lowest":=by
 rw [FO,FK]; exact aV (T:=T y) X.qd QV (ck X) (NY X) QH (xo X) (Tf.no rfl) rfl (fun _=>by decide) (fun z=>by cases z) (by walk_at "sl") (VE hPT)
theorem lR (X:Tx K mg a d v) {k:Nat} (h:44≤k):∃ ad fd ps,Fk P w K mg base (Ew K a f0 z0) (T y) k "lowest" ad fd ps∧L2.aH K fd ps []:=⟨_,_,_,⟨(QI X).mono h,X.qe,X.qd.kp,by decide +kernel⟩,YO X⟩
theorem DG (X:Tx K mg a d v):Gf P w K mg base (Ew K a f0 z0) (T y) 40 C_is_whole :=
 ⟨an,an,an,an,an,ac (⟨X.qz70,⟨"bool",PyProof.Rows.boot_bool,JJ⟩,by decide +kernel⟩) (ac (⟨X.qz72,⟨"int",PyProof.Rows.boot_int,KF⟩,by decide +kernel⟩) (an)),ac (X.qz73) (an),an,an,an,an,an,an,an,an,an,an,an,an,an,an,an,an⟩
theorem kB (X:Tx K mg a d v):FO P w K mg base a d 42 3 f0 z0 y ["thing"] "is_whole":=by
 rw [FO,uY]; exact aV (T:=T y) X.qf EY (ck X) (DG X) FH (xo X) (Tf.no rfl) rfl (fun _=>by decide) (fun z=>by cases z) (by walk_at "sl") (uJ hPT)
theorem wM (X:Tx K mg a d v):Gf P w K mg base (Ew K a f0 z0) (T y) 42 C_is_fraction :=
 ⟨ac (⟨_,_,_,⟨(yC X).mono (by decide),X.qc,X.qb.kp,by decide +kernel⟩,DY X⟩) (ac (⟨_,_,_,⟨(kB X).mono (by decide),X.qg,X.qf.kp,by decide +kernel⟩,mU X⟩) (an)),an,an,an,an,ac (⟨X.qz80,⟨"tuple",PyProof.Rows.boot_tuple,fQ⟩,by decide +kernel⟩) (an),ac (X.qz68) (ac (X.qz73) (ac (X.qz74) (an))),an,an,an,an,an,an,an,an,an,an,an,an,an,an,an,an⟩
theorem kR (X:Tx K mg a d v):FO P w K mg base a d 44 4 f0 z0 y ["thing"] "is_fraction":=by
 rw [FO,lY]; exact aV (T:=T y) X.qh uD (ck X) (wM X) uG (xo X) (Tf.no rfl) rfl (fun _=>by decide) (fun z=>by cases z) (by walk_at "sl") (xQ hPT)
theorem pB (X:Tx K mg a d v):Gf P w K mg base (Ew K a f0 z0) (T y) 44 C_need_fractions :=
 ⟨ac (⟨_,_,_,⟨(kR X).mono (by decide),X.qi,X.qh.kp,by decide +kernel⟩,mD X⟩) (an),an,an,an,an,an,ac (X.qz71) (an),an,an,an,an,an,an,an,an,an,an,an,an,an,an,an,an⟩
theorem eK (X:Tx K mg a d v):FO P w K mg base a d 46 5 f0 z0 y ["things"] "need_fractions":=by
 rw [FO,iN]; exact aV (T:=T y) X.qj pG (ck X) (pB X) oZ (xo X) (Tf.no rfl) rfl (fun _=>by decide) (fun z=>by cases z) (by walk_at "sl") (rV hPT)
theorem aA3 (X:Tx K mg a d v):Gf P w K mg base (Ew K a f0 z0) (T y) 46 C_plus :=
 ⟨ac (lR X (by decide)) (ac (⟨_,_,_,⟨(eK X).mono (by decide),X.qk,X.qj.kp,by decide +kernel⟩,fA X⟩) (an)),an,an,an,an,an,an,an,an,an,an,an,an,an,an,an,an,an,an,an,an,an,an⟩
theorem aBw (X:Tx K mg a d v):FO P w K mg base a d 48 6 f0 z0 y ["one","other"] "plus":=by
 rw [FO,XI]; exact aV (T:=T y) X.ql ZW (ck X) (aA3 X) ZY (xo X) (Tf.no rfl) rfl (fun _=>by decide) (fun z=>by cases z) (by walk_at "sl") (aET hPT)
theorem UT (X:Tx K mg a d v):Gf P w K mg base (Ew K a f0 z0) (T y) 48 C_added :=
 ⟨ac (⟨_,_,_,⟨(aBw X).mono (by decide),X.qm,X.ql.kp,by decide +kernel⟩,aGk X⟩) (an),an,an,an,an,ac (⟨X.qz80,⟨"tuple",PyProof.Rows.boot_tuple,fQ⟩,by decide +kernel⟩) (an),ac (X.qz80) (ac (X.qz81) (an)),an,an,an,an,an,an,an,an,an,an,an,an,an,an,an,an⟩
theorem CI (X:Tx K mg a d v):FO P w K mg base a d 50 7 f0 z0 y ["shares","others"] "added":=by
 rw [FO,KK]; exact aV (T:=T y) X.qo SC (ck X) (UT X) YJ (xo X) (Tf.no rfl) rfl (fun _=>by decide) (fun z=>by cases z) (by walk_at "sl") (aAA hPT)
theorem BU (X:Tx K mg a d v):Gf P w K mg base (Ew K a f0 z0) (T y) 42 C_is_weight :=
 ⟨ac (⟨_,_,_,⟨(kB X).mono (by decide),X.qg,X.qf.kp,by decide +kernel⟩,mU X⟩) (an),an,an,an,ac (by obtain ⟨t,h⟩:=X.qz66; rw [mI]; exact RU h) (an),an,an,an,an,an,an,an,an,an,an,an,an,an,an,an,an,an,an⟩
theorem nC (X:Tx K mg a d v):FO P w K mg base a d 44 8 f0 z0 y ["thing","least"] "is_weight":=by
 rw [FO,sE]; exact aV (T:=T y) X.qq zL (ck X) (BU X) zQ (xo X) (Tf.no rfl) rfl (fun _=>by decide) (fun z=>by cases z) (by walk_at "sl") (CD hPT iI)
theorem EH (X:Tx K mg a d v):Gf P w K mg base (Ew K a f0 z0) (T y) 40 C_is_shade :=
 ⟨an,an,an,an,ac (by rw [pE]; exact jY X.qz57 aX) (an),an,ac (X.qz73) (an),an,an,an,an,an,an,an,an,an,an,an,an,an,an,an,an⟩
theorem sO (X:Tx K mg a d v):FO P w K mg base a d 42 9 f0 z0 y ["thing"] "is_shade":=by
 rw [FO,tW]; exact aV (T:=T y) X.qt FS (ck X) (EH X) EG (xo X) (Tf.no rfl) rfl (fun _=>by decide) (fun z=>by cases z) (by walk_at "sl") (GT hPT)
theorem xA (X:Tx K mg a d v):Gf P w K mg base (Ew K a f0 z0) (T y) 42 C_need_shade :=
 ⟨ac (⟨_,_,_,⟨(sO X).mono (by decide),X.qu,X.qt.kp,by decide +kernel⟩,uP X⟩) (an),an,an,an,an,an,an,an,an,an,an,an,an,an,an,an,an,an,an,an,an,an,an⟩
theorem mB (X:Tx K mg a d v):FO P w K mg base a d 44 10 f0 z0 y ["thing"] "need_shade":=by
 rw [FO,nB]; exact aV (T:=T y) X.qw xU (ck X) (xA X) xR (xo X) (Tf.no rfl) rfl (fun _=>by decide) (fun z=>by cases z) (by walk_at "sl") (AS hPT)
theorem AB (X:Tx K mg a d v):Gf P w K mg base (Ew K a f0 z0) (T y) 44 C_shares_of :=
 ⟨ac (⟨_,_,_,⟨(mB X).mono (by decide),X.qx,X.qw.kp,by decide +kernel⟩,nR X⟩) (an),an,an,an,an,an,an,an,an,an,an,an,an,an,an,an,an,an,an,an,an,an,an⟩
theorem oY (X:Tx K mg a d v):FO P w K mg base a d 46 11 f0 z0 y ["shade"] "shares_of":=by
 rw [FO,sP]; exact aV (T:=T y) X.qy AE (ck X) (AB X) zR (xo X) (Tf.no rfl) rfl (fun _=>by decide) (fun z=>by cases z) (by walk_at "sl") (ES hPT)
theorem YB (X:Tx K mg a d v):Gf P w K mg base (Ew K a f0 z0) (T y) 46 C_times :=
 ⟨ac (lR X (by decide)) (ac (⟨_,_,_,⟨(eK X).mono (by decide),X.qk,X.qj.kp,by decide +kernel⟩,fA X⟩) (an)),an,an,an,an,an,an,an,an,an,an,an,an,an,an,an,an,an,an,an,an,an,an⟩
theorem VQ (X:Tx K mg a d v):FO P w K mg base a d 48 12 f0 z0 y ["one","other"] "times":=by
 rw [FO,KI]; exact aV (T:=T y) X.qA YS (ck X) (YB X) VA (xo X) (Tf.no rfl) rfl (fun _=>by decide) (fun z=>by cases z) (by walk_at "sl") (aBt hPT)
theorem BW (X:Tx K mg a d v):Gf P w K mg base (Ew K a f0 z0) (T y) 50 C_Blend_put :=
 ⟨ac (⟨_,_,_,⟨(CI X).mono (by decide),X.qp,X.qo.kp,by decide +kernel⟩,LO X⟩) (ac (⟨_,_,_,⟨(nC X).mono (by decide),X.qr,X.qq.kp,by decide +kernel⟩,sI X⟩) (ac (⟨_,_,_,⟨(mB X).mono (by decide),X.qx,X.qw.kp,by decide +kernel⟩,nR X⟩) (ac (⟨_,_,_,⟨(oY X).mono (by decide),X.qz,X.qy.kp,by decide +kernel⟩,sK X⟩) (ac (⟨_,_,_,⟨(VQ X).mono (by decide),X.qB,X.qA.kp,by decide +kernel⟩,aBi X⟩) (an))))),an,an,an,an,an,an,an,an,an,an,an,an,an,an,an,an,an,an,an,an,an,an⟩
theorem nG (X:Tx K mg a d v):FO P w K mg base a d 52 13 f0 z0 y ["self","shade","weight"] "Blend.put":=by
 rw [FO,sL]; exact aV (T:=T y) X.qC AN (ck X) (BW X) BQ (xo X) (Tf.no rfl) rfl (fun _=>by decide) (fun z=>by cases z) (by walk_at "sl") (ED hPT iI)
theorem GF (X:Tx K mg a d v):Gf P w K mg base (Ew K a f0 z0) (T y) 52 C_l_blend :=
 ⟨an,an,an,ac (⟨"Blend","Blend.__init__",_,_,_,⟨by rw [show (Ew K a f0 z0).cls "Blend"=a 47 from aG]; exact X.qz48,(eQ X).mono (by decide),by rw [show (Ew K a f0 z0).cls "Blend"=a 47 from aG]; exact X.qz47,.inr (pV iI),by decide +kernel⟩,lC X⟩) (an),ac (by rw [oO]; exact jY X.qz47 aG) (an),an,an,an,an,an,an,an,an,an,an,an,an,an,ac (an) (an),an,an,ac (ac (by refine ⟨_,_,_, ?_, ?_,jN X,.inl ((nG X).mono (by decide))⟩ <;> rw [show (Ew K a f0 z0).cls "Blend"=a 47 from aG] <;> first | exact X.qz46.cl | exact X.qE) (an)) (an),ac (ac (by refine ⟨_,_,_, ?_, ?_,jN X,(nG X).mono (by decide)⟩ <;> rw [show (Ew K a f0 z0).cls "Blend"=a 47 from aG] <;> first | exact X.qz46.cl | exact X.qE) (an)) (an)⟩
theorem JF (X:Tx K mg a d v):FO P w K mg base a d 54 14 f0 z0 y ["_law_pairs"] "_law_blend":=by
 rw [FO,yM]; exact aV (T:=T y) X.qF IU (ck X) (GF X) JD (xo X) (Tf.no rfl) rfl (fun _=>by decide) (fun z=>by cases z) (by walk_at "sl") (QB iI)
theorem XS (X:Tx K mg a d v):Gf P w K mg base (Ew K a f0 z0) (T y) 40 C_l_low :=
 ⟨an,an,an,an,an,an,ac (X.qz68) (an),an,an,an,an,an,an,an,an,an,an,an,an,an,an,an,an⟩
theorem wT (X:Tx K mg a d v):FO P w K mg base a d 42 15 f0 z0 y ["_law_top","_law_bottom"] "_law_low":=by
 rw [FO,KR]; exact aV (T:=T y) X.qH VP (ck X) (XS X) XM (xo X) (Tf.no rfl) rfl (fun _=>by decide) (fun z=>by cases z) (by walk_at "sl") (aAv )
theorem JC (X:Tx K mg a d v):Gf P w K mg base (Ew K a f0 z0) (T y) 40 C_l_whole :=
 ⟨an,an,an,an,an,ac (⟨X.qz70,⟨"bool",PyProof.Rows.boot_bool,JJ⟩,by decide +kernel⟩) (ac (⟨X.qz72,⟨"int",PyProof.Rows.boot_int,KF⟩,by decide +kernel⟩) (an)),ac (X.qz73) (an),an,an,an,an,an,an,an,an,an,an,an,an,an,an,an,an⟩
theorem HW (X:Tx K mg a d v):FO P w K mg base a d 42 16 f0 z0 y ["_law_thing"] "_law_whole":=by
 rw [FO,yQ]; exact aV (T:=T y) X.qJ GX (ck X) (JC X) GN (xo X) (Tf.no rfl) rfl (fun _=>by decide) (fun z=>by cases z) (by walk_at "sl") (MX hPT)
theorem rS (X:Tx K mg a d v):Gf P w K mg base (Ew K a f0 z0) (T y) 42 C_l_is_fraction :=
 ⟨ac (⟨_,_,_,⟨(wT X).mono (by decide),X.qI,X.qH.kp,by decide +kernel⟩,CB X⟩) (ac (⟨_,_,_,⟨(HW X).mono (by decide),X.qK,X.qJ.kp,by decide +kernel⟩,OK X⟩) (an)),an,an,an,an,ac (⟨X.qz80,⟨"tuple",PyProof.Rows.boot_tuple,fQ⟩,by decide +kernel⟩) (an),ac (X.qz73) (ac (X.qz74) (an)),an,an,an,an,an,an,an,an,an,an,an,an,an,an,an,an⟩
theorem rA (X:Tx K mg a d v):FO P w K mg base a d 44 17 f0 z0 y ["_law_thing"] "_law_is_fraction":=by
 rw [FO,jS]; exact aV (T:=T y) X.qL rJ (ck X) (rS X) sA (xo X) (Tf.no rfl) rfl (fun _=>by decide) (fun z=>by cases z) (by walk_at "sl") (sW hPT hLT)
theorem TC (X:Tx K mg a d v):Gf P w K mg base (Ew K a f0 z0) (T y) 44 C_l_got :=
 ⟨ac (⟨_,_,_,⟨(rA X).mono (by decide),X.qM,X.qL.kp,by decide +kernel⟩,tG X⟩) (an),an,an,an,ac (by rw [pE]; exact jY X.qz57 aX) (an),an,ac (X.qz69) (ac (X.qz73) (an)),an,an,an,an,an,an,an,an,an,an,an,an,an,an,an,an⟩
theorem uZ (X:Tx K mg a d v):FO P w K mg base a d 46 18 f0 z0 y ["_law_thing"] "_law_got":=by
 rw [FO,ML]; exact aV (T:=T y) X.qN RW (ck X) (TC X) ZF (xo X) (Tf.no rfl) rfl (fun _=>by decide) (fun z=>by cases z) (by walk_at "sl") (aBr hPT hLT)
theorem NQ (X:Tx K mg a d v):Gf P w K mg base (Ew K a f0 z0) (T y) 40 C_l_pick :=
 ⟨an,an,an,an,an,an,an,an,an,an,an,an,an,an,an,an,an,an,an,an,an,an,an⟩
theorem NG (X:Tx K mg a d v):FO P w K mg base a d 42 19 f0 z0 y ["_law_purse_here","_law_many"] "_law_pick":=by
 rw [FO,FG]; exact aV (T:=T y) X.qP OD (ck X) (NQ X) OQ (xo X) (Tf.no rfl) rfl (fun _=>by decide) (fun z=>by cases z) (by walk_at "sl") (WT )
theorem eI (X:Tx K mg a d v) {k:Nat} (h:42≤k):∃ ad fd ps,Fk P w K mg base (Ew K a f0 z0) (T y) k "_law_pick" ad fd ps∧L2.aH K fd ps []:=⟨_,_,_,⟨(NG X).mono h,X.qQ,X.qP.kp,by decide +kernel⟩,XY X⟩
theorem IC (X:Tx K mg a d v):Gf P w K mg base (Ew K a f0 z0) (T y) 40 C_l_total :=
 ⟨an,an,an,an,an,an,ac (X.qz79) (an),an,an,an,an,an,an,an,an,an,an,an,an,an,an,an,an⟩
theorem uB (X:Tx K mg a d v):FO P w K mg base a d 42 20 f0 z0 y ["_law_pairs"] "_law_total":=by
 rw [FO,yV]; exact aV (T:=T y) X.qR HU (ck X) (IC X) IG (xo X) (Tf.no rfl) rfl (fun _=>by decide) (fun z=>by cases z) (by walk_at "sl") (NZ )
theorem DF (X:Tx K mg a d v):Gf P w K mg base (Ew K a f0 z0) (T y) 42 C_l_turned :=
 ⟨ac (eI X (by decide)) (an),an,an,an,an,ac (⟨X.qz75,⟨"list",PyProof.Rows.boot_list,SS⟩,by decide +kernel⟩) (an),ac (X.qz74) (ac (X.qz75) (ac (X.qz78) (an))),an,an,an,an,an,an,an,an,an,an,an,an,an,an,an,an⟩
theorem sQ (X:Tx K mg a d v):FO P w K mg base a d 44 21 f0 z0 y ["_law_purse_here","_law_things"] "_law_turned":=by
 rw [FO,uF]; exact aV (T:=T y) X.qT DR (ck X) (DF X) GD (xo X) (Tf.no rfl) rfl (fun _=>by decide) (fun z=>by cases z) (by walk_at "sl") (HL hLT)
theorem sZ (X:Tx K mg a d v):Gf P w K mg base (Ew K a f0 z0) (T y) 40 C_Blend___eq__ :=
 ⟨an,an,an,an,ac (by rw [oO]; exact jY X.qz47 aG) (an),an,ac (X.qz73) (an),an,an,an,an,an,an,an,an,an,an,an,an,an,an,an,an⟩
theorem tJ (X:Tx K mg a d v):FO P w K mg base a d 42 22 f0 z0 y ["self","other"] "Blend.__eq__":=by
 rw [FO,jX]; exact aV (T:=T y) X.qV sS (ck X) (sZ X) tI (xo X) (Tf.no rfl) rfl (fun _=>by decide) (fun z=>by cases z) (by walk_at "sl") (wL iI)
theorem rP (X:Tx K mg a d v):Gf P w K mg base (Ew K a f0 z0) (T y) 40 C_Blend___len__ :=
 ⟨an,an,an,an,an,an,ac (X.qz74) (ac (X.qz78) (an)),an,an,an,an,an,an,an,an,an,an,an,an,an,an,an,an⟩
theorem rD (X:Tx K mg a d v):FO P w K mg base a d 42 23 f0 z0 y ["self"] "Blend.__len__":=by
 rw [FO,jQ]; exact aV (T:=T y) X.qX pY (ck X) (rP X) pS (xo X) (Tf.no rfl) rfl (fun _=>by decide) (fun z=>by cases z) (by walk_at "sl") (tD iI)
theorem sU (X:Tx K mg a d v):Gf P w K mg base (Ew K a f0 z0) (T y) 50 C_Blend_joined :=
 ⟨ac (⟨_,_,_,⟨(CI X).mono (by decide),X.qp,X.qo.kp,by decide +kernel⟩,LO X⟩) (an),an,an,ac (⟨"Blend","Blend.__init__",_,_,_,⟨by rw [show (Ew K a f0 z0).cls "Blend"=a 47 from aG]; exact X.qz48,(eQ X).mono (by decide),by rw [show (Ew K a f0 z0).cls "Blend"=a 47 from aG]; exact X.qz47,.inr (pV iI),by decide +kernel⟩,lC X⟩) (an),ac (by rw [oO]; exact jY X.qz47 aG) (an),an,ac (X.qz73) (an),an,an,an,an,an,an,an,an,an,an,an,ac (an) (an),an,an,an,an⟩
theorem jO (X:Tx K mg a d v):FO P w K mg base a d 52 24 f0 z0 y ["self","other"] "Blend.joined":=by
 rw [FO,kC]; exact aV (T:=T y) X.qZ tB (ck X) (sU X) tK (xo X) (Tf.no rfl) rfl (fun _=>by decide) (fun z=>by cases z) (by walk_at "sl") (uR hPT iI)
theorem aAB (X:Tx K mg a d v):Gf P w K mg base (Ew K a f0 z0) (T y) 46 C_over :=
 ⟨ac (lR X (by decide)) (ac (⟨_,_,_,⟨(eK X).mono (by decide),X.qk,X.qj.kp,by decide +kernel⟩,fA X⟩) (an)),an,an,an,an,an,an,an,an,an,an,an,an,an,an,an,an,an,an,an,an,an,an⟩
theorem aAc (X:Tx K mg a d v):FO P w K mg base a d 48 25 f0 z0 y ["one","other"] "over":=by
 rw [FO,VO]; exact aV (T:=T y) X.qz2 aBB (ck X) (aAB X) aBq (xo X) (Tf.no rfl) rfl (fun _=>by decide) (fun z=>by cases z) (by walk_at "sl") (aEP hPT)
theorem DC (X:Tx K mg a d v):Gf P w K mg base (Ew K a f0 z0) (T y) 44 C_is_share :=
 ⟨ac (⟨_,_,_,⟨(kR X).mono (by decide),X.qi,X.qh.kp,by decide +kernel⟩,mD X⟩) (an),an,an,an,an,an,an,an,an,an,an,an,an,an,an,an,an,an,an,an,an,an,an⟩
theorem CT (X:Tx K mg a d v):FO P w K mg base a d 46 26 f0 z0 y ["thing"] "is_share":=by
 rw [FO,wB]; exact aV (T:=T y) X.qz4 CP (ck X) (DC X) FL (xo X) (Tf.no rfl) rfl (fun _=>by decide) (fun z=>by cases z) (by walk_at "sl") (IT hPT)
theorem nH (X:Tx K mg a d v):Gf P w K mg base (Ew K a f0 z0) (T y) 46 C_Shade___init__ :=
 ⟨ac (⟨_,_,_,⟨(CT X).mono (by decide),X.qz5,X.qz4.kp,by decide +kernel⟩,HD X⟩) (an),an,an,an,an,an,ac (X.qz71) (an),an,an,an,an,an,an,an,an,an,an,an,an,an,an,an,an⟩
theorem eN (X:Tx K mg a d v):FO P w K mg base a d 48 27 f0 z0 y ["self","ember","leaf","sky"] "Shade.__init__":=by
 rw [FO,iR]; exact aV (T:=T y) X.qz6 oQ (ck X) (nH X) nZ (xo X) (Tf.no rfl) rfl (fun _=>by decide) (fun z=>by cases z) (by walk_at "sl") (rE hPT)
theorem DQ (X:Tx K mg a d v):Gf P w K mg base (Ew K a f0 z0) (T y) 48 C_shade_of :=
 ⟨an,ac (⟨"Shade","Shade.__init__",_,_,_,⟨by rw [show (Ew K a f0 z0).cls "Shade"=a 48 from aX]; exact X.qz58,(eN X).mono (by decide),by rw [show (Ew K a f0 z0).cls "Shade"=a 48 from aX]; exact X.qz57,.inl (uQ hPT),by decide +kernel⟩,iQ X⟩) (an),an,an,ac (by rw [pE]; exact jY X.qz57 aX) (an),an,an,an,an,an,an,an,an,an,an,an,an,an,an,an,an,an,an⟩
theorem sM (X:Tx K mg a d v):FO P w K mg base a d 50 28 f0 z0 y ["shares"] "shade_of":=by
 rw [FO,vJ]; exact aV (T:=T y) X.qz7 DU (ck X) (DQ X) FR (xo X) (Tf.no rfl) rfl (fun _=>by decide) (fun z=>by cases z) (by walk_at "sl") (GU hPT)
theorem uM (X:Tx K mg a d v):Gf P w K mg base (Ew K a f0 z0) (T y) 50 C_Blend_shade :=
 ⟨ac (⟨_,_,_,⟨(aAc X).mono (by decide),X.qz3,X.qz2.kp,by decide +kernel⟩,aD2 X⟩) (ac (⟨_,_,_,⟨(sM X).mono (by decide),X.qz8,X.qz7.kp,by decide +kernel⟩,uI X⟩) (an)),an,an,an,an,an,an,an,an,an,an,an,an,an,an,an,an,an,an,an,an,an,an⟩
theorem kW (X:Tx K mg a d v):FO P w K mg base a d 52 29 f0 z0 y ["self"] "Blend.shade":=by
 rw [FO,mF]; exact aV (T:=T y) X.qz9 uS (ck X) (uM X) vV (xo X) (Tf.no rfl) rfl (fun _=>by decide) (fun z=>by cases z) (by walk_at "sl") (xC hPT iI)
theorem wX (X:Tx K mg a d v):Gf P w K mg base (Ew K a f0 z0) (T y) 40 C_Blend_total :=
 ⟨an,an,an,an,an,an,an,an,an,an,an,an,an,an,an,an,an,an,an,an,an,an,an⟩
theorem kU (X:Tx K mg a d v):FO P w K mg base a d 42 30 f0 z0 y ["self"] "Blend.total":=by
 rw [FO,lZ]; exact aV (T:=T y) X.qz11 vI (ck X) (wX X) vT (xo X) (Tf.no rfl) rfl (fun _=>by decide) (fun z=>by cases z) (by walk_at "sl") (xL iI)
theorem oJ (X:Tx K mg a d v):Gf P w K mg base (Ew K a f0 z0) (T y) 54 C_l_blends_right :=
 ⟨ac (⟨_,_,_,⟨(JF X).mono (by decide),X.qG,X.qF.kp,by decide +kernel⟩,OP X⟩) (ac (⟨_,_,_,⟨(uZ X).mono (by decide),X.qO,X.qN.kp,by decide +kernel⟩,AV X⟩) (ac (eI X (by decide)) (ac (⟨_,_,_,⟨(uB X).mono (by decide),X.qS,X.qR.kp,by decide +kernel⟩,zA X⟩) (ac (⟨_,_,_,⟨(sQ X).mono (by decide),X.qU,X.qT.kp,by decide +kernel⟩,vU X⟩) (an))))),an,an,ac (⟨"Blend","Blend.__init__",_,_,_,⟨by rw [show (Ew K a f0 z0).cls "Blend"=a 47 from aG]; exact X.qz48,(eQ X).mono (by decide),by rw [show (Ew K a f0 z0).cls "Blend"=a 47 from aG]; exact X.qz47,.inr (pV iI),by decide +kernel⟩,lC X⟩) (an),ac (by rw [oO]; exact jY X.qz47 aG) (an),an,ac (X.qz74) (an),an,ac (⟨_,_,by rw [show (Ew K a f0 z0).cls "Blend"=a 47 from aG]; exact X.qz49,by rw [show (Ew K a f0 z0).cls "Blend"=a 47 from aG]; exact X.qW,(tJ X).mono (by decide),wN X⟩) (an),an,ac (fun b hb=>by rw [show XR.lookup ("len":Str)=some .len from by decide +kernel] at hb; cases hb; exact ac (⟨_,_,42,"__len__",by decide,rfl,by rw [show (Ew K a f0 z0).cls "Blend"=a 47 from aG]; exact X.qz49,by rw [show (Ew K a f0 z0).cls "Blend"=a 47 from aG]; exact X.qY,rD X,sR X⟩) (an)) (an),an,an,an,an,an,an,an,ac (an) (an),an,an,ac (ac (by refine ⟨_,_,_, ?_, ?_,gI X,.inl ((jO X).mono (by decide))⟩ <;> rw [show (Ew K a f0 z0).cls "Blend"=a 47 from aG] <;> first | exact X.qz46.cl | exact X.qz1) (an)) (ac (ac (by refine ⟨_,_,_, ?_, ?_,gQ X,.inl ((kW X).mono (by decide))⟩ <;> rw [show (Ew K a f0 z0).cls "Blend"=a 47 from aG] <;> first | exact X.qz46.cl | exact X.qz10) (an)) (ac (ac (by refine ⟨_,_,_, ?_, ?_,gS X,.inl ((kU X).mono (by decide))⟩ <;> rw [show (Ew K a f0 z0).cls "Blend"=a 47 from aG] <;> first | exact X.qz46.cl | exact X.qz12) (an)) (an))),ac (ac (by refine ⟨_,_,_, ?_, ?_,gI X,(jO X).mono (by decide)⟩ <;> rw [show (Ew K a f0 z0).cls "Blend"=a 47 from aG] <;> first | exact X.qz46.cl | exact X.qz1) (an)) (ac (ac (by refine ⟨_,_,_, ?_, ?_,gQ X,(kW X).mono (by decide)⟩ <;> rw [show (Ew K a f0 z0).cls "Blend"=a 47 from aG] <;> first | exact X.qz46.cl | exact X.qz10) (an)) (ac (ac (by refine ⟨_,_,_, ?_, ?_,gS X,(kU X).mono (by decide)⟩ <;> rw [show (Ew K a f0 z0).cls "Blend"=a 47 from aG] <;> first | exact X.qz46.cl | exact X.qz12) (an)) (an)))⟩
theorem oK (X:Tx K mg a d v):FO P w K mg base a d 56 31 f0 z0 y ["_law_purse_here","_law_pairs","_law_due"] "_law_blends_right":=by
 rw [FO,iH]; exact aV (T:=T y) X.qz13 nS (ck X) (oJ X) nW (xo X) (Tf.no rfl) rfl (fun _=>by decide) (fun z=>by cases z) (by walk_at "sl") (pN hLT iI)
theorem PM (X:Tx K mg a d v):Gf P w K mg base (Ew K a f0 z0) (T y) 40 C_l_cell :=
 ⟨an,an,an,an,an,an,ac (X.qz74) (an),an,an,an,an,an,an,an,an,an,an,an,an,an,an,an,an⟩
theorem PQ (X:Tx K mg a d v):FO P w K mg base a d 42 32 f0 z0 y ["_law_script","_law_k"] "_law_cell":=by
 rw [FO,DB]; exact aV (T:=T y) X.qz15 OF (ck X) (PM X) NT (xo X) (Tf.no rfl) rfl (fun _=>by decide) (fun z=>by cases z) (by walk_at "sl") (SF )
theorem xI (X:Tx K mg a d v):Gf P w K mg base (Ew K a f0 z0) (T y) 42 C_are_shades :=
 ⟨ac (⟨_,_,_,⟨(sO X).mono (by decide),X.qu,X.qt.kp,by decide +kernel⟩,uP X⟩) (an),an,an,an,an,ac (⟨X.qz80,⟨"tuple",PyProof.Rows.boot_tuple,fQ⟩,by decide +kernel⟩) (an),ac (X.qz69) (ac (X.qz73) (ac (X.qz74) (an))),an,an,an,an,an,an,an,an,an,an,an,an,an,an,an,an⟩
theorem xW (X:Tx K mg a d v):FO P w K mg base a d 44 33 f0 z0 y ["thing","least","most"] "are_shades":=by
 rw [FO,nA]; exact aV (T:=T y) X.qz17 xP (ck X) (xI X) xX (xo X) (Tf.no rfl) rfl (fun _=>by decide) (fun z=>by cases z) (by walk_at "sl") (BF hPT)
theorem wF (X:Tx K mg a d v):Gf P w K mg base (Ew K a f0 z0) (T y) 44 C_are_weights :=
 ⟨ac (⟨_,_,_,⟨(nC X).mono (by decide),X.qr,X.qq.kp,by decide +kernel⟩,sI X⟩) (an),an,an,an,an,ac (⟨X.qz80,⟨"tuple",PyProof.Rows.boot_tuple,fQ⟩,by decide +kernel⟩) (an),ac (X.qz69) (ac (X.qz73) (ac (X.qz74) (ac (X.qz79) (an)))),an,an,an,an,an,an,an,an,an,an,an,an,an,an,an,an⟩
theorem wS (X:Tx K mg a d v):FO P w K mg base a d 46 34 f0 z0 y ["thing","many"] "are_weights":=by
 rw [FO,mG]; exact aV (T:=T y) X.qz19 uX (ck X) (wF X) wA (xo X) (Tf.no rfl) rfl (fun _=>by decide) (fun z=>by cases z) (by walk_at "sl") (xN hPT iI)
theorem DM (X:Tx K mg a d v):Gf P w K mg base (Ew K a f0 z0) (T y) 44 C_fraction :=
 ⟨ac (⟨_,_,_,⟨(kB X).mono (by decide),X.qg,X.qf.kp,by decide +kernel⟩,mU X⟩) (ac (lR X (by decide)) (an)),an,an,an,an,an,an,an,an,an,an,an,an,an,an,an,an,an,an,an,an,an,an⟩
theorem EF (X:Tx K mg a d v):FO P w K mg base a d 46 35 f0 z0 y ["top","bottom"] "fraction":=by
 rw [FO,vB]; exact aV (T:=T y) X.qz21 FX (ck X) (DM X) DX (xo X) (Tf.no rfl) rfl (fun _=>by decide) (fun z=>by cases z) (by walk_at "sl") (ID hPT)
theorem xG (X:Tx K mg a d v):Gf P w K mg base (Ew K a f0 z0) (T y) 46 C_mean_share :=
 ⟨ac (⟨_,_,_,⟨(EF X).mono (by decide),X.qz23,X.qz21.kp,by decide +kernel⟩,GI X⟩) (an),an,an,an,an,an,ac (X.qz79) (ac (X.qz81) (an)),an,an,an,an,an,an,an,an,an,an,an,an,an,an,an,an⟩
theorem xF (X:Tx K mg a d v):FO P w K mg base a d 48 36 f0 z0 y ["shares","weights"] "mean_share":=by
 rw [FO,nN]; exact aV (T:=T y) X.qz24 xK (ck X) (xG X) xS (xo X) (Tf.no rfl) rfl (fun _=>by decide) (fun z=>by cases z) (by walk_at "sl") (BZ iI)
theorem aEc (X:Tx K mg a d v):Gf P w K mg base (Ew K a f0 z0) (T y) 50 C_mix :=
 ⟨ac (⟨_,_,_,⟨(xW X).mono (by decide),X.qz18,X.qz17.kp,by decide +kernel⟩,AC X⟩) (ac (⟨_,_,_,⟨(wS X).mono (by decide),X.qz20,X.qz19.kp,by decide +kernel⟩,xM X⟩) (ac (⟨_,_,_,⟨(xF X).mono (by decide),X.qz25,X.qz24.kp,by decide +kernel⟩,AY X⟩) (ac (⟨_,_,_,⟨(sM X).mono (by decide),X.qz8,X.qz7.kp,by decide +kernel⟩,uI X⟩) (ac (⟨_,_,_,⟨(oY X).mono (by decide),X.qz,X.qy.kp,by decide +kernel⟩,sK X⟩) (an))))),an,an,an,ac (by obtain ⟨t,h⟩:=X.qz65; rw [mE]; exact RU h) (an),an,ac (X.qz74) (ac (X.qz78) (an)),an,an,an,an,an,an,an,an,an,an,an,an,an,an,an,an⟩
theorem SE (X:Tx K mg a d v):FO P w K mg base a d 52 37 f0 z0 y ["shades","weights"] "mix":=by
 rw [FO,aCt]; exact aV (T:=T y) X.qz26 aDI (ck X) (aEc X) aDa (xo X) (Tf.no rfl) rfl (fun _=>by decide) (fun z=>by cases z) (by walk_at "sl") (aH7 hPT iI)
theorem SN (X:Tx K mg a d v):Gf P w K mg base (Ew K a f0 z0) (T y) 52 C_l_mix :=
 ⟨ac (⟨_,_,_,⟨(SE X).mono (by decide),X.qz28,X.qz26.kp,by decide +kernel⟩,aC1 X⟩) (an),an,an,an,an,ac (⟨X.qz80,⟨"tuple",PyProof.Rows.boot_tuple,fQ⟩,by decide +kernel⟩) (an),ac (X.qz80) (an),an,an,an,an,an,an,an,an,an,an,an,an,an,an,an,an⟩
theorem FU (X:Tx K mg a d v):FO P w K mg base a d 54 38 f0 z0 y ["_law_pairs"] "_law_mix":=by
 rw [FO,MR]; exact aV (T:=T y) X.qz29 SB (ck X) (SN X) SK (xo X) (Tf.no rfl) rfl (fun _=>by decide) (fun z=>by cases z) (by walk_at "sl") (aA2 iI)
theorem HM (X:Tx K mg a d v):Gf P w K mg base (Ew K a f0 z0) (T y) 48 C_l_shade :=
 ⟨an,ac (⟨"Shade","Shade.__init__",_,_,_,⟨by rw [show (Ew K a f0 z0).cls "Shade"=a 48 from aX]; exact X.qz58,(eN X).mono (by decide),by rw [show (Ew K a f0 z0).cls "Shade"=a 48 from aX]; exact X.qz57,.inl (uQ hPT),by decide +kernel⟩,iQ X⟩) (an),an,ac (⟨"Shade","Shade.__init__",_,_,_,⟨by rw [show (Ew K a f0 z0).cls "Shade"=a 48 from aX]; exact X.qz58,(eN X).mono (by decide),by rw [show (Ew K a f0 z0).cls "Shade"=a 48 from aX]; exact X.qz57,.inl (uQ hPT),by decide +kernel⟩,gP X⟩) (an),ac (by rw [pE]; exact jY X.qz57 aX) (an),an,an,an,an,an,an,an,an,an,an,an,an,an,ac (an) (an),an,an,an,an⟩
theorem uH (X:Tx K mg a d v):FO P w K mg base a d 50 39 f0 z0 y ["_law_row","_law_way"] "_law_shade":=by
 rw [FO,yB]; exact aV (T:=T y) X.qz31 HE (ck X) (HM X) HC (xo X) (Tf.no rfl) rfl (fun _=>by decide) (fun z=>by cases z) (by walk_at "sl") (NM hPT)
theorem rO (X:Tx K mg a d v):Gf P w K mg base (Ew K a f0 z0) (T y) 54 C_l_mixes_right :=
 ⟨ac (⟨_,_,_,⟨(uZ X).mono (by decide),X.qO,X.qN.kp,by decide +kernel⟩,AV X⟩) (ac (⟨_,_,_,⟨(FU X).mono (by decide),X.qz30,X.qz29.kp,by decide +kernel⟩,KY X⟩) (ac (eI X (by decide)) (ac (⟨_,_,_,⟨(uH X).mono (by decide),X.qz32,X.qz31.kp,by decide +kernel⟩,zJ X⟩) (ac (⟨_,_,_,⟨(uB X).mono (by decide),X.qS,X.qR.kp,by decide +kernel⟩,zA X⟩) (ac (⟨_,_,_,⟨(sQ X).mono (by decide),X.qU,X.qT.kp,by decide +kernel⟩,vU X⟩) (ac (⟨_,_,_,⟨(SE X).mono (by decide),X.qz28,X.qz26.kp,by decide +kernel⟩,aC1 X⟩) (an))))))),an,an,an,an,an,ac (X.qz69) (ac (X.qz74) (an)),an,an,an,an,an,an,an,an,an,an,an,an,an,an,an,an⟩
theorem pZ (X:Tx K mg a d v):FO P w K mg base a d 56 40 f0 z0 y ["_law_purse_here","_law_pairs","_law_due"] "_law_mixes_right":=by
 rw [FO,jP]; exact aV (T:=T y) X.qz33 rT (ck X) (rO X) pU (xo X) (Tf.no rfl) rfl (fun _=>by decide) (fun z=>by cases z) (by walk_at "sl") (sV hLT iI)
theorem HP (X:Tx K mg a d v):Gf P w K mg base (Ew K a f0 z0) (T y) 40 C_l_purse :=
 ⟨an,an,an,an,an,ac (⟨X.qz72,⟨"int",PyProof.Rows.boot_int,KF⟩,by decide +kernel⟩) (an),ac (X.qz72) (an),an,an,an,an,an,an,an,an,an,an,an,an,an,an,an,an⟩
theorem GW (X:Tx K mg a d v):FO P w K mg base a d 42 41 f0 z0 y ["_law_cell_here"] "_law_purse":=by
 rw [FO,yE]; exact aV (T:=T y) X.qz35 GH (ck X) (HP X) GM (xo X) (Tf.no rfl) rfl (fun _=>by decide) (fun z=>by cases z) (by walk_at "sl") (PY )
theorem pL (X:Tx K mg a d v):Gf P w K mg base (Ew K a f0 z0) (T y) 42 C_l_plain_share :=
 ⟨ac (⟨_,_,_,⟨(wT X).mono (by decide),X.qI,X.qH.kp,by decide +kernel⟩,CB X⟩) (ac (eI X (by decide)) (an)),an,an,an,an,an,an,an,an,an,an,an,an,an,an,an,an,an,an,an,an,an,an⟩
theorem pR (X:Tx K mg a d v):FO P w K mg base a d 44 42 f0 z0 y ["_law_purse_here"] "_law_plain_share":=by
 rw [FO,jR]; exact aV (T:=T y) X.qz37 sB (ck X) (pL X) rG (xo X) (Tf.no rfl) rfl (fun _=>by decide) (fun z=>by cases z) (by walk_at "sl") (tE hLT)
theorem IY (X:Tx K mg a d v):Gf P w K mg base (Ew K a f0 z0) (T y) 42 C_l_share :=
 ⟨ac (⟨_,_,_,⟨(wT X).mono (by decide),X.qI,X.qH.kp,by decide +kernel⟩,CB X⟩) (ac (eI X (by decide)) (an)),an,an,an,an,an,an,an,an,an,an,an,an,an,an,an,an,an,an,an,an,an,an⟩
theorem HS (X:Tx K mg a d v):FO P w K mg base a d 44 43 f0 z0 y ["_law_purse_here"] "_law_share":=by
 rw [FO,xZ]; exact aV (T:=T y) X.qz39 JM (ck X) (IY X) HX (xo X) (Tf.no rfl) rfl (fun _=>by decide) (fun z=>by cases z) (by walk_at "sl") (QZ hLT)
theorem DP (X:Tx K mg a d v):Gf P w K mg base (Ew K a f0 z0) (T y) 44 C_l_shares :=
 ⟨ac (eI X (by decide)) (ac (⟨_,_,_,⟨(HS X).mono (by decide),X.qz40,X.qz39.kp,by decide +kernel⟩,QX X⟩) (an)),an,an,an,an,ac (⟨X.qz80,⟨"tuple",PyProof.Rows.boot_tuple,fQ⟩,by decide +kernel⟩) (an),ac (X.qz78) (ac (X.qz80) (an)),an,an,an,an,an,an,an,an,an,an,an,an,an,an,an,an⟩
theorem CG (X:Tx K mg a d v):FO P w K mg base a d 46 44 f0 z0 y ["_law_purse_here"] "_law_shares":=by
 rw [FO,tX]; exact aV (T:=T y) X.qz41 CK (ck X) (DP X) DN (xo X) (Tf.no rfl) rfl (fun _=>by decide) (fun z=>by cases z) (by walk_at "sl") (JB hLT)
theorem QK (X:Tx K mg a d v):Gf P w K mg base (Ew K a f0 z0) (T y) 46 C_l_rows :=
 ⟨ac (eI X (by decide)) (ac (⟨_,_,_,⟨(pR X).mono (by decide),X.qz38,X.qz37.kp,by decide +kernel⟩,sT X⟩) (ac (⟨_,_,_,⟨(CG X).mono (by decide),X.qz42,X.qz41.kp,by decide +kernel⟩,IQ X⟩) (an))),an,an,an,an,ac (⟨X.qz80,⟨"tuple",PyProof.Rows.boot_tuple,fQ⟩,by decide +kernel⟩) (an),ac (X.qz74) (ac (X.qz78) (ac (X.qz80) (an))),an,an,an,an,an,an,an,an,an,an,an,an,an,an,an,an⟩
theorem NH (X:Tx K mg a d v):FO P w K mg base a d 48 45 f0 z0 y ["_law_purse_here","_law_many"] "_law_rows":=by
 rw [FO,FE]; exact aV (T:=T y) X.qz43 PL (ck X) (QK X) NP (xo X) (Tf.no rfl) rfl (fun _=>by decide) (fun z=>by cases z) (by walk_at "sl") (EO hLT iI)
theorem aC6 (X:Tx K mg a d v):Gf P w K mg base (Ew K a f0 z0) (T y) 56 C_law :=
 ⟨ac (⟨_,_,_,⟨(oK X).mono (by decide),X.qz14,X.qz13.kp,by decide +kernel⟩,rL X⟩) (ac (⟨_,_,_,⟨(PQ X).mono (by decide),X.qz16,X.qz15.kp,by decide +kernel⟩,WK X⟩) (ac (⟨_,_,_,⟨(uZ X).mono (by decide),X.qO,X.qN.kp,by decide +kernel⟩,AV X⟩) (ac (⟨_,_,_,⟨(FU X).mono (by decide),X.qz30,X.qz29.kp,by decide +kernel⟩,KY X⟩) (ac (⟨_,_,_,⟨(pZ X).mono (by decide),X.qz34,X.qz33.kp,by decide +kernel⟩,sX X⟩) (ac (eI X (by decide)) (ac (⟨_,_,_,⟨(GW X).mono (by decide),X.qz36,X.qz35.kp,by decide +kernel⟩,OI X⟩) (ac (⟨_,_,_,⟨(NH X).mono (by decide),X.qz44,X.qz43.kp,by decide +kernel⟩,WS X⟩) (ac (⟨_,_,_,⟨(uH X).mono (by decide),X.qz32,X.qz31.kp,by decide +kernel⟩,zJ X⟩) (an))))))))),an,an,an,an,an,ac (X.qz74) (ac (X.qz76) (ac (X.qz77) (ac (X.qz78) (an)))),an,an,an,an,an,an,an,an,an,an,an,an,an,an,an,an⟩
theorem aEp (X:Tx K mg a d v):FO P w K mg base a d 58 46 f0 z0 y ["_law_script"] "law":=by
 rw [FO,aCC]; exact aV (T:=T y) X.qz45 aEt (ck X) (aC6 X) aE3 (xo X) (Tf.no rfl) rfl (fun _=>by decide) (fun z=>by cases z) (by walk_at "sl") (aH1 hLT iI)
local macro_rules | `(tactic| walk_at "fm") => `(tactic| (refine aAI (oc := .type "function") (od := none) (osl := #[]) ?_ ?_ ?_ <;> kernel_rfl))
noncomputable def aA (i:Nat):Addr:=([348,155,169,148,162,176,191,334,311,278,285,292,198,354,505,443,436,450,481,429,510,493,380,387,361,205,226,240,299,373,368,522,415,304,316,184,323,329,498,476,515,422,464,457,469,486,527,404,267]:List Addr).getD i 0
noncomputable def dA (i:Nat):FuncData:=([fX "__init__" "Blend.__init__" bC .none zS3 (.ref 347),fX "common" "common" gJ .none zS4 (.ref 154),fX "lowest" "lowest" gD .none zS4 (.ref 168),fX "is_whole" "is_whole" dW .none zS4 (.ref 147),fX "is_fraction" "is_fraction" bU .none zS4 (.ref 161),fX "need_fractions" "need_fractions" aZ .none zS4 (.ref 175),fX "plus" "plus" mK .none zS4 (.ref 190),fX "added" "added" iU .none zS3 (.ref 333),fX "is_weight" "is_weight" cZ .none zS5 (.ref 310),fX "is_shade" "is_shade" dS .none zS2 (.ref 277),fX "need_shade" "need_shade" cF .none zS2 (.ref 284),fX "shares_of" "shares_of" dC .none zS2 (.ref 291),fX "times" "times" iX .none zS4 (.ref 197),fX "put" "Blend.put" cU (.ref 349) zS3 (.ref 353),fX "_law_blend" "_law_blend" eX .none zS0 (.ref 504),fX "_law_low" "_law_low" jM .none zS0 (.ref 442),fX "_law_whole" "_law_whole" eW .none zS0 (.ref 435),fX "_law_is_fraction" "_law_is_fraction" bM .none zS0 (.ref 449),fX "_law_got" "_law_got" jE .none zS0 (.ref 480),fX "_law_pick" "_law_pick" fW .none zS0 (.ref 428),fX "_law_total" "_law_total" eU .none zS0 (.ref 509),fX "_law_turned" "_law_turned" dY .none zS0 (.ref 492),fX "__eq__" "Blend.__eq__" bP .none zS3 (.ref 379),fX "__len__" "Blend.__len__" bL .none zS3 (.ref 386),fX "joined" "Blend.joined" bO .none zS3 (.ref 360),fX "over" "over" mQ .none zS4 (.ref 204),fX "is_share" "is_share" eB .none zS2 (.ref 225),fX "__init__" "Shade.__init__" bB .none zS2 (.ref 239),fX "shade_of" "shade_of" eF .none zS2 (.ref 298),fX "shade" "Blend.shade" bX .none zS3 (.ref 372),fX "total" "Blend.total" bT .none zS3 (.ref 367),fX "_law_blends_right" "_law_blends_right" bA .none zS0 (.ref 521),fX "_law_cell" "_law_cell" gL .none zS0 (.ref 414),fX "are_shades" "are_shades" cA .none zS2 (.ref 303),fX "are_weights" "are_weights" bV .none zS5 (.ref 315),fX "fraction" "fraction" dQ (.ref 177) zS4 (.ref 183),fX "mean_share" "mean_share" cD .none zS5 (.ref 322),fX "mix" "mix" wZ (.ref 324) zS5 (.ref 328),fX "_law_mix" "_law_mix" iS .none zS0 (.ref 497),fX "_law_shade" "_law_shade" eZ .none zS0 (.ref 475),fX "_law_mixes_right" "_law_mixes_right" bK .none zS0 (.ref 514),fX "_law_purse" "_law_purse" eY .none zS0 (.ref 421),fX "_law_plain_share" "_law_plain_share" bJ .none zS0 (.ref 463),fX "_law_share" "_law_share" eS .none zS0 (.ref 456),fX "_law_shares" "_law_shares" dU .none zS0 (.ref 468),fX "_law_rows" "_law_rows" gK .none zS0 (.ref 485),fX "law" "law" sJ .none zS0 (.ref 526)]:List FuncData).getD i (fX "law" "law" sJ .none zS0 (.ref 526))
noncomputable def vA (i:Nat):Value:=([.none,.none,.none,.none,.none,.none,.none,.none,.none,.none,.none,.none,.none,(.ref 349),.none,.none,.none,.none,.none,.none,.none,.none,.none,.none,.none,.none,.none,.none,.none,.none,.none,.none,.none,.none,.none,(.ref 177),.none,(.ref 324),.none,.none,.none,.none,.none,.none,.none,.none,.none]:List Value).getD i .none
theorem tx {w:World} {h:Heap} {mg:Str→Option Value} (X:(K0 w.params).In h) (G:h.Ns mainGlobals mg):Tx (K0 w.params) mg aA dA vA:=by
 refine ⟨by walk_at "fm",
    by walk_at "fm",
    W.mg_of X G ?_,
    by walk_at "fm",
    W.mg_of X G ?_,
    by walk_at "fm",
    W.mg_of X G ?_,
    by walk_at "fm",
    W.mg_of X G ?_,
    by walk_at "fm",
    W.mg_of X G ?_,
    by walk_at "fm",
    W.mg_of X G ?_,
    by walk_at "fm",
    W.mg_of X G ?_,
    by walk_at "fm",
    W.mg_of X G ?_,
    by walk_at "fm",
    W.mg_of X G ?_,
    by walk_at "fm",
    W.mg_of X G ?_,
    by walk_at "fm",
    W.mg_of X G ?_,
    by walk_at "fm",
    W.mg_of X G ?_,
    by walk_at "fm",
    ⟨349,(.type "tuple"),none,0, #[],635,rfl, ?_⟩,
    ⟨?_, ?_, ?_⟩,
    by walk_at "fm",
    W.mg_of X G ?_,
    by walk_at "fm",
    W.mg_of X G ?_,
    by walk_at "fm",
    W.mg_of X G ?_,
    by walk_at "fm",
    W.mg_of X G ?_,
    by walk_at "fm",
    W.mg_of X G ?_,
    by walk_at "fm",
    W.mg_of X G ?_,
    by walk_at "fm",
    W.mg_of X G ?_,
    by walk_at "fm",
    W.mg_of X G ?_,
    by walk_at "fm",
    ⟨?_, ?_, ?_⟩,
    by walk_at "fm",
    ⟨?_, ?_, ?_⟩,
    by walk_at "fm",
    ⟨?_, ?_, ?_⟩,
    by walk_at "fm",
    W.mg_of X G ?_,
    by walk_at "fm",
    W.mg_of X G ?_,
    by walk_at "fm",
    by walk_at "fm",
    W.mg_of X G ?_,
    by walk_at "fm",
    ⟨?_, ?_, ?_⟩,
    by walk_at "fm",
    ⟨?_, ?_, ?_⟩,
    by walk_at "fm",
    W.mg_of X G ?_,
    by walk_at "fm",
    W.mg_of X G ?_,
    by walk_at "fm",
    W.mg_of X G ?_,
    by walk_at "fm",
    W.mg_of X G ?_,
    by walk_at "fm",
    ⟨177,(.type "tuple"),none,0, #[],412,rfl, ?_⟩,
    W.mg_of X G ?_,
    by walk_at "fm",
    W.mg_of X G ?_,
    by walk_at "fm",
    ⟨324,(.type "tuple"),none,0, #[],rfl, ?_⟩,
    W.mg_of X G ?_,
    by walk_at "fm",
    W.mg_of X G ?_,
    by walk_at "fm",
    W.mg_of X G ?_,
    by walk_at "fm",
    W.mg_of X G ?_,
    by walk_at "fm",
    W.mg_of X G ?_,
    by walk_at "fm",
    W.mg_of X G ?_,
    by walk_at "fm",
    W.mg_of X G ?_,
    by walk_at "fm",
    W.mg_of X G ?_,
    by walk_at "fm",
    W.mg_of X G ?_,
    by walk_at "fm",
    W.mg_of X G ?_,
    ⟨⟨?_, ?_, ?_, ?_⟩, ?_, ?_, ?_, ?_⟩,
    W.mg_of X G ?_,
    ⟨?_, ?_, ?_, ?_⟩,
    ⟨?_, ?_, ?_⟩,
    ac (?_) (ac (?_) (ac (?_) (ac (?_) (ac (?_) (ac (?_) (ac (?_) (an))))))),
    ac (?_) (ac (?_) (ac (?_) (ac (?_) (ac (?_) (ac (?_) (an)))))),
    ?_,
    ?_,
    ?_,
    ?_,
    ⟨⟨?_, ?_, ?_, ?_⟩, ?_, ?_, ?_, ?_⟩,
    W.mg_of X G ?_,
    ⟨?_, ?_, ?_, ?_⟩,
    ac (?_) (ac (?_) (ac (?_) (ac (?_) (ac (?_) (ac (?_) (ac (?_) (an))))))),
    ac (?_) (ac (?_) (ac (?_) (ac (?_) (ac (?_) (ac (?_) (an)))))),
    ?_,
    ?_,
    ?_,
    ?_,
    ⟨463,W.mg_of X G ?_⟩,
    ⟨574,W.mg_of X G ?_⟩,
    ⟨141,361,362,0, #[],W.mg_of X G ?_, ?_⟩,
    W.mg_none_of X G ?_,
    W.mg_none_of X G ?_,
    W.mg_none_of X G ?_,
    W.mg_none_of X G ?_,
    W.mg_none_of X G ?_,
    W.mg_none_of X G ?_,
    W.mg_none_of X G ?_,
    W.mg_none_of X G ?_,
    W.mg_none_of X G ?_,
    W.mg_none_of X G ?_,
    W.mg_none_of X G ?_,
    W.mg_none_of X G ?_,
    W.mg_none_of X G ?_,
    W.mg_none_of X G ?_⟩
 all_goals first | kernel_rfl | (unfold cX; kernel_rfl)
theorem fin {l:W.OpenLaw} {w:World} {h:Heap} {mg:Str→Option Value} {fa:Addr} (X:(K0 w.params).In h) (G:h.Ns mainGlobals mg) (hfa:mg "law"=some (.ref fa)):∃ fd:FuncData,(∀ (s:Shared) (v:Value),BindsTo s fd ⟨[v],[]⟩ [("_law_script",v)])∧∀ base:Heap,(K0 w.params).In base→base.Ns mainGlobals mg→bN l.prog w (K0 w.params) mg base CX0 58 fa fd ["_law_script"] (KS (K0 w.params)):=by
 have T:=tx X G;have e:=hfa.symm.trans T.m_law;obtain rfl:fa=aA 46:=by injection e with e; injection e
 refine ⟨dA 46,fun s v=>.of_eq rfl,fun base _ _=>?_⟩;have ok:=aEp (P:=l.prog) (w:=w) (base:=base) (f0:=fun _=>none) (z0:=fun _=>none) (y:=fun _ _ _ _=>False) T;unfold FO at ok;rw [aCC] at ok;exact ok.imp fun vs H Q E h=>aFm (fun _ _ z=>nomatch z) (fun _ _ z=>z) h
theorem wsd:W.OpenLaw.wellSaid PySem.Challenge.rw_lightshares_k14_whole_mixing_in_any_turn=true:=by kernel_rfl
noncomputable abbrev hk0:W.Hook:=W.kHook K0 aK fun _=>rfl
noncomputable def mo0 (P:Params):Obj:=⟨.none,none,.dict #[kE P "type.__subclasses__.ArithmeticError.0" 223 (.int 37 0),kE P "type.__subclasses__.ArithmeticError.n" 224 (.int 1 0)] 2, #[]⟩
noncomputable def mo1 (P:Params):Obj:=⟨(.type "dict"),none,.dict #[kE P "__name__" 165 zS1,kD P 166,kE P "__package__" 167 .none,kE P "__loader__" 168 (.builtin "__main__.__loader__#opaque"),kE P "__spec__" 169 .none,kE P "__annotations__" 170 (.ref 6),kE P "__builtins__" 171 (.ref 4),kE P "__file__" 173 (.str "/claim/cut.py" 172),kE P "__cached__" 174 .none,kE P "ShadeError" 206 (.ref 24),kE P "MixError" 226 (.ref 37),kE P "NoNumber" 251 (.ref 57),kE P "NoShade" 276 (.ref 76)] 13, #[]⟩
def M2:=oT []
def M3:=oL [iV 2,iV 0,.ref 20,iV 4,iV 0,.ref 33,iV 6,iV 0,.ref 46,iV 11,iV 0,.ref 65]
def M4:=zOf "<module>" 182 1 0 0 11 12 0 0 0 185
def M5:=oR 13 3 (.str "__main__" 164)
def M6:=oT [.type "ValueError"]
def M7:=oB "type.__prepare__" (.type "type")
def mo8 (P:Params):=oDn [kM P 196,kQ P 198 "ShadeError",kL P 200 2,kT P 201 22] 4
def M9:=oL []
def M10:=zOf "ShadeError" 191 2 0 0 18 19 0 0 0 194
def M11:=oR 20 17 zS1
noncomputable def M12:Obj:=⟨(.type "getset_descriptor"),none,.fields #[(.str "__weakref__" 202),(.ref 24),(.builtin "ExceptionGroup.__weakref__"),.none], #[]⟩
def M13:=oS 24
def M14:=oB "object.__init_subclass__" (.ref 24)
def M15:=oT [.type "ArithmeticError"]
def RC (P:Params):=oDn [kM P 214,kQ P 216 "MixError",kL P 218 4,kT P 219 35] 4
def M17:=zOf "MixError" 209 4 0 0 31 32 0 0 0 212
def M18:=oR 33 30 zS1
noncomputable def M19:Obj:=⟨(.type "type"),none,.cls ⟨"MixError",[(.type "ArithmeticError")],[(.ref 37),(.type "ArithmeticError"),(.type "Exception"),(.type "BaseException"),(.type "object")],36,"MixError",true,[],[],false,none,false⟩, #[(some (.ref 28)),none,(some (.str "MixError" 207)),(some (.str "MixError" 215)),(some (.builtin "ArithmeticError.__new__")),(some (.bool true))]⟩
noncomputable def M20:Obj:=⟨(.type "getset_descriptor"),none,.fields #[(.str "__weakref__" 220),(.ref 37),(.builtin "ExceptionGroup.__weakref__"),.none], #[]⟩
def M21:=oS 37
def M22:=oB "object.__init_subclass__" (.ref 37)
def M23:=oT [.ref 24]
def NW (P:Params):=oDn [kM P 234,kQ P 236 "NoNumber",kL P 238 6,kI P 246 54,kT P 248 55] 5
def M25:=oL [iV 8,iV 4,.ref 53]
def M26:=zOf "NoNumber" 229 6 0 0 44 45 0 0 0 232
def M27:=oR 46 43 zS1
def M28:=oT [.str "self" 242,.str "place" 243]
def M29:=oN "__init__" "NoNumber.__init__" (aU (top 3) 0)
def M30:=zXt "__init__" "NoNumber.__init__" 239 8 2 3 48 49 50 51 52 244
def M31:=oF "__init__" "NoNumber.__init__" (aU (top 3) 0) .none zS1 53
def M32:=oT [.str "place" 247]
def M33:=oS 57
def M34:=oB "object.__init_subclass__" (.ref 57)
def NR (P:Params):=oDn [kM P 259,kQ P 261 "NoShade",kL P 263 11,kI P 271 73,kT P 273 74] 5
def M36:=oL [iV 13,iV 4,.ref 72]
def M37:=zOf "NoShade" 254 11 0 0 63 64 0 0 0 257
def M38:=oR 65 62 zS1
def M39:=oT [.str "self" 267,.str "light" 268]
def M40:=oN "__init__" "NoShade.__init__" (aU (top 4) 0)
def M41:=zXt "__init__" "NoShade.__init__" 264 13 2 3 67 68 69 70 71 269
def M42:=oF "__init__" "NoShade.__init__" (aU (top 4) 0) .none zS1 72
def M43:=oT [.str "light" 272]
def M44:=oS 76
def M45:=oB "object.__init_subclass__" (.ref 76)
noncomputable def aJ4 (P:Params):Obj:=⟨(.type "dict"),none,.dict #[kE P "__name__" 165 zS1,kD P 166,kE P "__package__" 167 .none,kE P "__loader__" 168 (.builtin "__main__.__loader__#opaque"),kE P "__spec__" 169 .none,kE P "__annotations__" 170 (.ref 6),kE P "__builtins__" 171 (.ref 4),kE P "__file__" 173 (.str "/claim/cut.py" 172),kE P "__cached__" 174 .none,kE P "ShadeError" 206 (.ref 24),kE P "MixError" 226 (.ref 37),kE P "NoNumber" 251 (.ref 57),kE P "NoShade" 276 (.ref 76),kE P "NoWeights" 301 (.ref 95),kE P "NoWeight" 326 (.ref 114)] 15, #[]⟩
def M47:=oL [iV 2,iV 0,.ref 20,iV 4,iV 0,.ref 33,iV 6,iV 0,.ref 46,iV 11,iV 0,.ref 65,iV 16,iV 0,.ref 84,iV 21,iV 0,.ref 103]
noncomputable def M48:Obj:=⟨(.type "type"),none,.cls ⟨"MixError",[(.type "ArithmeticError")],[(.ref 37),(.type "ArithmeticError"),(.type "Exception"),(.type "BaseException"),(.type "object")],36,"MixError",true,[],[(.ref 95),(.ref 114)],false,none,false⟩, #[(some (.ref 28)),none,(some (.str "MixError" 207)),(some (.str "MixError" 215)),(some (.builtin "ArithmeticError.__new__")),(some (.bool true))]⟩
def M49:=oT [.ref 37]
def WN (P:Params):=oDn [kM P 284,kQ P 286 "NoWeights",kL P 288 16,kI P 296 92,kT P 298 93] 5
def M51:=oL [iV 18,iV 4,.ref 91]
def M52:=zOf "NoWeights" 279 16 0 0 82 83 0 0 0 282
def M53:=oR 84 81 zS1
def M54:=oT [.str "self" 292,.str "many" 293]
def M55:=oN "__init__" "NoWeights.__init__" (aU (top 5) 0)
def M56:=zXt "__init__" "NoWeights.__init__" 289 18 2 3 86 87 88 89 90 294
def M57:=oF "__init__" "NoWeights.__init__" (aU (top 5) 0) .none zS1 91
def M58:=oT [.str "many" 297]
def M59:=oS 95
def M60:=oB "object.__init_subclass__" (.ref 95)
def UJ (P:Params):=oDn [kM P 309,kQ P 311 "NoWeight",kL P 313 21,kI P 321 111,kT P 323 112] 5
def M62:=oL [iV 23,iV 4,.ref 110]
def M63:=zOf "NoWeight" 304 21 0 0 101 102 0 0 0 307
def M64:=oR 103 100 zS1
def M65:=oT [.str "self" 317,.str "weight" 318]
def M66:=oN "__init__" "NoWeight.__init__" (aU (top 6) 0)
def M67:=zXt "__init__" "NoWeight.__init__" 314 23 2 3 105 106 107 108 109 319
def M68:=oF "__init__" "NoWeight.__init__" (aU (top 6) 0) .none zS1 110
def M69:=oT [.str "weight" 322]
def M70:=oS 114
def M71:=oB "object.__init_subclass__" (.ref 114)
noncomputable def aJR (P:Params):Obj:=⟨(.type "dict"),none,.dict #[kE P "__name__" 165 zS4,kD P 166,kE P "__package__" 167 .none,kE P "__loader__" 168 (.builtin "__main__.__loader__#opaque"),kE P "__spec__" 169 .none,kE P "__annotations__" 170 (.ref 6),kE P "__builtins__" 171 (.ref 4),kE P "__file__" 173 (.str "/claim/cut.py" 172),kE P "__cached__" 174 .none,kE P "ShadeError" 206 (.ref 24),kE P "MixError" 226 (.ref 37),kE P "NoNumber" 251 (.ref 57),kE P "NoShade" 276 (.ref 76),kE P "NoWeights" 301 (.ref 95),kE P "NoWeight" 326 (.ref 114),kE P "EmptyMix" 342 (.ref 126),kE P "NoBlend" 358 (.ref 138),kE P "ZERO" 363 (.ref 141),kE P "PIECE_FIGURES" 365 (.int 64 364),kE P "PIECE" 369 (.int 10000000000000000000000000000000000000000000000000000000000000000 368),kE P "is_whole" 376 (.ref 148),kE P "common" 384 (.ref 155),kE P "is_fraction" 393 (.ref 162),kE P "lowest" 402 (.ref 169),kE P "need_fractions" 411 (.ref 176)] 25, #[]⟩
def M73:=oL [iV 2,iV 0,.ref 20,iV 4,iV 0,.ref 33,iV 6,iV 0,.ref 46,iV 11,iV 0,.ref 65,iV 16,iV 0,.ref 84,iV 21,iV 0,.ref 103,iV 26,iV 0,.ref 122,iV 28,iV 0,.ref 134,iV 34,iV 0,.ref 147,iV 36,iV 0,.ref 154,iV 40,iV 0,.ref 161,iV 45,iV 0,.ref 168,iV 50,iV 0,.ref 175]
def aA0 (P:Params):=oDn [kM P 334,kQ P 336 "EmptyMix",kL P 338 26,kT P 339 124] 4
def M75:=zOf "EmptyMix" 329 26 0 0 120 121 0 0 0 332
def M76:=oR 122 119 zS1
def M77:=oS 126
def M78:=oB "object.__init_subclass__" (.ref 126)
def aAr (P:Params):=oDn [kM P 350,kQ P 352 "NoBlend",kL P 354 28,kT P 355 136] 4
def M80:=zOf "NoBlend" 345 28 0 0 132 133 0 0 0 348
def M81:=oR 134 131 zS1
def M82:=oS 138
def M83:=oB "object.__init_subclass__" (.ref 138)
def M84:=oT [.str "thing" 373]
def M85:=oN "is_whole" "is_whole" dW
def M86:=oT [.str "one" 380,.str "other" 381]
def M87:=oN "common" "common" gJ
def M88:=oT [.str "thing" 388,.str "top" 389,.str "bottom" 390]
def M89:=oN "is_fraction" "is_fraction" bU
def M90:=oT [.str "top" 397,.str "bottom" 398,.str "shared" 399]
def M91:=oN "lowest" "lowest" gD
def M92:=oT [.str "things" 406,.str "place" 407,.str "thing" 408]
def M93:=oN "need_fractions" "need_fractions" aZ
noncomputable def aJQ (P:Params):Obj:=⟨(.type "dict"),none,.dict #[kE P "__name__" 165 zS2,kD P 166,kE P "__package__" 167 .none,kE P "__loader__" 168 (.builtin "__main__.__loader__#opaque"),kE P "__spec__" 169 .none,kE P "__annotations__" 170 (.ref 6),kE P "__builtins__" 171 (.ref 4),kE P "__file__" 173 (.str "/claim/cut.py" 172),kE P "__cached__" 174 .none,kE P "ShadeError" 206 (.ref 24),kE P "MixError" 226 (.ref 37),kE P "NoNumber" 251 (.ref 57),kE P "NoShade" 276 (.ref 76),kE P "NoWeights" 301 (.ref 95),kE P "NoWeight" 326 (.ref 114),kE P "EmptyMix" 342 (.ref 126),kE P "NoBlend" 358 (.ref 138),kE P "ZERO" 363 (.ref 141),kE P "PIECE_FIGURES" 365 (.int 64 364),kE P "PIECE" 369 (.int 10000000000000000000000000000000000000000000000000000000000000000 368),kE P "is_whole" 376 (.ref 148),kE P "common" 384 (.ref 155),kE P "is_fraction" 393 (.ref 162),kE P "lowest" 402 (.ref 169),kE P "need_fractions" 411 (.ref 176),kE P "fraction" 420 (.ref 184),kE P "plus" 428 (.ref 191),kE P "times" 436 (.ref 198),kE P "over" 444 (.ref 205),kE P "figures" 453 (.ref 212),kE P "written" 460 (.ref 219),kE P "MOST_SHADES" 464 (.int 60 463),kE P "is_share" 471 (.ref 226),kE P "Shade" 534 (.ref 267),kE P "is_shade" 541 (.ref 278),kE P "need_shade" 548 (.ref 285)] 36, #[]⟩
def M95:=oL [iV 2,iV 0,.ref 20,iV 4,iV 0,.ref 33,iV 6,iV 0,.ref 46,iV 11,iV 0,.ref 65,iV 16,iV 0,.ref 84,iV 21,iV 0,.ref 103,iV 26,iV 0,.ref 122,iV 28,iV 0,.ref 134,iV 34,iV 0,.ref 147,iV 36,iV 0,.ref 154,iV 40,iV 0,.ref 161,iV 45,iV 0,.ref 168,iV 50,iV 0,.ref 175,iV 54,iV 0,.ref 183,iV 60,iV 0,.ref 190,iV 63,iV 0,.ref 197,iV 66,iV 0,.ref 204,iV 71,iV 0,.ref 211,iV 78,iV 0,.ref 218,iV 84,iV 0,.ref 225,iV 86,iV 0,.ref 232,iV 107,iV 0,.ref 277,iV 109,iV 0,.ref 284]
def M96:=oT [.str "top" 416,.str "bottom" 417]
def M97:=oN "fraction" "fraction" dQ
def M98:=oT [.str "one" 424,.str "other" 425]
def M99:=oN "plus" "plus" mK
def aEa:=oT [.str "one" 432,.str "other" 433]
def aEo:=oN "times" "times" iX
def aFn:=oT [.str "one" 440,.str "other" 441]
def aDD:=oN "over" "over" mQ
def aFq:=oT [.str "number" 448,.str "pieces" 449,.str "piece" 450]
def aGj:=oN "figures" "figures" (top 22)
def aFh:=zOt "figures" 445 71 1 3 206 207 208 209 210 451
def aDp:=oF "figures" "figures" (top 22) .none zS4 211
def aGn:=oT [.str "one" 457]
def aEh:=oN "written" "written" (top 23)
def aEI:=zOt "written" 454 78 1 3 213 214 215 216 217 458
def aE4:=oF "written" "written" (top 23) .none zS4 218
def aFe:=oT [.str "thing" 468]
def aDz:=oN "is_share" "is_share" eB
def WL (P:Params):=oDn [kE P "__module__" 479 zS2,kQ P 481 "Shade",kL P 483 86,kI P 495 240,kE P "__eq__" 503 (.ref 247),kE P "__len__" 509 (.ref 252),kE P "__str__" 515 (.ref 257),kE P "__repr__" 522 (.ref 264),kT P 526 265] 9
def aFo:=oL [iV 88,iV 4,.ref 239,iV 96,iV 4,.ref 246,iV 99,iV 4,.ref 251,iV 102,iV 4,.ref 256,iV 105,iV 4,.ref 263]
def aFc:=zOf "Shade" 474 86 0 0 230 231 0 0 0 477
def aDB:=oR 232 229 zS2
def aDT:=oT [.str "self" 487,.str "ember" 488,.str "leaf" 489,.str "sky" 490,.str "light" 491,.str "share" 492]
def aEf:=oN "__init__" "Shade.__init__" bB
def aEs:=oT [.str "self" 499,.str "other" 500]
def aFf:=oN "__eq__" "Shade.__eq__" (aU (top 27) 1)
def aF6:=zXt "__eq__" "Shade.__eq__" 496 96 2 3 241 242 243 244 245 501
def aFz:=oF "__eq__" "Shade.__eq__" (aU (top 27) 1) .none zS2 246
def aEN:=oN "__len__" "Shade.__len__" (aU (top 27) 2)
def aFX:=zXt "__len__" "Shade.__len__" 504 99 1 3 248 249 0 0 250 507
def aD7:=oF "__len__" "Shade.__len__" (aU (top 27) 2) .none zS2 251
def aEE:=oN "__str__" "Shade.__str__" (aU (top 27) 3)
def aEX:=zXt "__str__" "Shade.__str__" 510 102 1 3 253 254 0 0 255 513
def aDw:=oF "__str__" "Shade.__str__" (aU (top 27) 3) .none zS2 256
def aF1:=oT [.str "self" 519]
def aE1:=oN "__repr__" "Shade.__repr__" (aU (top 27) 4)
def aGe:=zXt "__repr__" "Shade.__repr__" 516 105 1 3 258 259 260 261 262 520
def aDU:=oF "__repr__" "Shade.__repr__" (aU (top 27) 4) .none zS2 263
def aD5:=oT [.str "ember" 523,.str "leaf" 524,.str "sky" 525]
noncomputable def aDn:Obj:=⟨(.type "getset_descriptor"),none,.fields #[(.str "__dict__" 527),(.ref 267),(.builtin "function.__dict__"),(.builtin "function.__dict__#set")], #[]⟩
noncomputable def aFB:Obj:=⟨(.type "getset_descriptor"),none,.fields #[(.str "__weakref__" 529),(.ref 267),(.builtin "ExceptionGroup.__weakref__"),.none], #[]⟩
def aFI:=oS 267
def aD8:=oB "object.__init_subclass__" (.ref 267)
def aDv:=oT [.str "thing" 538]
def aD1:=oN "is_shade" "is_shade" dS
def aF8:=oT [.str "thing" 545]
def aEz:=oN "need_shade" "need_shade" cF
noncomputable def aIb (P:Params):Obj:=⟨(.type "dict"),none,.dict #[kE P "__name__" 165 zS3,kD P 166,kE P "__package__" 167 .none,kE P "__loader__" 168 (.builtin "__main__.__loader__#opaque"),kE P "__spec__" 169 .none,kE P "__annotations__" 170 (.ref 6),kE P "__builtins__" 171 (.ref 4),kE P "__file__" 173 (.str "/claim/cut.py" 172),kE P "__cached__" 174 .none,kE P "ShadeError" 206 (.ref 24),kE P "MixError" 226 (.ref 37),kE P "NoNumber" 251 (.ref 57),kE P "NoShade" 276 (.ref 76),kE P "NoWeights" 301 (.ref 95),kE P "NoWeight" 326 (.ref 114),kE P "EmptyMix" 342 (.ref 126),kE P "NoBlend" 358 (.ref 138),kE P "ZERO" 363 (.ref 141),kE P "PIECE_FIGURES" 365 (.int 64 364),kE P "PIECE" 369 (.int 10000000000000000000000000000000000000000000000000000000000000000 368),kE P "is_whole" 376 (.ref 148),kE P "common" 384 (.ref 155),kE P "is_fraction" 393 (.ref 162),kE P "lowest" 402 (.ref 169),kE P "need_fractions" 411 (.ref 176),kE P "fraction" 420 (.ref 184),kE P "plus" 428 (.ref 191),kE P "times" 436 (.ref 198),kE P "over" 444 (.ref 205),kE P "figures" 453 (.ref 212),kE P "written" 460 (.ref 219),kE P "MOST_SHADES" 464 (.int 60 463),kE P "is_share" 471 (.ref 226),kE P "Shade" 534 (.ref 267),kE P "is_shade" 541 (.ref 278),kE P "need_shade" 548 (.ref 285),kE P "shares_of" 555 (.ref 292),kE P "shade_of" 565 (.ref 299),kE P "are_shades" 571 (.ref 304),kE P "MOST_WEIGHT" 575 (.int 1000000 574),kE P "is_weight" 583 (.ref 311),kE P "are_weights" 589 (.ref 316),kE P "mean_share" 601 (.ref 323),kE P "mix" 607 (.ref 329),kE P "added" 615 (.ref 334),kE P "Blend" 704 (.ref 404)] 46, #[]⟩
def aJr:=oL [iV 2,iV 0,.ref 20,iV 4,iV 0,.ref 33,iV 6,iV 0,.ref 46,iV 11,iV 0,.ref 65,iV 16,iV 0,.ref 84,iV 21,iV 0,.ref 103,iV 26,iV 0,.ref 122,iV 28,iV 0,.ref 134,iV 34,iV 0,.ref 147,iV 36,iV 0,.ref 154,iV 40,iV 0,.ref 161,iV 45,iV 0,.ref 168,iV 50,iV 0,.ref 175,iV 54,iV 0,.ref 183,iV 60,iV 0,.ref 190,iV 63,iV 0,.ref 197,iV 66,iV 0,.ref 204,iV 71,iV 0,.ref 211,iV 78,iV 0,.ref 218,iV 84,iV 0,.ref 225,iV 86,iV 0,.ref 232,iV 107,iV 0,.ref 277,iV 109,iV 0,.ref 284,iV 112,iV 0,.ref 291,iV 115,iV 0,.ref 298,iV 118,iV 0,.ref 303,iV 124,iV 0,.ref 310,iV 126,iV 0,.ref 315,iV 130,iV 0,.ref 322,iV 137,iV 0,.ref 328,iV 148,iV 0,.ref 333,iV 150,iV 0,.ref 340]
def aHC:=oT [.str "shade" 552]
def aI2:=oN "shares_of" "shares_of" dC
def aIg:=oT [.str "shares" 559,.str "ember" 560,.str "leaf" 561,.str "sky" 562]
def aGA:=oN "shade_of" "shade_of" eF
def aIA:=oN "are_shades" "are_shades" cA
def aGC:=oT [.str "thing" 579,.str "least" 580]
def aIm:=oN "is_weight" "is_weight" cZ
def aId:=oN "are_weights" "are_weights" bV
def aIF:=oT [.str "shares" 593,.str "weights" 594,.str "top" 595,.str "bottom" 596,.str "share" 597,.str "weight" 598]
def aGZ:=oN "mean_share" "mean_share" cD
def aGt:=oN "mix" "mix" wZ
def aGz:=oN "added" "added" iU
def aBZ (P:Params):=oDn [kE P "__module__" 623 zS3,kQ P 625 "Blend",kL P 627 150,kI P 634 348,kE P "put" 641 (.ref 354),kE P "joined" 650 (.ref 361),kE P "total" 657 (.ref 368),kE P "shade" 663 (.ref 373),kE P "__eq__" 671 (.ref 380),kE P "__len__" 678 (.ref 387),kE P "__str__" 685 (.ref 394),kE P "__repr__" 692 (.ref 401),kT P 696 402] 13
def aG3:=oL [iV 152,iV 4,.ref 347,iV 157,iV 4,.ref 353,iV 166,iV 4,.ref 360,iV 175,iV 4,.ref 367,iV 178,iV 4,.ref 372,iV 183,iV 4,.ref 379,iV 186,iV 4,.ref 386,iV 189,iV 4,.ref 393,iV 194,iV 4,.ref 400]
def aGU:=zOf "Blend" 618 150 0 0 338 339 0 0 0 621
def aIf:=oR 340 337 zS3
def aH0:=oT [.str "self" 631]
def aHD:=oN "__init__" "Blend.__init__" bC
def aHP:=oN "put" "Blend.put" cU
def aGK:=oT [.str "self" 645,.str "other" 646,.str "both" 647]
def aG1:=oN "joined" "Blend.joined" bO
def aHO:=oT [.str "self" 654]
def aIs:=oN "total" "Blend.total" bT
def aHQ:=oN "shade" "Blend.shade" bX
def aIO:=oT [.str "self" 667,.str "other" 668]
def aGY:=oN "__eq__" "Blend.__eq__" bP
def aIc:=oT [.str "self" 675]
def aH3:=oN "__len__" "Blend.__len__" bL
def aHc:=oT [.str "self" 682]
def aGD:=oN "__str__" "Blend.__str__" (aU (top 41) 7)
def aGs:=zXt "__str__" "Blend.__str__" 679 189 1 3 388 389 390 391 392 683
def aHu:=oF "__str__" "Blend.__str__" (aU (top 41) 7) .none zS3 393
def aHe:=oT [.str "self" 689]
def aI5:=oN "__repr__" "Blend.__repr__" (aU (top 41) 8)
def aIi:=zXt "__repr__" "Blend.__repr__" 686 194 1 3 395 396 397 398 399 690
def aHB:=oF "__repr__" "Blend.__repr__" (aU (top 41) 8) .none zS3 400
def aGO:=oT [.str "many" 693,.str "sums" 694,.str "weight" 695]
noncomputable def aG5:Obj:=⟨(.type "getset_descriptor"),none,.fields #[(.str "__dict__" 697),(.ref 404),(.builtin "function.__dict__"),(.builtin "function.__dict__#set")], #[]⟩
noncomputable def aHZ:Obj:=⟨(.type "getset_descriptor"),none,.fields #[(.str "__weakref__" 699),(.ref 404),(.builtin "ExceptionGroup.__weakref__"),.none], #[]⟩
def aH4:=oS 404
def aHw:=oB "object.__init_subclass__" (.ref 404)
def aKa:=oL [iV 2,iV 0,.ref 20,iV 4,iV 0,.ref 33,iV 6,iV 0,.ref 46,iV 11,iV 0,.ref 65,iV 16,iV 0,.ref 84,iV 21,iV 0,.ref 103,iV 26,iV 0,.ref 122,iV 28,iV 0,.ref 134,iV 34,iV 0,.ref 147,iV 36,iV 0,.ref 154,iV 40,iV 0,.ref 161,iV 45,iV 0,.ref 168,iV 50,iV 0,.ref 175,iV 54,iV 0,.ref 183,iV 60,iV 0,.ref 190,iV 63,iV 0,.ref 197,iV 66,iV 0,.ref 204,iV 71,iV 0,.ref 211,iV 78,iV 0,.ref 218,iV 84,iV 0,.ref 225,iV 86,iV 0,.ref 232,iV 107,iV 0,.ref 277,iV 109,iV 0,.ref 284,iV 112,iV 0,.ref 291,iV 115,iV 0,.ref 298,iV 118,iV 0,.ref 303,iV 124,iV 0,.ref 310,iV 126,iV 0,.ref 315,iV 130,iV 0,.ref 322,iV 137,iV 0,.ref 328,iV 148,iV 0,.ref 333,iV 150,iV 0,.ref 340,iV 197,iV 0,.ref 414,iV 204,iV 0,.ref 421,iV 206,iV 0,.ref 428,iV 215,iV 0,.ref 435,iV 217,iV 0,.ref 442,iV 224,iV 0,.ref 449,iV 228,iV 0,.ref 456,iV 232,iV 0,.ref 463,iV 234,iV 0,.ref 468,iV 242,iV 0,.ref 475,iV 246,iV 0,.ref 480,iV 251,iV 0,.ref 485,iV 260,iV 0,.ref 492,iV 265,iV 0,.ref 497,iV 267,iV 0,.ref 504,iV 272,iV 0,.ref 509,iV 274,iV 0,.ref 514,iV 292,iV 0,.ref 521,iV 307,iV 0,.ref 526]
def aJD:=oT [.str "_law_script" 710,.str "_law_k" 711,.str "_law_state" 712,.str "_law_cell_here" 713]
def aJp:=oN "_law_cell" "_law_cell" gL
def aKp:=oT [.str "_law_cell_here" 720]
def aJO:=oN "_law_purse" "_law_purse" eY
def aJE:=oT [.str "_law_purse_here" 727,.str "_law_many" 728,.str "_law_state" 729,.str "_law_taken" 730]
def aJZ:=oN "_law_pick" "_law_pick" fW
def aJI:=oT [.str "_law_thing" 737]
def aKc:=oN "_law_whole" "_law_whole" eW
def aJF:=oT [.str "_law_top" 744,.str "_law_bottom" 745,.str "_law_one" 746,.str "_law_other" 747]
def aJG:=oN "_law_low" "_law_low" jM
def aJH:=oT [.str "_law_thing" 754]
def aKv:=oN "_law_is_fraction" "_law_is_fraction" bM
def aJo:=oT [.str "_law_purse_here" 761,.str "_law_way" 762,.str "_law_bottom" 763]
def aJB:=oN "_law_share" "_law_share" eS
def aKb:=oT [.str "_law_purse_here" 770]
def aJy:=oN "_law_plain_share" "_law_plain_share" bJ
def aJz:=oN "_law_shares" "_law_shares" dU
def aJc:=oT [.str "_law_row" 783,.str "_law_way" 784]
def aKm:=oN "_law_shade" "_law_shade" eZ
def aI9:=oN "_law_got" "_law_got" jE
def aJs:=oN "_law_rows" "_law_rows" gK
def aJ3:=oT [.str "_law_purse_here" 803,.str "_law_things" 804,.str "_law_left" 805,.str "_law_found" 806,.str "_law_k" 807]
def aKd:=oN "_law_turned" "_law_turned" dY
def aJu:=oN "_law_mix" "_law_mix" iS
def aJj:=oT [.str "_law_pairs" 820,.str "_law_found" 821,.str "_law_shade_here" 822,.str "_law_weight" 823]
def aKx:=oN "_law_blend" "_law_blend" eX
def aKr:=oN "_law_total" "_law_total" eU
def aJK:=oN "_law_mixes_right" "_law_mixes_right" bK
def aJe:=oT [.str "_law_purse_here" 842,.str "_law_pairs" 843,.str "_law_due" 844,.str "_law_at" 845,.str "_law_one" 846,.str "_law_third" 847,.str "_law_other" 848,.str "_law_some" 849,.str "_law_found" 850]
def aJ5:=oN "_law_blends_right" "_law_blends_right" bA
def aJv:=oN "law" "law" sJ
noncomputable abbrev pW:Program:=PySem.Challenge.pw_lightshares_k14_whole_mixing_in_any_turn
noncomputable abbrev bdy:List Stmt:=W.behindTheImports pW
noncomputable abbrev env0:Env:={ scope:=pW.main.scope,locals:=mainNs,globals:=mainNs,cells:=[],code:=(.ref 13),frame:=some 14 }
noncomputable abbrev cE0:Code:=.body bdy env0
noncomputable abbrev B0:List Frame:=[W.topFrame ⟨0,0,0,0⟩]
noncomputable abbrev S0 (w:World) (os:OsState):Shared:=⟨W.boot_heap w.params,Array.mk [],W.boot_drawn,W.boot_toks,os⟩
theorem aJw:∀ w:World,(W.fencedOpening treeTable pW w 7992).map (fun s=>(s.heap,s.gens,s.drawn,s.toks))=some (W.boot_heap w.params,Array.mk [],W.boot_drawn,W.boot_toks):=W.boot_open (by rfl) (by decide) (fun _=>by rfl)
theorem aKj:∀ w:World,((W.boot_heap w.params).isNs mainGlobals && (Array.mk []:Array GenState).size == 0,(W.boot_heap w.params).objs.size,(W.boot_heap w.params).nsMap mainGlobals "__annotations__")=(true,11,(some (.ref 6))):=by
 intro w;kernel_rfl
noncomputable def Sa (w:World) (os:OsState):Shared:=aHR (W.topGo treeTable pW w 11 (some (.ref 6)) 12 (S0 w os) (W.topStub pW)) (S0 w os)
theorem aHx:∀ (w:World) (os:OsState),W.topGo treeTable pW w 11 (some (.ref 6)) 12 (S0 w os) (W.topStub pW)=some (Sa w os,⟨denote treeTable cE0,cE0,⟨0,0,0,0⟩,B0⟩):=by
 intro w os;kernel_rfl
noncomputable def Sb (w:World) (os:OsState):Shared:=aHs (W.segRun treeTable pW w 11 (some (.ref 6)) 1 1 (Sa w os) (W.blockOf bdy env0 cE0 ⟨0,0,0,0⟩ B0)) (S0 w os)
theorem aIM:∀ (w:World) (os:OsState),W.segRun treeTable pW w 11 (some (.ref 6)) 1 1 (Sa w os) (W.blockOf bdy env0 cE0 ⟨0,0,0,0⟩ B0)=some (.next,Sb w os,cE0,⟨0,0,0,0⟩):=by
 intro w os;kernel_rfl
def hm0 (P:Params):Heap:=⟨#[W.boot_o_0 P,W.boot_o_1 P,mo0 P,mo1 P,W.boot_o_4 P,W.boot_o_5 P,W.boot_o_6 P,W.boot_o_7 P,W.boot_o_8 P,W.boot_o_9 P,W.boot_o_10 P,M2,M3,M4,M5,M6,M7,mo8 P,M2,M9,M10,M11,M2,IM P,IW,M12,M13,M14,M15,M7,RC P,M2,M9,M17,M18,M2,GL P,M19,M20,M21,M22,M23,M7,NW P,M2,M25,M26,M27,M2,M9,M28,M2,M29,M30,M31,M32,HJ P,HQ,M33,M34,M23,M7,NR P,M2,M36,M37,M38,M2,M9,M39,M2,M40,M41,M42,M43,IZ P,HB,M44,M45],(W.boot_heap P).life⟩
noncomputable abbrev Sm0 (w:World) (os:OsState):Shared:=⟨hm0 w.params,Array.mk [],W.boot_drawn,277,os⟩
noncomputable abbrev l0:List Stmt:=bdy.take 5
noncomputable abbrev r0:List Stmt:=bdy.drop 5
theorem aJN:∀ (w:World),∀ os:OsState,W.segRun treeTable pW w 11 (some (.ref 6)) 1 882 (Sb w os) (W.piecesOf l0 env0 cE0 ⟨0,0,0,0⟩ B0)=some (.next,Sm0 w os,cE0,⟨11,0,15,26⟩):=by
 intro w os;kernel_rfl
def hm1 (P:Params):Heap:=⟨#[W.boot_o_0 P,W.boot_o_1 P,mo0 P,aJ4 P,W.boot_o_4 P,W.boot_o_5 P,W.boot_o_6 P,W.boot_o_7 P,W.boot_o_8 P,W.boot_o_9 P,W.boot_o_10 P,M2,M47,M4,M5,M6,M7,mo8 P,M2,M9,M10,M11,M2,IM P,IW,M12,M13,M14,M15,M7,RC P,M2,M9,M17,M18,M2,GL P,M48,M20,M21,M22,M23,M7,NW P,M2,M25,M26,M27,M2,M9,M28,M2,M29,M30,M31,M32,HJ P,HQ,M33,M34,M23,M7,NR P,M2,M36,M37,M38,M2,M9,M39,M2,M40,M41,M42,M43,IZ P,HB,M44,M45,M49,M7,WN P,M2,M51,M52,M53,M2,M9,M54,M2,M55,M56,M57,M58,QG P,PN,M59,M60,M49,M7,UJ P,M2,M62,M63,M64,M2,M9,M65,M2,M66,M67,M68,M69,yY P,yA,M70,M71],(W.boot_heap P).life⟩
noncomputable abbrev Sm1 (w:World) (os:OsState):Shared:=⟨hm1 w.params,Array.mk [],W.boot_drawn,327,os⟩
noncomputable abbrev l1:List Stmt:=r0.take 2
noncomputable abbrev r1:List Stmt:=r0.drop 2
theorem aJd:∀ (w:World),∀ os:OsState,W.segRun treeTable pW w 11 (some (.ref 6)) 1 491 (Sm0 w os) (W.piecesOf l1 env0 cE0 ⟨11,0,15,26⟩ B0)=some (.next,Sm1 w os,cE0,⟨21,0,25,28⟩):=by
 intro w os;kernel_rfl
def hm2 (P:Params):Heap:=⟨#[W.boot_o_0 P,W.boot_o_1 P,mo0 P,aJR P,W.boot_o_4 P,W.boot_o_5 P,W.boot_o_6 P,W.boot_o_7 P,W.boot_o_8 P,W.boot_o_9 P,W.boot_o_10 P,M2,M73,M4,M5,M6,M7,mo8 P,M2,M9,M10,M11,M2,IM P,IW,M12,M13,M14,M15,M7,RC P,M2,M9,M17,M18,M2,GL P,SL,M20,M21,M22,M23,M7,NW P,M2,M25,M26,M27,M2,M9,M28,M2,M29,M30,M31,M32,HJ P,HQ,M33,M34,M23,M7,NR P,M2,M36,M37,M38,M2,M9,M39,M2,M40,M41,M42,M43,IZ P,HB,M44,M45,M49,M7,WN P,M2,M51,M52,M53,M2,M9,M54,M2,M55,M56,M57,M58,QG P,PN,M59,M60,M49,M7,UJ P,M2,M62,M63,M64,M2,M9,M65,M2,M66,M67,M68,M69,yY P,yA,M70,M71,M49,M7,aA0 P,M2,M9,M75,M76,M2,DH P,FV,M77,M78,M49,M7,aAr P,M2,M9,M80,M81,M2,FA P,FY,M82,M83,CC,M2,M9,M84,M2,M85,GB,CJ,M2,M9,M86,M2,M87,GC,ER,M2,M9,M88,M2,M89,EB,EV,M2,M9,M90,M2,M91,CU,CY,M2,M9,M92,M2,M93,FW,EZ],(W.boot_heap P).life⟩
noncomputable abbrev Sm2 (w:World) (os:OsState):Shared:=⟨hm2 w.params,Array.mk [],W.boot_drawn,412,os⟩
noncomputable abbrev l2:List Stmt:=r1.take 11
noncomputable abbrev r2:List Stmt:=r1.drop 11
theorem aJx:∀ (w:World),∀ os:OsState,W.segRun treeTable pW w 11 (some (.ref 6)) 1 624 (Sm1 w os) (W.piecesOf l2 env0 cE0 ⟨21,0,25,28⟩ B0)=some (.next,Sm2 w os,cE0,⟨50,0,53,33⟩):=by
 intro w os;kernel_rfl
def hm3 (P:Params):Heap:=⟨#[W.boot_o_0 P,W.boot_o_1 P,mo0 P,aJQ P,W.boot_o_4 P,W.boot_o_5 P,W.boot_o_6 P,W.boot_o_7 P,W.boot_o_8 P,W.boot_o_9 P,W.boot_o_10 P,M2,M95,M4,M5,M6,M7,mo8 P,M2,M9,M10,M11,M2,IM P,IW,M12,M13,M14,M15,M7,RC P,M2,M9,M17,M18,M2,GL P,SL,M20,M21,M22,M23,M7,NW P,M2,M25,M26,M27,M2,M9,M28,M2,M29,M30,M31,M32,HJ P,HQ,M33,M34,M23,M7,NR P,M2,M36,M37,M38,M2,M9,M39,M2,M40,M41,M42,M43,IZ P,HB,M44,M45,M49,M7,WN P,M2,M51,M52,M53,M2,M9,M54,M2,M55,M56,M57,M58,QG P,PN,M59,M60,M49,M7,UJ P,M2,M62,M63,M64,M2,M9,M65,M2,M66,M67,M68,M69,yY P,yA,M70,M71,M49,M7,aA0 P,M2,M9,M75,M76,M2,DH P,FV,M77,M78,M49,M7,aAr P,M2,M9,M80,M81,M2,FA P,FY,M82,M83,CC,M2,M9,M84,M2,M85,GB,CJ,M2,M9,M86,M2,M87,GC,ER,M2,M9,M88,M2,M89,EB,EV,M2,M9,M90,M2,M91,CU,CY,M2,M9,M92,M2,M93,FW,EZ,LV,M2,M9,M96,M2,M97,KM,KC,M2,M9,M98,M2,M99,LQ,LP,M2,M9,aEa,M2,aEo,LI,MC,M2,M9,aFn,M2,aDD,MV,JY,M2,M9,aFq,M2,aGj,aFh,aDp,M2,M9,aGn,M2,aEh,aEI,aE4,M2,M9,aFe,M2,aDz,LC,KH,M2,M7,WL P,M2,aFo,aFc,aDB,M2,M9,aDT,M2,aEf,LL,LY,M2,M9,aEs,M2,aFf,aF6,aFz,M2,M9,aEN,aFX,aD7,M2,M9,aEE,aEX,aDw,M2,M9,aF1,M2,aE1,aGe,aDU,aD5,MQ P,KU,aDn,aFB,aFI,aD8,M2,M9,aDv,M2,aD1,KL,MH,M2,M9,aF8,M2,aEz,ME,MG],(W.boot_heap P).life⟩
noncomputable abbrev Sm3 (w:World) (os:OsState):Shared:=⟨hm3 w.params,Array.mk [],W.boot_drawn,549,os⟩
noncomputable abbrev l3:List Stmt:=r2.take 12
noncomputable abbrev r3:List Stmt:=r2.drop 12
theorem aKi:∀ (w:World),∀ os:OsState,W.segRun treeTable pW w 11 (some (.ref 6)) 1 641 (Sm2 w os) (W.piecesOf l3 env0 cE0 ⟨50,0,53,33⟩ B0)=some (.next,Sm3 w os,cE0,⟨109,0,111,27⟩):=by
 intro w os;kernel_rfl
def hm4 (P:Params):Heap:=⟨#[W.boot_o_0 P,W.boot_o_1 P,mo0 P,aIb P,W.boot_o_4 P,W.boot_o_5 P,W.boot_o_6 P,W.boot_o_7 P,W.boot_o_8 P,W.boot_o_9 P,W.boot_o_10 P,M2,aJr,M4,M5,M6,M7,mo8 P,M2,M9,M10,M11,M2,IM P,IW,M12,M13,M14,M15,M7,RC P,M2,M9,M17,M18,M2,GL P,SL,M20,M21,M22,M23,M7,NW P,M2,M25,M26,M27,M2,M9,M28,M2,M29,M30,M31,M32,HJ P,HQ,M33,M34,M23,M7,NR P,M2,M36,M37,M38,M2,M9,M39,M2,M40,M41,M42,M43,IZ P,HB,M44,M45,M49,M7,WN P,M2,M51,M52,M53,M2,M9,M54,M2,M55,M56,M57,M58,QG P,PN,M59,M60,M49,M7,UJ P,M2,M62,M63,M64,M2,M9,M65,M2,M66,M67,M68,M69,yY P,yA,M70,M71,M49,M7,aA0 P,M2,M9,M75,M76,M2,DH P,FV,M77,M78,M49,M7,aAr P,M2,M9,M80,M81,M2,FA P,FY,M82,M83,CC,M2,M9,M84,M2,M85,GB,CJ,M2,M9,M86,M2,M87,GC,ER,M2,M9,M88,M2,M89,EB,EV,M2,M9,M90,M2,M91,CU,CY,M2,M9,M92,M2,M93,FW,EZ,LV,M2,M9,M96,M2,M97,KM,KC,M2,M9,M98,M2,M99,LQ,LP,M2,M9,aEa,M2,aEo,LI,MC,M2,M9,aFn,M2,aDD,MV,JY,M2,M9,aFq,M2,aGj,aFh,aDp,M2,M9,aGn,M2,aEh,aEI,aE4,M2,M9,aFe,M2,aDz,LC,KH,M2,M7,WL P,M2,aFo,aFc,aDB,M2,M9,aDT,M2,aEf,LL,LY,M2,M9,aEs,M2,aFf,aF6,aFz,M2,M9,aEN,aFX,aD7,M2,M9,aEE,aEX,aDw,M2,M9,aF1,M2,aE1,aGe,aDU,aD5,MQ P,KU,aDn,aFB,aFI,aD8,M2,M9,aDv,M2,aD1,KL,MH,M2,M9,aF8,M2,aEz,ME,MG,M2,M9,aHC,M2,aI2,VS,WI,M2,M9,aIg,M2,aGA,RK,UV,M2,M9,aIA,XV,ZC,M2,M9,aGC,M2,aIm,ZB,UE,M2,M9,aId,YW,SY,M2,M9,aIF,M2,aGZ,WE,ZJ,YC,M2,M9,aGt,UM,SO,M2,M9,aGz,SM,YH,M2,M7,aBZ P,M2,aG3,aGU,aIf,M2,M9,aH0,M2,aHD,RV,VL,TL,M2,M9,aHP,RH,RL,M2,M9,aGK,M2,aG1,UD,VW,M2,M9,aHO,M2,aIs,UL,VI,M2,M9,aHQ,XG,YX,M2,M9,aIO,M2,aGY,TZ,SW,M2,M9,aIc,M2,aH3,XL,ST,M2,M9,aHc,M2,aGD,aGs,aHu,M2,M9,aHe,M2,aI5,aIi,aHB,aGO,XZ P,UP,aG5,aHZ,aH4,aHw],(W.boot_heap P).life⟩
noncomputable abbrev Sm4 (w:World) (os:OsState):Shared:=⟨hm4 w.params,Array.mk [],W.boot_drawn,705,os⟩
noncomputable abbrev l4:List Stmt:=r3.take 12
noncomputable abbrev r4:List Stmt:=r3.drop 12
theorem aJ7:∀ (w:World),∀ os:OsState,W.segRun treeTable pW w 11 (some (.ref 6)) 1 734 (Sm3 w os) (W.piecesOf l4 env0 cE0 ⟨109,0,111,27⟩ B0)=some (.next,Sm4 w os,cE0,⟨150,0,195,36⟩):=by
 intro w os;kernel_rfl
def hm5 (P:Params):Heap:=⟨#[W.boot_o_0 P,W.boot_o_1 P,mo0 P,ko3 P,W.boot_o_4 P,W.boot_o_5 P,W.boot_o_6 P,W.boot_o_7 P,W.boot_o_8 P,W.boot_o_9 P,W.boot_o_10 P,M2,aKa,M4,M5,M6,M7,mo8 P,M2,M9,M10,M11,M2,IM P,IW,M12,M13,M14,M15,M7,RC P,M2,M9,M17,M18,M2,GL P,SL,M20,M21,M22,M23,M7,NW P,M2,M25,M26,M27,M2,M9,M28,M2,M29,M30,M31,M32,HJ P,HQ,M33,M34,M23,M7,NR P,M2,M36,M37,M38,M2,M9,M39,M2,M40,M41,M42,M43,IZ P,HB,M44,M45,M49,M7,WN P,M2,M51,M52,M53,M2,M9,M54,M2,M55,M56,M57,M58,QG P,PN,M59,M60,M49,M7,UJ P,M2,M62,M63,M64,M2,M9,M65,M2,M66,M67,M68,M69,yY P,yA,M70,M71,M49,M7,aA0 P,M2,M9,M75,M76,M2,DH P,FV,M77,M78,M49,M7,aAr P,M2,M9,M80,M81,M2,FA P,FY,M82,M83,CC,M2,M9,M84,M2,M85,GB,CJ,M2,M9,M86,M2,M87,GC,ER,M2,M9,M88,M2,M89,EB,EV,M2,M9,M90,M2,M91,CU,CY,M2,M9,M92,M2,M93,FW,EZ,LV,M2,M9,M96,M2,M97,KM,KC,M2,M9,M98,M2,M99,LQ,LP,M2,M9,aEa,M2,aEo,LI,MC,M2,M9,aFn,M2,aDD,MV,JY,M2,M9,aFq,M2,aGj,aFh,aDp,M2,M9,aGn,M2,aEh,aEI,aE4,M2,M9,aFe,M2,aDz,LC,KH,M2,M7,WL P,M2,aFo,aFc,aDB,M2,M9,aDT,M2,aEf,LL,LY,M2,M9,aEs,M2,aFf,aF6,aFz,M2,M9,aEN,aFX,aD7,M2,M9,aEE,aEX,aDw,M2,M9,aF1,M2,aE1,aGe,aDU,aD5,MQ P,KU,aDn,aFB,aFI,aD8,M2,M9,aDv,M2,aD1,KL,MH,M2,M9,aF8,M2,aEz,ME,MG,M2,M9,aHC,M2,aI2,VS,WI,M2,M9,aIg,M2,aGA,RK,UV,M2,M9,aIA,XV,ZC,M2,M9,aGC,M2,aIm,ZB,UE,M2,M9,aId,YW,SY,M2,M9,aIF,M2,aGZ,WE,ZJ,YC,M2,M9,aGt,UM,SO,M2,M9,aGz,SM,YH,M2,M7,aBZ P,M2,aG3,aGU,aIf,M2,M9,aH0,M2,aHD,RV,VL,TL,M2,M9,aHP,RH,RL,M2,M9,aGK,M2,aG1,UD,VW,M2,M9,aHO,M2,aIs,UL,VI,M2,M9,aHQ,XG,YX,M2,M9,aIO,M2,aGY,TZ,SW,M2,M9,aIc,M2,aH3,XL,ST,M2,M9,aHc,M2,aGD,aGs,aHu,M2,M9,aHe,M2,aI5,aIi,aHB,aGO,XZ P,UP,aG5,aHZ,aH4,aHw,M2,M9,aJD,M2,aJp,aCz,aCW,M2,M9,aKp,M2,aJO,aCg,aCc,M2,M9,aJE,M2,aJZ,aCB,aCm,M2,M9,aJI,M2,aKc,aC0,aCF,M2,M9,aJF,M2,aJG,aCu,aCD,M2,M9,aJH,M2,aKv,aB4,aCR,M2,M9,aJo,M2,aJB,aCA,aCn,M2,M9,aKb,M2,aJy,aCK,aC5,M2,M9,aJz,aCG,aCx,M2,M9,aJc,M2,aKm,aCb,aCO,M2,M9,aI9,aCi,aCd,M2,M9,aJs,aCr,aB7,M2,M9,aJ3,M2,aKd,aCw,aCT,M2,M9,aJu,aC3,aCI,M2,M9,aJj,M2,aKx,aCJ,aCl,M2,M9,aKr,aB2,aCY,M2,M9,aJK,aCo,aCL,M2,M9,aJe,M2,aJ5,aB8,aC4,M2,M9,aJv,aCv,aCk],(W.boot_heap P).life⟩
noncomputable abbrev Sm5 (w:World) (os:OsState):Shared:=⟨hm5 w.params,Array.mk [],W.boot_drawn,860,os⟩
noncomputable abbrev l5:List Stmt:=r4.take 20
noncomputable abbrev r5:List Stmt:=r4.drop 20
theorem aJJ:∀ (w:World),∀ os:OsState,W.segRun treeTable pW w 11 (some (.ref 6)) 1 567 (Sm4 w os) (W.piecesOf l5 env0 cE0 ⟨150,0,195,36⟩ B0)=some (.next,Sm5 w os,cE0,⟨307,0,315,15⟩):=by
 intro w os;kernel_rfl
theorem aGF:∀ (w:World) (os:OsState),(W.topRun treeTable pW w 11 (some (.ref 6)) 21 (Sm5 w os) (W.restOf r5 env0 cE0 ⟨307,0,315,15⟩ B0)).map (fun s₁=>(W.staticsOk (importedModules pW.main.body) (W.boot_heap w.params) s₁.heap && W.namesBound pW s₁.heap && W.gensDone s₁ && W.laidKept (W.boot_heap w.params) s₁.heap,W.openSeen qv lo (importedModules pW.main.body) (fun s=>W.recOk [] s) true s₁,hk0.obs s₁))=some (true,W.openGood qv lo,hk0.val w):=by
 intro w os;kernel_rfl
theorem hlt:W.LeftO PySem.Challenge.pw_lightshares_k14_whole_mixing_in_any_turn qv lo (fun s=>W.recOk [] s) hk0.obs hk0.val 7992:=by
 refine L3.aHJ (M:=12 + (1 + (882 + (491 + (624 + (641 + (734 + (567 + 21)))))))) aJw aKj (by decide) fun w os=>?_;obtain ⟨s₁,e,h⟩:=Option.map_eq_some_iff.mp (aGF w os);refine ⟨s₁,W.go_top (aHx w os) (W.piece_block (aIM w os) ?_),h⟩;rw [show bdy=l0 ++ r0 from (List.take_append_drop _ _).symm];refine W.piece_app (aJN w os) ?_;rw [show r0=l1 ++ r1 from (List.take_append_drop _ _).symm];refine W.piece_app (aJd w os) ?_;rw [show r1=l2 ++ r2 from (List.take_append_drop _ _).symm];refine W.piece_app (aJx w os) ?_;rw [show r2=l3 ++ r3 from (List.take_append_drop _ _).symm];refine W.piece_app (aKi w os) ?_;rw [show r3=l4 ++ r4 from (List.take_append_drop _ _).symm];refine W.piece_app (aJ7 w os) ?_;rw [show r4=l5 ++ r5 from (List.take_append_drop _ _).symm];refine W.piece_app (aJJ w os) ?_;exact e
end My
open PySem PySem.W PyProof.Rows
set_option maxRecDepth 100000 in
set_option maxHeartbeats 0 in
theorem PySem.Challenge.cw_lightshares_k14_whole_mixing_in_any_turn_holds : PySem.Challenge.rw_lightshares_k14_whole_mixing_in_any_turn.Holds := by
 w_on
 refine W.holds_law My.wsd fun said=>?_
 refine W.holds_open (q:=My.qv) (loose:=My.lo) (N:=7992) (XP:=fun _ _=>True)
   (Xt:=fun s=>W.recOk [] s)
   (Yf:=My.hk0.obs) (Ya:=My.hk0.val) (YP:=My.hk0.says)
   My.hlt My.hk0.of My.hk0.keeps
   (fun _ _=>trivial) (fun _ _ _ _ _=>trivial) (by rfl) (by rfl) (by rfl)
   (fun s e=>W.recFacts_of e) (by rfl) (by assumption) (by decide +kernel)
   ⟨rfl,rfl,rfl,rfl,rfl,by decide +kernel⟩ ?hw ?hc
 case hw=>w_witness2
 refine L2.ZK (K:=My.K0) (l:=PySem.Challenge.rw_lightshares_k14_whole_mixing_in_any_turn) (n:=63) (k:=58) (x:="_law_script") (CX:=L2.CX0) (sp:=L3.KS)
   rfl (by decide) rfl ⟨fun _=>rfl,by decide,by decide,fun _=>rfl⟩ (fun w h Y=>W.kIn_of Y) ?F (fun K H a ns hl hO hS=>L3.NI hl hO hS) (fun _ _ _ _ z=>z)
 case F =>
   intro w mg fa h KX G hmg
   exact My.fin KX G hmg
