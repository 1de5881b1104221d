import PyProof.Rows.All
import Wide.All
import OpenK.AllK
import Wide.FinOn
import Lean
import PyProof.EqAt
import PyProof.EqKinds
import PyProof.TupleCall
import PySem.Challenge.RW_lightshares_k04_shades_alike_or_not
set_option Elab.async false
set_option linter.all false
set_option maxRecDepth 100000
noncomputable section
def wAq:=@PySem.wpAny_bind
def wBq:=@PySem.wpAny_pure
def wCq:=@List.mem_cons_of_mem
def wDq:=@List.mem_cons_self
def wEq:=@PySem.Heap.get?_push_of_some
def wFq:=@Nat.lt_of_lt_of_le
def wGq:=@PySem.Heap.get?_push_size
def wHq:=@List.size_toArray
namespace L2
open PySem PySem.Spec PyProof.Rows
noncomputable abbrev Key:=Sum Int Str
noncomputable def uQ:Key→Value→Bool
 | .inl k,v=>Value.isInt k v
 | .inr x,v=>Value.isStrOf x v
noncomputable def aJJ (w:World):Key→Int
 | .inl k=>hashInt k
 | .inr x=>hashStr w x
theorem bS:∀ {k:Key} {v:Value},uQ k v=true→(∃ i t,k=Sum.inl i∧v=Value.int i t)∨(∃ x t,k=Sum.inr x∧v=Value.str x t)
 | .inl i,v,h=>by
   obtain ⟨t,e⟩:=Value.isInt_shape (k:=i) (v:=v) h;exact .inl ⟨i,t,rfl,e⟩
 | .inr x,v,h=>by
   obtain ⟨t,e⟩:=Value.isStrOf_shape (x:=x) (v:=v) h;exact .inr ⟨x,t,rfl,e⟩
theorem KL (i:Int) (t:Tok):uQ (.inl i) (.int i t)=true:=by simp [uQ,Value.isInt]
theorem MQ (x:Str) (t:Tok):uQ (.inr x) (.str x t)=true:=by simp [uQ,Value.isStrOf]
theorem aEp (a b:Int):decide ((Sum.inl a:Key)=Sum.inl b)=(a == b):=by
 by_cases e:a=b
 · subst e; simp
 · have h:¬(Sum.inl a:Key)=Sum.inl b:=fun q=>e (Sum.inl.inj q);rw [decide_eq_false h];exact (beq_eq_false_iff_ne.mpr e).symm
theorem aDV (a b:Str):decide ((Sum.inr a:Key)=Sum.inr b)=decide (a=b):=by
 by_cases e:a=b
 · subst e; simp
 · have h:¬(Sum.inr a:Key)=Sum.inr b:=fun q=>e (Sum.inr.inj q);rw [decide_eq_false h,decide_eq_false e]
theorem aEX (a:Int) (b:Str):decide ((Sum.inl a:Key)=Sum.inr b)=false:=decide_eq_false (fun q=>nomatch q)
theorem aDE (a:Str) (b:Int):decide ((Sum.inr a:Key)=Sum.inl b)=false:=decide_eq_false (fun q=>nomatch q)
noncomputable def bX (prog:Program) (w:World):PySem.KeyKind prog w Key where
 is:=uQ
 hash:=aJJ w
 inj :=fun v a b ha hb=>by
   rcases bS ha with ⟨i,t,rfl,rfl⟩ | ⟨x,t,rfl,rfl⟩
   · rcases bS hb with ⟨j,u,rfl,e⟩ | ⟨y,u,rfl,e⟩
     · injection e with e1 _; rw [e1]
     · exact nomatch e
   · rcases bS hb with ⟨j,u,rfl,e⟩ | ⟨y,u,rfl,e⟩
     · exact nomatch e
     · injection e with e1 _; rw [e1]
 byValue:=fun k v h=>by
   rcases bS h with ⟨i,t,rfl,rfl⟩ | ⟨x,t,rfl,rfl⟩ <;> rfl
 pyHash:=fun hv h=>by
   rcases bS hv with ⟨i,t,rfl,rfl⟩ | ⟨x,t,rfl,rfl⟩
   · exact wpAny_pyHash_int h
   · exact wpAny_pyHash_str h
 eqBool:=fun hu hv h=>by
   rcases bS hu with ⟨i,t,rfl,rfl⟩ | ⟨x,t,rfl,rfl⟩
   · rcases bS hv with ⟨j,u,rfl,rfl⟩ | ⟨y,u,rfl,rfl⟩
     · rw [aEp] at h; exact wpAny_eqBool_int h
     · rw [aEX] at h; exact SeqAt.EqAt.int_str i t y u _ _ _ _ h
   · rcases bS hv with ⟨j,u,rfl,rfl⟩ | ⟨y,u,rfl,rfl⟩
     · rw [aDE] at h; exact SeqAt.EqAt.str_int x t j u _ _ _ _ h
     · rw [aDV] at h; exact wpAny_eqBool_str h
 «strs» :=fun k x t v h=>by
   rcases bS h with ⟨i,u,rfl,e⟩ | ⟨y,u,rfl,e⟩
   · exact nomatch e
   · injection e with e1 _;subst e1;cases v <;> rfl
theorem aFg (prog:Program) (w:World) (k:Key) (v:Value):(bX prog w).is k v=uQ k v:=rfl
theorem DD (prog:Program) (w:World) (i:Int) (t:Tok):(bX prog w).is (.inl i) (.int i t)=true:=KL i t
theorem BX (prog:Program) (w:World) (x:Str) (t:Tok):(bX prog w).is (.inr x) (.str x t)=true:=MQ x t
inductive V where
 | non | bl (b:Bool) | int (i:Int) | str (x:Str) | byt (b:Array UInt8) | flt (b:UInt64) | ref (a:Addr) | ty (n:String)
 deriving DecidableEq
noncomputable def aQ:V→Value→Prop
 | .non,u=>u=Value.none
 | .bl b,u=>u=Value.bool b
 | .int i,u=>∃ t,u=Value.int i t
 | .str x,u=>∃ t,u=Value.str x t
 | .byt b,u=>∃ t,u=Value.bytes b t
 | .flt b,u=>∃ t,u=Value.float b t
 | .ref a,u=>u=Value.ref a
 | .ty n,u=>u=Value.type n
noncomputable abbrev aO:List V→List Value→Prop:=Paired aQ
theorem aO.length {xs:List V} {us:List Value} (r:aO xs us):xs.length=us.length:=Paired.length r
theorem aO.get:∀ {xs:List V} {us:List Value} {i:Nat} {x:V},aO xs us→xs[i]? =some x→∃ u,us[i]? =some u∧aQ x u
 | _,_,_,_,.nil,e=>by simp at e
 | _,_,0,_,.cons r _,e=>by simp at e; subst e; exact ⟨_,rfl,r⟩
 | _,_,i + 1,x,.cons _ t,e=>by
   obtain ⟨u,h1,h2⟩:=aO.get (i:=i) (x:=x) t (by simpa using e);exact ⟨u,by simpa using h1,h2⟩
theorem aO.set {x:V} {u:Value} (r:aQ x u):∀ {xs:List V} {us:List Value} (i:Nat),aO xs us→aO (xs.set i x) (us.set i u)
 | _,_,_,.nil=>.nil
 | _,_,0,.cons _ t=>.cons r t
 | _,_,i + 1,.cons q t=>.cons q (aO.set r i t)
theorem aO.append:∀ {xs ys:List V} {us ws:List Value},aO xs us→aO ys ws→aO (xs ++ ys) (us ++ ws)
 | _,_,_,_,.nil,s=>s
 | _,_,_,_,.cons r t,s=>.cons r (aO.append t s)
theorem aO.take:∀ {xs:List V} {us:List Value} (n:Nat),aO xs us→aO (xs.take n) (us.take n)
 | _,_,0,_=>.nil
 | _,_,_ + 1,.nil=>.nil
 | _,_,n + 1,.cons r t=>.cons r (aO.take n t)
theorem aO.drop:∀ {xs:List V} {us:List Value} (n:Nat),aO xs us→aO (xs.drop n) (us.drop n)
 | _,_,0,r=>r
 | _,_,_ + 1,.nil=>.nil
 | _,_,n + 1,.cons _ t=>aO.drop n t
noncomputable def tY:Option V→Option Value→Prop
 | some v,some u=>aQ v u
 | none,none=>True
 | _,_=>False
noncomputable def KV {κ:Type}:List (κ×V)→List (κ×Value)→Prop:=Paired fun (p:κ×V) (q:κ×Value)=>p.1=q.1∧aQ p.2 q.2
noncomputable def kV:Key→V
 | .inl i=>.int i
 | .inr x=>.str x
inductive HO where
 | lst (xs:List V)
 | tup (xs:List V)
 | dK (kvs:List (Key×V)) | dT (kvs:List (List Key×V))
 | set (S:Int→Bool) (n:Nat)
 | ins (C dx:Addr) (fs:List (Str×V))
 | own (x:Addr)
 | xd (fs:List (Str×V))
 | met (f x:Addr)
 | rng (lo hi:Int)
 | frz (o:Obj) (u:HO)
 | tbl (ps:Array Value)
 | ext (φ:Heap→Prop)
noncomputable abbrev Hp:=Addr→Option HO
noncomputable def upd (H:Hp) (a:Addr) (o:HO):Hp:=fun b=>if b=a then some o else H b
theorem aI {H:Hp} {a:Addr} {o:HO}:upd H a o a=some o:=by unfold upd; rw [if_pos rfl]
theorem aD {H:Hp} {a b:Addr} {o:HO} (h:b≠a):upd H a o b=H b:=by unfold upd; rw [if_neg h]
theorem aG1 {H:Hp} {a b:Addr} {o u:HO} (h:H a=some o) (h':H b=some u) (d:o≠u):a≠b:=by
 intro e; subst e; rw [h] at h'; exact d (Option.some.inj h')
theorem aG {H:Hp} {a b:Addr} {o:HO} (h:H a=some o) (h':H b=none):a≠b:=by
 intro e; subst e; rw [h] at h'; cases h'
def fO (h:Heap) (a:Addr) (items:Array Value):Prop:=IsTup h a items∧∀ o,h.get? a=some o→o.dict=none
theorem fO.new (h:Heap) (items:Array Value):fO (h.push { cls:=.type "tuple",data:=.seq items }) h.objs.size items:=⟨IsTup.new h items,fun o e=>by rw [wGq _ rfl] at e; cases e; rfl⟩
section
variable (P:Program) (w:World)
noncomputable def bJ (H:Hp) (h:Heap) (a:Addr):HO→Prop
 | .lst xs=>xs.length≤sizeLine∧∃ (its:List Value) (n:Nat),aO xs its∧h.get? a=some { cls:=.type "list",data:=.seq its.toArray n }
 | .tup xs=>xs.length≤sizeLine∧∃ its:List Value,aO xs its∧fO h a its.toArray
 | .dK kvs=>kvs.length≤sizeLine∧(a == sysModules)=false∧∃ vs,KV kvs vs∧h.DictOf (bX P w) a vs
 | .dT kvs=>kvs.length≤sizeLine∧(a == sysModules)=false∧∃ xs:List (List Key×Addr×Value),
     Paired (fun (p:List Key×V) (q:List Key×Addr×Value)=>p.1=q.1∧H q.2.1=some (.tup (p.1.map kV))∧aQ p.2 q.2.2) kvs xs∧
     ∃ o es ep,h.get? a=some o∧o.ExactDict∧o.data= .dict es ep∧es.toList=xs.map (entryOfKey (tupleKind (bX P w)))∧(xs.map (·.1)).Nodup
 | .set S n=>h.SetOf (intKind P w) a S n
 | .ins C dx fs=>H dx=some (.own a)∧fs.length≤1000∧dx≠a∧h.get? a=some (W.instObj C dx)∧
     ∃ mA,h.Ns1 dx mA∧(∀ f,tY (fs.lookup f) (mA f))∧PySem.Within mA (fs.map (·.1))
 | .own _=>∃ o,h.get? a=some o
 | .xd fs=>∃ mA,h.Ns1 a mA∧∀ f,tY (fs.lookup f) (mA f)
 | .rng lo hi=>∃ t u v,h.get? a=some { cls:=.type "range",data:=.fields #[.int lo t,.int hi u,.int 1 v] }
 | .frz o u=>h.get? a=some o∧bJ H h a u
 | .tbl ps=>h.get? a=some { cls:=.none,data:=.fields ps }
 | .met f x=>h.get? a=some (W.methodObj (.ref f) (.ref x))
 | .ext φ=>φ h∧(∃ o,h.get? a=some o)∧∀ h1 h2:Heap,φ h1→(∀ o,h1.get? a=some o→h2.get? a=some o)→φ h2
def HOk (H:Hp) (h:Heap):Prop:= ∀ a o,H a=some o→bJ P w H h a o
end
section
variable {P:Program} {w:World} {H H':Hp} {h h':Heap} {a:Addr} {o:HO}
theorem bJ.lt (x:bJ P w H h a o):a < h.objs.size:=by
 cases o with
 | lst xs=>obtain ⟨_,_,_,_,e⟩:=x; exact Heap.lt_size e
 | tup xs=>obtain ⟨_,_,_,p⟩:=x; exact p.1.lt
 | dK kvs=>obtain ⟨_,_,_,_,o,_,_,e,_⟩:=x; exact Heap.lt_size e
 | dT kvs=>obtain ⟨_,_,_,_,o,_,_,e,_⟩:=x; exact Heap.lt_size e
 | set S n=>obtain ⟨o,_,_,_,e,_⟩:=x; exact Heap.lt_size e
 | ins C dx fs=>obtain ⟨_,_,_,e,_⟩:=x; exact Heap.lt_size e
 | own y=>obtain ⟨_,e⟩:=x; exact Heap.lt_size e
 | xd fs=>obtain ⟨_,⟨_,_,_,e,_⟩,_⟩:=x; exact Heap.lt_size e
 | rng lo hi=>obtain ⟨_,_,_,e⟩:=x; exact Heap.lt_size e
 | frz ob u=>obtain ⟨e,_⟩:=x; exact Heap.lt_size e
 | tbl ps=>exact Heap.lt_size (show h.get? a=some _ from x)
 | met f y=>exact Heap.lt_size (show h.get? a=some _ from x)
 | ext φ=>obtain ⟨_,⟨_,e⟩,_⟩:=x; exact Heap.lt_size e
theorem Paired.mapP {α β:Type} {F G:α→β→Prop}:∀ {l₁:List α} {l₂:List β},Paired F l₁ l₂→(∀ a b,F a b→G a b)→Paired G l₁ l₂
 | _,_,.nil,_=>.nil
 | _,_,.cons r t,f=>.cons (f _ _ r) (Paired.mapP t f)
theorem bJ.stay (x:bJ P w H h a o) (k:∀ b u,(b=a∨H b=some (.own a))→h.get? b=some u→h'.get? b=some u)
   (ho:∀ b,H b=some (.own a)→H' b=some (.own a)) (ht:∀ b xs,H b=some (.tup xs)→H' b=some (.tup xs)):bJ P w H' h' a o:=by
 induction o with
 | lst xs=>obtain ⟨z,its,n,r,e⟩:=x; exact ⟨z,its,n,r,k _ _ (.inl rfl) e⟩
 | tup xs=>obtain ⟨z,its,r,⟨ob,e,c⟩,dn⟩:=x; exact ⟨z,its,r,⟨ob,k _ _ (.inl rfl) e,c⟩,fun o q=>by rw [k _ _ (.inl rfl) e] at q; cases q; exact dn _ e⟩
 | dK kvs=>obtain ⟨z,y,vs,r,ob,es,ep,e,c⟩:=x; exact ⟨z,y,vs,r,ob,es,ep,k _ _ (.inl rfl) e,c⟩
 | dT kvs =>
   obtain ⟨z,y,xs,r,ob,es,ep,e,c⟩:=x;exact ⟨z,y,xs,Paired.mapP r fun p q z=>⟨z.1,ht _ _ z.2.1,z.2.2⟩,ob,es,ep,k _ _ (.inl rfl) e,c⟩
 | set S n=>obtain ⟨ob,es,ep,t,e,c⟩:=x; exact ⟨ob,es,ep,t,k _ _ (.inl rfl) e,c⟩
 | ins C dx fs =>
   obtain ⟨d,z,ne,e,mA,⟨od,es,ep,e2,c⟩,r⟩:=x;exact ⟨ho _ d,z,ne,k _ _ (.inl rfl) e,mA,⟨od,es,ep,k _ _ (.inr d) e2,c⟩,r⟩
 | own y=>obtain ⟨ob,e⟩:=x; exact ⟨ob,k _ _ (.inl rfl) e⟩
 | xd fs=>obtain ⟨mA,⟨od,es,ep,e,c⟩,r⟩:=x; exact ⟨mA,⟨od,es,ep,k _ _ (.inl rfl) e,c⟩,r⟩
 | rng lo hi=>obtain ⟨t,u,v,e⟩:=x; exact ⟨t,u,v,k _ _ (.inl rfl) e⟩
 | frz ob u ih=>obtain ⟨e,q⟩:=x; exact ⟨k _ _ (.inl rfl) e,ih q⟩
 | tbl ps =>
   have e:h.get? a=some { cls:=.none,data:=.fields ps }:=x;show h'.get? a=some { cls:=.none,data:=.fields ps };exact k a _ (.inl rfl) e
 | met f y =>
   have e:h.get? a=some (W.methodObj (.ref f) (.ref y)):=x;show h'.get? a=some (W.methodObj (.ref f) (.ref y));exact k a _ (.inl rfl) e
 | ext φ=>obtain ⟨p,⟨o,e⟩,st⟩:=x; exact ⟨st _ _ p fun o q=>k _ _ (.inl rfl) q,⟨o,k _ _ (.inl rfl) e⟩,st⟩
theorem HOk.lt (x:HOk P w H h) (e:H a=some o):a < h.objs.size:=(x a o e).lt
theorem HOk.fresh (x:HOk P w H h) (e:h.objs.size≤a):H a=none:=by
 cases q:H a with
 | none=>rfl
 | some u=>exact absurd (wFq (x.lt q) e) (Nat.lt_irrefl _)
theorem HOk.kept (x:HOk P w H h) (k:∀ b u,h.get? b=some u→h'.get? b=some u):HOk P w H h':=fun a o e =>
 (x a o e).stay (fun b u _ q=>k b u q) (fun _ q=>q) fun _ _ q=>q
theorem HOk.laid (x:HOk P w H h) (k:∀ b u,h.get? b=some u→h'.get? b=some u) (hp:h.objs.size≤a) (new:bJ P w (upd H a o) h' a o):HOk P w (upd H a o) h':=fun b u e=>by
 have hn:=x.fresh hp;by_cases hb:b=a
 · subst hb; rw [aI] at e; cases e; exact new
 · rw [aD hb] at e;exact (x b u e).stay (fun c v _ q=>k c v q) (fun c q=>by rw [aD (aG q hn)]; exact q) fun c xs q=>by rw [aD (aG q hn)]; exact q
end
def Rd (H:Hp) (a:Addr) (u:HO):Prop:=H a=some u∨∃ o,H a=some (.frz o u)
theorem Rd.ok {P:Program} {w:World} {H:Hp} {h:Heap} {a:Addr} {u:HO} (r:Rd H a u) (x:HOk P w H h):bJ P w H h a u:=by
 rcases r with r | ⟨o,r⟩
 · exact x a u r
 · obtain ⟨_,q⟩:=x a _ r;exact q
noncomputable def Mut:Option HO→Prop
 | some (.lst _)=>True
 | some (.dK _)=>True
 | some (.dT _)=>True
 | some (.set _ _)=>True
 | some (.ins _ _ _)=>True
 | some (.ext _)=>True
 | _=>False
section
variable {P:Program} {w:World} {H:Hp} {h h':Heap} {x e:Addr} {o':HO}
theorem HOk.write (ok:HOk P w H h) (mu:Mut (H x)) (he:e=x∨H e=some (.own x)) (k:∀ b u,b≠e→h.get? b=some u→h'.get? b=some u) (heo:∃ u,h'.get? e=some u)
   (new:bJ P w (upd H x o') h' x o'):HOk P w (upd H x o') h':=fun b u q=>by
 have nown:∀ c y,H c=some (.own y)→c≠x:=fun c y r z=>by subst z; rw [r] at mu; exact mu
 have ntup:∀ c xs,H c=some (.tup xs)→c≠x:=fun c xs r z=>by subst z; rw [r] at mu; exact mu
 by_cases hb:b=x
 · subst hb; rw [aI] at q; cases q; exact new
 · rw [aD hb] at q;by_cases hbe:b=e
   · have q':H b=some (.own x):=by
       rcases he with z | z
       · exact absurd (hbe.trans z) hb
       · rw [hbe]; exact z
     rw [q] at q'; cases q';obtain ⟨v,hv⟩:=heo;exact ⟨v,by rw [hbe]; exact hv⟩
   · refine (ok b u q).stay (fun c v hc r=>k c v ?_ r) (fun c r=>by rw [aD (nown c b r)]; exact r) fun c xs r=>by rw [aD (ntup c xs r)]; exact r
     rcases hc with rfl | hc
     · exact hbe
     · rintro rfl;rcases he with z | z
       · exact nown c b hc z
       · rw [hc] at z; cases z; exact hb rfl
end
structure Un (fs ex:List Addr) (H H':Hp) (h h':Heap):Prop where
 keep:∀ b o,h.get? b=some o→H b=none→b∉ fs→b∉ ex→h'.get? b=some o
 slot:∀ b o,h.get? b=some o→H b=none→b∈fs→b∉ ex→∃ sl,h'.get? b=some { o with slots:=sl }
 free:∀ b o,h.get? b=some o→H b=none→b∉ ex→H' b=none
 there:∀ b o,h.get? b=some o→b∉ ex→∃ o',h'.get? b=some o'
 tups:∀ b xs,H b=some (.tup xs)→H' b=some (.tup xs)
 frzs:∀ b o u,H b=some (.frz o u)→H' b=some (.frz o u)
 tbls:∀ b ps,H b=some (.tbl ps)→∃ more,H' b=some (.tbl (ps ++ more))
section
variable {fs fs' ex ex':List Addr} {H H1 H2:Hp} {h h1 h2 h':Heap} {a x e:Addr} {o:HO}
theorem Un.any (u:Un fs ex H H1 h h1) {b:Addr} {ob:Obj} (q:h.get? b=some ob) (n:H b=none) (hx:b∉ ex):∃ sl,h1.get? b=some { ob with slots:=sl }:=by
 by_cases hb:b∈fs
 · exact u.slot b ob q n hb hx
 · exact ⟨ob.slots,u.keep b ob q n hb hx⟩
theorem Un.kept (k:∀ b u,h.get? b=some u→h'.get? b=some u):Un fs ex H H h h' :=
 ⟨fun b ob q _ _ _=>k b ob q,fun b ob q _ _ _=>⟨ob.slots,k b ob q⟩,fun _ _ _ n _=>n,fun b ob q _=>⟨ob,k b ob q⟩,fun _ _ q=>q,fun _ _ _ q=>q,fun _ ps q=>⟨#[],by rw [q]; simp⟩⟩
theorem Un.refl:Un fs ex H H h h:=Un.kept fun _ _ q=>q
theorem Un.laid (k:∀ b u,h.get? b=some u→h'.get? b=some u) (hp:h.objs.size≤a) (hn:H a=none):Un fs ex H (upd H a o) h h' where
 keep:=fun b u q _ _ _=>k b u q
 slot:=fun b u q _ _ _=>⟨u.slots,k b u q⟩
 free:=fun b u q n _=>by rw [aD (Nat.ne_of_lt (wFq (Heap.lt_size q) hp))]; exact n
 there:=fun b u q _=>⟨u,k b u q⟩
 tups:=fun b xs q=>by rw [aD (aG q hn)]; exact q
 frzs:=fun b u xs q=>by rw [aD (aG q hn)]; exact q
 tbls:=fun b ps q=>⟨#[],by rw [aD (aG q hn),q]; simp⟩
theorem Un.write (mu:Mut (H x)) (he:e=x∨H e=some (.own x)) (k:∀ b u,b≠e→h.get? b=some u→h'.get? b=some u) (heo:∃ u,h'.get? e=some u):Un fs ex H (upd H x o) h h':=by
 have hx:∀ b,H b=none→b≠x:=fun b n z=>by subst z; rw [n] at mu; exact mu
 have hb:∀ b,H b=none→b≠e:=fun b n z=>by
   subst z;rcases he with r | r
   · exact hx b n r
   · rw [n] at r; cases r
 have hm:∀ b u,H b=some u→¬Mut (some u)→b≠x:=fun b u q nm z=>by subst z; rw [q] at mu; exact nm mu
 refine ⟨fun b u q n _ _=>k b u (hb b n) q,fun b u q n _ _=>⟨u.slots,k b u (hb b n) q⟩,fun b u q n _=>by rw [aD (hx b n)]; exact n,fun b u q _=>?_,
   fun b xs q=>by rw [aD (hm b _ q fun z=>z)]; exact q,fun b u xs q=>by rw [aD (hm b _ q fun z=>z)]; exact q,fun b ps q=>⟨#[],by rw [aD (hm b _ q fun z=>z),q]; simp⟩⟩
 by_cases hbe:b=e
 · subst hbe; exact heo
 · exact ⟨u,k b u hbe q⟩
end
noncomputable def trk (h:Heap) (H:Hp):List Addr:=(List.range h.objs.size).filter fun a=>(H a).isSome
noncomputable def yQ (h:Heap) (H:Hp):Heap:=W.hideAll h (trk h H)
theorem NJ (h:Heap) (H:Hp):(yQ h H).objs.size=h.objs.size:=W.hideAll_size _ _
theorem SI {h:Heap} {H:Hp} {b:Addr} {o:Obj} (e:h.get? b=some o) (n:H b=none):(yQ h H).get? b=some o :=
 W.hideAll_get _ e fun hm=>by
   have q:(H b).isSome=true:=(List.mem_filter.mp hm).2;rw [n] at q; simp at q
theorem ZL {h:Heap} {H:Hp} {b:Addr} {o:Obj} (e:(yQ h H).get? b=some o):h.get? b=some o∧H b=none:=by
 have e':h.get? b=some o:=W.of_hideAll (trk h H) e;refine ⟨e', ?_⟩;cases q:H b with
 | none=>rfl
 | some x =>
   have hm:b∈trk h H:=List.mem_filter.mpr ⟨List.mem_range.mpr (Heap.lt_size e'),by simp [q]⟩;have z:(yQ h H).get? b=none:=W.hideAll_none (trk h H) hm;rw [z] at e; cases e
noncomputable def YH (g h:Heap) (L:Addr):List (Addr×Obj):=(List.range h.objs.size).filterMap fun a=>if a=L∨(g.get? a).isSome=true then none else (h.get? a).map fun o=>(a,o)
noncomputable def aV (g h:Heap) (L d:Addr):List (Addr×Obj):=(YH g h L).filter fun p=>decide (p.1≠d)
structure Mod (K:W.Frag) (mg:Str→Option Value) (base:Heap):Prop where
 kin:K.In base
 glob:base.Ns mainGlobals mg
 blt:∃ mb,base.Ns builtinsNs mb∧∀ x:Str,x≠"__name__"→mb x=bootBuiltins x
 nolimit:base.NoLimit
structure Cx where
 prog:Program
 w:World
 K:W.Frag
 mg:Str→Option Value
 base:Heap
 A:Around
 N:List Str
 s₀:Shared
 H₀:Hp
 env:Env
 outer:List Env
 stack:List Env
 ex:List Addr
 fn:Str→Bool
 calm:Bool
 pn:List (Addr×Obj)
 xe:Value→Shared→Prop
noncomputable def frs (l:List Env):List Addr:=l.filterMap (·.frame)
noncomputable abbrev Cx.fs (X:Cx):List Addr:=frs X.outer
def Vis (sc:Scope) (x:Str):Prop:=sc.names.lookup x=some .local∨sc.names.lookup x=some .cell∨sc.names.lookup x=some .free
def Loc (sc:Scope) (x:Str):Prop:=sc.names.lookup x=some .local∨sc.names.lookup x=some .cell
noncomputable def aJ1 (env:Env) (h:Heap) (m:Str→Option Value) (x:Str) (u:Value):Prop :=
 (env.kindOf x=some .local∧m x=some u)∨((env.kindOf x=some .cell∨env.kindOf x=some .free)∧∃ c,env.cells.lookup x=some c∧h.IsCell c (some u))
structure Cx.Ok (X:Cx):Prop where
 mod:Mod X.K X.mg X.base
 kind:X.env.scope.kind= .function
 glob:X.env.globals=mainGlobals
 blt:X.env.builtins=builtinsNs
 above:X.s₀.heap.objs.size≤X.env.locals
 inj:∀ x y c,X.env.cells.lookup x=some c→X.env.cells.lookup y=some c→x=y
 has:∀ x,(X.env.kindOf x=some .cell∨X.env.kindOf x=some .free)→∃ c,X.env.cells.lookup x=some c
 cab:∀ x c,X.fn x=true→X.env.cells.lookup x=some c→X.s₀.heap.objs.size≤c
 hd:X.calm=true→X.A.handled=none
 frames:X.A.frames=some X.stack
 stk:X.stack=X.outer∨(X.stack=X.env :: X.outer∧X.env.frame=some X.env.locals)
 exf:∀ b∈X.ex,b≠X.env.locals∧∀ x c,X.env.cells.lookup x=some c→c≠b
 bs:∀ b o,X.base.get? b=some o→X.s₀.heap.get? b=some o∧X.H₀ b=none
 bsz:X.base.objs.size≤X.s₀.heap.objs.size
 noex:∀ b o,X.base.get? b=some o→b∉ X.ex
 exfs:∀ b∈X.ex,b∉ X.fs
 funs:X.s₀.heap.FunFrames X.base X.outer
 frf:∀ b∈X.fs,X.H₀ b=none
structure Inv (X:Cx) (pins:List (Addr×Obj)) (σ:List (Option V)) (H:Hp) (s:Shared):Prop where
 ok:X.Ok
 os:s.os=X.s₀.os
 bare:AllBare s.gens
 base:Un X.fs X.ex X.H₀ H X.s₀.heap s.heap
 loc:∃ m,s.heap.Ns X.env.locals m∧∀ (i:Nat) (x:Str) (v:V),X.N[i]? =some x→σ[i]? =some (some v)→Vis X.env.scope x→∃ u,aQ v u∧aJ1 X.env s.heap m x u
 cell:∀ x c,X.env.cells.lookup x=some c→∃ v,s.heap.IsCell c v
 free:H X.env.locals=none
 freeC:∀ x c,X.env.cells.lookup x=some c→H c=none
 pin:∀ p∈X.pn ++ pins,s.heap.get? p.1=some p.2∧H p.1=none∧p.1≠X.env.locals∧p.1∉ X.fs∧∀ v,p.2.data≠.cell v
 hok:HOk X.prog X.w H s.heap
 len:σ.length=X.N.length
section
variable {X:Cx} {pins:List (Addr×Obj)} {σ:List (Option V)} {H H':Hp} {s:Shared} {h':Heap}
theorem Cx.Ok.nofr (ok:X.Ok) {b:Addr} {o:Obj} (e:X.base.get? b=some o):b∉ X.fs:=fun hb=>by
 have:=(ok.funs.mem hb).1;rw [e] at this; cases this
theorem Inv.bs (I:Inv X pins σ H s):∀ b o,X.base.get? b=some o→s.heap.get? b=some o∧H b=none:=fun b o e =>
 ⟨I.base.keep b o (I.ok.bs b o e).1 (I.ok.bs b o e).2 (I.ok.nofr e) (I.ok.noex b o e),I.base.free b o (I.ok.bs b o e).1 (I.ok.bs b o e).2 (I.ok.noex b o e)⟩
theorem Inv.bk (I:Inv X pins σ H s):∀ b o,X.base.get? b=some o→s.heap.get? b=some o:=fun b o e=>(I.bs b o e).1
theorem Inv.mod (I:Inv X pins σ H s):Mod X.K X.mg X.base:=I.ok.mod
theorem Inv.kIn (I:Inv X pins σ H s):X.K.In s.heap:=I.ok.mod.kin.keeps I.bk
theorem Inv.fr (I:Inv X pins σ H s):∃ m,Fr X.base X.env.locals s.heap m :=
 let ⟨m,hn,_⟩:=I.loc
 ⟨m,hn,I.bk,Nat.le_trans I.ok.bsz I.ok.above⟩
theorem Inv.lt (I:Inv X pins σ H s):X.env.locals < s.heap.objs.size:=let ⟨_,hn,_⟩:=I.loc; hn.lt
theorem Inv.sz (I:Inv X pins σ H s):X.s₀.heap.objs.size≤s.heap.objs.size:=Nat.le_trans I.ok.above (Nat.le_of_lt I.lt)
theorem Inv.nofs (I:Inv X pins σ H s) {a:Addr} (h:s.heap.objs.size≤a):a∉ X.fs:=fun hb=>by
 obtain ⟨_,o,ho,_⟩:=I.ok.funs.mem hb;exact absurd (wFq (Heap.lt_size ho) (Nat.le_trans I.sz h)) (Nat.lt_irrefl _)
theorem Inv.cne (I:Inv X pins σ H s):∀ x c,X.env.cells.lookup x=some c→c≠X.env.locals:=fun x c e z=>by
 obtain ⟨v,o,ho,hd⟩:=I.cell x c e;obtain ⟨m,⟨o',es,ep,ho',hd',_⟩,_⟩:=I.loc;rw [z,ho'] at ho; cases ho; rw [hd'] at hd; cases hd
theorem Inv.funs (I:Inv X pins σ H s):s.heap.FunFrames X.base X.outer:=by
 have all:∀ (l:List Env),(∀ b∈frs l,b∈X.fs)→X.s₀.heap.FunFrames X.base l→s.heap.FunFrames X.base l:=by
   intro l;induction l with
   | nil=>intro _ _; trivial
   | cons env r ih =>
     intro hs hl;obtain ⟨hk,⟨L,o,hf,hn,ho,hd⟩,hr⟩:=hl;have hL:L∈X.fs:=hs L (by unfold frs; rw [List.filterMap_cons,hf]; exact wDq);obtain ⟨sl,e⟩:=I.base.slot L o ho (I.ok.frf L hL) hL fun z=>I.ok.exfs L z hL;exact ⟨hk,⟨L,_,hf,hn,e,hd⟩,ih (fun b hb=>hs b (by unfold frs; rw [List.filterMap_cons,hf]; exact wCq _ hb)) hr⟩
 exact all X.outer (fun _ hb=>hb) I.ok.funs
theorem Inv.stack (I:Inv X pins σ H s):s.heap.FunFrames X.base X.stack:=by
 rcases I.ok.stk with e | ⟨e,hf⟩
 · rw [e]; exact I.funs
 · rw [e];obtain ⟨m,hn,_⟩:=I.loc;refine .cons (by rw [I.ok.kind]; decide) hf hn ?_ I.funs;exact Heap.get?_none_of_le (Nat.le_trans I.ok.bsz I.ok.above)
theorem Inv.stkSub (I:Inv X pins σ H s):∀ b∈frs X.stack,b∈X.env.locals :: X.fs:=fun b hb=>by
 rcases I.ok.stk with e | ⟨e,hf⟩
 · rw [e] at hb; exact wCq _ hb
 · rw [e] at hb;unfold frs at hb;rw [List.filterMap_cons,hf] at hb;exact hb
theorem Inv.stkFree (I:Inv X pins σ H s):∀ b∈frs X.stack,H b=none:=fun b hb=>by
 rcases List.mem_cons.mp (I.stkSub b hb) with e | hb
 · rw [e]; exact I.free
 · obtain ⟨_,o,ho,_⟩:=I.ok.funs.mem hb;exact I.base.free b o ho (I.ok.frf b hb) fun z=>I.ok.exfs b z hb
theorem Inv.step {g':Array GenState} {t':Nat} {d':Drawn} {ch:List Addr} (I:Inv X pins σ H s)
   (hch:∀ b∈ch,(b∈X.ex∨X.s₀.heap.objs.size≤b)∧b≠X.env.locals∧(∀ x c,X.env.cells.lookup x=some c→c≠b)∧∀ p∈X.pn ++ pins,p.1≠b)
   (keep:∀ b o,b≠X.env.locals→b∉ X.fs→b∉ ch→s.heap.get? b=some o→H b=none→h'.get? b=some o)
   (slot:∀ b o,b≠X.env.locals→b∈X.fs→b∉ ch→s.heap.get? b=some o→H b=none→∃ sl,h'.get? b=some { o with slots:=sl }) (free:∀ b o,b∉ ch→s.heap.get? b=some o→H b=none→H' b=none)
   (there:∀ b o,b∉ ch→s.heap.get? b=some o→∃ o',h'.get? b=some o')
   (tups:∀ b xs,H b=some (.tup xs)→H' b=some (.tup xs)) (frzs:∀ b o u,H b=some (.frz o u)→H' b=some (.frz o u)) (tbls:∀ b ps,H b=some (.tbl ps)→∃ more,H' b=some (.tbl (ps ++ more)))
   (ns:∀ m,s.heap.Ns X.env.locals m→h'.Ns X.env.locals m) (hok:HOk X.prog X.w H' h') (hg:AllBare g') :
   Inv X pins σ H' { s with heap:=h',gens:=g',drawn:=d',toks:=t' }:=by
 have neL:∀ b o,X.s₀.heap.get? b=some o→b≠X.env.locals:=fun b o e=>Nat.ne_of_lt (wFq (Heap.lt_size e) I.ok.above);have neC:∀ b o,X.s₀.heap.get? b=some o→b∉ X.ex→b∉ ch:=fun b o e hx hb=>by
   rcases (hch b hb).1 with z | z
   · exact hx z
   · exact absurd (wFq (Heap.lt_size e) z) (Nat.lt_irrefl _)
 have cellK:∀ x c,X.env.cells.lookup x=some c→∀ v,s.heap.IsCell c v→h'.IsCell c v:=by
   rintro x c e v ⟨o,ho,hd⟩;have nch:c∉ ch:=fun z=>(hch c z).2.2.1 x c e rfl;by_cases hc:c∈X.fs
   · obtain ⟨sl,q⟩:=slot c o (I.cne x c e) hc nch ho (I.freeC x c e);exact ⟨_,q,hd⟩
   · exact ⟨o,keep c o (I.cne x c e) hc nch ho (I.freeC x c e),hd⟩
 refine ⟨I.ok,I.os,hg,⟨fun b o e n hb hx=>?_,fun b o e n hb hx=>?_,fun b o e n hx=>?_,fun b o e hx=>?_,fun b xs e=>tups b xs (I.base.tups b xs e),fun b o xs e=>frzs b o xs (I.base.frzs b o xs e),fun b ps e=>?_⟩, ?_,fun x c e=>?_, ?_,fun x c e=>?_,fun p hp=>?_,hok,I.len⟩
 · exact keep b o (neL b o e) hb (neC b o e hx) (I.base.keep b o e n hb hx) (I.base.free b o e n hx)
 · obtain ⟨sl,e1⟩:=I.base.slot b o e n hb hx;obtain ⟨sl',e2⟩:=slot b _ (neL b o e) hb (neC b o e hx) e1 (I.base.free b o e n hx);exact ⟨sl',e2⟩
 · obtain ⟨o',e1⟩:=I.base.there b o e hx;exact free b o' (neC b o e hx) e1 (I.base.free b o e n hx)
 · obtain ⟨o',e1⟩:=I.base.there b o e hx;exact there b o' (neC b o e hx) e1
 · obtain ⟨m1,e1⟩:=I.base.tbls b ps e;obtain ⟨m2,e2⟩:=tbls b _ e1;exact ⟨m1 ++ m2,by rw [e2,Array.append_assoc]⟩
 · obtain ⟨m,hn,hl⟩:=I.loc;refine ⟨m,ns m hn,fun i x v e1 e2 e3=>?_⟩;obtain ⟨u,r,l⟩:=hl i x v e1 e2 e3;refine ⟨u,r, ?_⟩;rcases l with l | ⟨k,c,e,z⟩
   · exact .inl l
   · exact .inr ⟨k,c,e,cellK x c e _ z⟩
 · obtain ⟨v,z⟩:=I.cell x c e;exact ⟨v,cellK x c e v z⟩
 · obtain ⟨m,⟨o,_,_,ho,_⟩,_⟩:=I.loc;exact free _ o (fun z=>(hch _ z).2.1 rfl) ho I.free
 · obtain ⟨v,o,ho,hd⟩:=I.cell x c e;exact free c o (fun z=>(hch c z).2.2.1 x c e rfl) ho (I.freeC x c e)
 · obtain ⟨e,n,ne,nf,d⟩:=I.pin p hp;have nch:p.1∉ ch:=fun z=>(hch p.1 z).2.2.2 p hp rfl;exact ⟨keep p.1 p.2 ne nf nch e n,free p.1 p.2 nch e n,ne,nf,d⟩
theorem Inv.un {t':Nat} (I:Inv X pins σ H s) (u:Un X.fs [] H H' s.heap h') (hok:HOk X.prog X.w H' h'):Inv X pins σ H' { s with heap:=h',toks:=t' }:=by
 obtain ⟨m,⟨o,es,ep,ho,r⟩,_⟩:=id I.loc;obtain ⟨sl,hL⟩:=u.any ho I.free (by simp);exact I.step (g':=s.gens) (d':=s.drawn) (ch:=[]) (fun _ z=>nomatch z) (fun b o _ hb _ e n=>u.keep b o e n hb (by simp)) (fun b o _ hb _ e n=>u.slot b o e n hb (by simp)) (fun b o _ e n=>u.free b o e n (by simp)) (fun b o _ e=>u.there b o e (by simp)) u.tups u.frzs u.tbls (fun m' hm=>by
   obtain ⟨o',es',ep',ho',r'⟩:=hm;rw [ho] at ho'; cases ho';exact ⟨_,es',ep',hL,r'⟩) hok I.bare
theorem Inv.call {g':Array GenState} {t':Nat} {d':Drawn} {ch:List Addr} (I:Inv X pins σ H s) (u:Un (frs X.stack) ch H H' s.heap h') (hok:HOk X.prog X.w H' h') (hg:AllBare g')
   (hch:∀ b∈ch,(b∈X.ex∨X.s₀.heap.objs.size≤b)∧b≠X.env.locals∧(∀ x c,X.env.cells.lookup x=some c→c≠b)∧∀ p∈X.pn ++ pins,p.1≠b) :
   Inv X pins σ H' { s with heap:=h',gens:=g',drawn:=d',toks:=t' }:=by
 obtain ⟨m,⟨o,es,ep,ho,r⟩,_⟩:=id I.loc;obtain ⟨sl,hL⟩:=u.any ho I.free fun z=>(hch _ z).2.1 rfl;exact I.step (ch:=ch) hch (fun b o hL hb hc e n=>u.keep b o e n (fun z=>(List.mem_cons.mp (I.stkSub b z)).elim hL hb) hc) (fun b o _ _ hc e n=>u.any e n hc) (fun b o hc e n=>u.free b o e n hc) (fun b o hc e=>u.there b o e hc) u.tups u.frzs u.tbls (fun m' hm=>by
   obtain ⟨o',es',ep',ho',r'⟩:=hm;rw [ho] at ho'; cases ho';exact ⟨_,es',ep',hL,r'⟩) hok hg
theorem Inv.turned {t':Nat} {it:Addr} (I:Inv X pins σ H s) (k:∀ b o,b≠it→s.heap.get? b=some o→h'.get? b=some o) (hn:H it=none) (hL:it≠X.env.locals)
   (h1:it∈X.ex∨X.s₀.heap.objs.size≤it) (h2:∀ x c,X.env.cells.lookup x=some c→c≠it) (h3:∀ p∈X.pn ++ pins,p.1≠it):Inv X pins σ H { s with heap:=h',toks:=t' }:=by
 have nit:∀ b u,H b=some u→b≠it:=fun b u e z=>by rw [z,hn] at e; cases e
 refine I.step (g':=s.gens) (d':=s.drawn) (ch:=[it]) (fun b hb=>?_) (fun b o _ _ hc e _=>k b o (fun z=>hc (by simp [z])) e) (fun b o _ _ hc e _=>⟨o.slots,k b o (fun z=>hc (by simp [z])) e⟩) (fun _ _ _ _ n=>n)
   (fun b o hc e=>⟨o,k b o (fun z=>hc (by simp [z])) e⟩) (fun _ _ e=>e) (fun _ _ _ e=>e) (fun b ps e=>⟨#[],by rw [e]; simp⟩) (fun m hm=>?_) (fun b u e=>?_) I.bare
 · have e:b=it:=by simpa using hb
   subst e;exact ⟨h1,hL,h2,h3⟩
 · obtain ⟨o,es,ep,ho,r⟩:=hm;exact ⟨o,es,ep,k _ o (Ne.symm hL) ho,r⟩
 · refine (I.hok b u e).stay (fun c v hc q=>k c v ?_ q) (fun _ q=>q) fun _ _ q=>q;rcases hc with z | z
   · rw [z]; exact nit b u e
   · exact nit c _ z
theorem Inv.tok (I:Inv X pins σ H s) (t:Nat):Inv X pins σ H { s with toks:=t }:=I.un (h':=s.heap) (t':=t) Un.refl I.hok
theorem Inv.kept {t':Nat} (I:Inv X pins σ H s) (k:∀ b u,s.heap.get? b=some u→h'.get? b=some u):Inv X pins σ H { s with heap:=h',toks:=t' }:=I.un (Un.kept k) (I.hok.kept k)
theorem Inv.laid {a:Addr} {o:HO} {t':Nat} (I:Inv X pins σ H s) (k:∀ b u,s.heap.get? b=some u→h'.get? b=some u) (hp:s.heap.objs.size≤a) (new:bJ X.prog X.w (upd H a o) h' a o) :
   Inv X pins σ (upd H a o) { s with heap:=h',toks:=t' }:=I.un (Un.laid k hp (I.hok.fresh hp)) (I.hok.laid k hp new)
theorem Inv.write {x e:Addr} {o:HO} {t':Nat} (I:Inv X pins σ H s) (mu:Mut (H x)) (he:e=x∨H e=some (.own x)) (k:∀ b u,b≠e→s.heap.get? b=some u→h'.get? b=some u) (heo:∃ u,h'.get? e=some u)
   (new:bJ X.prog X.w (upd H x o) h' x o):Inv X pins σ (upd H x o) { s with heap:=h',toks:=t' }:=I.un (Un.write mu he k heo) (I.hok.write mu he k heo new)
theorem Inv.weak {σ':List (Option V)} (I:Inv X pins σ H s) (hl:σ'.length=σ.length) (w:∀ (i:Nat) v,σ'[i]? =some (some v)→σ[i]? =some (some v)):Inv X pins σ' H s :=
 ⟨I.ok,I.os,I.bare,I.base,let ⟨m,hn,hl'⟩:=I.loc; ⟨m,hn,fun i x v e1 e2 e3=>hl' i x v e1 (w i v e2) e3⟩,I.cell,I.free,I.freeC,I.pin,I.hok,hl.trans I.len⟩
theorem Inv.pins_of {pins':List (Addr×Obj)} (I:Inv X pins σ H s) (h:∀ p∈pins',s.heap.get? p.1=some p.2∧H p.1=none∧p.1≠X.env.locals∧p.1∉ X.fs∧∀ v,p.2.data≠.cell v):Inv X pins' σ H s :=
 ⟨I.ok,I.os,I.bare,I.base,I.loc,I.cell,I.free,I.freeC,fun p hp=>(List.mem_append.mp hp).elim (fun z=>I.pin p (List.mem_append_left _ z)) (h p),I.hok,I.len⟩
theorem sV {N:List Str} (hN:N.Nodup) {i j:Nat} {x:Str} (a:N[i]? =some x) (b:N[j]? =some x):i=j:=by
 obtain ⟨h1,e1⟩:=List.getElem?_eq_some_iff.mp a;obtain ⟨h2,e2⟩:=List.getElem?_eq_some_iff.mp b;exact (List.getElem_inj hN).mp (e1.trans e2.symm)
theorem NW {M:Model} {A:Around} {E:Value→Shared→Prop} {i:Nat} {x:Str} {v:V} {u:Value} {Q:Unit→Shared→Prop} (I:Inv X pins σ H s) (hN:X.N.Nodup) (hi:X.N[i]? =some x) (hx:Loc X.env.scope x) (r:aQ v u)
   (h:∀ s',Inv X pins (σ.set i (some v)) H s'→(∃ a,Heap.SameBut a s.heap s'.heap∧(a=X.env.locals∨X.env.cells.lookup x=some a))→Q () s') (hf:X.fn x=true∨X.env.scope.names.lookup x=some .local:=by first | exact .inl rfl | exact .inr rfl | assumption):wpAny M A (storeName X.env x u) Q E s:=by
 obtain ⟨m,hn,hl⟩:=id I.loc;have hcls:(X.env.scope.kind == .class || (X.env.scope.kind == .module && X.env.locals != X.env.globals))=false:=by rw [I.ok.kind]; rfl
 have hiσ:i < σ.length:=by rw [I.len]; exact (List.getElem?_eq_some_iff.mp hi).1
 have cne:=I.cne;have tracked:∀ {a:Addr} {h':Heap},(∃ o,s.heap.get? a=some o∧H a=none)→Heap.SameBut a s.heap h'→HOk X.prog X.w H h':=fun {a h'} ha hs b ob e=>by
   obtain ⟨_,_,hfree⟩:=ha;refine (I.hok b ob e).stay (fun c w' hc q=>(hs.2 c ?_).trans q) (fun _ q=>q) fun _ _ q=>q;rintro rfl;rcases hc with rfl | hc
   · rw [hfree] at e; cases e
   · rw [hfree] at hc; cases hc
 rcases hx with hk | hk
 · refine wpAny_storeName_local hk hn (fun h' hn' hs=>?_) hcls;obtain ⟨oL,_,_,hoL,_⟩:=id hn;refine h _ ⟨I.ok,I.os,I.bare,⟨fun b o e n hb hx=>?_,fun b o e n hb hx=>?_,I.base.free,fun b o e hx=>?_,I.base.tups,I.base.frzs,I.base.tbls⟩,⟨_,hn',fun j y v' e1 e2 e3=>?_⟩,fun y c e=>?_,I.free,I.freeC,fun p hp=>?_,tracked ⟨oL,hoL,I.free⟩ hs,by simpa using I.len⟩ ⟨_,hs,.inl rfl⟩
   · exact (hs.2 b (Nat.ne_of_lt (wFq (Heap.lt_size e) I.ok.above))).trans (I.base.keep b o e n hb hx)
   · obtain ⟨sl,e1⟩:=I.base.slot b o e n hb hx;exact ⟨sl,(hs.2 b (Nat.ne_of_lt (wFq (Heap.lt_size e) I.ok.above))).trans e1⟩
   · obtain ⟨o',e1⟩:=I.base.there b o e hx;exact ⟨o',(hs.2 b (Nat.ne_of_lt (wFq (Heap.lt_size e) I.ok.above))).trans e1⟩
   · by_cases hj:j=i
     · subst hj;rw [hi] at e1; cases e1;rw [List.getElem?_set_self hiσ] at e2;cases e2;exact ⟨u,r,.inl ⟨hk,by simp⟩⟩
     · rw [List.getElem?_set_ne (Ne.symm hj)] at e2;obtain ⟨u',r',q⟩:=hl j y v' e1 e2 e3;refine ⟨u',r', ?_⟩;rcases q with ⟨k,e⟩ | ⟨k,c,e,z⟩
       · refine .inl ⟨k, ?_⟩;have:y≠x:=fun e=>hj (sV hN e1 (e▸hi));simp [this,e]
       · exact .inr ⟨k,c,e,z.sameBut hs (cne y c e)⟩
   · obtain ⟨w',z⟩:=I.cell y c e;exact ⟨w',z.sameBut hs (cne y c e)⟩
   · obtain ⟨e,n,ne,nf,d⟩:=I.pin p hp;exact ⟨(hs.2 p.1 ne).trans e,n,ne,nf,d⟩
 · have hfn:X.fn x=true:=by
     rcases hf with z | z
     · exact z
     · rw [z] at hk; cases hk
   obtain ⟨c,hc⟩:=I.ok.has x (.inl hk);obtain ⟨w',z⟩:=I.cell x c hc;refine wpAny_storeName_cell I.ok.kind hk hc z (fun h' hc' hs=>?_);obtain ⟨oc,hoc,hocd⟩:=id z;refine h { s with heap:=h' } ⟨I.ok,I.os,I.bare,⟨fun b o e n hb hx=>?_,fun b o e n hb hx=>?_,I.base.free,fun b o e hx=>?_,I.base.tups,I.base.frzs,I.base.tbls⟩,⟨m,hn.sameBut hs (Ne.symm (cne x c hc)),fun j y v' e1 e2 e3=>?_⟩,fun y c' e=>?_,I.free,I.freeC,fun p hp=>?_,tracked ⟨oc,hoc,I.freeC x c hc⟩ hs,by simpa using I.len⟩ ⟨c,hs,.inr hc⟩
   · exact (hs.2 b (Nat.ne_of_lt (wFq (Heap.lt_size e) (I.ok.cab x c hfn hc)))).trans (I.base.keep b o e n hb hx)
   · obtain ⟨sl,e1⟩:=I.base.slot b o e n hb hx;exact ⟨sl,(hs.2 b (Nat.ne_of_lt (wFq (Heap.lt_size e) (I.ok.cab x c hfn hc)))).trans e1⟩
   · obtain ⟨o',e1⟩:=I.base.there b o e hx;exact ⟨o',(hs.2 b (Nat.ne_of_lt (wFq (Heap.lt_size e) (I.ok.cab x c hfn hc)))).trans e1⟩
   · by_cases hj:j=i
     · subst hj;rw [hi] at e1; cases e1;rw [List.getElem?_set_self hiσ] at e2;cases e2;exact ⟨u,r,.inr ⟨.inl hk,c,hc,hc'⟩⟩
     · rw [List.getElem?_set_ne (Ne.symm hj)] at e2;obtain ⟨u',r',q⟩:=hl j y v' e1 e2 e3;refine ⟨u',r', ?_⟩;rcases q with q | ⟨k,c',e,z'⟩
       · exact .inl q
       · refine .inr ⟨k,c',e,z'.sameBut hs ?_⟩;rintro rfl;exact hj (sV hN e1 (I.ok.inj _ _ _ e hc▸hi))
   · by_cases hcc:c'=c
     · subst hcc; exact ⟨_,hc'⟩
     · obtain ⟨w2,z2⟩:=I.cell y c' e;exact ⟨w2,z2.sameBut hs hcc⟩
   · obtain ⟨e,n,ne,nf,d⟩:=I.pin p hp;refine ⟨(hs.2 p.1 ?_).trans e,n,ne,nf,d⟩;intro q;rw [q,hoc] at e;have q':oc=p.2:=Option.some.inj e;exact d w' (by rw [←q']; exact hocd)
theorem eX {M:Model} {A:Around} {E:Value→Shared→Prop} {i:Nat} {x:Str} {v:V} {u:Value} {Q:Unit→Shared→Prop} (I:Inv X pins σ H s) (hN:X.N.Nodup) (hi:X.N[i]? =some x) (hx:Loc X.env.scope x) (r:aQ v u)
   (h:∀ s',Inv X pins (σ.set i (some v)) H s'→Q () s') (hf:X.fn x=true∨X.env.scope.names.lookup x=some .local:=by first | exact .inl rfl | exact .inr rfl | assumption):wpAny M A (storeName X.env x u) Q E s :=
 NW I hN hi hx r (fun s' I' _=>h s' I') hf
theorem Inv.call' {s':Shared} {ch:List Addr} (I:Inv X pins σ H s) (ho:s'.os=s.os) (u:Un (frs X.stack) ch H H' s.heap s'.heap) (hok:HOk X.prog X.w H' s'.heap) (hg:AllBare s'.gens)
   (hch:∀ b∈ch,(b∈X.ex∨X.s₀.heap.objs.size≤b)∧b≠X.env.locals∧(∀ x c,X.env.cells.lookup x=some c→c≠b)∧∀ p∈X.pn ++ pins,p.1≠b):Inv X pins σ H' s':=by
 obtain ⟨h',g',d',t',o'⟩:=s';have e:o'=s.os:=ho;subst e;exact I.call (g':=g') (t':=t') (d':=d') u hok hg hch
end
noncomputable abbrev XK:=Value→Option Addr→Hp→Prop
noncomputable abbrev St:=List (Option V)
noncomputable abbrev VK:=V→Hp→Prop
noncomputable abbrev TE:=St→Hp→VK→Prop
noncomputable abbrev TT:=St→Hp→(Bool→Hp→Prop)→Prop
noncomputable abbrev TA:=St→Hp→(List V→Hp→Prop)→Prop
structure uR where
 nx:St→Hp→Prop
 rt:VK
 bk:St→Hp→Prop:=fun _ _=>False
 ct:St→Hp→Prop:=fun _ _=>False
noncomputable abbrev TS:=uR→St→Hp→Prop
def EP (X:Cx) (pins:List (Addr×Obj)) (σ:St) (Q:VK) (u:Value) (s':Shared):Prop:= ∃ v H',Inv X pins σ H' s'∧aQ v u∧Q v H'
def TP (X:Cx) (pins:List (Addr×Obj)) (σ:St) (Q:Bool→Hp→Prop) (b:Bool) (s':Shared):Prop:= ∃ H',Inv X pins σ H' s'∧Q b H'
def AP (X:Cx) (pins:List (Addr×Obj)) (σ:St) (Q:List V→Hp→Prop) (us:List Value) (s':Shared):Prop:= ∃ vs H',Inv X pins σ H' s'∧aO vs us∧Q vs H'
noncomputable def SP (X:Cx) (pins:List (Addr×Obj)) (D:uR) (f:Flow) (s':Shared):Prop :=
 match f with
 | .next=>∃ σ' H',Inv X pins σ' H' s'∧D.nx σ' H'
 | .brk=>∃ σ' H',Inv X pins σ' H' s'∧D.bk σ' H'
 | .cont=>∃ σ' H',Inv X pins σ' H' s'∧D.ct σ' H'
 | .ret u=>∃ v σ' H',Inv X pins σ' H' s'∧aQ v u∧D.rt v H'
noncomputable def PE (X:Cx) (e:Expr) (t:TE):Prop :=
 ∀ (pins:List (Addr×Obj)) (s:Shared) (σ:St) (H:Hp) (Q:VK),Inv X pins σ H s→t σ H Q→wpAny (model X.prog X.w) X.A (eval e X.env) (EP X pins σ Q) X.xe s
noncomputable def PT (X:Cx) (e:Expr) (t:TT):Prop :=
 ∀ (pins:List (Addr×Obj)) (s:Shared) (σ:St) (H:Hp) (Q:Bool→Hp→Prop),Inv X pins σ H s→t σ H Q→wpAny (model X.prog X.w) X.A (isTrue e X.env (eval e X.env)) (TP X pins σ Q) X.xe s
noncomputable def PW (X:Cx) (e:Expr) (t:TT):Prop :=
 ∀ (whole:Sem Value) (pins:List (Addr×Obj)) (s:Shared) (σ:St) (H:Hp) (Q:Bool→Hp→Prop),Inv X pins σ H s→t σ H Q→wpAny (model X.prog X.w) X.A (isTrue e X.env whole) (TP X pins σ Q) X.xe s
theorem PW.pt {X:Cx} {e:Expr} {t:TT} (h:PW X e t):PT X e t:=h _
noncomputable def PA (X:Cx) (es:List Expr) (t:TA):Prop :=
 ∀ (pos:Pos) (pins:List (Addr×Obj)) (s:Shared) (σ:St) (H:Hp) (Q:List V→Hp→Prop),Inv X pins σ H s→t σ H Q→wpAny (model X.prog X.w) X.A (spliced (backTo pos (starEach es X.env))) (AP X pins σ Q) X.xe s
noncomputable def PS (X:Cx) (st:Stmt) (t:TS):Prop :=
 ∀ (pins:List (Addr×Obj)) (s:Shared) (σ:St) (H:Hp) (D:uR),Inv X pins σ H s→t D σ H→wpAny (model X.prog X.w) X.A (exec st X.env) (SP X pins D) X.xe s
noncomputable def PSs (X:Cx) (st:List Stmt) (t:TS):Prop :=
 ∀ (pins:List (Addr×Obj)) (s:Shared) (σ:St) (H:Hp) (D:uR),Inv X pins σ H s→t D σ H→wpAny (model X.prog X.w) X.A (execs st X.env) (SP X pins D) X.xe s
theorem thn {α:Type} {t:Sem α} {Q Q':α→Shared→Prop} {M:Model} {A:Around} {E:Value→Shared→Prop} {s:Shared} (h:wpAny M A t Q E s) (hQ:∀ a s,Q a s→Q' a s):wpAny M A t Q' E s:=wpAny_mono h hQ fun _ _ x=>x
section
variable {X:Cx}
theorem bin {a b:Expr} {ta tb:TE} (ha:PE X a ta) (hb:PE X b tb) {pins:List (Addr×Obj)} {s:Shared} {σ:St} {H:Hp} {R:V→V→Hp→Prop} (I:Inv X pins σ H s) (h:ta σ H fun x H1=>tb σ H1 fun y H2=>R x y H2)
   {α:Type} {Q:α→Shared→Prop} {f:Value→Value→Sem α}
   (hf:∀ v u s2 x y H2,Inv X pins σ H2 s2→aQ x v→aQ y u→R x y H2→wpAny (model X.prog X.w) X.A (f v u) Q X.xe s2) :
   wpAny (model X.prog X.w) X.A (eval a X.env) (fun v s₁=>wpAny (model X.prog X.w) X.A (eval b X.env) (fun u s₂=>wpAny (model X.prog X.w) X.A (f v u) Q X.xe s₂) X.xe s₁) X.xe s:=by
 refine thn (ha pins s σ H _ I h) fun v s1 zz=>?_;obtain ⟨x,H1,I1,r1,q1⟩:=zz;refine thn (hb pins s1 σ H1 _ I1 q1) fun u s2 zz=>?_;obtain ⟨y,H2,I2,r2,q2⟩:=zz;exact hf v u s2 x y H2 I2 r1 r2 q2
def aGt (i:Nat):TE:=fun σ H Q=>∃ v,σ[i]? =some (some v)∧Q v H
def tC (v:V):TE:=fun _ H Q=>Q v H
theorem UU {i:Nat} {x:Str} {pos:Pos} (hN:X.N[i]? =some x) (hv:Vis X.env.scope x) (hd:(x == ("__debug__":Str))=false:=by decide) (hcd:(x == ("__classdict__":Str))=false:=by decide):PE X (.Name x pos) (aGt i):=by
 intro pins s σ H Q I h;obtain ⟨v,e,h⟩:=h;obtain ⟨m,hn,hl⟩:=I.loc;obtain ⟨u,r,l⟩:=hl i x v hN e hv;have fin:EP X pins σ Q u s:=⟨v,H,I,r,h⟩;rcases l with ⟨hk,hm⟩ | ⟨hk,c,hc,hcell⟩
 · exact wpAny_Name (wpAny_loadName_local I.ok.kind hk hn hm fin) hd
 · rcases hk with hk | hk
   · exact wpAny_Name (wpAny_loadName_cell I.ok.kind hk hc hcell fin) hd
   · exact wpAny_Name (wpAny_loadName_free I.ok.kind hk hc hcell fin hcd) hd
theorem RS {i j pos}:PE X (.Constant (.int i) j pos) (tC (.int i)):=fun _ _ _ H _ I h=>wpAny_Constant_int ⟨.int i,H,I.tok _,⟨_,rfl⟩,h⟩
theorem aIA {b j pos}:PE X (.Constant (.bool b) j pos) (tC (.bl b)):=fun _ _ _ H _ I h=>Constant_bool ⟨.bl b,H,I,rfl,h⟩
theorem aC2 {j pos}:PE X (.Constant .none j pos) (tC .non):=fun _ _ _ H _ I h=>Constant_none ⟨.non,H,I,rfl,h⟩
theorem aBW {x j pos}:PE X (.Constant (.str x) j pos) (tC (.str x)):=fun _ _ _ H _ I h=>Calls.Constant_str ⟨.str x,H,I.tok _,⟨_,rfl⟩,h⟩
def Gl (X:Cx) (x:Str):Prop:=X.env.kindOf x=some .globalImplicit
theorem eV {E:Value→Shared→Prop} {pins:List (Addr×Obj)} {s:Shared} {σ:St} {H:Hp} {x:Str} {u:Value} {pos:Pos} {Q:Value→Shared→Prop} (I:Inv X pins σ H s) (hg:Gl X x) (hm:X.mg x=some u) (h:Q u s)
   (hd:(x == ("__debug__":Str))=false:=by decide):wpAny (model X.prog X.w) X.A (eval (.Name x pos) X.env) Q E s :=
 Calls.Name_function_global I.ok.kind hg (Calls.loadGlobal_global (by rw [I.ok.glob]; exact I.mod.glob.keeps I.bk) hm h) hd
theorem nW {E:Value→Shared→Prop} {pins:List (Addr×Obj)} {s:Shared} {σ:St} {H:Hp} {x:Str} {u:Value} {pos:Pos} {Q:Value→Shared→Prop} (I:Inv X pins σ H s) (hg:Gl X x) (hm:X.mg x=none) (hv:bootBuiltins x=some u) (h:Q u s)
   (hn:x≠"__name__":=by decide) (hd:(x == ("__debug__":Str))=false:=by decide):wpAny (model X.prog X.w) X.A (eval (.Name x pos) X.env) Q E s:=by
 obtain ⟨mb,h1,h2⟩:=I.mod.blt;exact Calls.Name_function_global I.ok.kind hg (Calls.loadGlobal_builtin (by rw [I.ok.glob]; exact I.mod.glob.keeps I.bk) hm (by rw [I.ok.blt]; exact h1.keeps I.bk) ((h2 x hn).trans hv) h) hd
theorem aAc {x:Str} {v:V} {u:Value} {pos:Pos} (hg:Gl X x) (hm:X.mg x=some u) (r:aQ v u) (hd:(x == ("__debug__":Str))=false:=by decide):PE X (.Name x pos) (tC v) :=
 fun _ _ _ H _ I h=>eV I hg hm ⟨v,H,I,r,h⟩ hd
theorem aAh {x:Str} {v:V} {u:Value} {pos:Pos} (hg:Gl X x) (hm:X.mg x=none) (hv:bootBuiltins x=some u) (r:aQ v u) (hn:x≠"__name__":=by decide) (hd:(x == ("__debug__":Str))=false:=by decide):PE X (.Name x pos) (tC v) :=
 fun _ _ _ H _ I h=>nW I hg hm hv ⟨v,H,I,r,h⟩ hn hd
variable {a b:Expr} {ta tb:TE} {pos:Pos}
variable {tA tB':TT} {aV:List Expr}
def aGd (t u:TT):TT:=fun σ H Q=>t σ H fun c H1=>if c=true then u σ H1 Q else Q false H1
def tOr (t u:TT):TT:=fun σ H Q=>t σ H fun c H1=>if c=true then Q true H1 else u σ H1 Q
def aKb (t:TT):TT:=fun σ H Q=>t σ H fun c H1=>Q (!c) H1
theorem ZX (ha:PT X a tA):PW X (.BoolOp .And [a] pos) tA:=by
 intro wh pins s σ H Q I h;refine isTrue_and (thn (ha pins s σ H Q I h) fun c s1 e=>?_);cases c with
 | true=>exact isTrue_and_nil e
 | false=>exact e
theorem aBR (ha:PT X a tA):PW X (.BoolOp .Or [a] pos) tA:=by
 intro wh pins s σ H Q I h;refine isTrue_or (thn (ha pins s σ H Q I h) fun c s1 e=>?_);cases c with
 | false=>exact isTrue_or_nil e
 | true=>exact e
theorem aDg (ha:PT X a tA) (hb:PW X (.BoolOp .And (b :: aV) pos) tB'):PW X (.BoolOp .And (a :: b :: aV) pos) (aGd tA tB'):=by
 intro wh pins s σ H Q I h;refine isTrue_and (thn (ha pins s σ H _ I h) fun c s1 zz=>?_);obtain ⟨H1,I1,q1⟩:=zz;cases c with
 | true=>exact hb wh pins s1 σ H1 Q I1 q1
 | false=>exact ⟨H1,I1,q1⟩
theorem aGp (ha:PT X a tA) (hb:PW X (.BoolOp .Or (b :: aV) pos) tB'):PW X (.BoolOp .Or (a :: b :: aV) pos) (tOr tA tB'):=by
 intro wh pins s σ H Q I h;refine isTrue_or (thn (ha pins s σ H _ I h) fun c s1 zz=>?_);obtain ⟨H1,I1,q1⟩:=zz;cases c with
 | true=>exact ⟨H1,I1,q1⟩
 | false=>exact hb wh pins s1 σ H1 Q I1 q1
theorem aEs (ha:PT X a tA):PT X (.UnaryOp .Not a pos) (aKb tA):=by
 intro pins s σ H Q I h;exact isTrue_not (ha pins s σ H (fun c H1=>Q (!c) H1) I h)
theorem aDB {op} {t:TE} (h:PE X a t):PE X (.BoolOp op [a] pos) t:=fun pins s σ H Q I hw=>BoolOp_one (h pins s σ H Q I hw)
end
noncomputable def SqL (K:W.Frag) (H:Hp) (a:Addr) (xs:List V):Prop :=
 Rd H a (.lst xs)∨
   ∃ (o:Obj) (its:Array Value) (n:Nat),K.lookup a=some o∧o.cls= .type "list"∧o.dict=none∧o.data= .seq its n∧its.size≤sizeLine∧aO xs its.toList
noncomputable def SqT (K:W.Frag) (H:Hp) (a:Addr) (xs:List V):Prop :=
 Rd H a (.tup xs)∨
   ∃ (o:Obj) (its:Array Value) (n:Nat),K.lookup a=some o∧o.cls= .type "tuple"∧o.data= .seq its n∧its.size≤sizeLine∧aO xs its.toList∧o.dict=none
noncomputable def aJj:Value→Option V
 | .none=>some .non
 | .bool b=>some (.bl b)
 | .int i _=>some (.int i)
 | .str x _=>some (.str x)
 | .bytes b _=>some (.byt b)
 | .float b _=>some (.flt b)
 | .ref a=>some (.ref a)
 | .type n=>some (.ty n)
 | _=>none
theorem aQ.abs {x:V} {u:Value} (r:aQ x u):aJj u=some x:=by
 cases x with
 | non=>cases r; rfl
 | bl _=>cases r; rfl
 | int _=>obtain ⟨t,rfl⟩:=r; rfl
 | str _=>obtain ⟨t,rfl⟩:=r; rfl
 | byt _=>obtain ⟨t,rfl⟩:=r; rfl
 | flt _=>obtain ⟨t,rfl⟩:=r; rfl
 | ref _=>cases r; rfl
 | ty _=>cases r; rfl
theorem aQ.inj {x y:V} {u:Value} (r:aQ x u) (q:aQ y u):x=y:=Option.some.inj (r.abs.symm.trans q.abs)
theorem aO.inj:∀ {xs ys:List V} {us:List Value},aO xs us→aO ys us→xs=ys
 | _,_,_,.nil,.nil=>rfl
 | _,_,_,.cons r t,.cons r' t'=>by rw [r.inj r',aO.inj t t']
section
variable {X:Cx} {pins:List (Addr×Obj)} {σ:St} {H:Hp} {s:Shared} {a:Addr} {xs ys:List V}
theorem SqL.of {K:W.Frag} (h:H a=some (.lst xs)):SqL K H a xs:=.inl (.inl h)
theorem SqT.of {K:W.Frag} (h:H a=some (.tup xs)):SqT K H a xs:=.inl (.inl h)
theorem Inv.list (I:Inv X pins σ H s) (h:SqL X.K H a xs):∃ its:List Value,aO xs its∧PlainL s.heap a its.toArray∧xs.length≤sizeLine:=by
 rcases h with h | ⟨o,its,n,hk,hc,hd,hs,hz,r⟩
 · obtain ⟨z,its,n,r,e⟩:=h.ok I.hok;exact ⟨its,r,⟨_,n,e,rfl,rfl,rfl⟩,z⟩
 · refine ⟨its.toList,r,⟨o,n,I.kIn a o hk,hc,hd,by simpa using hs⟩, ?_⟩;have e:=r.length;simp only [Array.length_toList] at e;omega
theorem Inv.tuple (I:Inv X pins σ H s) (h:SqT X.K H a xs):∃ its:List Value,aO xs its∧IsTup s.heap a its.toArray∧xs.length≤sizeLine:=by
 rcases h with h | ⟨o,its,n,hk,hc,hs,hz,r,_⟩
 · obtain ⟨z,its,r,p⟩:=h.ok I.hok;exact ⟨its,r,p.1,z⟩
 · refine ⟨its.toList,r,⟨o,I.kIn a o hk,hc,n,by simpa using hs⟩, ?_⟩;have e:=r.length;simp only [Array.length_toList] at e;omega
theorem Inv.list_inj (I:Inv X pins σ H s) (h:SqL X.K H a xs) (h':SqL X.K H a ys):xs=ys:=by
 obtain ⟨its,r,⟨o,n,e,_,_,d⟩,_⟩:=I.list h;obtain ⟨its',r',⟨o',n',e',_,_,d'⟩,_⟩:=I.list h';rw [e] at e'; cases e';rw [d] at d';injection d' with d1 _;have:its=its':=by simpa using congrArg Array.toList d1
 subst this;exact r.inj r'
theorem Inv.tuple_inj (I:Inv X pins σ H s) (h:SqT X.K H a xs) (h':SqT X.K H a ys):xs=ys:=by
 obtain ⟨its,r,⟨o,e,_,n,d⟩,_⟩:=I.tuple h;obtain ⟨its',r',⟨o',e',_,n',d'⟩,_⟩:=I.tuple h';rw [e] at e'; cases e';rw [d] at d';injection d' with d1 _;have:its=its':=by simpa using congrArg Array.toList d1
 subst this;exact r.inj r'
end
noncomputable abbrev Cx.wish (X:Cx) (E:Value→Shared→Prop):Cx:={ X with xe:=E }
noncomputable abbrev Cx.nox (X:Cx):Cx:=X.wish fun _ _=>False
theorem Cx.Ok.wish {X:Cx} (ok:X.Ok) (E:Value→Shared→Prop):(X.wish E).Ok :=
 ⟨ok.mod,ok.kind,ok.glob,ok.blt,ok.above,ok.inj,ok.has,ok.cab,ok.hd,ok.frames,ok.stk,ok.exf,ok.bs,ok.bsz,ok.noex,ok.exfs,ok.funs,ok.frf⟩
theorem Cx.Ok.unwish {X:Cx} {E:Value→Shared→Prop} (ok:(X.wish E).Ok):X.Ok :=
 ⟨ok.mod,ok.kind,ok.glob,ok.blt,ok.above,ok.inj,ok.has,ok.cab,ok.hd,ok.frames,ok.stk,ok.exf,ok.bs,ok.bsz,ok.noex,ok.exfs,ok.funs,ok.frf⟩
section
variable {X:Cx} {pins:List (Addr×Obj)} {σ:St} {H:Hp} {s:Shared} {E:Value→Shared→Prop}
theorem Inv.wish (I:Inv X pins σ H s) (E:Value→Shared→Prop):Inv (X.wish E) pins σ H s:=⟨I.ok.wish E,I.os,I.bare,I.base,I.loc,I.cell,I.free,I.freeC,I.pin,I.hok,I.len⟩
theorem Inv.unwish (I:Inv (X.wish E) pins σ H s):Inv X pins σ H s:=⟨I.ok.unwish,I.os,I.bare,I.base,I.loc,I.cell,I.free,I.freeC,I.pin,I.hok,I.len⟩
theorem SP.unwish {D:uR} {f:Flow} {s':Shared} (h:SP (X.wish E) pins D f s'):SP X pins D f s':=by
 cases f with
 | next=>obtain ⟨σ',H',I,q⟩:=h; exact ⟨σ',H',I.unwish,q⟩
 | brk=>obtain ⟨σ',H',I,q⟩:=h; exact ⟨σ',H',I.unwish,q⟩
 | cont=>obtain ⟨σ',H',I,q⟩:=h; exact ⟨σ',H',I.unwish,q⟩
 | ret u=>obtain ⟨v,σ',H',I,r,q⟩:=h; exact ⟨v,σ',H',I.unwish,r,q⟩
theorem PSs.nox {st:List Stmt} {t:TS} (h:PSs X.nox st t):PSs X st t:=fun pins s σ H D I hw =>
 wpAny_mono (h pins s σ H D (I.wish _) hw) (fun _ _ q=>q.unwish) fun _ _ z=>False.elim z
end
section
variable {X:Cx} {st:Stmt} {aV:List Stmt} {t u:TS} {e:Expr} {te:TE} {pos:Pos}
def WC:TS:=fun D σ H=>D.nx σ H
def aJF (t u:TS):TS:=fun D σ H=>t { D with nx:=u D } σ H
theorem aA2:PSs X [] WC:=fun _ _ σ H _ I h=>wpAny_execs_nil ⟨σ,H,I,h⟩
theorem QZ (h1:PS X st t) (h2:PSs X aV u):PSs X (st :: aV) (aJF t u):=by
 intro pins s σ H D I h;refine wpAny_execs_cons (thn (h1 pins s σ H { D with nx:=u D } I h) fun f s1 q=>?_);cases f with
 | next =>
   obtain ⟨σ',H',I',q⟩:=q;exact h2 pins s1 σ' H' D I' q
 | ret v=>exact q
 | brk=>exact q
 | cont=>exact q
theorem ZF (h1:PS X st t):PSs X [st] t:=by
 intro pins s σ H D I h;refine wpAny_execs_cons (thn (h1 pins s σ H D I h) fun f s1 q=>?_);cases f with
 | next=>exact wpAny_execs_nil q
 | ret v=>exact q
 | brk=>exact q
 | cont=>exact q
theorem aAB:PS X (.Pass pos) WC:=fun _ _ σ H _ I h=>wpAny_Pass ⟨σ,H,I,h⟩
theorem Inv.quiet {pins:List (Addr×Obj)} {σ:St} {H:Hp} {s:Shared} (I:Inv X pins σ H s):interactive X.env=false:=by simp [interactive,I.ok.kind]
theorem aD5 {x j pos pos'}:PS X (.Expr (.Constant (.str x) j pos) pos') WC:=fun _ s σ H _ I h=>wpAny_Expr (Calls.Constant_str (show SP X _ _ .next { s with toks:=s.toks + 1 } from ⟨σ,H,I.tok _,h⟩)) I.quiet
def aHO (te:TE):TS:=fun D σ H=>te σ H fun _ H1=>D.nx σ H1
theorem aAV (he:PE X e te) (hs:swapsWith e none pos.line X.env=pure false:=by rfl):PS X (.Expr e pos) (aHO te):=by
 intro pins s σ H D I h;exact wpAny_Expr_any (thn (he pins s σ H _ I h) <|by rintro v s1 ⟨x,H1,I1,r1,q1⟩;exact ⟨σ,H1,I1,q1⟩) I.quiet hs
def aJz (te:TE):TS:=fun D σ H=>te σ H D.rt
theorem aEq (he:PE X e te):PS X (.Return (some e) pos) (aJz te):=by
 intro pins s σ H D I h;exact wpAny_Return_some (thn (he pins s σ H _ I h) <|by rintro v s1 ⟨x,H1,I1,r1,q1⟩;exact ⟨x,σ,H1,I1,r1,q1⟩)
def aFo:TS:=fun D _ H=>D.rt .non H
theorem ZA:PS X (.Return none pos) aFo:=fun _ _ σ H _ I h=>wpAny_Return_none ⟨.non,σ,H,I,rfl,h⟩
def aKh (c:TT) (t u:TS):TS:=fun D σ H=>c σ H fun b H1=>if b=true then t D σ H1 else u D σ H1
theorem aHb {c:Expr} {a b:List Stmt} {tc:TT} (hc:PT X c tc) (ha:PSs X a t) (hb:PSs X b u):PS X (.If c a b pos) (aKh tc t u):=by
 intro pins s σ H D I h;refine wpAny_If (thn (hc pins s σ H _ I h) fun d s1 zz=>?_);obtain ⟨H1,I1,q1⟩:=zz;cases d with
 | true=>exact ha pins s1 σ H1 D I1 q1
 | false=>exact hb pins s1 σ H1 D I1 q1
def ON:TS:=fun _ _ _=>False
theorem OF:PS X st ON:=fun _ _ _ _ _ _ h=>h.elim
theorem NH {sts:List Stmt}:PSs X sts ON:=fun _ _ _ _ _ _ h=>h.elim
end
noncomputable abbrev TG:=V→St→Hp→(St→Hp→Prop)→Prop
noncomputable abbrev TGs:=List V→St→Hp→(St→Hp→Prop)→Prop
noncomputable def PG (X:Cx) (target:Expr) (t:TG):Prop :=
 ∀ (pins:List (Addr×Obj)) (s:Shared) (σ:St) (H:Hp) (v:V) (u:Value) (Q:St→Hp→Prop),Inv X pins σ H s→aQ v u→t v σ H Q→
   wpAny (model X.prog X.w) X.A (assign target X.env u) (fun _ s'=>∃ σ' H',Inv X pins σ' H' s'∧Q σ' H') X.xe s
noncomputable def PGs (X:Cx) (ts:List Expr) (t:TGs):Prop :=
 ∀ (pins:List (Addr×Obj)) (s:Shared) (σ:St) (H:Hp) (vs:List V) (us:List Value) (Q:St→Hp→Prop),Inv X pins σ H s→aO vs us→t vs σ H Q→
   wpAny (model X.prog X.w) X.A (assignInOrder ((assignEach ts X.env).map (·.2)) us) (fun _ s'=>∃ σ' H',Inv X pins σ' H' s'∧Q σ' H') X.xe s
noncomputable abbrev aAT:=V→V→V→Hp→(Hp→Prop)→Prop
noncomputable def aBV (X:Cx) (t:aAT):Prop :=
 ∀ (pins:List (Addr×Obj)) (s:Shared) (σ:St) (H:Hp) (o i v:V) (ov iv u:Value) (Q:Hp→Prop),Inv X pins σ H s→aQ o ov→aQ i iv→aQ v u→t o i v H Q→
   wpAny (model X.prog X.w) X.A (setItem ov iv u) (fun _ s'=>∃ H',Inv X pins σ H' s'∧Q H') X.xe s
section
variable {X:Cx} {pos:Pos}
def OE (i:Nat):TG:=fun v σ H Q=>Q (σ.set i (some v)) H
theorem IP {i:Nat} {x:Str} (hN:X.N.Nodup) (hi:X.N[i]? =some x) (hx:Loc X.env.scope x) (hf:X.fn x=true∨X.env.scope.names.lookup x=some .local:=by first | exact .inl rfl | exact .inr rfl | assumption):PG X (.Name x pos) (OE i):=by
 intro pins s σ H v u Q I r h;exact wpAny_assign_Name (eX I hN hi hx r (fun s' I'=>⟨_,H,I',h⟩) hf)
noncomputable def aJg:TGs:=fun vs σ H Q=>vs=[]∧Q σ H
noncomputable def aH9 (t:TG) (u:TGs):TGs:=fun vs σ H Q=>∃ v r,vs=v :: r∧t v σ H fun σ' H'=>u r σ' H' Q
theorem YC:PGs X [] aJg:=by
 intro pins s σ H vs us Q I r h;obtain ⟨e,h⟩:=h;subst e;cases r;exact assignInOrder_nil ⟨σ,H,I,h⟩
theorem OR {e:Expr} {es:List Expr} {t:TG} {u:TGs} (h1:PG X e t) (h2:PGs X es u)
   (hs:(assignEach (e :: es) X.env).map (·.2)=assign e X.env :: (assignEach es X.env).map (·.2):=by rfl):PGs X (e :: es) (aH9 t u):=by
 intro pins s σ H vs us Q I r h;obtain ⟨v,vr,e1,h⟩:=h;subst e1;cases r with
 | cons r rr =>
   rw [hs];refine assignInOrder_cons (thn (h1 pins s σ H _ _ _ I r h) fun _ s1 zz=>?_);obtain ⟨σ1,H1,I1,q1⟩:=zz;exact h2 pins s1 σ1 H1 _ _ Q I1 rr q1
def aJm (K:W.Frag) (n:Nat) (t:TGs):TG:=fun v σ H Q=>∃ a xs,v= .ref a∧SqT K H a xs∧xs.length=n∧t xs σ H Q
theorem aDv {es:List Expr} {k:Nat} {t:TGs} {n:Nat} (hc:X.calm=true) (h:PGs X es t)
   (hn:(assignEach es X.env).length=n:=by rfl) (hst:(assignEach es X.env).findIdx? (·.1)=none:=by rfl):PG X (.Tuple es k pos) (aJm X.K n t):=by
 intro pins s σ H v u Q I r hw;obtain ⟨a,xs,e1,hq,hl,hw⟩:=hw;subst e1;cases r;obtain ⟨its,rv,ht,hz⟩:=I.tuple hq;refine assign_Tuple_tuple (I.ok.hd hc) ht (by simp [hn,←hl,rv.length]) hst fun h' hx=>?_;have I1:Inv X pins σ H { s with heap:=h' }:=I.kept (t':=s.toks) fun b o e=>hx b o (Nat.ne_of_lt (Heap.lt_size e)) e;exact h pins _ σ H xs _ Q I1 (by simpa using rv) hw
def aJf (to ti:TE) (t:aAT):TG:=fun v σ H Q=>to σ H fun o H1=>ti σ H1 fun i H2=>t o i v H2 fun H3=>Q σ H3
theorem aDc {o i:Expr} {to ti:TE} {t:aAT} (ho:PE X o to) (hi:PE X i ti) (hs:aBV X t)
   (ha:∀ v,assign (.Subscript o i pos) X.env v=(do
     let ov ←holding [v] (eval o X.env)
     let iv ←holding [v,ov] (eval i X.env)
     standAt pos
     holding [v,ov,iv] (setItem ov iv v)
     release [v,ov,iv] []):=by intro _; rfl):PG X (.Subscript o i pos) (aJf to ti t):=by
 intro pins s σ H v u Q I r h;rw [ha];refine wAq (wpAny_holding (thn (ho pins s σ H _ I h) fun ov s1 zz=>?_));obtain ⟨x,H1,I1,r1,q1⟩:=zz;refine wAq (wpAny_holding (thn (hi pins s1 σ H1 _ I1 q1) fun iv s2 zz=>?_));obtain ⟨y,H2,I2,r2,q2⟩:=zz;refine wAq (wpAny_standAt (wAq (wpAny_holding (thn (hs pins s2 σ H2 x y v ov iv u _ I2 r1 r2 r q2) fun _ s3 zz=>?_))));obtain ⟨H3,I3,q3⟩:=zz;exact wpAny_release ⟨σ,H3,I3,q3⟩
def aDF (te:TE) (g:TG):TS:=fun D σ H=>te σ H fun x H1=>g x σ H1 D.nx
theorem PC {tg e:Expr} {te:TE} {g:TG} (he:PE X e te) (hg:PG X tg g) (hs:swapsWithSole [tg] e pos.line X.env=pure false:=by rfl) (hw:swappedStores [tg] e X.env=pure none:=by rfl)
   (h1:(assignEach [tg] X.env).map (·.2)=[assign tg X.env]:=by rfl):PS X (.Assign [tg] e pos) (aDF te g):=by
 intro pins s σ H D I h;refine wpAny_Assign_stores (thn (he pins s σ H _ I h) fun v s1 zz=>?_) hs hw;obtain ⟨x,H1,I1,r1,q1⟩:=zz;rw [h1];exact thn (hg pins s1 σ H1 x v _ I1 r1 q1) fun _ s2 q=>q
def aKd (i j:Nat) (ta:TA):TS:=fun D σ H=>ta σ H fun vs H1=>∃ v w,vs=[v,w]∧D.nx ((σ.set i (some v)).set j (some w)) H1
theorem aC0 {i j:Nat} {x y:Str} {a b:Expr} {ta:TA} {px py pt:Pos} {kt k2 pt2} (hc:X.calm=true) (hN:X.N.Nodup) (hi:X.N[i]? =some x) (hj:X.N[j]? =some y) (hij:i≠j)
   (hx:X.env.scope.names.lookup x=some .local) (hy:X.env.scope.names.lookup y=some .local) (ha:PA X [a,b] ta)
   (hw:swappedStores [.Tuple [.Name x px,.Name y py] kt pt] (.Tuple [a,b] k2 pt2) X.env=pure (some [x,y]))
   (hs:swapsWithSole [.Tuple [.Name x px,.Name y py] kt pt] (.Tuple [a,b] k2 pt2) pos.line X.env=pure false:=by rfl) :
   PS X (.Assign [.Tuple [.Name x px,.Name y py] kt pt] (.Tuple [a,b] k2 pt2) pos) (aKd i j ta):=by
 intro pins s σ H D I h;rw [exec_Assign_arm];refine wAq (wpAny_standAt ?_);rw [hs];refine wAq (wBq ?_);rw [if_neg (by decide)];refine wAq (Tuple_ (thn (ha _ pins s σ H _ I h) fun us s1 zz=>?_));obtain ⟨vs,H1,I1,r1,q1⟩:=zz;obtain ⟨v,w,e1,q1⟩:=q1;subst e1;obtain ⟨u1,u2,rfl,rv,rw'⟩:∃ u1 u2,us=[u1,u2]∧aQ v u1∧aQ w u2:=by
   cases r1 with
   | cons p q =>
     cases q with
     | cons p' q' =>
       cases q';exact ⟨_,_,rfl,p,p'⟩
 refine wpAny_newObj_type ?_ (by show 2≤sizeLine; decide);have I2:Inv X pins σ H1 { s1 with heap:=s1.heap.push { cls:=.type "tuple",data:=.seq [u1,u2].toArray } }:=I1.kept (t':=s1.toks) fun b o e=>wEq _ e;rw [hw];refine wAq (wBq ?_);show wpAny (model X.prog X.w) X.A (do rule "assign.swapped-stores"; let items ←unpackItems (.ref s1.heap.objs.size) 2 none; assignInOrder [fun v=>bindName X.env y v,fun v=>bindName X.env x v] items.reverse; pure Flow.next) _ _ _;refine wAq (wpAny_rule (wAq (unpackItems_tuple (items:= #[u1,u2]) (I.ok.hd hc) (IsTup.new s1.heap _) fun h' hx'=>?_)));have I3:=I2.kept (h':=h') (t':=s1.toks) fun b o e=>hx' b o (Nat.ne_of_lt (Heap.lt_size e)) e;show wpAny _ _ (assignInOrder [fun v=>bindName X.env y v,fun v=>bindName X.env x v] [u2,u1] >>= fun _=>pure Flow.next) _ _ _;refine wAq (assignInOrder_cons (wpAny_bindName (eX I3 hN hj (.inl hy) rw' (fun s2 I4=>?_) (.inr hy))));refine assignInOrder_cons (wpAny_bindName (eX I4 hN hi (.inl hx) rv (fun s3 I5=>assignInOrder_nil (wBq ?_)) (.inr hx)));rw [List.set_comm _ _ (Ne.symm hij)] at I5;exact ⟨_,H1,I5,q1⟩
end
section
variable {X:Cx} {pos:Pos}
def aEB (c:TT) (tb:TS):TS:=fun D σ H=>∃ W:Nat→St→Hp→Prop,(∃ m,W m σ H)∧∀ m σ H,W m σ H→
 c σ H fun b H1=>if b=true then ∃ N:St→Hp→Prop,(∀ σ' H',N σ' H'→∃ m',m' < m∧W m' σ' H')∧tb { D with nx:=N,ct:=N,bk:=D.nx } σ H1 else D.nx σ H1
theorem OG {c:Expr} {body:List Stmt} {tc:TT} {tb:TS} (hp:PassesOwn (model X.prog X.w) X.A X.env X.xe) (hc:PT X c tc) (hb:PSs X body tb):PS X (.While c body [] pos) (aEB tc tb):=by
 intro pins s σ H D I h;obtain ⟨W,⟨m0,w0⟩,turn⟩:=h;refine wpAny_While (codeAny_whileLoop (fun n s'=>∃ σ' H',Inv X pins σ' H' s'∧W n σ' H') ?_ m0 ⟨σ,H,I,w0⟩);rintro n s1 ⟨σ1,H1,I1,w1⟩;refine wpAny_passesOwn hp (thn (hc pins s1 σ1 H1 _ I1 (turn n σ1 H1 w1)) fun b s2 zz=>?_);obtain ⟨H2,I2,q2⟩:=zz;cases b with
 | true =>
   obtain ⟨N,hN,q2⟩:=q2;rw [if_pos rfl];refine wpAny_passesOwn hp (thn (hb pins s2 σ1 H2 _ I2 q2) fun f s3 q3=>?_);cases f with
   | next =>
     obtain ⟨σ3,H3,I3,n3⟩:=q3;obtain ⟨m',hm,w3⟩:=hN σ3 H3 n3;exact ⟨m',hm,σ3,H3,I3,w3⟩
   | cont =>
     obtain ⟨σ3,H3,I3,n3⟩:=q3;obtain ⟨m',hm,w3⟩:=hN σ3 H3 n3;exact ⟨m',hm,σ3,H3,I3,w3⟩
   | brk=>exact q3
   | ret v=>exact q3
 | false =>
   rw [if_neg Bool.false_ne_true];exact wpAny_execs_nil ⟨σ1,H2,I2,q2⟩
end
structure It where
 go:Nat→Hp→Prop
 yld:Nat→Hp→V→Hp→Prop
 stop:Nat→Hp→Prop
noncomputable def vN (X:Cx) (pins:List (Addr×Obj)) (H:Hp) (b:Addr):Prop :=
 H b=none∧b≠X.env.locals∧b∉ X.fs∧(b∈X.ex∨X.s₀.heap.objs.size≤b)∧(∀ x c,X.env.cells.lookup x=some c→c≠b)∧∀ p∈X.pn ++ pins,p.1≠b
theorem Inv.fpOk {X:Cx} {pins:List (Addr×Obj)} {σ:St} {H H':Hp} {s:Shared} {b:Addr} (I:Inv X pins σ H s) (hb:s.heap.objs.size≤b) (hn:H' b=none):vN X pins H' b:=by
 refine ⟨hn,Nat.ne_of_gt (wFq I.lt hb),I.nofs hb,.inr (Nat.le_trans I.sz hb),fun x c e z=>?_,fun p hp z=>?_⟩
 · obtain ⟨v,q⟩:=I.cell x c e;exact absurd (wFq q.lt (by rw [z]; exact hb)) (Nat.lt_irrefl _)
 · exact absurd (wFq (Heap.lt_size (I.pin p hp).1) (by rw [z]; exact hb)) (Nat.lt_irrefl _)
structure KP (P:Program) (w:World) (K:W.Frag) (tg:Expr) (J:It) (fp:List Addr) (it:Addr) (tn:Nat→Heap→Prop):Prop where
 mem:it∈fp
 obj:∀ i h,tn i h→∀ b∈fp,∃ o,h.get? b=some o∧∀ v,o.data≠.cell v
 keep:∀ i h h',tn i h→(∀ b∈fp,∀ o,h.get? b=some o→h'.get? b=some o)→tn i h'
 item :∀ (X:Cx),X.prog=P→X.w=w→X.K=K→X.calm=true→∀ (i:Nat) (pins:List (Addr×Obj)) (s:Shared) (σ:St) (H:Hp) (E:Value→Shared→Prop),Inv X pins σ H s→(∀ b∈fp,vN X pins H b)→tn i s.heap→J.go i H→
   wpAny (model P w) X.A (pyNext (.ref it)) (fun r s1=>∃ u,r=some u∧
     wpAny (model P w) X.A (letOwnedTupleGo tg (.ref it) u) (fun _ s2=>∃ x H',Inv X pins σ H' s2∧aQ x u∧J.yld i H x H'∧tn (i + 1) s2.heap∧∀ b∈fp,H' b=none) E s1) E s
 done:∀ (X:Cx),X.prog=P→X.w=w→X.K=K→X.calm=true→∀ (i:Nat) (pins:List (Addr×Obj)) (s:Shared) (σ:St) (H:Hp) (E:Value→Shared→Prop),Inv X pins σ H s→(∀ b∈fp,vN X pins H b)→tn i s.heap→J.stop i H→
   wpAny (model P w) X.A (pyNext (.ref it)) (fun r s1=>r=none∧Inv X pins σ H s1) E s
 self:∀ (A:Around) (i:Nat) (s:Shared) (Q:Value→Shared→Prop) (E:Value→Shared→Prop),tn i s.heap→Q (.ref it) s→wpAny (model P w) A (pyIter (.ref it)) Q E s
noncomputable abbrev TI:=St→Hp→(It→Hp→Prop)→Prop
noncomputable def PIE (X:Cx) (pins:List (Addr×Obj)) (σ:St) (tg:Expr) (R:It→Hp→Prop) (itv:Value) (s2:Shared):Prop :=
 ∃ (it:Addr) (fp:List Addr) (tn:Nat→Heap→Prop) (J:It) (H':Hp),itv= .ref it∧Inv X pins σ H' s2∧KP X.prog X.w X.K tg J fp it tn∧tn 0 s2.heap∧(∀ b∈fp,vN X pins H' b)∧R J H'
noncomputable def PI (X:Cx) (tg iter:Expr) (wi:TI):Prop :=
 ∀ (pins:List (Addr×Obj)) (s:Shared) (σ:St) (H:Hp) (R:It→Hp→Prop),Inv X pins σ H s→wi σ H R→
   wpAny (model X.prog X.w) X.A (eval iter X.env) (fun v s1=>wpAny (model X.prog X.w) X.A (pyIter v) (PIE X pins σ tg R) X.xe s1) X.xe s
theorem UR {M:Model} {A:Around} {E:Value→Shared→Prop} {s:Shared} {tg:Expr} {it:Addr} {u:Value} {o:Obj} {n:String} {vs:Array Value} {Q:Unit→Shared→Prop} (ho:s.heap.get? it=some o) (hc:o.cls= .type n) (hd:o.data= .fields vs)
   (hn: ["enumerate","zip","dict_itemiterator","dict_reverseitemiterator","odict_iterator","itertools.zip_longest","itertools.pairwise"].contains n=false) (hQ:Q () s):wpAny M A (letOwnedTupleGo tg (.ref it) u) Q E s:=by
 unfold letOwnedTupleGo;cases tg <;> first
   | exact wBq hQ
   | (cases u <;> first
       | exact wBq hQ
       | (refine wAq (wpAny_load ho ?_)
          rw [hc,hd];show wpAny M A (if (["enumerate","zip","dict_itemiterator","dict_reverseitemiterator","odict_iterator","itertools.zip_longest","itertools.pairwise"].contains n && vs[0]? == some (rawInt _))=true then _ else _) Q E s;rw [if_neg (by intro h; rw [hn,Bool.false_and] at h; cases h)];exact wBq hQ))
noncomputable def Itl (K:W.Frag) (a:Addr):It :=
 ⟨fun i H=>∃ xs x,SqL K H a xs∧xs[i]? =some x,fun i H x H'=>H'=H∧∀ xs,SqL K H a xs→xs[i]? =some x,fun i H=>∃ xs,SqL K H a xs∧xs.length≤i⟩
noncomputable def Itt (K:W.Frag) (a:Addr):It :=
 ⟨fun i H=>∃ xs x,SqT K H a xs∧xs[i]? =some x,fun i H x H'=>H'=H∧∀ xs,SqT K H a xs→xs[i]? =some x,fun i H=>∃ xs,SqT K H a xs∧xs.length≤i⟩
noncomputable def Itr (lo:Int) (n:Nat):It:=⟨fun i _=>i < n,fun i H x H'=>H'=H∧x= .int (lo + i),fun i _=>n≤i⟩
theorem MO {P:Program} {w:World} {K:W.Frag} {tg:Expr} (a it:Addr):KP P w K tg (Itl K a) [it] it (fun i h=>h.IsListIter it a i) where
 mem:=by simp
 obj:=fun i h st b hb=>by
   have e:b=it:=by simpa using hb
   subst e;obtain ⟨o,e,c,d⟩:=st;exact ⟨o,e,fun v z=>by rw [d] at z; cases z⟩
 keep:=fun i h h' st k=>st.at fun o e=>k it (by simp) o e
 item:=by
   intro X hP hw hK hc i pins s σ H E I hf st hg;subst hP hw hK;obtain ⟨xs,x,hq,hx⟩:=hg;obtain ⟨its,rv,p,hz⟩:=I.list hq;obtain ⟨u,hu,ru⟩:=rv.get hx;obtain ⟨f0,f1,f2,f3,f4,f5⟩:=hf it (by simp);refine wpAny_pyNext_list_item st p.isList (x:=u) (by simpa using hu) fun h' st' sb=>?_;have I1:Inv X pins σ H { s with heap:=h' }:=I.turned (t':=s.toks) (fun b o hb e=>(sb.2 b hb).trans e) f0 f1 f3 f4 f5;obtain ⟨o,e,c,d⟩:=id st';exact ⟨u,rfl,UR (s:={ s with heap:=h' }) e c d (by decide) ⟨x,H,I1,ru,⟨rfl,fun ys hy=>by rw [I.list_inj hy hq]; exact hx⟩,st',fun b hb=>(hf b hb).1⟩⟩
 done:=by
   intro X hP hw hK hc i pins s σ H E I hf st hg;subst hP hw hK;obtain ⟨xs,hq,hx⟩:=hg;obtain ⟨its,rv,p,hz⟩:=I.list hq;obtain ⟨f0,f1,f2,f3,f4,f5⟩:=hf it (by simp);have hl:=rv.length;exact wpAny_pyNext_list_end (I.ok.hd hc) st p.isList (by simp; omega) fun h' eb=>⟨rfl,I.turned (t':=s.toks) (fun b o hb e=>eb b o hb e) f0 f1 f3 f4 f5⟩
 self:=fun _ _ _ _ _ st h=>wpAny_pyIter_listiter st h
theorem FI {P:Program} {w:World} {K:W.Frag} {tg:Expr} (a it:Addr):KP P w K tg (Itt K a) [it] it (fun i h=>h.IsTupleIter it a i) where
 mem:=by simp
 obj:=fun i h st b hb=>by
   have e:b=it:=by simpa using hb
   subst e;obtain ⟨o,e,c,d⟩:=st;exact ⟨o,e,fun v z=>by rw [d] at z; cases z⟩
 keep:=fun i h h' st k=>st.at fun o e=>k it (by simp) o e
 item:=by
   intro X hP hw hK hc i pins s σ H E I hf st hg;subst hP hw hK;obtain ⟨xs,x,hq,hx⟩:=hg;obtain ⟨its,rv,p,hz⟩:=I.tuple hq;obtain ⟨u,hu,ru⟩:=rv.get hx;obtain ⟨f0,f1,f2,f3,f4,f5⟩:=hf it (by simp);refine wpAny_pyNext_tuple_item st (show s.heap.IsTuple a its.toArray from p) (x:=u) (by simpa using hu) fun h' st' sb=>?_;have I1:Inv X pins σ H { s with heap:=h' }:=I.turned (t':=s.toks) (fun b o hb e=>(sb.2 b hb).trans e) f0 f1 f3 f4 f5;obtain ⟨o,e,c,d⟩:=id st';exact ⟨u,rfl,UR (s:={ s with heap:=h' }) e c d (by decide) ⟨x,H,I1,ru,⟨rfl,fun ys hy=>by rw [I.tuple_inj hy hq]; exact hx⟩,st',fun b hb=>(hf b hb).1⟩⟩
 done:=by
   intro X hP hw hK hc i pins s σ H E I hf st hg;subst hP hw hK;obtain ⟨xs,hq,hx⟩:=hg;obtain ⟨its,rv,p,hz⟩:=I.tuple hq;obtain ⟨f0,f1,f2,f3,f4,f5⟩:=hf it (by simp);have hl:=rv.length;exact wpAny_pyNext_tuple_end (I.ok.hd hc) st (show s.heap.IsTuple a its.toArray from p) (by simp; omega) fun h' eb=>⟨rfl,I.turned (t':=s.toks) (fun b o hb e=>eb b o hb e) f0 f1 f3 f4 f5⟩
 self:=fun _ _ _ _ _ st h=>wpAny_pyIter_tupleiter st h
theorem EW {P:Program} {w:World} {K:W.Frag} {tg:Expr} (it:Addr) (lo:Int) (n:Nat):KP P w K tg (Itr lo n) [it] it (fun i h=>IsRangeIter h it (lo + (i:Nat) * 1) ((n:Int) - (i:Nat)) 1) where
 mem:=by simp
 obj :=fun i h st b hb=>by
   have e:b=it:=by simpa using hb
   subst e;exact ⟨_,st,fun v z=>by
     have z':Data.fields _=Data.cell v:=z;cases z'⟩
 keep:=fun i h h' st k=>k it (by simp) _ st
 item:=by
   intro X hP hw hK hc i pins s σ H E I hf st hg;subst hP hw hK;obtain ⟨f0,f1,f2,f3,f4,f5⟩:=hf it (by simp);have W:=Walks.range (prog:=X.prog) (w:=X.w) (I.ok.hd hc) it lo 1 n;refine W.item i s _ _ hg st fun v h' tk hv st' kk=>?_;obtain ⟨t,rfl⟩:=hv;have I1:Inv X pins σ H { s with heap:=h',toks:=tk }:=I.turned (fun b o hb e=>kk b o (by simpa using hb) e) f0 f1 f3 f4 f5;refine ⟨_,rfl,UR (s:={ s with heap:=h',toks:=tk }) (n:="range_iterator") st' rfl rfl (by decide) ⟨.int (lo + i),H,I1,⟨t, ?_⟩,⟨rfl,rfl⟩,st',fun b hb=>(hf b hb).1⟩⟩;rw [Int.mul_one]
 done:=by
   intro X hP hw hK hc i pins s σ H E I hf st hg;subst hP hw hK;obtain ⟨f0,f1,f2,f3,f4,f5⟩:=hf it (by simp);exact wpAny_pyNext_range_end (I.ok.hd hc) st (by have:n≤i:=hg; omega) fun h' eb=>⟨rfl,I.turned (t':=s.toks) (fun b o hb e=>eb b o hb e) f0 f1 f3 f4 f5⟩
 self:=fun _ _ _ _ _ st h=>wpAny_pyIter_rangeiter st h
section
variable {X:Cx} {tg:Expr}
theorem zX {pins:List (Addr×Obj)} {σ:St} {H:Hp} {s:Shared} {R:It→Hp→Prop} {E:Value→Shared→Prop} {lo hi:Int} {t u v:Tok} {tk:Nat} (I:Inv X pins σ H s) (h1: -(2 ^ 62)≤lo) (h2:lo < 2 ^ 62) (h3: -(2 ^ 62)≤hi) (h4:hi < 2 ^ 62)
   (q:R (Itr lo (hi - lo).toNat) H):wpAny (model X.prog X.w) X.A (pyIter (.ref s.heap.objs.size)) (PIE X pins σ tg R) E { s with heap:=s.heap.push { cls:=.type "range",data:=.fields #[.int lo t,.int hi u,.int 1 v] },toks:=tk }:=by
 refine wpAny_pyIter_range (IsRange.new ..) (small_one h1 h2 h3 h4) ?_;have I1:Inv X pins σ H { s with heap:=s.heap.push { cls:=.type "range",data:=.fields #[.int lo t,.int hi u,.int 1 v] },toks:=tk }:=I.kept fun b o e=>wEq _ e;refine ⟨(s.heap.push { cls:=.type "range",data:=.fields #[.int lo t,.int hi u,.int 1 v] }).objs.size,[(s.heap.push { cls:=.type "range",data:=.fields #[.int lo t,.int hi u,.int 1 v] }).objs.size],_,_,H,rfl,
   I1.kept (t':=tk) fun b o e=>wEq _ e,EW _ lo (hi - lo).toNat, ?_,fun b hb=>?_,q⟩
 · have e1:lo + ((0:Nat):Int) * 1=lo:=by simp
   have e2:(((hi - lo).toNat:Nat):Int) - ((0:Nat):Int)=Builtin.Range.rangeSize lo hi 1:=by rw [rangeSize_one]; split <;> omega
   show IsRangeIter _ _ (lo + ((0:Nat):Int) * 1) ((((hi - lo).toNat:Nat):Int) - ((0:Nat):Int)) 1;rw [e1,e2];exact wGq _ rfl
 · have e:b=(s.heap.push { cls:=.type "range",data:=.fields #[.int lo t,.int hi u,.int 1 v] }).objs.size:=by simpa using hb
   subst e;exact I1.fpOk (Nat.le_refl _) (I1.hok.fresh (Nat.le_refl _))
def aH2 (ta:TA):TI:=fun σ H R=>ta σ H fun vs H1=>∃ j:Int,vs=[.int j]∧ -(2 ^ 62)≤j∧j < 2 ^ 62∧R (Itr 0 j.toNat) H1
def aF4 (ta:TA):TI:=fun σ H R=>ta σ H fun vs H1=>∃ i j:Int,vs=[.int i,.int j]∧(-(2 ^ 62)≤i∧i < 2 ^ 62∧ -(2 ^ 62)≤j∧j < 2 ^ 62)∧R (Itr i (j - i).toNat) H1
theorem IZ {a:Expr} {ta:TA} {p pos:Pos} (hg:Gl X "range") (hm:X.mg "range"=none) (ha:PA X [a] ta) (hs:starEach [a] X.env=[(false,eval a X.env)]:=by rfl):PI X tg (.Call (.Name "range" p) [a] [] pos) (aH2 ta):=by
 intro pins s σ H R I h;refine Call_ (nW I hg hm boot_range (PyProof.Rows.callWith_type1 (thn (ha pos pins s σ H _ I h) fun us s1 zz=>?_) hs rfl));obtain ⟨vs,H1,I1,r1,q1⟩:=zz;obtain ⟨j,e,q1,q2,q⟩:=q1;subst e;cases r1 with
 | cons r rr =>
   cases rr;obtain ⟨t,rfl⟩:=r;exact call_range_1 (zX I1 (by omega) (by omega) q1 q2 (by simpa using q))
theorem NI {a b:Expr} {ta:TA} {p pos:Pos} (hg:Gl X "range") (hm:X.mg "range"=none) (ha:PA X [a,b] ta) (hs:starEach [a,b] X.env=[(false,eval a X.env),(false,eval b X.env)]:=by rfl) (hs2:starEach [b] X.env=[(false,eval b X.env)]:=by rfl) :
   PI X tg (.Call (.Name "range" p) [a,b] [] pos) (aF4 ta):=by
 intro pins s σ H R I h;refine Call_ (nW I hg hm boot_range (PyProof.Rows.callWith_type1 (thn (ha pos pins s σ H _ I h) fun us s1 ⟨vs,H1,I1,r1,q1⟩=>?_) (by rw [hs,hs2]) (by rw [hs2]; rfl)));obtain ⟨i,j,e,⟨q1,q2,q3,q4⟩,q⟩:=q1;subst e;cases r1 with
 | cons r rr =>
   cases rr with
   | cons r' rr =>
     cases rr;obtain ⟨t,rfl⟩:=r;obtain ⟨t',rfl⟩:=r';exact call_range_2 (zX I1 q1 q2 q3 q4 q)
def aJL (wi:TI) (g:TG) (tb:TS):TS:=fun D σ H=>wi σ H fun J H1=>∃ W:Nat→Nat→St→Hp→Prop,(∃ m,W 0 m σ H1)∧∀ i m σ H,W i m σ H→
 (J.stop i H∧D.nx σ H)∨(J.go i H∧∃ N:St→Hp→Prop,(∀ σ' H',N σ' H'→∃ m',m' < m∧W (i + 1) m' σ' H')∧∀ x H',J.yld i H x H'→g x σ H' fun σ2 H2=>tb { D with nx:=N,ct:=N,bk:=D.nx } σ2 H2)
noncomputable def uD (fp:List Addr) (h:Heap):List (Addr×Obj):=fp.filterMap fun b=>(h.get? b).map fun o=>(b,o)
theorem iH {fp:List Addr} {h:Heap} {b:Addr} {o:Obj} (hb:b∈fp) (e:h.get? b=some o):(b,o)∈uD fp h:=List.mem_filterMap.mpr ⟨b,hb,by rw [e]; rfl⟩
theorem NQ {fp:List Addr} {h:Heap} {p:Addr×Obj} (hp:p∈uD fp h):p.1∈fp∧h.get? p.1=some p.2:=by
 obtain ⟨b,hb,e⟩:=List.mem_filterMap.mp hp;cases q:h.get? b with
 | none=>rw [q] at e; cases e
 | some o =>
   rw [q] at e;have e':(b,o)=p:=Option.some.inj e;subst e';exact ⟨hb,q⟩
theorem Inv.pinned {pins:List (Addr×Obj)} {σ:St} {H:Hp} {s:Shared} {fp:List Addr} (I:Inv X pins σ H s) (hf:∀ b∈fp,vN X pins H b) (ho:∀ b∈fp,∃ o,s.heap.get? b=some o∧∀ v,o.data≠.cell v):Inv X (pins ++ uD fp s.heap) σ H s :=
 I.pins_of fun p hp=>(List.mem_append.mp hp).elim (fun z=>I.pin p (List.mem_append_right _ z)) fun z=>by
   obtain ⟨hb,e⟩:=NQ z;obtain ⟨f0,f1,f2,_⟩:=hf p.1 hb;obtain ⟨o,e',d⟩:=ho p.1 hb;rw [e] at e'; cases e';exact ⟨e,f0,f1,f2,d⟩
theorem Inv.unpinned {pins pl:List (Addr×Obj)} {σ:St} {H:Hp} {s:Shared} (I:Inv X (pins ++ pl) σ H s):Inv X pins σ H s:=I.pins_of fun p hp=>I.pin p (List.mem_append_right _ (List.mem_append_left _ hp))
theorem aB3 {iter:Expr} {body:List Stmt} {wi:TI} {g:TG} {tb:TS} {pos:Pos} (hp:PassesOwn (model X.prog X.w) X.A X.env X.xe) (hc:X.calm=true) (hi:PI X tg iter wi) (hg:PG X tg g) (hb:PSs X body tb)
   (hs:∀ x,foldedSetIterable iter X.env x=pure x:=by intro _; rfl):PS X (.For tg iter body [] pos) (aJL wi g tb):=by
 intro pins s σ H D I h;refine wpAny_For (thn (hi pins s σ H _ I h) fun v s1 h1=>thn h1 fun itv s2 h2=>?_) hs;obtain ⟨it,fp,tn,J,H2,e,I2,T,st2,f2,W,⟨m0,w0⟩,turn⟩:=h2;subst e;have stat:∀ {H':Hp},(∀ b∈fp,H' b=none)→∀ b∈fp,vN X pins H' b:=fun hn b hb=>⟨hn b hb,(f2 b hb).2⟩;refine codeAny_forLoop_any (fun n s'=>∃ i σ' H',Inv X pins σ' H' s'∧tn i s'.heap∧(∀ b∈fp,H' b=none)∧W i n σ' H') ?_ m0 ⟨0,σ,H2,I2,st2,fun b hb=>(f2 b hb).1,w0⟩;rintro n s3 ⟨i,σ3,H3,I3,st3,fr3,w3⟩;rcases turn i n σ3 H3 w3 with ⟨stop,qn⟩ | ⟨go,N,hN,step⟩
 · refine wpAny_passesOwn hp (thn (T.done X rfl rfl rfl hc i pins s3 σ3 H3 X.xe I3 (stat fr3) st3 stop) fun r s4 zz=>?_);obtain ⟨hr,I4⟩:=zz;subst hr;exact wpAny_execs_nil ⟨σ3,H3,I4,qn⟩
 · refine wpAny_passesOwn hp (thn (T.item X rfl rfl rfl hc i pins s3 σ3 H3 X.xe I3 (stat fr3) st3 go) fun r s4 zz=>?_);obtain ⟨u,hr,h4⟩:=zz;subst hr;refine wpAny_passesOwn hp (thn h4 fun _ s5 zz=>?_);obtain ⟨x,H5,I5,r5,y5,st5,fr5⟩:=zz;have I5':=I5.pinned (stat fr5) (T.obj _ _ st5);refine wpAny_passesOwn hp (thn (hg _ s5 σ3 H5 x u _ I5' r5 (step x H5 y5)) fun _ s6 zz=>?_);obtain ⟨σ6,H6,I6,q6⟩:=zz;refine wpAny_passesOwn hp (thn (hb _ s6 σ6 H6 _ I6 q6) fun f s7 q7=>?_);have again:∀ {σ7:St} {H7:Hp},Inv X (pins ++ uD fp s5.heap) σ7 H7 s7→N σ7 H7→∃ m,m < n∧∃ i σ' H',Inv X pins σ' H' s7∧tn i s7.heap∧(∀ b∈fp,H' b=none)∧W i m σ' H':=fun {σ7 H7} I7 n7=>by
     obtain ⟨m',hm,w7⟩:=hN σ7 H7 n7;refine ⟨m',hm,i + 1,σ7,H7,I7.unpinned,T.keep _ _ _ st5 fun b hb o e=>(I7.pin (b,o) (List.mem_append_right _ (List.mem_append_right _ (iH hb e)))).1,fun b hb=>?_,w7⟩;obtain ⟨o,e,d⟩:=T.obj _ _ st5 b hb;exact (I7.pin (b,o) (List.mem_append_right _ (List.mem_append_right _ (iH hb e)))).2.1
   cases f with
   | next=>obtain ⟨σ7,H7,I7,n7⟩:=q7; exact again I7 n7
   | cont=>obtain ⟨σ7,H7,I7,n7⟩:=q7; exact again I7 n7
   | brk=>obtain ⟨σ7,H7,I7,q7⟩:=q7; exact ⟨σ7,H7,I7.unpinned,q7⟩
   | ret v=>obtain ⟨x7,σ7,H7,I7,r7,q7⟩:=q7; exact ⟨x7,σ7,H7,I7.unpinned,r7,q7⟩
end
noncomputable abbrev R2:=V→V→Hp→VK→Prop
noncomputable def OpR (X:Cx) (f:Value→Value→Sem Value) (r:R2):Prop :=
 ∀ (pins:List (Addr×Obj)) (s:Shared) (σ:St) (H:Hp) (x y:V) (v u:Value) (Q:VK),Inv X pins σ H s→aQ x v→aQ y u→r x y H Q→
   wpAny (model X.prog X.w) X.A (f v u) (EP X pins σ Q) X.xe s
noncomputable def UnR (X:Cx) (f:Value→Sem Value) (r:V→Hp→VK→Prop):Prop :=
 ∀ (pins:List (Addr×Obj)) (s:Shared) (σ:St) (H:Hp) (x:V) (v:Value) (Q:VK),Inv X pins σ H s→aQ x v→r x H Q→
   wpAny (model X.prog X.w) X.A (f v) (EP X pins σ Q) X.xe s
noncomputable def bK (X:Cx) (f:Value) (r:List V→Hp→VK→Prop):Prop :=
 ∀ (pins:List (Addr×Obj)) (s:Shared) (σ:St) (H:Hp) (xs:List V) (us:List Value) (Q:VK),Inv X pins σ H s→aO xs us→r xs H Q→
   wpAny (model X.prog X.w) X.A (call f us) (EP X pins σ Q) X.xe s
noncomputable def aI6 (X:Cx) (r:V→Hp→(Bool→Hp→Prop)→Prop):Prop :=
 ∀ (pins:List (Addr×Obj)) (s:Shared) (σ:St) (H:Hp) (x:V) (v:Value) (Q:Bool→Hp→Prop),Inv X pins σ H s→aQ x v→r x H Q→
   wpAny (model X.prog X.w) X.A (truthy v) (TP X pins σ Q) X.xe s
def tOp (r:R2) (ta tb:TE):TE:=fun σ H Q=>ta σ H fun x H1=>tb σ H1 fun y H2=>r x y H2 Q
def tUn (r:V→Hp→VK→Prop) (ta:TE):TE:=fun σ H Q=>ta σ H fun x H1=>r x H1 Q
def rI (C:Int→Int→Prop) (g:Int→Int→V):R2:=fun x y H Q=>∃ i j,x= .int i∧y= .int j∧C i j∧Q (g i j) H
def rI0 (g:Int→Int→V):R2:=fun x y H Q=>∃ i j,x= .int i∧y= .int j∧Q (g i j) H
noncomputable def rU (g:Int→V):V→Hp→VK→Prop:=fun x H Q=>∃ i,x= .int i∧Q (g i) H
section
variable {X:Cx} {a b c:Expr} {ta tb tc:TE} {pos:Pos}
theorem aD4 (ha:PE X a ta) (hb:PE X b tb) {pins:List (Addr×Obj)} {s:Shared} {σ:St} {H:Hp} {R:V→V→Hp→Prop} (I:Inv X pins σ H s)
   (h:ta σ H fun x H1=>tb σ H1 fun y H2=>R x y H2) {Q:Value→Shared→Prop} {f:Value→Value→Sem Value}
   (hf:∀ v u s2 x y H2,Inv X pins σ H2 s2→aQ x v→aQ y u→R x y H2→wpAny (model X.prog X.w) X.A (f v u) Q X.xe s2) :
   wpAny (model X.prog X.w) X.A (eval a X.env) (fun v s₁=>wpAny (model X.prog X.w) X.A (eval b X.env) (fun u s₂=>wpAny (model X.prog X.w) X.A (f v u) Q X.xe s₂) X.xe s₁) X.xe s:=by
 refine thn (ha pins s σ H _ I h) fun v s1 zz=>?_;obtain ⟨x,H1,I1,r1,q1⟩:=zz;refine thn (hb pins s1 σ H1 _ I1 q1) fun u s2 zz=>?_;obtain ⟨y,H2,I2,r2,q2⟩:=zz;exact hf v u s2 x y H2 I2 r1 r2 q2
theorem aIq {op:Operator} {r:R2} (ho:OpR X (binaryOp op) r) (ha:PE X a ta) (hb:PE X b tb):PE X (.BinOp a op b pos) (tOp r ta tb):=by
 intro pins s σ H Q I h;exact wpAny_BinOp (aD4 ha hb I h fun v u s2 x y H2 I2 rx ry q=>ho pins s2 σ H2 x y v u Q I2 rx ry q)
theorem aBz {op:UnaryOp} {r:V→Hp→VK→Prop} (ho:UnR X (unaryOp op) r) (ha:PE X a ta):PE X (.UnaryOp op a pos) (tUn r ta):=by
 intro pins s σ H Q I h;exact UnaryOp_ (thn (ha pins s σ H _ I h) <|by rintro v s1 ⟨x,H1,I1,r1,q1⟩;exact ho pins s1 σ H1 x v Q I1 r1 q1)
theorem opI {f:Value→Value→Sem Value} {C:Int→Int→Prop} {g:Int→Int→Int}
   (rule:∀ (i j:Int) (t u:Tok) (s:Shared) (Q:Value→Shared→Prop) (E:Value→Shared→Prop),C i j→Q (.int (g i j) s.toks) { s with toks:=s.toks + 1 }→wpAny (model X.prog X.w) X.A (f (.int i t) (.int j u)) Q E s) :
   OpR X f (rI C fun i j=>.int (g i j)):=by
 intro pins s σ H x y v u Q I rx ry h;obtain ⟨i,j,rfl,rfl,hc,q⟩:=h;obtain ⟨t,rfl⟩:=rx;obtain ⟨t',rfl⟩:=ry;exact rule i j t t' s _ _ hc ⟨.int (g i j),H,I.tok _,⟨_,rfl⟩,q⟩
theorem aH6 {f:Value→Value→Sem Value} {g:Int→Int→Int}
   (rule:∀ (i j:Int) (t u:Tok) (s:Shared) (Q:Value→Shared→Prop) (E:Value→Shared→Prop),Q (.int (g i j) s.toks) { s with toks:=s.toks + 1 }→wpAny (model X.prog X.w) X.A (f (.int i t) (.int j u)) Q E s) :
   OpR X f (rI0 fun i j=>.int (g i j)):=by
 intro pins s σ H x y v u Q I rx ry h;obtain ⟨i,j,rfl,rfl,q⟩:=h;obtain ⟨t,rfl⟩:=rx;obtain ⟨t',rfl⟩:=ry;exact rule i j t t' s _ _ ⟨.int (g i j),H,I.tok _,⟨_,rfl⟩,q⟩
theorem aAJ {f:Value→Value→Sem Value} {g:Int→Int→Bool}
   (rule:∀ (i j:Int) (t u:Tok) (s:Shared) (Q:Value→Shared→Prop) (E:Value→Shared→Prop),Q (.bool (g i j)) s→wpAny (model X.prog X.w) X.A (f (.int i t) (.int j u)) Q E s) :
   OpR X f (rI0 fun i j=>.bl (g i j)):=by
 intro pins s σ H x y v u Q I rx ry h;obtain ⟨i,j,rfl,rfl,q⟩:=h;obtain ⟨t,rfl⟩:=rx;obtain ⟨t',rfl⟩:=ry;exact rule i j t t' s _ _ ⟨.bl (g i j),H,I,rfl,q⟩
def RV (i j:Int):Prop:=0≤j∧j≤1000000∧i.natAbs < 2 ^ 64
theorem aEa:OpR X (binaryOp .Add) (rI0 fun i j=>.int (i + j)):=aH6 fun _ _ _ _ _ _ _ q=>add_int q
theorem aCt:OpR X (binaryOp .Sub) (rI0 fun i j=>.int (i - j)):=aH6 fun _ _ _ _ _ _ _ q=>sub_int q
theorem aDf:OpR X (binaryOp .Mod) (rI (fun _ j=>0 < j) fun i j=>.int (i % j)):=opI fun i j _ _ _ _ _ hc q=>by
 have h1:(0:Int) < j:=hc;exact mod_int' (by omega) (by rw [Int.fmod_eq_emod_of_nonneg i (by omega)]; exact q)
theorem aCJ:OpR X (binaryOp .Pow) (rI RV fun i j=>.int (i ^ j.toNat)):=opI fun _ _ _ _ _ _ _ hc q=>pow_int_small hc.1 hc.2.1 hc.2.2 q
theorem aB9:OpR X (binaryOp .LShift) (rI RV fun i j=>.int (i * 2 ^ j.toNat)):=opI fun _ _ _ _ _ _ _ hc q=>lshift_int_small hc.1 hc.2.1 hc.2.2 q
theorem unI {f:Value→Sem Value} {g:Int→Int}
   (rule:∀ (i:Int) (t:Tok) (s:Shared) (Q:Value→Shared→Prop) (E:Value→Shared→Prop),Q (.int (g i) s.toks) { s with toks:=s.toks + 1 }→wpAny (model X.prog X.w) X.A (f (.int i t)) Q E s) :
   UnR X f (rU fun i=>.int (g i)):=by
 intro pins s σ H x v Q I rx h;obtain ⟨i,rfl,q⟩:=h;obtain ⟨t,rfl⟩:=rx;exact rule i t s _ _ ⟨.int (g i),H,I.tok _,⟨_,rfl⟩,q⟩
theorem SN:UnR X (unaryOp .USub) (rU fun i=>.int (-i)):=unI fun _ _ _ _ _ q=>neg_int q
end
theorem dec_int {i j:Int}:decide (V.int i=V.int j)=(i == j):=by
 rw [Bool.eq_iff_iff];simp
theorem dec_str {i j:Str}:decide (V.str i=V.str j)=(i == j):=by
 rw [Bool.eq_iff_iff];simp
section
variable {X:Cx} {a b c:Expr} {ta tb tc:TE} {pos:Pos}
theorem QV {pins:List (Addr×Obj)} {σ:St} {H:Hp} {s:Shared} {Q:VK} {k k':Bool} (I:Inv X pins σ H s) (q:Q (.bl k) H) (e:k=k'):EP X pins σ Q (.bool k') s:=by
 subst e;exact ⟨.bl k,H,I,rfl,q⟩
theorem aHW:OpR X (compareOp .Lt) (rI0 fun i j=>.bl (decide (i < j))):=aAJ fun _ _ _ _ _ _ _ q=>lt_int q
theorem aGL:OpR X (compareOp .LtE) (rI0 fun i j=>.bl (decide (i≤j))):=aAJ fun _ _ _ _ _ _ _ q=>le_int q
theorem aHe:OpR X (compareOp .Gt) (rI0 fun i j=>.bl (decide (j < i))):=aAJ fun _ _ _ _ _ _ _ q=>gt_int q
theorem aGs:OpR X (compareOp .GtE) (rI0 fun i j=>.bl (decide (j≤i))):=aAJ fun _ _ _ _ _ _ _ q=>ge_int q
theorem aEm:OpR X (compareOp .Is) (fun x y H Q=>y= .non∧Q (.bl (decide (x= .non))) H):=by
 intro pins s σ H x y v u Q I rx ry h;obtain ⟨rfl,q⟩:=h;cases ry;refine is_none_gen (QV I q ?_);cases x <;> first
   | (cases rx; rfl)
   | (obtain ⟨t,rfl⟩:=rx; rfl)
theorem aAr:OpR X (compareOp .IsNot) (fun x y H Q=>y= .non∧Q (.bl (!decide (x= .non))) H):=by
 intro pins s σ H x y v u Q I rx ry h;obtain ⟨rfl,q⟩:=h;cases ry;refine isnot_none_gen (QV I q ?_);cases x <;> first
   | (cases rx; rfl)
   | (obtain ⟨t,rfl⟩:=rx; rfl)
theorem OpR.or {f:Value→Value→Sem Value} {r r':R2} (h:OpR X f r) (h':OpR X f r'):OpR X f (fun x y H Q=>r x y H Q∨r' x y H Q):=by
 intro pins s σ H x y v u Q I rx ry q;rcases q with q | q
 · exact h pins s σ H x y v u Q I rx ry q
 · exact h' pins s σ H x y v u Q I rx ry q
theorem HB {op:CmpOp} {r:R2} (ho:OpR X (compareOp op) r) (ha:PE X a ta) (hb:PE X b tb) (hm:behindInMarks op b=false):PE X (.Compare a [op] [b] pos) (tOp r ta tb):=by
 intro pins s σ H Q I h;exact wpAny_Compare1 (aD4 ha hb I h fun v u s2 x y H2 I2 rx ry q=>ho pins s2 σ H2 x y v u Q I2 rx ry q) hm
def aA3 (t:TE):TT:=fun σ H Q=>t σ H fun x H'=>∃ k,x= .bl k∧Q k H'
theorem aAv {op:CmpOp} {r:R2} (ho:OpR X (compareOp op) r) (ha:PE X a ta) (hb:PE X b tb) (hm:behindInMarks op b=false):PT X (.Compare a [op] [b] pos) (aA3 (tOp r ta tb)):=by
 intro pins s σ H Q I h;refine wpAny_isTrue_Compare1 (thn (ha pins s σ H _ I h) fun v s1 ⟨x,H1,I1,r1,q1⟩=>thn (hb pins s1 σ H1 _ I1 q1) fun u s2 ⟨y,H2,I2,r2,q2⟩ =>
   thn (ho pins s2 σ H2 x y v u _ I2 r1 r2 q2) fun c s3 ⟨z,H3,I3,r3,k,e,q3⟩=>?_) hm
 subst e;cases r3;exact wpAny_truthy_bool ⟨H3,I3,q3⟩
def GR (r r':R2) (ta tb tc:TE):TE:=fun σ H Q=>ta σ H fun x H1=>tb σ H1 fun y H2=>r x y H2 fun z H3=>∃ k,z= .bl k∧
 (if k=true then tc σ H3 fun w' H4=>r' y w' H4 Q else Q (.bl false) H3)
theorem OK {op op':CmpOp} {r r':R2} (ho:OpR X (compareOp op) r) (ho':OpR X (compareOp op') r') (ha:PE X a ta) (hb:PE X b tb) (hc:PE X c tc)
   (hm:lastMarks [op,op'] [b,c]=false:=by with_unfolding_all rfl):PE X (.Compare a [op,op'] [b,c] pos) (GR r r' ta tb tc):=by
 intro pins s σ H Q I h;refine Compare_chain (thn (ha pins s σ H _ I h) fun v s1 ⟨x,H1,I1,r1,q1⟩=>chain_link (thn (hb pins s1 σ H1 _ I1 q1) fun u s2 ⟨y,H2,I2,r2,q2⟩ =>
   thn (ho pins s2 σ H2 x y v u _ I2 r1 r2 q2) fun d s3 ⟨z,H3,I3,r3,k,e,q3⟩=>?_)) hm
 subst e;cases r3;refine wpAny_truthy_bool ?_;cases k with
 | false=>exact ite_ff ⟨.bl false,H3,I3,rfl,q3⟩
 | true=>exact ite_tt (chain_last (thn (hc pins s3 σ H3 _ I3 q3) <|by rintro w' s4 ⟨z',H4,I4,r4,q4⟩;exact ho' pins s4 σ H4 y z' u w' Q I4 r2 r4 q4))
theorem SQ {op op':CmpOp} {r r':R2} (ho:OpR X (compareOp op) r) (ho':OpR X (compareOp op') r') (ha:PE X a ta) (hb:PE X b tb) (hc:PE X c tc)
   (hm:lastMarks [op,op'] [b,c]=false:=by with_unfolding_all rfl):PT X (.Compare a [op,op'] [b,c] pos) (aA3 (GR r r' ta tb tc)):=by
 intro pins s σ H Q I h;refine isTrue_chain (thn (ha pins s σ H _ I h) fun v s1 ⟨x,H1,I1,r1,q1⟩=>test_link (thn (hb pins s1 σ H1 _ I1 q1) fun u s2 ⟨y,H2,I2,r2,q2⟩ =>
   thn (ho pins s2 σ H2 x y v u _ I2 r1 r2 q2) fun d s3 ⟨z,H3,I3,r3,k,e,q3⟩=>?_)) hm
 subst e;cases r3;refine wpAny_truthy_bool ?_;cases k with
 | false =>
   obtain ⟨k',e',q'⟩:=q3;cases e';exact ite_ff ⟨H3,I3,q'⟩
 | true =>
   refine ite_tt (test_last (thn (hc pins s3 σ H3 _ I3 q3) fun w' s4 ⟨z',H4,I4,r4,q4⟩=>thn (ho' pins s4 σ H4 y z' u w' _ I4 r2 r4 q4) fun d' s5 zz=>?_));obtain ⟨z2,H5,I5,r5,k2,e2,q5⟩:=zz;subst e2;cases r5;exact wpAny_truthy_bool ⟨H5,I5,q5⟩
noncomputable def OD (K:W.Frag) (x:V) (H:Hp) (k:Bool):Prop :=
 match x with
 | .non=>k=false
 | .bl b=>k=b
 | .int i=>k=(i != 0)
 | .str y=>y.length≤sizeLine∧k=((y.length:Int) != 0)
 | .byt y=>y.size≤sizeLine∧k=((y.size:Int) != 0)
 | .ref p=>(∃ xs,SqL K H p xs∧k= !xs.isEmpty)∨(∃ xs,SqT K H p xs∧k= !xs.isEmpty)∨∃ kvs,H p=some (.dK kvs)∧k= !kvs.isEmpty
 | _=>False
theorem ET {κ:Type} {kvs:List (κ×V)} {vs:List (κ×Value)} (r:KV kvs vs):(!vs.isEmpty)= !kvs.isEmpty:=by
 cases r <;> rfl
theorem sS {xs:List V} {its:List Value} (r:aO xs its):(!its.toArray.isEmpty)= !xs.isEmpty:=by
 cases r <;> simp
theorem lO:(sizeLine:Nat) < 2 ^ 63:=by rw [sizeLine_eq]; decide
theorem zD:aI6 X (fun x H Q=>∃ k,OD X.K x H k∧Q k H):=by
 intro pins s σ H x v Q I rx h;obtain ⟨k,e,q⟩:=h;have hl:=lO;have hs:sizeLine=16777216:=sizeLine_eq;cases x with
 | non =>
   cases rx;have e':k=false:=e;subst e';exact truthy_none ⟨H,I,q⟩
 | bl b =>
   cases rx;have e':k=b:=e;subst e';exact wpAny_truthy_bool ⟨H,I,q⟩
 | int i =>
   obtain ⟨t,rfl⟩:=rx;have e':k=(i != 0):=e;subst e';exact PySem.P.truthy_int ⟨H,I,q⟩
 | str y =>
   obtain ⟨t,rfl⟩:=rx;obtain ⟨hy,e'⟩:y.length≤sizeLine∧k=((y.length:Int) != 0):=e;subst e';exact PySem.P.truthy_str (by omega) ⟨H,I.tok _,q⟩
 | byt y =>
   obtain ⟨t,rfl⟩:=rx;obtain ⟨hy,e'⟩:y.size≤sizeLine∧k=((y.size:Int) != 0):=e;subst e';exact W.truthy_bytes (by omega) ⟨H,I.tok _,q⟩
 | ref p =>
   cases rx;have e':(∃ xs,SqL X.K H p xs∧k= !xs.isEmpty)∨(∃ xs,SqT X.K H p xs∧k= !xs.isEmpty)∨∃ kvs,H p=some (.dK kvs)∧k= !kvs.isEmpty:=e;rcases e' with ⟨xs,hx,e'⟩ | ⟨xs,hx,e'⟩ | ⟨kvs,hx,e'⟩
   · subst e';obtain ⟨its,r,pl,hz⟩:=I.list hx;have hlen:=r.length;exact wpAny_truthy_list pl.isList (by simp only [wHq]; omega) ⟨H,I.tok _,by rw [sS r]; exact q⟩
   · subst e';obtain ⟨its,r,pl,hz⟩:=I.tuple hx;have hlen:=r.length;exact truthy_tuple pl (by simp only [wHq]; omega) ⟨H,I.tok _,by rw [sS r]; exact q⟩
   · subst e';obtain ⟨hz,hS,vs,r,m⟩:kvs.length≤sizeLine∧(p == sysModules)=false∧∃ vs,KV kvs vs∧s.heap.DictOf (bX X.prog X.w) p vs:=I.hok p _ hx;have hlen:kvs.length=vs.length:=Paired.length r;exact wpAny_truthy_dict hS m (by omega) ⟨H,I.tok _,by rw [ET r]; exact q⟩
 | _=>exact (show False from e).elim
theorem RW (ha:PE X a ta) (he:∀ whole,isTrue a X.env whole=(do let v ←whole; standAt a.pos; holding [v] (truthy v))) :
   PT X a (fun σ H Q=>ta σ H fun x H'=>∃ k,OD X.K x H' k∧Q k H'):=by
 intro pins s σ H Q I h;exact isTrue_plain (thn (ha pins s σ H _ I h) <|by rintro v s1 ⟨x,H1,I1,r1,q1⟩;exact zD pins s1 σ H1 x v Q I1 r1 q1) (he _)
theorem EI:OpR X (binaryOp .Add) (fun x y H Q=>∃ i j,x= .str i∧y= .str j∧i.length + j.length≤sizeLine∧Q (.str (i ++ j)) H):=by
 intro pins s σ H x y v u Q I rx ry h;obtain ⟨i,j,rfl,rfl,hz,q⟩:=h;obtain ⟨t,rfl⟩:=rx;obtain ⟨t',rfl⟩:=ry;exact add_str (fun t' tk=>⟨.str (i ++ j),H,I.tok _,⟨_,rfl⟩,q⟩) hz
theorem fF {x:V} {us:List Value} (r:aO [x] us):∃ u,us=[u]∧aQ x u:=by
 cases r with
 | cons r1 r2=>cases r2; exact ⟨_,rfl,r1⟩
theorem HV {x y:V} {us:List Value} (r:aO [x,y] us):∃ u w',us=[u,w']∧aQ x u∧aQ y w':=by
 cases r with
 | cons r1 r2 =>
   cases r2 with
   | cons r3 r4=>cases r4; exact ⟨_,_,rfl,r1,r3⟩
theorem VN:bK X (.builtin "abs") (fun xs H Q=>∃ i,xs=[.int i]∧Q (.int (if i < 0 then -i else i)) H):=by
 intro pins s σ H xs us Q I r h;obtain ⟨i,rfl,q⟩:=h;obtain ⟨u,rfl,t,rfl⟩:=fF r;exact call_abs_int fun u tk=>⟨.int (if i < 0 then -i else i),H,I.tok _,⟨_,rfl⟩,q⟩
theorem JP (hc:X.calm=true):bK X (.builtin "max") (fun xs H Q=>∃ i j,xs=[.int i,.int j]∧Q (.int (if j > i then j else i)) H):=by
 intro pins s σ H xs us Q I r h;obtain ⟨i,j,rfl,q⟩:=h;obtain ⟨u,w',rfl,⟨t,rfl⟩,⟨t',rfl⟩⟩:=HV r;refine max_two_ints (I.ok.hd hc) fun h' tk k=>⟨_,H,I.kept k, ?_,q⟩;by_cases hj:j > i
 · rw [if_pos hj,if_pos hj]; exact ⟨_,rfl⟩
 · rw [if_neg hj,if_neg hj]; exact ⟨_,rfl⟩
theorem NA (hc:X.calm=true):bK X (.builtin "min") (fun xs H Q=>∃ i j,xs=[.int i,.int j]∧Q (.int (if j < i then j else i)) H):=by
 intro pins s σ H xs us Q I r h;obtain ⟨i,j,rfl,q⟩:=h;obtain ⟨u,w',rfl,⟨t,rfl⟩,⟨t',rfl⟩⟩:=HV r;refine min_two_ints (I.ok.hd hc) fun h' tk k=>⟨_,H,I.kept k, ?_,q⟩;by_cases hj:j < i
 · rw [if_pos hj,if_pos hj]; exact ⟨_,rfl⟩
 · rw [if_neg hj,if_neg hj]; exact ⟨_,rfl⟩
theorem KG:bK X (.type "int") (fun xs H Q=>(∃ i,xs=[.int i]∧Q (.int i) H)∨∃ k,xs=[.bl k]∧Q (.int (if k then 1 else 0)) H):=by
 intro pins s σ H xs us Q I r h;rcases h with ⟨i,rfl,q⟩ | ⟨k,rfl,q⟩
 · obtain ⟨u,rfl,t,rfl⟩:=fF r;exact call_int_int ⟨.int i,H,I,⟨_,rfl⟩,q⟩
 · obtain ⟨u,rfl,r1⟩:=fF r;cases r1;exact call_int_bool ⟨.int (if k then 1 else 0),H,I.tok _,⟨_,rfl⟩,q⟩
theorem zJ:bK X (.type "str") (fun xs H Q=>∃ i,xs=[.int i]∧i.natAbs.log2 < 1920∧Q (.str (toString i)) H):=by
 intro pins s σ H xs us Q I r h;obtain ⟨i,rfl,hz,q⟩:=h;obtain ⟨u,rfl,t,rfl⟩:=fF r;exact PySem.P.str_of_int hz ⟨.str _,H,I.tok _,⟨_,rfl⟩,q⟩
end
structure NU (h:Heap) (x dx C:Addr) (mA:Str→Option Value):Prop where
 obj:h.get? x=some (W.instObj C dx)
 ns:h.Ns1 dx mA
 ne:dx≠x
theorem MC {h:Heap} {dx:Addr} {mA:Str→Option Value} (n:h.Ns1 dx mA):∃ od,h.get? dx=some od∧∀ name,W.lookIn name od=some (mA name):=by
 obtain ⟨o,es,ep,ho,hd,hk,_,hm⟩:=n;refine ⟨o,ho,fun name=>?_⟩;have e:=hm name;unfold nsFind findBy at e;rw [←Array.find?_toList] at e;unfold W.lookIn;rw [hd];dsimp only;split
 · rename_i y q;rw [q] at e;exact congrArg some e
 · rename_i q;rw [q] at e;have a:es.toList.any (·.refKey)=false:=by
     rw [List.any_eq_false];intro y hy;obtain ⟨z,t,hkey⟩:=hk y (Array.mem_toList_iff.mp hy);simp [DictEntry.refKey,hkey]
   have a':¬es.toList.any (·.refKey)=true:=by rw [a]; exact Bool.false_ne_true
   rw [if_neg a'];exact congrArg some e
theorem NU.look {h:Heap} {x dx C:Addr} {mA:Str→Option Value} (I:NU h x dx C mA):∃ od,W.InstAt h x (W.instObj C dx) C (some od)∧∀ name,W.lookIn name od=some (mA name) :=
 let ⟨od,ho,hl⟩:=MC I.ns
 ⟨od,⟨I.obj,rfl,rfl,ho⟩,hl⟩
section
variable {prog:Program} {w:World} {A:Around} {E:Value→Shared→Prop} {s:Shared} {K:W.Frag} {x dx C f:Addr} {mA:Str→Option Value} {name:Str} {v:Value}
theorem WJ {expr:Bool} {Q:Value→Shared→Prop} (X:K.In s.heap) (I:NU s.heap x dx C mA) (hg:W.plainGet K C name=true) (hh:W.hasDictIn K C=true)
   (ha:W.findIn K (.ref C) name=some none) (hv:mA name=some v) (hv':W.handedIn v=true) (h:Q v { s with toks:=s.toks + 1 }) :
   wpAny (model prog w) A (getAttr (.ref x) name expr) Q E s:=by
 obtain ⟨od,J,hl⟩:=I.look;exact W.get_value X J (W.plainGet_of hg).1 (W.findObj_own hh ha rfl (by rw [hl,hv])) hv' h
theorem aAR {ns:List Str} {Q:Unit→Shared→Prop} (X:K.In s.heap) (I:NU s.heap x dx C mA)
   (hs:W.findIn K (.ref C) "__setattr__"=some (some (.builtin "object.__setattr__"))) (hp:W.plainOver K C=true) (ht:W.takerIn K C name=some none) (hh:W.hasDictIn K C=true)
   (hw:PySem.Within mA ns) (hsz:ns.length≤sizeLine)
   (h:∀ h',NU h' x dx C (fun y=>if y=name then some v else mA y)→Heap.SameBut dx s.heap h'→Q () { s with heap:=h',toks:=s.toks + 2 }) :
   wpAny (model prog w) A (setAttr (.ref x) name v) Q E s:=by
 obtain ⟨od,J,hl⟩:=I.look;refine W.set_plain X J hs (W.osa_open (s:={ s with toks:=s.toks + 1 }) (r:=none) X J hp ht fun b=>?_);obtain ⟨cd,hc,hd'⟩:=W.any_some hh;have hx:s.heap.get? x=some ⟨.ref C,some dx,.plain, #[]⟩:=I.obj;refine wAq (wBq (wAq (wAq (wpAny_loadPart hx (wAq (W.Looks.here (s:={ s with toks:=s.toks + 1 }) (W.looks_clsIn X hc) ?_))))));rw [hd'];refine wBq (a:=some dx) (wAq (wBq (wAq ?_)));refine wpAny_nsSet1 (s:={ s with toks:=s.toks + 1 }) I.ns fun h' hn2 hs2=>?_;obtain ⟨oD,esD,epD,hoD,hdD,hcD⟩:=hn2.count (PySem.Within.cons name v hw);refine wAq (wpAny_lookBehind hoD (by rw [hdD]; exact pastItsLine_dict (Nat.le_trans hcD (by rw [List.length_cons]; omega))) ?_);exact wBq (h _ ⟨(hs2.2 _ (Ne.symm I.ne)).trans I.obj,hn2,I.ne⟩ hs2)
theorem sZ {R:Result→Shared→Prop} {vs:List Value} {kw:List (Str×Value)} (X:K.In s.heap) (hm:W.makesIn K C=true)
   (hi:W.findIn K (.ref C) "__init__"=some (some (.ref f))) (hf:W.typeIn K (.ref f)=some (.type "function"))
   (h :codeAny (model prog w) (A.under (.builtin "type.__call__" ⟨.ref C :: vs,kw⟩)) (.call (.ref f) ⟨.ref (s.heap.objs.size + 1) :: vs,kw⟩) (W.InitBack (s.heap.objs.size + 1) R)
     { s with heap:=(s.heap.push W.emptyDict).push (W.instObj C s.heap.objs.size) }) :
   codeAny (model prog w) A (.call (.ref C) ⟨vs,kw⟩) R s:=by
 obtain ⟨hh,g,d,t,os⟩:=s;exact W.make_core (W.makes_of X hm) (W.looks_findIn X hi) (fun self=>W.bind_fn X self hf) (.inl rfl) h
end
noncomputable def jA (f:Str) (v:V):List (Str×V)→List (Str×V)
 | []=>[(f,v)]
 | (g,x) :: r=>if g=f then (g,v) :: r else (g,x) :: jA f v r
theorem pM (f g:Str) (v:V):∀ fs:List (Str×V),(jA f v fs).lookup g=if g=f then some v else fs.lookup g
 | [] =>by
   show List.lookup g [(f,v)]=_;by_cases h:g=f
   · have hb:(g == f)=true:=beq_iff_eq.mpr h;simp only [List.lookup,hb,if_pos h]
   · have hb:(g == f)=false:=beq_eq_false_iff_ne.mpr h;simp only [List.lookup,hb,if_neg h]
 | (k, x) :: r=>by
   have ih:=pM f g v r;rw [show jA f v ((k,x) :: r)=(if k=f then (k,v) :: r else (k,x) :: jA f v r) from rfl];by_cases hk:k=f
   · rw [if_pos hk];by_cases h:g=k
     · have hb:(g == k)=true:=beq_iff_eq.mpr h;simp only [List.lookup,hb,if_pos (h.trans hk)]
     · have hb:(g == k)=false:=beq_eq_false_iff_ne.mpr h;simp only [List.lookup,hb,if_neg (fun e:g=f=>h (e.trans hk.symm))]
   · rw [if_neg hk];by_cases h:g=k
     · have hb:(g == k)=true:=beq_iff_eq.mpr h;simp only [List.lookup,hb,if_neg (fun e:g=f=>hk (h.symm.trans e))]
     · have hb:(g == k)=false:=beq_eq_false_iff_ne.mpr h;simp only [List.lookup,hb];exact ih
theorem nQ (f:Str) (v:V):∀ fs:List (Str×V),f∈(jA f v fs).map (·.1)∧∀ g,g∈fs.map (·.1)→g∈(jA f v fs).map (·.1)
 | []=>⟨by simp [jA],fun g h=>by simp at h⟩
 | (k, x) :: r=>by
   obtain ⟨i1,i2⟩:=nQ f v r;rw [show jA f v ((k,x) :: r)=(if k=f then (k,v) :: r else (k,x) :: jA f v r) from rfl];by_cases hk:k=f
   · rw [if_pos hk];subst hk;exact ⟨by simp,fun g h=>by simpa using h⟩
   · rw [if_neg hk];refine ⟨?_,fun g h=>?_⟩
     · rw [List.map_cons];exact wCq _ i1
     · rw [List.map_cons] at h ⊢;rcases List.mem_cons.mp h with e | e
       · exact List.mem_cons.mpr (.inl e)
       · exact wCq _ (i2 g e)
theorem pQ (f:Str) (v:V):∀ fs:List (Str×V),(jA f v fs).length≤fs.length + 1
 | []=>by simp [jA]
 | (k,x) :: r=>by
   have ih:=pQ f v r;rw [show jA f v ((k,x) :: r)=(if k=f then (k,v) :: r else (k,x) :: jA f v r) from rfl];by_cases hk:k=f
   · rw [if_pos hk,List.length_cons,List.length_cons]; omega
   · rw [if_neg hk,List.length_cons,List.length_cons]; omega
theorem tY.some_of {v:V} {o:Option Value} (r:tY (some v) o):∃ u,o=some u∧aQ v u:=by
 cases o with
 | none=>exact (show False from r).elim
 | some u=>exact ⟨u,rfl,r⟩
theorem KQ {v:V} {u:Value} (r:aQ v u):W.handedIn u=true:=by
 cases v with
 | non=>cases (show u=Value.none from r); rfl
 | bl b=>cases (show u=Value.bool b from r); rfl
 | int i=>obtain ⟨t,e⟩:=(show ∃ t,u=Value.int i t from r); cases e; rfl
 | str x=>obtain ⟨t,e⟩:=(show ∃ t,u=Value.str x t from r); cases e; rfl
 | byt b=>obtain ⟨t,e⟩:=(show ∃ t,u=Value.bytes b t from r); cases e; rfl
 | flt b=>obtain ⟨t,e⟩:=(show ∃ t,u=Value.float b t from r); cases e; rfl
 | ref a=>cases (show u=Value.ref a from r); rfl
 | ty n=>cases (show u=Value.type n from r); rfl
section
variable {P:Program} {w:World} {H H':Hp} {h h':Heap} {a C dx:Addr} {fs fs':List (Str×V)}
theorem rO (hok:HOk P w H h) (e:H a=some (.ins C dx fs)):∃ mA,NU h a dx C mA∧(∀ f,tY (fs.lookup f) (mA f))∧PySem.Within mA (fs.map (·.1))∧fs.length≤1000∧H dx=some (.own a):=by
 obtain ⟨d,z,ne,ob,mA,n,r,q⟩:=(show bJ P w H h a (.ins C dx fs) from hok a _ e);exact ⟨mA,⟨ob,n,ne⟩,r,q,z,d⟩
end
structure Cls (K:W.Frag) (C:Addr):Prop where
 pg:W.plainGet K C Str.empty=true
 hd:W.hasDictIn K C=true
 po:W.plainOver K C=true
 sa:W.findIn K (.ref C) "__setattr__"=some (some (.builtin "object.__setattr__"))
theorem Cls.get {K:W.Frag} {C:Addr} (c:Cls K C) (f:Str):W.plainGet K C f=true:=c.pg
def cA (K:W.Frag) (C:Addr) (f:Str):Prop:=W.findIn K (.ref C) f=some none
theorem cA.taker {K:W.Frag} {C:Addr} {f:Str} (n:cA K C f):W.takerIn K C f=some none:=by
 unfold W.takerIn;rw [show W.findIn K (.ref C) f=some none from n];rfl
structure dZ (K:W.Frag) (C:Addr) (m:Str) (f:Addr):Prop where
 at_:W.findIn K (.ref C) m=some (some (.ref f))
 fn:W.isFn K (.ref f)=true
 kp:W.keepIn K (.ref f)=true
section
variable {X:Cx} {pins:List (Addr×Obj)} {σ:St} {H:Hp} {s:Shared} {a C dx:Addr} {fs:List (Str×V)} {f:Str} {v:V} {A:Around} {E:Value→Shared→Prop}
theorem GB {b:Bool} {Q:Value→Shared→Prop} (I:Inv X pins σ H s) (e:H a=some (.ins C dx fs)) (c:Cls X.K C) (n:cA X.K C f) (l:fs.lookup f=some v)
   (h:∀ u s',Inv X pins σ H s'→aQ v u→Q u s'):wpAny (model X.prog X.w) A (getAttr (.ref a) f b) Q E s:=by
 obtain ⟨mA,O,r,_,_,_⟩:=rO I.hok e;obtain ⟨u,hu,ru⟩:=tY.some_of (v:=v) (o:=mA f) (by rw [←l]; exact r f);exact WJ I.kIn O (c.get f) c.hd n hu (KQ ru) (h u _ (I.tok _) ru)
theorem EV {y:V} {u:Value} {Q:Unit→Shared→Prop} (I:Inv X pins σ H s) (e:H a=some (.ins C dx fs)) (c:Cls X.K C) (n:cA X.K C f) (hl:fs.length < 1000) (ry:aQ y u)
   (h:∀ s',Inv X pins σ (upd H a (.ins C dx (jA f y fs))) s'→Q () s'):wpAny (model X.prog X.w) A (setAttr (.ref a) f u) Q E s:=by
 obtain ⟨mA,O,r,wi,_,ho⟩:=rO I.hok e;have hz:(fs.map (·.1)).length≤sizeLine:=by rw [List.length_map,sizeLine_eq]; omega
 refine aAR I.kIn O c.sa c.po n.taker c.hd wi hz fun h' O' sb=>h _ ?_;have hd:∃ o,h'.get? dx=some o:=let ⟨o,_,_,e',_⟩:=O'.ns; ⟨o,e'⟩
 refine I.write (x:=a) (e:=dx) (by rw [e]; exact True.intro) (.inr ho) (fun b q hb z=>(sb.2 b hb).trans z) hd ?_;refine ⟨by rw [aD O.ne]; exact ho, ?_,O.ne,O'.obj,_,O'.ns,fun g=>?_,fun g hg=>?_⟩
 · have:=pQ f y fs; omega
 · show tY ((jA f y fs).lookup g) (if g=f then some u else mA g);rw [pM];by_cases q:g=f
   · rw [if_pos q,if_pos q]; exact ry
   · rw [if_neg q,if_neg q]; exact r g
 · by_cases q:g=f
   · rw [q]; exact (nQ f y fs).1
   · refine (nQ f y fs).2 g (wi g fun z=>hg ?_);show (if g=f then some u else mA g)=none;rw [if_neg q]; exact z
theorem Inv.made (I:Inv X pins σ H s):Inv X pins σ (upd (upd H s.heap.objs.size (.own (s.heap.objs.size + 1))) (s.heap.objs.size + 1) (.ins C s.heap.objs.size []))
   { s with heap:=(s.heap.push W.emptyDict).push (W.instObj C s.heap.objs.size) }:=by
 have e1:(s.heap.push W.emptyDict).get? s.heap.objs.size=some W.emptyDict:=wGq s.heap rfl;have e2:((s.heap.push W.emptyDict).push (W.instObj C s.heap.objs.size)).get? (s.heap.objs.size + 1)=some (W.instObj C s.heap.objs.size):=by
   have:=wGq (s.heap.push W.emptyDict) (o:=W.instObj C s.heap.objs.size) rfl
   rwa [Heap.size_push] at this
 have e3:(s.heap.push W.emptyDict).Ns s.heap.objs.size (fun _=>none):=⟨W.emptyDict, #[],_,e1,rfl,(fun e he=>absurd he (by simp)),fun _=>rfl⟩;have I1:=I.laid (a:=s.heap.objs.size) (o:=.own (s.heap.objs.size + 1)) (h':=s.heap.push W.emptyDict) (t':=s.toks) (fun b u q=>wEq _ q) (Nat.le_refl _) ⟨_,e1⟩;refine I1.laid (a:=s.heap.objs.size + 1) (o:=.ins C s.heap.objs.size []) (t':=s.toks) (fun b u q=>wEq _ q) (Nat.le_of_eq (Heap.size_push _ _)) ?_;have ne:s.heap.objs.size≠s.heap.objs.size + 1:=Nat.ne_of_lt (Nat.lt_succ_self _);refine ⟨by rw [aD ne,aI],Nat.zero_le _,ne,e2,fun _=>none,(Heap.Ns1.of_empty e3).at fun o q=>wEq _ q,fun _=>True.intro,fun y hy=>absurd rfl hy⟩
theorem aAN {prog:Program} {w:World} {env:Env} {e:Expr} {f:Str} {pos:Pos} {s:Shared} {Q:Value→Shared→Prop} (hb:attributeBase e f env (eval e env)=eval e env)
   (h:wpAny (model prog w) A (eval e env) (fun o s₁=>wpAny (model prog w) A (getAttr o f true) Q E s₁) E s):wpAny (model prog w) A (eval (.Attribute e f pos) env) Q E s :=
 Attribute_any_ h (by rw [arm_eval_Attribute,hb])
end
def aKa (K:W.Frag) (ta:TE) (f:Str):TE:=fun σ H Q=>ta σ H fun x H1=>∃ a C dx fs v,x= .ref a∧H1 a=some (.ins C dx fs)∧Cls K C∧cA K C f∧fs.lookup f=some v∧Q v H1
def aJc (K:W.Frag) (ta tv:TE) (f:Str):TS:=fun D σ H=>tv σ H fun y H1=>ta σ H1 fun x H2=>∃ a C dx fs,x= .ref a∧H2 a=some (.ins C dx fs)∧Cls K C∧cA K C f∧fs.length < 1000∧
 D.nx σ (upd H2 a (.ins C dx (jA f y fs)))
section
variable {X:Cx} {o e value:Expr} {f:Str} {pos pos' tpos:Pos} {ta tv:TE}
theorem aCG (he:PE X e ta) (hb:attributeBase e f X.env (eval e X.env)=eval e X.env):PE X (.Attribute e f pos) (aKa X.K ta f):=by
 intro pins s σ H Q I h;refine aAN hb (thn (he pins s σ H _ I h) fun u s1 zz=>?_);obtain ⟨x,H1,I1,rx,a,C,dx,fs,v,ex,ea,c,n,l,q⟩:=zz;subst ex;obtain rfl:u=Value.ref a:=rx;exact GB I1 ea c n l fun u' s2 I2 ru=>⟨v,H1,I2,ru,q⟩
theorem aD0 (ha:PE X o ta) (hv:PE X value tv) (hs:swapsWith value (some (.Attribute o f pos')) pos.line X.env=pure false):PS X (.Assign [.Attribute o f pos'] value pos) (aJc X.K ta tv f):=by
 intro pins s σ H D I h;refine plainObj_wpAny_Assign_Attribute (thn (hv pins s σ H _ I h) fun u s1 ⟨y,H1,I1,ry,q⟩=>thn (ha pins s1 σ H1 _ I1 q) fun ov s2 zz=>?_) hs;obtain ⟨x,H2,I2,rx,a,C,dx,fs,ex,ea,c,n,l,q2⟩:=zz;subst ex;obtain rfl:ov=Value.ref a:=rx;exact EV I2 ea c n l ry fun s3 I3=>⟨σ,_,I3,q2⟩
end
section
variable {X:Cx} {pins:List (Addr×Obj)} {σ:St} {H:Hp} {s:Shared} {A:Around} {E:Value→Shared→Prop} {Q:Value→Shared→Prop} {c:Value} {b:Bool}
inductive oZ (K:W.Frag) (H:Hp):V→Value→Prop where
 | non:oZ K H .non (.type "NoneType")
 | bl (x:Bool):oZ K H (.bl x) (.type "bool")
 | int (i:Int):oZ K H (.int i) (.type "int")
 | str (x:Str):oZ K H (.str x) (.type "str")
 | flt (x:UInt64):oZ K H (.flt x) (.type "float")
 | lst {a:Addr} {xs:List V} (e:H a=some (.lst xs)):oZ K H (.ref a) (.type "list")
 | frz {a:Addr} {o:Obj} {xs:List V} (e:H a=some (.frz o (.lst xs))):oZ K H (.ref a) (.type "list")
 | tup {a:Addr} {xs:List V} (e:H a=some (.tup xs)):oZ K H (.ref a) (.type "tuple")
 | dK {a:Addr} {kvs:List (Key×V)} (e:H a=some (.dK kvs)):oZ K H (.ref a) (.type "dict")
 | dT {a:Addr} {kvs:List (List Key×V)} (e:H a=some (.dT kvs)):oZ K H (.ref a) (.type "dict")
 | ins {a C dx:Addr} {fs:List (Str×V)} (e:H a=some (.ins C dx fs)) (cl:Cls K C) (ha:W.findIn K (.ref C) "__class__"=some (some (.builtin "object.__class__")))
     (hn:W.specialIn K (.builtin "object.__class__") "__get__"=some (some (.builtin "getset_descriptor.__get__"))) (htk:W.takesIn K (.builtin "object.__class__")=some true)
     (hm:W.mroIn K C (.type "object")=some true):oZ K H (.ref a) (.ref C)
theorem xJ {x:V} {u t:Value} (I:Inv X pins σ H s) (rx:aQ x u) (ty:oZ X.K H x t) (e:W.kitOne X.K t c=some b) (h:∀ tk,Q (.bool b) { s with toks:=tk }) :
   wpAny (model X.prog X.w) A (call (.builtin "isinstance") [u,c]) Q E s:=by
 cases ty with
 | non=>cases (show u=Value.none from rx); exact W.kia_one W.kitx_none I.kIn True.intro e (fun z=>nomatch z) h
 | bl y=>cases (show u=Value.bool y from rx); exact W.kia_one W.kitx_bool I.kIn True.intro e (fun z=>nomatch z) h
 | int i=>obtain ⟨t,q⟩:=(show ∃ t,u=Value.int i t from rx); cases q; exact W.kia_one W.kitx_int I.kIn True.intro e (fun z=>nomatch z) h
 | str y=>obtain ⟨t,q⟩:=(show ∃ t,u=Value.str y t from rx); cases q; exact W.kia_one W.kitx_str I.kIn True.intro e (fun z=>nomatch z) h
 | flt y=>obtain ⟨t,q⟩:=(show ∃ t,u=Value.float y t from rx); cases q; exact W.kia_one W.kitx_float I.kIn True.intro e (fun z=>nomatch z) h
 | @lst a xs ea =>
   cases (show u=Value.ref a from rx);obtain ⟨_,_,n,_,h1⟩:=(show bJ X.prog X.w H s.heap a (.lst xs) from I.hok a _ ea);exact W.kia_one W.kitx_list I.kIn ⟨_,h1,rfl⟩ e (fun z=>nomatch z) h
 | @frz a ob xs ea =>
   cases (show u=Value.ref a from rx);obtain ⟨_,_,_,n,_,h1⟩:=(show bJ X.prog X.w H s.heap a (.frz ob (.lst xs)) from I.hok a _ ea);exact W.kia_one W.kitx_list I.kIn ⟨_,h1,rfl⟩ e (fun z=>nomatch z) h
 | @tup a xs ea =>
   cases (show u=Value.ref a from rx);obtain ⟨_,_,_,p⟩:=(show bJ X.prog X.w H s.heap a (.tup xs) from I.hok a _ ea);obtain ⟨o,h1,h2,_⟩:=p.1;exact W.kia_one W.kitx_tuple I.kIn ⟨o,h1,h2⟩ e (fun z=>nomatch z) h
 | @dK a kvs ea =>
   cases (show u=Value.ref a from rx);obtain ⟨_,_,vs,_,p⟩:=(show bJ X.prog X.w H s.heap a (.dK kvs) from I.hok a _ ea);obtain ⟨o,es,ep,h1,h2,_⟩:=p;exact W.kia_one W.kitx_dict I.kIn ⟨o,h1,h2.1⟩ e (fun z=>nomatch z) h
 | @dT a kvs ea =>
   cases (show u=Value.ref a from rx);obtain ⟨_,_,xs,_,o,es,ep,h1,h2,_⟩:=(show bJ X.prog X.w H s.heap a (.dT kvs) from I.hok a _ ea);exact W.kia_one W.kitx_dict I.kIn ⟨o,h1,h2.1⟩ e (fun z=>nomatch z) h
 | @ins a C dx fs ea cl ha hn htk hm =>
   cases (show u=Value.ref a from rx);obtain ⟨mA,O,_⟩:=rO I.hok ea;obtain ⟨od,J,_⟩:=O.look;exact W.kia_one (W.kitx_own (cl.get _) cl.hd ha hn htk hm) I.kIn J e (fun z=>nomatch z) h
end
structure aU (k:Nat) (A:Around):Prop where
 hd:40≤k→A.handled=none
 dp:A.depth + 3 * k + 5 < recursionLimit
 un:A.units + 16 * k + 200 < cLine
 gd:80≤k→A.guards=some []
theorem aU.mono {j k:Nat} {A:Around} (r:aU k A) (h:j≤k):aU j A:=⟨fun z=>r.hd (Nat.le_trans z h),by have:=r.dp; omega,by have:=r.un; omega,fun z=>r.gd (Nat.le_trans z h)⟩
theorem aU.deeper {k:Nat} {A:Around} (r:aU (k + 1) A) (env:Env):aU k (A.deeper env) :=
 ⟨fun z=>r.hd (Nat.le_succ_of_le z),by have:=r.dp; show A.depth + 1 + 3 * k + 5 < _; omega,by have:=r.un; show A.units + 3 + 16 * k + 200 < _; omega,fun z=>r.gd (Nat.le_succ_of_le z)⟩
theorem aU.in1 {k:Nat} {A:Around} (r:aU (k + 1) A):aU k A.in1 :=
 ⟨fun z=>r.hd (Nat.le_succ_of_le z),by have:=r.dp; show A.depth + 3 * k + 5 < _; omega,by have:=r.un; show A.units + 1 + 16 * k + 200 < _; omega,fun z=>r.gd (Nat.le_succ_of_le z)⟩
theorem GH {A:Around} {C:Addr} {us:List Value} {kw:List (Str×Value)}:(A.under (.builtin "type.__call__" ⟨.ref C :: us,kw⟩)).depth=A.depth + 1:=by
 first | rfl | simp [Around.under,Code.weight,Code.isCreation,Code.isGuard,Code.isCaller,Code.frames,Code.isFrame,guardIds]
theorem EL {A:Around} {C:Addr} {us:List Value} {kw:List (Str×Value)}:(A.under (.builtin "type.__call__" ⟨.ref C :: us,kw⟩)).units=A.units + 1:=by
 first | rfl | simp [Around.under,Code.cUnits,Code.frames,Code.isFrame]
theorem aU.make {k:Nat} {A:Around} (r:aU (k + 1) A) (C:Addr) (us:List Value) (kw:List (Str×Value)):aU k (A.under (.builtin "type.__call__" ⟨.ref C :: us,kw⟩)) :=
 ⟨fun z=>r.hd (Nat.le_succ_of_le z),by have:=r.dp; rw [GH]; omega,by have:=r.un; rw [EL]; omega,fun z=>by
   have e:=r.gd (Nat.le_succ_of_le z);first | exact e | (simp only [Around.under,Code.isGuard,guardIds]; simpa using e)⟩
theorem aU.depth {k:Nat} {A:Around} (r:aU k A):A.depth < recursionLimit:=by have:=r.dp; omega
theorem aU.units {k:Nat} {A:Around} (r:aU k A):A.units + 64 < cLine:=by have:=r.un; omega
theorem aU.units0 {k:Nat} {A:Around} (r:aU k A):A.units < cLine:=by have:=r.un; omega
def aHN:TA:=fun _ H Q=>Q [] H
def aBc (ta:TE) (tr:TA):TA:=fun σ H Q=>ta σ H fun x H1=>tr σ H1 fun xs H2=>Q (x :: xs) H2
section
variable {X:Cx} {e:Expr} {es:List Expr} {te:TE} {t:TA} {pos:Pos}
theorem gL:PA X [] aHN:=fun _ _ _ _ H Q I h=>Calls.spliced_nil ⟨[],H,I,.nil,h⟩
theorem cZ (ha:PE X e te) (hr:PA X es t) (hs:starEach (e :: es) X.env=(false,eval e X.env) :: starEach es X.env:=by rfl):PA X (e :: es) (aBc te t):=by
 intro pos pins s σ H Q I h;rw [hs];show wpAny _ _ (spliced ((false,eval e X.env) :: backTo pos (starEach es X.env))) _ _ s;refine Calls.spliced_cons (thn (ha pins s σ H _ I h) fun u s1 zz=>?_);obtain ⟨x,H1,I1,r1,q1⟩:=zz;exact thn (hr pos pins s1 σ H1 _ I1 q1) <|by rintro us s2 ⟨xs,H2,I2,r2,q2⟩;exact ⟨x :: xs,H2,I2,.cons r1 r2,q2⟩
def aJy (t:TA):TE:=fun σ H Q=>t σ H fun xs H1=>xs.length≤sizeLine∧∀ p,H1 p=none→Q (.ref p) (upd H1 p (.tup xs))
def aJK (t:TA):TE:=fun σ H Q=>t σ H fun xs H1=>xs.length≤sizeLine∧∀ p,H1 p=none→Q (.ref p) (upd H1 p (.lst xs))
theorem aCK {x1} (h:PA X es t):PE X (.Tuple es x1 pos) (aJy t):=by
 intro pins s σ H Q I hq;refine wpAny_Tuple_spliced (thn (h pos pins s σ H _ I hq) fun us s1 ⟨xs,H1,I1,r,z,q⟩=>⟨by rw [←r.length]; exact z, ?_⟩);have hf:H1 s1.heap.objs.size=none:=I1.hok.fresh (Nat.le_refl _);refine ⟨.ref s1.heap.objs.size,upd H1 s1.heap.objs.size (.tup xs),I1.laid (t':=s1.toks) (fun b u e=>wEq _ e) (Nat.le_refl _) ?_,rfl,q _ hf⟩;exact ⟨z,us,r,fO.new _ _⟩
theorem aFf (h:PA X es t):PE X (.List es pos) (aJK t):=by
 intro pins s σ H Q I hq;refine wpAny_List_spliced (thn (h pos pins s σ H _ I hq) fun us s1 ⟨xs,H1,I1,r,z,q⟩=>⟨by rw [←r.length]; exact z, ?_⟩);have hf:H1 s1.heap.objs.size=none:=I1.hok.fresh (Nat.le_refl _);refine ⟨.ref s1.heap.objs.size,upd H1 s1.heap.objs.size (.lst xs),I1.laid (t':=s1.toks) (fun b u e=>wEq _ e) (Nat.le_refl _) ?_,rfl,q _ hf⟩;exact ⟨z,us,0,r,wGq _ rfl⟩
end
noncomputable abbrev Sp:=List V→Hp→VK→XK→Prop
noncomputable abbrev CXT:=List Env→Hp→Shared→XK→Value→Shared→Prop
structure oU (P:Program) (w:World) (K:W.Frag) (mg:Str→Option Value) (base:Heap) (A:Around) (outer:List Env) (s:Shared) (H:Hp):Prop where
 frames:A.frames=some outer
 mod:Mod K mg base
 bs:∀ b o,base.get? b=some o→s.heap.get? b=some o∧H b=none
 bsz:base.objs.size≤s.heap.objs.size
 funs:s.heap.FunFrames base outer
 frf:∀ b∈frs outer,H b=none
 hok:HOk P w H s.heap
 bare:AllBare s.gens
noncomputable def CE (outer:List Env) (P:Program) (w:World) (H:Hp) (s:Shared) (Q:VK) (u:Value) (s':Shared):Prop :=
 ∃ v H',s'.os=s.os∧AllBare s'.gens∧Un (frs outer) [] H H' s.heap s'.heap∧HOk P w H' s'.heap∧aQ v u∧Q v H'
noncomputable def CR (CX:CXT) (outer:List Env) (P:Program) (w:World) (H:Hp) (s:Shared) (Q:VK) (E:XK) (r:Result) (s':Shared):Prop :=
 match r with
 | .ok (.ret u)=>CE outer P w H s Q u s'
 | .ok _=>False
 | .error e=>CX outer H s E e s'
structure bC (P:Program) (w:World) (K:W.Frag) (mg:Str→Option Value) (base:Heap) (CX:CXT) (k:Nat) (f:Addr) (fd:FuncData) (ps:List Str) (sp:Sp):Prop where
 len:∀ vs H Q E,sp vs H Q E→vs.length=ps.length
 run:∀ (A:Around) (outer:List Env) (s:Shared) (H:Hp) (args:Args) (us:List Value) (vs:List V) (Q:VK) (E:XK),aU k A→oU P w K mg base A outer s H→BindsTo s fd args (ps.zip us)→aO vs us→sp vs H Q E→
   codeAny (model P w) A (.call (.ref f) args) (CR CX outer P w H s Q E) s
theorem bC.mono {P:Program} {w:World} {K:W.Frag} {mg:Str→Option Value} {base:Heap} {CX:CXT} {j k:Nat} {f:Addr} {fd:FuncData} {ps:List Str} {sp:Sp} (F:bC P w K mg base CX j f fd ps sp) (h:j≤k) :
   bC P w K mg base CX k f fd ps sp:=⟨F.len,fun A outer s H args us vs Q E hr=>F.run A outer s H args us vs Q E (hr.mono h)⟩
theorem bC.imp {P:Program} {w:World} {K:W.Frag} {mg:Str→Option Value} {base:Heap} {CX:CXT} {k:Nat} {f:Addr} {fd:FuncData} {ps:List Str} {sp sp':Sp} (F:bC P w K mg base CX k f fd ps sp)
   (h:∀ vs H Q E,sp' vs H Q E→sp vs H Q E):bC P w K mg base CX k f fd ps sp' :=
 ⟨fun vs H Q E q=>F.len vs H Q E (h _ _ _ _ q),fun A outer s H args us vs Q E hr he hb hv hs=>F.run A outer s H args us vs Q E hr he hb hv (h _ _ _ _ hs)⟩
theorem oU.make {P:Program} {w:World} {K:W.Frag} {mg:Str→Option Value} {base:Heap} {A:Around} {outer:List Env} {s:Shared} {H:Hp} (e:oU P w K mg base A outer s H) (C:Addr) (us:List Value) (kw:List (Str×Value)) :
   oU P w K mg base (A.under (.builtin "type.__call__" ⟨.ref C :: us,kw⟩)) outer s H:=⟨by first | exact e.frames | (simpa [Around.under,Code.envs,Code.isFrame,pushEnvs] using e.frames),e.mod,e.bs,e.bsz,e.funs,e.frf,e.hok,e.bare⟩
theorem oU.in1 {P:Program} {w:World} {K:W.Frag} {mg:Str→Option Value} {base:Heap} {A:Around} {outer:List Env} {s:Shared} {H:Hp} (e:oU P w K mg base A outer s H) :
   oU P w K mg base A.in1 outer s H:=⟨e.frames,e.mod,e.bs,e.bsz,e.funs,e.frf,e.hok,e.bare⟩
section
variable {X:Cx} {pins:List (Addr×Obj)} {σ:St} {H:Hp} {s s':Shared}
theorem Inv.env0 (I:Inv X pins σ H s):oU X.prog X.w X.K X.mg X.base X.A X.stack s H :=
 ⟨I.ok.frames,I.ok.mod,I.bs,Nat.le_trans I.ok.bsz I.sz,I.stack,I.stkFree,I.hok,I.bare⟩
theorem Inv.after {Q:VK} {u:Value} (I:Inv X pins σ H s) (h:CE X.stack X.prog X.w H s Q u s'):EP X pins σ Q u s':=by
 obtain ⟨v,H',os,bare,un,hok,r,q⟩:=h;obtain ⟨hh,g,d,t,os'⟩:=s';obtain rfl:os'=s.os:=os;exact ⟨v,H',I.call (h':=hh) (g':=g) (d':=d) (t':=t) (ch:=[]) un hok bare (fun b z=>absurd z (by simp)),r,q⟩
end
def aF9 (sp:Sp) (dvs:List V) (E:XK) (t:TA):TE:=fun σ H Q=>t σ H fun vs H1=>sp (vs ++ dvs) H1 Q E
def aGj (C:Addr) (sp:Sp) (dvs:List V) (E:XK) (t:TA):TE:=fun σ H Q=>t σ H fun vs H1=>∀ x dx,H1 x=none→H1 dx=none→dx≠x→
 sp (.ref x :: (vs ++ dvs)) (upd (upd H1 dx (.own x)) x (.ins C dx [])) (fun v H2=>v= .non∧Q (.ref x) H2) E
noncomputable def aL (K:W.Frag) (fd:FuncData) (ps:List Str) (ds:List Value):Prop :=
 ∀ (s:Shared) (us:List Value),K.In s.heap→(us ++ ds).length=ps.length→BindsTo s fd ⟨us,[]⟩ (ps.zip (us ++ ds))
def iB (CX:CXT) (X:Cx) (E:XK):Prop:= ∀ (pins:List (Addr×Obj)) (σ:St) (H:Hp) (s:Shared) (e:Value) (s':Shared),Inv X pins σ H s→CX X.stack H s E e s'→X.xe e s'
section
variable {X:Cx} {CX:CXT} {k:Nat} {f C:Addr} {fd:FuncData} {ps:List Str} {sp:Sp} {dvs:List V} {ds:List Value} {E:XK} {x m:Str} {p pos apos:Pos} {e o:Expr} {es:List Expr} {ta:TE} {t:TA}
theorem aC5 {pins:List (Addr×Obj)} {σ:St} {H:Hp} {s:Shared} {Q:VK} {us:List Value} {vs:List V} (F:bC X.prog X.w X.K X.mg X.base CX k f fd ps sp) (hr:aU k X.A) (hb:aL X.K fd ps ds) (hd:aO dvs ds) (hx:iB CX X E)
   (I:Inv X pins σ H s) (r:aO vs us) (h:sp (vs ++ dvs) H Q E):wpAny (model X.prog X.w) X.A (call (.ref f) us) (EP X pins σ Q) X.xe s:=by
 have r2:aO (vs ++ dvs) (us ++ ds):=r.append hd;have hl:(us ++ ds).length=ps.length:=by rw [←r2.length]; exact F.len _ _ _ _ h
 refine wpAny_call (codeAny_mono (F.run X.A X.stack s H ⟨us,[]⟩ (us ++ ds) (vs ++ dvs) Q E hr I.env0 (hb s us I.kIn hl) r2 h) fun r s' hq=>?_);cases r with
 | error e=>exact hx pins σ H s e s' I hq
 | ok fl =>
   cases fl with
   | ret u=>exact I.after hq
   | next=>exact False.elim hq
   | brk=>exact False.elim hq
   | cont=>exact False.elim hq
theorem WW (F:bC X.prog X.w X.K X.mg X.base CX k f fd ps sp) (hr:aU k X.A) (hg:Gl X x) (hm:X.mg x=some (.ref f)) (hk:W.keepIn X.K (.ref f)=true) (hb:aL X.K fd ps ds) (hd:aO dvs ds) (hx:iB CX X E)
   (ha:PA X (e :: es) t) (hdb:(x == ("__debug__":Str))=false:=by decide) (he:starEach (e :: es) X.env=(false,eval e X.env) :: starEach es X.env:=by rfl) (hpl:(backTo pos (starEach es X.env)).any (·.1)=false:=by rfl) :
   PE X (.Call (.Name x p) (e :: es) [] pos) (aF9 sp dvs E t):=by
 intro pins s σ H Q I h;refine wpAny_Call_Name_kw (eV I hg hm ?_ hdb);refine W.callWith_K (h₀:=X.base) I.ok.mod.kin hk (thn (ha pos pins s σ H _ I h) fun us s1 ⟨vs,H1,I1,r,q⟩=>⟨I1.kIn, ?_⟩) he hpl;exact aC5 F hr hb hd hx I1 r q
structure Mk (K:W.Frag) (C f:Addr):Prop where
 makes:W.makesIn K C=true
 init:W.findIn K (.ref C) "__init__"=some (some (.ref f))
 fn:W.isFn K (.ref f)=true
 kp:W.keepIn K (.ref C)=true
theorem RZ {pins:List (Addr×Obj)} {σ:St} {H:Hp} {s:Shared} {Q:VK} {us:List Value} {vs:List V} (M:Mk X.K C f) (F:bC X.prog X.w X.K X.mg X.base CX k f fd ps sp) (hr:aU (k + 1) X.A) (hb:aL X.K fd ps ds) (hd:aO dvs ds)
   (hx:iB CX X E) (I:Inv X pins σ H s) (r:aO vs us)
   (h:∀ x dx,H x=none→H dx=none→dx≠x→sp (.ref x :: (vs ++ dvs)) (upd (upd H dx (.own x)) x (.ins C dx [])) (fun v H2=>v= .non∧Q (.ref x) H2) E) :
   wpAny (model X.prog X.w) X.A (call (.ref C) us) (EP X pins σ Q) X.xe s:=by
 have hq:=h (s.heap.objs.size + 1) s.heap.objs.size (I.hok.fresh (Nat.le_succ _)) (I.hok.fresh (Nat.le_refl _)) (Nat.ne_of_lt (Nat.lt_succ_self _));have I2:=Inv.made (C:=C) I;have r2:aO (V.ref (s.heap.objs.size + 1) :: (vs ++ dvs)) (Value.ref (s.heap.objs.size + 1) :: (us ++ ds)):=.cons rfl (r.append hd);have hl:(Value.ref (s.heap.objs.size + 1) :: us ++ ds).length=ps.length:=by
   have e:=r2.length;rw [F.len _ _ _ _ hq] at e;exact e.symm
 refine wpAny_call (sZ (f:=f) I.kIn M.makes M.init (beq_iff_eq.mp M.fn) (codeAny_mono (F.run _ X.stack _ _ ⟨Value.ref (s.heap.objs.size + 1) :: us,[]⟩ (Value.ref (s.heap.objs.size + 1) :: (us ++ ds)) _ _ E (hr.make C us [])
   (I2.env0.make C us []) (hb _ (Value.ref (s.heap.objs.size + 1) :: us) I2.kIn hl) r2 hq) fun r s' hq'=>?_))
 cases r with
 | error e=>exact hx pins σ _ _ e s' I2 hq'
 | ok fl =>
   cases fl with
   | ret u =>
     obtain ⟨v,H',I3,rv,ev,q3⟩:=I2.after hq';subst ev;exact ⟨rv,⟨V.ref (s.heap.objs.size + 1),H',I3,rfl,q3⟩⟩
   | next=>exact False.elim hq'
   | brk=>exact False.elim hq'
   | cont=>exact False.elim hq'
theorem aAw (M:Mk X.K C f) (F:bC X.prog X.w X.K X.mg X.base CX k f fd ps sp) (hr:aU (k + 1) X.A) (hg:Gl X x) (hm:X.mg x=some (.ref C)) (hb:aL X.K fd ps ds) (hd:aO dvs ds) (hx:iB CX X E)
   (ha:PA X (e :: es) t) (hdb:(x == ("__debug__":Str))=false:=by decide) (he:starEach (e :: es) X.env=(false,eval e X.env) :: starEach es X.env:=by rfl) (hpl:(backTo pos (starEach es X.env)).any (·.1)=false:=by rfl) :
   PE X (.Call (.Name x p) (e :: es) [] pos) (aGj C sp dvs E t):=by
 intro pins s σ H Q I h;refine wpAny_Call_Name_kw (eV I hg hm ?_ hdb);refine W.callWith_K (h₀:=X.base) I.ok.mod.kin M.kp (thn (ha pos pins s σ H _ I h) fun us s1 ⟨vs,H1,I1,r,q⟩=>⟨I1.kIn, ?_⟩) he hpl;exact RZ M F hr hb hd hx I1 r q
end
noncomputable def PK (X:Cx) (kws:List Keyword) (t:TA):Prop :=
 ∀ (pos:Pos) (pins:List (Addr×Obj)) (s:Shared) (σ:St) (H:Hp) (Q:List V→Hp→Prop),Inv X pins σ H s→t σ H Q→wpAny (model X.prog X.w) X.A (evalAll ((backToKw pos (keywordEach kws X.env)).map (·.2))) (AP X pins σ Q) X.xe s
section
variable {X:Cx} {CX:CXT} {k:Nat} {f C:Addr} {fd:FuncData} {ps ks:List Str} {sp:Sp} {E:XK} {x m:Str} {p pos apos kpos:Pos} {e o:Expr} {es:List Expr} {kws:List Keyword} {te ta:TE} {t tk:TA} {nm:Option Str}
theorem aEk:PK X [] aHN:=fun _ _ _ _ H Q I h=>wpAny_evalAll_nil ⟨[],H,I,.nil,h⟩
theorem aAp (ha:PE X e te) (hr:PK X kws t):PK X (⟨nm,e,kpos⟩ :: kws) (aBc te t):=by
 intro pos pins s σ H Q I h;show wpAny _ _ (evalAll ((do let v ←eval e X.env; standAt pos; pure v) :: (backToKw pos (keywordEach kws X.env)).map (·.2))) _ _ s;refine wpAny_evalAll_cons (wAq (thn (ha pins s σ H _ I h) fun u s1 ⟨x,H1,I1,r1,q1⟩=>wAq (wpAny_standAt (wBq ?_))));exact thn (hr pos pins s1 σ H1 _ I1 q1) <|by rintro us s2 ⟨xs,H2,I2,r2,q2⟩;exact ⟨x :: xs,H2,I2,.cons r1 r2,q2⟩
variable {g:List Value→List Value→List Value} {gV:List V→List V→List V}
end
structure yJ (N P:List Str) (sc:Scope):Prop where
 kind:sc.kind= .function
 co:sc.isCoroutine=false
 gen:sc.isGenerator=false
 nd:N.Nodup
 pre:N.take P.length=P
 par:∀ x∈P,sc.names.lookup x=some .local∨sc.names.lookup x=some .cell
 nofree:∀ y∈sc.names,y.2≠.free
theorem wP {kindOf:Str→Option NameKind} {x:Str}:∀ {binds:List (Str×Value)} {m:Str→Option Value},(∀ v,(x,v)∉ binds)→bindL kindOf binds m x=m x
 | [],_,_=>rfl
 | (n,v) :: r,m,h=>by
   unfold bindL;rw [wP fun w hw=>h w (wCq _ hw)];split
   · have:x≠n:=by rintro rfl; exact h v wDq
     simp [this]
   · rfl
theorem wN {kindOf:Str→Option NameKind} {x:Str}:∀ {binds:List (Str×Value)} {m:Str→Option Value},(∀ v,(x,v)∉ binds)→bindC kindOf binds m x=m x
 | [],_,_=>rfl
 | (n,v) :: r,m,h=>by
   unfold bindC;rw [wN fun w hw=>h w (wCq _ hw)];split
   · rfl
   · have:x≠n:=by rintro rfl; exact h v wDq
     simp [this]
theorem wT {kindOf:Str→Option NameKind} {x:Str} {v:Value}:∀ {P:List Str} {vs:List Value} {i:Nat} {m:Str→Option Value},P.Nodup→P[i]? =some x→vs[i]? =some v→kindOf x=some .local→
   bindL kindOf (P.zip vs) m x=some v
 | [],_,_,_,_,h,_,_=>by simp at h
 | _ :: _,[],_,_,_,_,h,_=>by simp at h
 | p :: P,w :: vs,0,m,nd,h1,h2,hk=>by
   simp at h1 h2; subst h1; subst h2
   show bindL kindOf ((p,w) :: P.zip vs) m p=_;unfold bindL;rw [wP fun v hv=>(List.nodup_cons.mp nd).1 (List.of_mem_zip hv).1,if_pos hk];simp
 | p :: P,w :: vs,i + 1,m,nd,h1,h2,hk=>by
   show bindL kindOf ((p,w) :: P.zip vs) m x=_;unfold bindL;exact wT (i:=i) (List.nodup_cons.mp nd).2 (by simpa using h1) (by simpa using h2) hk
theorem wQ {kindOf:Str→Option NameKind} {x:Str} {v:Value}:∀ {P:List Str} {vs:List Value} {i:Nat} {m:Str→Option Value},P.Nodup→P[i]? =some x→vs[i]? =some v→kindOf x≠some .local→
   bindC kindOf (P.zip vs) m x=some v
 | [],_,_,_,_,h,_,_=>by simp at h
 | _ :: _,[],_,_,_,_,h,_=>by simp at h
 | p :: P,w :: vs,0,m,nd,h1,h2,hk=>by
   simp at h1 h2; subst h1; subst h2
   show bindC kindOf ((p,w) :: P.zip vs) m p=_;unfold bindC;rw [wN fun v hv=>(List.nodup_cons.mp nd).1 (List.of_mem_zip hv).1,if_neg hk];simp
 | p :: P,w :: vs,i + 1,m,nd,h1,h2,hk=>by
   show bindC kindOf ((p,w) :: P.zip vs) m x=_;unfold bindC;exact wQ (i:=i) (List.nodup_cons.mp nd).2 (by simpa using h1) (by simpa using h2) hk
noncomputable def start (N:List Str) (vs:List V):St:=vs.map some ++ List.replicate (N.length - vs.length) none
noncomputable def ND (CX:CXT) (P:Program) (w:World) (K:W.Frag) (mg:Str→Option Value) (base:Heap) (N:List Str) (qual:Str) (scope:Scope) (f:Addr) (cd:Value) (A:Around) (outer:List Env) (s:Shared) (H:Hp) (E:XK):Cx where
 prog:=P
 w:=w
 K:=K
 mg:=mg
 base:=base
 A:=A.deeper (envOfC qual scope s.heap.objs.size f cd)
 N:=N
 s₀:=s
 H₀:=H
 env:=envOfC qual scope s.heap.objs.size f cd
 outer:=outer
 stack:=envOfC qual scope s.heap.objs.size f cd :: outer
 ex:=[]
 calm:=A.handled.isNone
 fn:=fun _=>true
 pn:=[]
 xe:=fun e s'=>wpAny (model P w) (A.deeper (envOfC qual scope s.heap.objs.size f cd)) (leaving (envOfC qual scope s.heap.objs.size f cd) e) (fun _ s''=>CX outer H s E e s'') (fun e' s''=>CX outer H s E e' s'') s'
theorem sX {sc:Scope} {n:Nat} {x:Str} (h:sc.names.lookup x=some .cell):∃ c,(cellsFrom n sc.names []).lookup x=some c:=by
 have q:=W.cellsFrom_some sc.names n [] (.inl h);exact Option.isSome_iff_exists.mp q
theorem JF {CX:CXT} {P:Program} {w:World} {K:W.Frag} {mg:Str→Option Value} {base:Heap} {N ps:List Str} {qual:Str} {scope:Scope} {f:Addr} {cd:Value} {A:Around} {outer:List Env} {s s1:Shared} {H:Hp} {E:XK} {us:List Value} {vs:List V}
   (S:yJ N ps scope) (e0:oU P w K mg base A outer s H) (hl:vs.length=ps.length) (r:aO vs us)
   (x:InCallC s s.heap.objs.size (bindL (envOfC qual scope s.heap.objs.size f cd).kindOf (ps.zip us) fun _=>none) (cellsFrom (s.heap.objs.size + 1) scope.names []) (bindC (envOfC qual scope s.heap.objs.size f cd).kindOf (ps.zip us) fun _=>none) s1) :
   Inv (ND CX P w K mg base N qual scope f cd A outer s H E) [] (start N vs) H s1:=by
 have hpl:ps.length≤N.length:=by have:=congrArg List.length S.pre; rw [List.length_take] at this; omega
 obtain ⟨h1,tk,rfl,hk⟩:=x.done;have noA:∀ b:Addr,b∉ (ND CX P w K mg base N qual scope f cd A outer s H E).ex:=fun b z=>absurd (show b∈([]:List Addr) from z) (by simp);refine ⟨⟨e0.mod,S.kind,rfl,rfl,Nat.le_refl _,fun y z c h1 h2=>?_,fun y hy=>?_,fun y c _ h=>?_,fun z=>Option.isNone_iff_eq_none.mp z,Around.frames_deeper e0.frames,.inr ⟨rfl,rfl⟩,fun b z=>absurd z (noA b),e0.bs,e0.bsz,fun b _ _=>noA b,fun b z=>absurd z (noA b),e0.funs,e0.frf⟩,
   rfl,e0.bare,Un.kept hk,⟨_,x.toInCall.ns,fun i y v h1 h2 h3=>?_⟩,fun y c h=>⟨_,x.cell y c h⟩,e0.hok.fresh (Nat.le_refl _),fun y c h=>?_,fun p hp=>absurd (show p∈([]:List (Addr×Obj)) from hp) (by simp),e0.hok.kept hk, ?_⟩
 · exact name_of_addr x.apart (PySem.mem_of_lookup h1) (PySem.mem_of_lookup h2)
 · have hy:scope.names.lookup y=some .cell∨scope.names.lookup y=some .free:=hy;rcases hy with hy | hy
   · exact sX hy
   · exact absurd rfl (S.nofree _ (PySem.mem_of_lookup hy))
 · exact Nat.le_of_lt (x.above y c (PySem.mem_of_lookup h))
 · have hi:i < vs.length:=by
     unfold start at h2;by_cases hi:i < vs.length
     · exact hi
     · rw [List.getElem?_append_right (by simpa using hi)] at h2;rw [List.getElem?_replicate] at h2;split at h2 <;> cases h2
   have ha:vs[i]? =some v:=by
     unfold start at h2;rw [List.getElem?_append_left (by simpa using hi),List.getElem?_map] at h2;cases e:vs[i]? with
     | none=>rw [e] at h2; cases h2
     | some a=>rw [e] at h2; cases h2; rfl
   obtain ⟨u,hu,rv⟩:=r.get ha;have hp:ps[i]? =some y:=by
     rw [←S.pre,List.getElem?_take_of_lt (by omega)]; exact h1
   have ndP:ps.Nodup:=by rw [←S.pre]; exact S.nd.sublist (List.take_sublist _ _)
   refine ⟨u,rv, ?_⟩;rcases S.par y (List.mem_of_getElem? hp) with k | k
   · exact .inl ⟨k,wT ndP hp hu k⟩
   · obtain ⟨c,e⟩:=sX (n:=s.heap.objs.size + 1) k;refine .inr ⟨.inl k,c,e, ?_⟩;have q:=x.cell y c e;rw [wQ ndP hp hu (by show scope.names.lookup y≠_; rw [k]; decide)] at q;exact q
 · exact e0.hok.fresh (Nat.le_of_lt (x.above y c (PySem.mem_of_lookup h)))
 · unfold start;show _=N.length;rw [List.length_append,List.length_map,List.length_replicate];omega
theorem aHx {CX:CXT} {P:Program} {w:World} {K:W.Frag} {mg:Str→Option Value} {base:Heap} {k:Nat} {f:Addr} {name qual:Str} {params:Arguments} {body:List Stmt} {scope:Scope} {dV kV doc pm cdv ct oc:Value} {an od:Option Addr}
   {osl:Array (Option Value)} {N ps:List Str} {sp:Sp} (lk:K.lookup f=some ⟨oc,od,.func (W.fnOf name qual params body scope dV kV doc pm an cdv ct),osl⟩) (hcd:W.codeIn K cdv qual=true) (S:yJ N ps scope)
   (len:∀ vs H Q E,sp vs H Q E→vs.length=ps.length)
   (hbody:∀ (A:Around) (outer:List Env) (s:Shared) (H:Hp) (vs:List V) (Q:VK) (E:XK),aU k (A.deeper (envOfC qual scope s.heap.objs.size f cdv))→sp vs H Q E→
     ∃ t,PSs (ND CX P w K mg base N qual scope f cdv A outer s H E) body t∧t { nx:=fun _ H'=>Q .non H',rt:=Q } (start N vs) H) :
   bC P w K mg base CX (k + 1) f (W.fnOf name qual params body scope dV kV doc pm an cdv ct) ps sp:=by
 refine ⟨len,fun A outer s H args us vs Q E hr e0 hb r hsp=>?_⟩;have hl:=len _ _ _ _ hsp;have KX:K.In s.heap:=e0.mod.kin.keeps fun b o e=>(e0.bs b o e).1;have lim:s.heap.NoLimit:=e0.mod.nolimit.keeps fun b o e=>(e0.bs b o e).1;have hkind:∀ y∈ps.zip us,scope.names.lookup y.1=some .local∨(scope.names.lookup y.1=some .cell∧((cellsFrom (s.heap.objs.size + 1) scope.names []).lookup y.1).isSome=true):=by
   rintro ⟨n,v⟩ hy;rcases S.par n (List.of_mem_zip hy).1 with q | q
   · exact .inl q
   · exact .inr ⟨q,W.cellsFrom_some _ _ _ (.inl q)⟩
 refine codeAny_call_function hr.depth (KX _ _ lk) rfl S.co S.gen rfl (W.codeRec_of KX hcd) (hb _ _ _ _ ?_);refine wpAny_newFunctionEnv_cells S.kind hkind fun env he s1 x=>?_;subst he;refine ⟨lim.keeps x.toInCall.keep,codeAny_func ?_⟩;obtain ⟨t,ht,hq⟩:=hbody A outer s H vs Q E (hr.deeper _) hsp;have I:Inv (ND CX P w K mg base N qual scope f cdv A outer s H E) [] (start N vs) H s1:=JF S e0 hl r x;refine wpAny_mono (ht [] s1 (start N vs) H _ I hq) (fun fl s' hs=>?_) fun e s' hs=>hs;have fin:∀ {σ':St} {H':Hp} {v:V} {u:Value},Inv (ND CX P w K mg base N qual scope f cdv A outer s H E) [] σ' H' s'→aQ v u→Q v H'→CE outer P w H s Q u s' :=
   fun {σ' H' v u} J rv q=>⟨v,H',J.os,J.bare,J.base,J.hok,rv,q⟩
 cases fl with
 | ret u =>
   obtain ⟨v,σ',H',J,rv,q⟩:=hs;exact fin J rv q
 | next =>
   obtain ⟨σ',H',J,q⟩:=hs;exact fin (v:=V.non) (u:=Value.none) J rfl q
 | brk =>
   obtain ⟨_,_,_,q⟩:=hs;exact False.elim q
 | cont =>
   obtain ⟨_,_,_,q⟩:=hs;exact False.elim q
section
variable {X:Cx} {x:Str} {p pos:Pos} {e:Expr} {es:List Expr} {t:TA} {id T:String} {r:List V→Hp→VK→Prop}
def tCB (r:List V→Hp→VK→Prop) (t:TA):TE:=fun σ H Q=>t σ H fun vs H1=>r vs H1 Q
theorem BZ (hc:bK X (.builtin id) r) (hg:Gl X x) (hm:X.mg x=none) (hv:bootBuiltins x=some (.builtin id)) (ha:PA X (e :: es) t) (hn:x≠"__name__":=by decide) (hdb:(x == ("__debug__":Str))=false:=by decide)
   (he:starEach (e :: es) X.env=(false,eval e X.env) :: starEach es X.env:=by rfl) (hpl:(backTo pos (starEach es X.env)).any (·.1)=false:=by rfl):PE X (.Call (.Name x p) (e :: es) [] pos) (tCB r t):=by
 intro pins s σ H Q I h;refine wpAny_Call_Name_kw (nW I hg hm hv ?_ hn hdb);exact PyProof.Rows.callWith_builtin1 (thn (ha pos pins s σ H _ I h) <|by rintro us s1 ⟨vs,H1,I1,r1,q1⟩;exact hc pins s1 σ H1 vs us Q I1 r1 q1) he hpl
theorem wI (hc:bK X (.type T) r) (hg:Gl X x) (hm:X.mg x=none) (hv:bootBuiltins x=some (.type T)) (ha:PA X (e :: es) t) (hn:x≠"__name__":=by decide) (hdb:(x == ("__debug__":Str))=false:=by decide)
   (he:starEach (e :: es) X.env=(false,eval e X.env) :: starEach es X.env:=by rfl) (hpl:(backTo pos (starEach es X.env)).any (·.1)=false:=by rfl):PE X (.Call (.Name x p) (e :: es) [] pos) (tCB r t):=by
 intro pins s σ H Q I h;refine wpAny_Call_Name_kw (nW I hg hm hv ?_ hn hdb);exact PyProof.Rows.callWith_type1 (thn (ha pos pins s σ H _ I h) <|by rintro us s1 ⟨vs,H1,I1,r1,q1⟩;exact hc pins s1 σ H1 vs us Q I1 r1 q1) he hpl
end
end L2
namespace HT
open PySem PyProof.Rows
noncomputable def wM:List Int→List Int→Bool
 | [],[]=>false
 | [],_ :: _=>true
 | _ :: _,[]=>false
 | x :: xs,y :: ys=>if x=y then wM xs ys else decide (x < y)
theorem aEr (x y:Int) (xs ys:List Int):wM (x :: xs) (y :: ys)=if x=y then wM xs ys else decide (x < y):=rfl
theorem WE:wM [] []=false:=rfl
theorem QB (y:Int) (ys:List Int):wM [] (y :: ys)=true:=rfl
theorem UN (x:Int) (xs:List Int):wM (x :: xs) []=false:=rfl
section
open PySem.SeqAt
open PySem.AutoSeq1 (wpAny_loadPart')
open PySem.MeetsSeq PySem.MeetsSeq2 PySem.MeetsSeq3
end
section
variable {prog:Program} {w:World} {A:Around} {E:Value→Shared→Prop} {s:Shared}
theorem aAi {t b:Addr} {vs ws:List Value} {Q:Value→Shared→Prop} (ht:IsTup s.heap t vs.toArray) (hb:IsTup s.heap b ws.toArray) (hv:vs≠ [])
   (h1:ws=[]→Q (.ref t) s) (h2:ws≠ []→Q (.ref s.heap.objs.size) { s with heap:=s.heap.push { cls:=.type "tuple",data:=.seq (vs ++ ws).toArray } })
   (hsz:vs.length + ws.length≤sizeLine):wpAny (model prog w) A (binaryOp .Add (.ref t) (.ref b)) Q E s:=by
 obtain ⟨⟨cls,dd,data,sl⟩,ho,hc,n,hd⟩:=id ht;obtain ⟨⟨cls2,dd2,data2,sl2⟩,ho2,hc2,n2,hd2⟩:=id hb;simp only at hc hd hc2 hd2;subst hc hd hc2 hd2;have e:vs.toArray ++ ws.toArray=(vs ++ ws).toArray:=by simp
 by_cases hw:ws=[]
 · exact concat_meets ⟨_,ho,rfl⟩ ⟨_,ho2,rfl⟩ noFill_tuple_add seq_tuple_add PySem.F.slot_tuple_add PySem.F.entry_tuple_add (PySem.F.args_tuple_add_2 _ _)
     (tuple_addW1 t b vs.toArray ws.toArray n n2 dd dd2 sl sl2 (by simpa using hv) (by simp [hw])) ⟨ho,ho2,h1 hw⟩
 · refine concat_meets ⟨_,ho,rfl⟩ ⟨_,ho2,rfl⟩ noFill_tuple_add seq_tuple_add PySem.F.slot_tuple_add PySem.F.entry_tuple_add (PySem.F.args_tuple_add_2 _ _)
     (tuple_addW2 t b vs.toArray ws.toArray n n2 dd dd2 sl sl2 (by simpa using hv) (by simpa using hw) (by rw [wHq,wHq]; exact hsz)) ⟨ho,ho2, ?_⟩
   rw [e];exact h2 hw
noncomputable def sIx (n d:Nat):Option Int→Nat
 | none=>d
 | some v=>if v < 0 then (v + (n:Int)).toNat else min v.toNat n
theorem aFB (n d:Nat):sIx n d none=d:=rfl
theorem aC9 (n d:Nat) (hd:d≤n) (o:Option Int):sIx n d o≤n:=by
 cases o with
 | none=>exact hd
 | some v =>
   show (if v < 0 then (v + (n:Int)).toNat else min v.toNat n)≤n;by_cases hv:v < 0
   · rw [if_pos hv]; omega
   · rw [if_neg hv]; exact Nat.min_le_right _ _
theorem HE (v:Int) (n d:Nat):(if v < 0 then max (v + (n:Int)) 0 else min v (n:Int))=((sIx n d (some v):Nat):Int):=by
 show (if v < 0 then max (v + (n:Int)) 0 else min v (n:Int))=(((if v < 0 then (v + (n:Int)).toNat else min v.toNat n):Nat):Int);by_cases hv:v < 0
 · simp only [if_pos hv]; omega
 · simp only [if_neg hv]; omega
theorem GK (lo hi:Option Int) (n:Nat):Builtin.Slice.sliceAdjust lo hi 1 (n:Int)=(((sIx n 0 lo:Nat):Int),((sIx n n hi:Nat):Int)):=by
 have h1:¬((1:Int) < 0):=by omega
 unfold Builtin.Slice.sliceAdjust;simp only [h1,if_false];refine Prod.ext ?_ ?_
 · cases lo with
   | none=>rfl
   | some v=>exact HE v n 0
 · cases hi with
   | none=>rfl
   | some v=>exact HE v n n
theorem GM (i j:Nat):Builtin.Slice.slicePlaces (i:Int) (j:Int) 1=j - i:=by
 unfold Builtin.Slice.slicePlaces;have h1:(1:Int) > 0:=by omega
 simp only [h1,if_true,Int.ediv_one];split <;> omega
theorem lQ {v:Value} {o:Option Int} {Q:Option Int→Shared→Prop} (p:IsPart v o) (h:Q o s):wpAny (model prog w) A (Builtin.Slice.slicePartIndex v) Q E s:=by
 cases p with
 | none=>exact slicePart_none h
 | int i t=>exact slicePart_int h
theorem gU {sl:Addr} {vl vu:Value} {lo hi:Option Int} {n:Nat} {Q:Int×Int×Nat→Shared→Prop} (hs:s.heap.IsSliceOf sl vl vu .none) (pl:IsPart vl lo) (pu:IsPart vu hi)
   (h:Q (((sIx n 0 lo:Nat):Int),1,sIx n n hi - sIx n 0 lo) s):wpAny (model prog w) A (Builtin.Slice.sliceApplied (.ref sl) (pure (n:Int))) Q E s:=by
 obtain ⟨os,hos,hcs,hds⟩:=id hs;unfold Builtin.Slice.sliceApplied Builtin.Slice.sliceFields;refine wAq (wAq (wpAny_field hos hds (x:=vl) rfl (wAq (wpAny_field hos hds (x:=vu) rfl (wAq (wpAny_field hos hds (x:=.none) rfl (wBq ?_)))))));refine wAq (slicePart_none ?_);show wpAny _ _ (if ((1:Int) == 0)=true then _ else _) _ _ s;rw [if_neg (by decide)];refine wAq (lQ pl (wAq (lQ pu (wAq (wBq ?_)))));show wpAny _ _ (match Builtin.Slice.sliceAdjust lo hi 1 (n:Int) with | (lo,hi)=>pure (lo,(1:Int),Builtin.Slice.slicePlaces lo hi 1)) _ _ s;rw [GK lo hi n];show wpAny _ _ (pure (((sIx n 0 lo:Nat):Int),(1:Int),Builtin.Slice.slicePlaces ((sIx n 0 lo:Nat):Int) ((sIx n n hi:Nat):Int) 1)) _ _ s;rw [GM];exact wBq h
theorem TM (xs:Array Value) (i k:Nat):((List.range k).filterMap fun (m:Nat)=>xs[((i:Int) + (m:Int) * 1).toNat]?).toArray=((xs.toList.drop i).take k).toArray:=by
 have e:(fun (m:Nat)=>xs[((i:Int) + (m:Int) * 1).toNat]?)=fun m=>xs[i + m]? :=by
   funext m
   have:((i:Int) + (m:Int) * 1).toNat=i + m:=by omega
   rw [this]
 rw [e];have:=pick_run xs i k;rw [List.filterMap_map] at this;have e2:((fun x=>xs[x]?) ∘ fun x=>i + x)=fun m=>xs[i + m]? :=rfl;rw [e2] at this;rw [this]
theorem mH {t sl:Addr} {items:Array Value} {vl vu:Value} {lo hi:Option Int} {Q:Value→Shared→Prop} (ht:IsTup s.heap t items) (hs:s.heap.IsSliceOf sl vl vu .none) (pl:IsPart vl lo) (pu:IsPart vu hi)
   (hw:¬(sIx items.size 0 lo=0∧sIx items.size items.size hi=items.size))
   (h:Q (.ref s.heap.objs.size) { s with heap:=s.heap.push { cls:=.type "tuple",data:=.seq ((items.toList.drop (sIx items.size 0 lo)).take (sIx items.size items.size hi - sIx items.size 0 lo)).toArray } })
   (hsz:items.size≤sizeLine):wpAny (model prog w) A (getItem (.ref t) (.ref sl)) Q E s:=by
 have htake:sizeOk (.seq ((items.toList.drop (sIx items.size 0 lo)).take (sIx items.size items.size hi - sIx items.size 0 lo)).toArray):=by
   show ((items.toList.drop (sIx items.size 0 lo)).take (sIx items.size items.size hi - sIx items.size 0 lo)).toArray.size≤sizeLine;rw [wHq,List.length_take,List.length_drop,Array.length_toList];omega
 have hj:sIx items.size items.size hi≤items.size:=aC9 _ _ (Nat.le_refl _) hi;obtain ⟨os,hos,hcs,hds⟩:=id hs;have hTs:s.TypeIs (.ref sl) "slice":=⟨os,hos,hcs⟩;unfold getItem
 try with_reducible refine wpAny_holding ?_
 first | refine wAq (wBq ?_) | skip
 refine wAq (wpAny_sequenceKey ht.typeIs (by decide) ?_);refine wAq (wpAny_callSpecial?_slot (name:=Str.ofString "__getitem__") ht.typeIs PyProof.Rows.slot_tuple_getitem
   (wpAny_call_entry PyProof.Rows.slot_tuple_getitem ht.typeIs entry_tuple_getitem ?_ (args_tuple_getitem _ _)))
 show wpAny _ _ (Builtin.Tuple.tupleItemsOf (.ref t) >>= _) _ _ s;refine wAq (tupleItemsOf_ ht ?_);refine wAq (wpAny_typeOf hTs ?_);rw [if_pos (by decide)];refine wAq (gU hs pl pu ?_);have hno:¬((((sIx items.size 0 lo:Nat):Int) == 0 && (1:Int) == 1 && (sIx items.size items.size hi - sIx items.size 0 lo) == items.size)=true):=by
   intro q;rw [Bool.and_eq_true,Bool.and_eq_true] at q;have q1:((sIx items.size 0 lo:Nat):Int)=0:=eq_of_beq q.1.1;have q2:sIx items.size items.size hi - sIx items.size 0 lo=items.size:=eq_of_beq q.2;exact hw ⟨by omega,by omega⟩
 show wpAny _ _ (if (((sIx items.size 0 lo:Nat):Int) == 0 && (1:Int) == 1 && (sIx items.size items.size hi - sIx items.size 0 lo) == items.size)=true then _ else _) _ _ s;rw [if_neg hno,TM];first
   | exact wAq (m:=Builtin.Tuple.tupleExact _) (wpAny_newObj_type (wBq ⟨_,rfl,wBq h⟩) htake)
   | exact wAq (m:=Builtin.Tuple.tupleExact _) (wpAny_newObj_type (wAq (wBq (wBq ⟨_,rfl,wBq h⟩))) htake)
   | exact wAq (wAq (m:=Builtin.Tuple.tupleExact _) (wpAny_newObj_type (wBq (wBq ⟨_,rfl,wBq h⟩)) htake))
   | exact wAq (wAq (m:=Builtin.Tuple.tupleExact _) (wpAny_newObj_type (wBq ⟨_,rfl,wBq h⟩) htake))
end
end HT
namespace L2
open PySem PySem.Spec PyProof.Rows
noncomputable abbrev TO:=St→Hp→(Option Int→Hp→Prop)→Prop
noncomputable def PO (X:Cx) (e:Option Expr) (t:TO):Prop :=
 ∀ (pins:List (Addr×Obj)) (s:Shared) (σ:St) (H:Hp) (Q:Option Int→Hp→Prop),Inv X pins σ H s→t σ H Q→
   wpAny (model X.prog X.w) X.A (evalPart e X.env) (fun u s'=>∃ o H',Inv X pins σ H' s'∧IsPart u o∧Q o H') X.xe s
noncomputable def YE:TO:=fun _ H Q=>Q none H
noncomputable def aIx (t:TE):TO:=fun σ H Q=>t σ H fun x H1=>∃ i,x= .int i∧Q (some i) H1
section
variable {X:Cx} {e:Expr} {te:TE} {lo hi:Option Expr} {tl th:TO} {pos p2:Pos}
theorem ZG:PO X none YE:=by
 intro pins s σ H Q I h;rw [evalPart_none];exact wBq ⟨none,H,I,.none,h⟩
theorem HK (h:PE X e te):PO X (some e) (aIx te):=by
 intro pins s σ H Q I hw;rw [evalPart_some];refine thn (h pins s σ H _ I hw) fun u s1 zz=>?_;obtain ⟨x,H1,I1,r1,q1⟩:=zz;obtain ⟨i,rfl,q⟩:=q1;obtain ⟨t,rfl⟩:=r1;exact ⟨some i,H1,I1,.int i t,q⟩
noncomputable def SlR (X:Cx) (r:V→Option Int→Option Int→Hp→VK→Prop):Prop :=
 ∀ (pins:List (Addr×Obj)) (s:Shared) (σ:St) (H:Hp) (x:V) (v vl vu:Value) (lo hi:Option Int) (sl:Addr) (Q:VK),Inv X pins σ H s→aQ x v→s.heap.IsSliceOf sl vl vu .none→IsPart vl lo→IsPart vu hi→r x lo hi H Q→
   ∃ T id,typeLookup (.type T) "__getitem__"=pure (some (.builtin id))∧s.TypeIs v T∧wpAny (model X.prog X.w) X.A (getItem v (.ref sl)) (EP X pins σ Q) X.xe s
theorem SlR.or {r r':V→Option Int→Option Int→Hp→VK→Prop} (h:SlR X r) (h':SlR X r'):SlR X (fun x lo hi H Q=>r x lo hi H Q∨r' x lo hi H Q):=by
 intro pins s σ H x v vl vu lo hi sl Q I rx hs pl pu q;rcases q with q | q
 · exact h pins s σ H x v vl vu lo hi sl Q I rx hs pl pu q
 · exact h' pins s σ H x v vl vu lo hi sl Q I rx hs pl pu q
def tSl (r:V→Option Int→Option Int→Hp→VK→Prop) (te:TE) (tl th:TO):TE:=fun σ H Q=>te σ H fun x H1=>tl σ H1 fun l H2=>th σ H2 fun u H3=>r x l u H3 Q
theorem RQ {r:V→Option Int→Option Int→Hp→VK→Prop} (hr:SlR X r) (he:PE X e te) (hl:PO X lo tl) (hu:PO X hi th):PE X (.Subscript e (.Slice lo hi none p2) pos) (tSl r te tl th):=by
 intro pins s σ H Q I h;refine Subscript_ (thn (he pins s σ H _ I h) fun v s1 zz=>?_);obtain ⟨x,H1,I1,r1,q1⟩:=zz;refine wpAny_Slice (thn (hl pins s1 σ H1 _ I1 q1) fun vl s2 ⟨l,H2,I2,pl,q2⟩=>thn (hu pins s2 σ H2 _ I2 q2) fun vu s3 zz=>?_);obtain ⟨u,H3,I3,pu,q3⟩:=zz;rw [evalPart_none];refine wBq ?_;have I4:Inv X pins σ H3 { s3 with heap:=s3.heap.push { cls:=.type "slice",data:=.fields #[vl,vu,.none] } }:=I3.kept (t':=s3.toks) fun b ob q=>wEq _ q;obtain ⟨T,id,hT,ht,hg⟩:=hr pins { s3 with heap:=s3.heap.push { cls:=.type "slice",data:=.fields #[vl,vu,.none] } } σ H3 x v vl vu l u s3.heap.objs.size Q I4 r1 (Heap.IsSliceOf.new ..) pl pu q3;show wpAny (model X.prog X.w) X.A (subscriptTail e (.Slice lo hi none p2) v (.ref s3.heap.objs.size)) (EP X pins σ Q) X.xe { s3 with heap:=s3.heap.push { cls:=.type "slice",data:=.fields #[vl,vu,.none] } };exact tail_any (ops:=[.ref s3.heap.objs.size,v]) ht hT hg (by with_unfolding_all rfl)
noncomputable def CG (xs:List V) (lo hi:Option Int):List V:=(xs.drop (HT.sIx xs.length 0 lo)).take (HT.sIx xs.length xs.length hi - HT.sIx xs.length 0 lo)
theorem pJ (xs:List V) (lo hi:Option Int):(CG xs lo hi).length≤xs.length:=by
 unfold CG;rw [List.length_take,List.length_drop];omega
noncomputable def aKn (K:W.Frag):V→Option Int→Option Int→Hp→VK→Prop:=fun x lo hi H Q=>∃ a xs,x= .ref a∧SqT K H a xs∧
 ¬(HT.sIx xs.length 0 lo=0∧HT.sIx xs.length xs.length hi=xs.length)∧∀ p,H p=none→Q (.ref p) (upd H p (.tup (CG xs lo hi)))
theorem aDC:SlR X (aKn X.K):=by
 intro pins s σ H x v vl vu lo hi sl Q I rx hs pl pu h;obtain ⟨a,xs,rfl,hx,hw,q⟩:=h;cases rx;obtain ⟨its,r,ht,hz⟩:=I.tuple hx;have hlen:its.toArray.size=xs.length:=by rw [wHq]; exact r.length.symm
 refine ⟨"tuple",_,PyProof.Rows.slot_tuple_getitem.lookup,ht.typeIs, ?_⟩;refine HT.mH ht hs pl pu (by rw [hlen]; exact hw) ?_ (by rw [hlen]; exact hz);rw [hlen];refine ⟨.ref s.heap.objs.size,_,I.laid (t':=s.toks) (o:=.tup (CG xs lo hi)) (fun b ob q=>wEq _ q) (Nat.le_refl _) ?_,rfl,q _ (I.hok.fresh (Nat.le_refl _))⟩;exact ⟨Nat.le_trans (pJ xs lo hi) hz,_,(r.drop (HT.sIx xs.length 0 lo)).take (HT.sIx xs.length xs.length hi - HT.sIx xs.length 0 lo),fO.new _ _⟩
def aH8 (K:W.Frag):R2:=fun x y H Q=>∃ a b xs ys,x= .ref a∧y= .ref b∧SqT K H a xs∧SqT K H b ys∧xs≠ []∧xs.length + ys.length≤sizeLine∧
 (ys=[]→Q (.ref a) H)∧(ys≠ []→∀ p,H p=none→Q (.ref p) (upd H p (.tup (xs ++ ys))))
theorem aO.nil_iff {xs:List V} {us:List Value} (r:aO xs us):us=[]↔xs=[]:=by
 cases r with
 | nil=>simp
 | cons _ _=>simp
theorem WI:OpR X (binaryOp .Add) (aH8 X.K):=by
 intro pins s σ H x y v u Q I rx ry h;obtain ⟨a,b,xs,ys,rfl,rfl,ha,hb,hx,hz,q1,q2⟩:=h;cases rx;cases ry;obtain ⟨its,r1,p1,_⟩:=I.tuple ha;obtain ⟨its2,r2,p2,_⟩:=I.tuple hb;refine HT.aAi p1 p2 (fun z=>hx (r1.nil_iff.mp z)) (fun z=>⟨.ref a,H,I,rfl,q1 (r2.nil_iff.mp z)⟩) (fun z=>?_) (by rw [←r1.length,←r2.length]; exact hz);refine ⟨.ref s.heap.objs.size,_,I.laid (t':=s.toks) (o:=.tup (xs ++ ys)) (fun b ob q=>wEq _ q) (Nat.le_refl _) ?_,rfl,q2 (fun w=>z (r2.nil_iff.mpr w)) _ (I.hok.fresh (Nat.le_refl _))⟩;exact ⟨by rw [List.length_append]; exact hz,_,r1.append r2,fO.new _ _⟩
end
noncomputable def ixN (n:Nat) (i:Int):Option Nat:=if 0≤i then (if i < n then some i.toNat else none) else if -(n:Int)≤i then some (i + n).toNat else none
noncomputable def atI {α:Type} (xs:List α) (i:Int):Option α:=(ixN xs.length i).bind fun j=>xs[j]?
theorem HP {n:Nat} {i:Int} {j:Nat} (h:ixN n i=some j):seqIndex? i n=some j∧j < n∧ -(n:Int)≤i∧i < n:=by
 unfold ixN at h;by_cases h0:0≤i
 · rw [if_pos h0] at h;by_cases h1:i < n
   · rw [if_pos h1] at h;have e:i.toNat=j:=Option.some.inj h;exact ⟨by rw [seqIndex_of h0 h1,e],by omega,by omega,h1⟩
   · rw [if_neg h1] at h; cases h
 · rw [if_neg h0] at h;by_cases h1: -(n:Int)≤i
   · rw [if_pos h1] at h;have e:(i + n).toNat=j:=Option.some.inj h;exact ⟨by rw [seqIndex_neg (by omega) h1,e],by omega,h1,by omega⟩
   · rw [if_neg h1] at h; cases h
theorem zF {α:Type} {xs:List α} {i:Int} {v:α} (h:atI xs i=some v):∃ j,seqIndex? i xs.length=some j∧xs[j]? =some v∧j < xs.length∧ -(xs.length:Int)≤i∧i < xs.length:=by
 unfold atI at h;cases e:ixN xs.length i with
 | none=>rw [e] at h; cases h
 | some j =>
   rw [e] at h;obtain ⟨h1,h2,h3,h4⟩:=HP e;exact ⟨j,h1,h,h2,h3,h4⟩
theorem dX {α:Type} {xs:List α} {j:Nat} {v:α} (h:xs[j]? =some v):atI xs (j:Int)=some v:=by
 have hj:j < xs.length:=(List.getElem?_eq_some_iff.mp h).1;have e:ixN xs.length (j:Int)=some j:=by
   unfold ixN;rw [if_pos (by omega),if_pos (by omega)]; simp
 unfold atI; rw [e]; exact h
def xV (b:Expr):Prop:= ∀ o i,subscripted b false o i=operate [o,i] (getItem o i)
noncomputable def IxR (X:Cx) (r:R2):Prop :=
 ∀ (value slice:Expr) (pins:List (Addr×Obj)) (s:Shared) (σ:St) (H:Hp) (x y:V) (v u:Value) (Q:VK),Inv X pins σ H s→aQ x v→aQ y u→r x y H Q→
   subscripted slice false v u=operate [v,u] (getItem v u)→wpAny (model X.prog X.w) X.A (subscriptTail value slice v u) (EP X pins σ Q) X.xe s
noncomputable def MtR (X:Cx) (id:String) (r:V→List V→Hp→VK→Prop):Prop :=
 ∀ (pins:List (Addr×Obj)) (s:Shared) (σ:St) (H:Hp) (x:V) (xs:List V) (v:Value) (us:List Value) (Q:VK),Inv X pins σ H s→aQ x v→aO xs us→r x xs H Q→
   wpAny (model X.prog X.w) X.A (call (.builtin id) (v :: us)) (EP X pins σ Q) X.xe s
section
variable {X:Cx} {a b:Expr} {ta tb:TE} {pos:Pos}
theorem IxR.or {r r':R2} (h:IxR X r) (h':IxR X r'):IxR X (fun x y H Q=>r x y H Q∨r' x y H Q):=by
 intro value slice pins s σ H x y v u Q I rx ry q hs;rcases q with q | q
 · exact h value slice pins s σ H x y v u Q I rx ry q hs
 · exact h' value slice pins s σ H x y v u Q I rx ry q hs
theorem aIk {r:R2} (hr:IxR X r) (ha:PE X a ta) (hb:PE X b tb) (hs:xV b):PE X (.Subscript a b pos) (tOp r ta tb):=by
 intro pins s σ H Q I h;exact Subscript_ (aD4 ha hb I h fun v u s2 x y H2 I2 rx ry q=>hr a b pins s2 σ H2 x y v u Q I2 rx ry q (hs _ _))
def aHD (K:W.Frag):R2:=fun x y H Q=>∃ p xs i v,x= .ref p∧y= .int i∧SqL K H p xs∧atI xs i=some v∧Q v H
def aGB (K:W.Frag):R2:=fun x y H Q=>∃ p xs i v,x= .ref p∧y= .int i∧SqT K H p xs∧atI xs i=some v∧Q v H
def aG4:R2:=fun x y H Q=>∃ z i c,x= .str z∧y= .int i∧z.length≤sizeLine∧atI z.cps.toList i=some c∧Q (.str ⟨#[c]⟩) H
theorem ZN:IxR X (aHD X.K):=by
 intro value slice pins s σ H x y v u Q I rx ry h hs;obtain ⟨p,xs,i,z,rfl,rfl,hq,he,q⟩:=h;cases rx;obtain ⟨t,rfl⟩:=ry;obtain ⟨its,r,pl,hz⟩:=I.list hq;obtain ⟨j,h1,h2,h3,h4,h5⟩:=zF he;obtain ⟨w,ew,rw'⟩:=r.get h2;have hl:=r.length;have hn:=lO;have fin:EP X pins σ Q w s:=⟨z,H,I,rw',q⟩;by_cases h0:0≤i
 · have hj:i.toNat=j:=by
     rw [seqIndex_of h0 h5] at h1;exact Option.some.inj h1
   exact item_listR pl.isList h0 (by omega) (by rw [hj]; simpa using ew) fin hs
 · have hj:(i + (its.toArray.size:Int)).toNat=j:=by
     rw [seqIndex_neg (by omega) h4] at h1;rw [wHq,←hl];exact Option.some.inj h1
   exact subscriptTail_builtinR (x:=w) pl.isList.typeIs slot_list_getitem.lookup
     (wpAny_getItem_list_neg (Q:=fun r s'=>r=w∧EP X pins σ Q r s') pl.isList (by omega) (by rw [wHq] <;> omega) (by omega) (by rw [hj]; simpa using ew) ⟨rfl,fin⟩) hs
theorem aCD:IxR X (aGB X.K):=by
 intro value slice pins s σ H x y v u Q I rx ry h hs;obtain ⟨p,xs,i,z,rfl,rfl,hq,he,q⟩:=h;cases rx;obtain ⟨t,rfl⟩:=ry;obtain ⟨its,r,pl,hz⟩:=I.tuple hq;obtain ⟨j,h1,h2,h3,h4,h5⟩:=zF he;obtain ⟨w,ew,rw'⟩:=r.get h2;have hl:=r.length;have hn:=lO;have fin:EP X pins σ Q w s:=⟨z,H,I,rw',q⟩;exact subscriptTail_builtinR (x:=w) pl.typeIs slot_tuple_getitem.lookup
   (getItem_tuple (j:=j) (Q:=fun r s'=>r=w∧EP X pins σ Q r s') pl (by omega) (by omega) (by rw [wHq,←hl]; exact h1) (by simpa using ew) ⟨rfl,fin⟩) hs
theorem aBQ:IxR X aG4:=by
 intro value slice pins s σ H x y v u Q I rx ry h hs;obtain ⟨z,i,c,rfl,rfl,hz,he,q⟩:=h;obtain ⟨t,rfl⟩:=rx;obtain ⟨t',rfl⟩:=ry;obtain ⟨j,h1,h2,h3,h4,h5⟩:=zF he;have hl:z.cps.toList.length=z.length:=by simp [Str.length]
 rw [hl] at h1 h4 h5;have hn:=lO;exact tail_any (typeIs_str s z t) slot_str_getitem.lookup (getItem_str (c:=c) (by
   have e1:decide (i < -(2 ^ 63:Int))=false:=decide_eq_false (by omega);have e2:decide (i ≥ 2 ^ 63)=false:=decide_eq_false (by omega);rw [e1,e2,Bool.or_false]) (by rw [h1]; simpa using h2) ⟨.str ⟨#[c]⟩,H,I.tok _,⟨_,rfl⟩,q⟩) hs
def rIx (K:W.Frag):R2:=fun x y H Q=>aHD K x y H Q∨aGB K x y H Q∨aG4 x y H Q
theorem aB0:IxR X (rIx X.K):=ZN.or (aCD.or aBQ)
theorem FV (its:List Value) (n j:Nat) (u:Value):Obj.mapSeq (·.setIfInBounds j u) { cls:=.type "list",data:=.seq its.toArray n }={ cls:=.type "list",data:=.seq (its.set j u).toArray n }:=by
 simp [Obj.mapSeq]
theorem Inv.lst {pins:List (Addr×Obj)} {σ:St} {H:Hp} {s:Shared} {p:Addr} {xs:List V} (I:Inv X pins σ H s) (h:H p=some (.lst xs)) :
   ∃ (its:List Value) (n:Nat),aO xs its∧s.heap.get? p=some { cls:=.type "list",data:=.seq its.toArray n }∧xs.length≤sizeLine:=by
 obtain ⟨z,its,n,r,e⟩:=I.hok p _ h;exact ⟨its,n,r,e,z⟩
theorem Inv.lstUpd {pins:List (Addr×Obj)} {σ:St} {H:Hp} {s:Shared} {p:Addr} {xs ys:List V} {its its':List Value} {n n':Nat} {f:Obj→Obj} (I:Inv X pins σ H s) (h:H p=some (.lst xs))
   (ho:s.heap.get? p=some { cls:=.type "list",data:=.seq its.toArray n }) (hf:f { cls:=.type "list",data:=.seq its.toArray n }={ cls:=.type "list",data:=.seq its'.toArray n' }) (r:aO ys its') (hz:ys.length≤sizeLine) (t:Nat) :
   Inv X pins σ (upd H p (.lst ys)) { s with heap:=s.heap.update p f,toks:=t }:=by
 have e:(s.heap.update p f).get? p=some { cls:=.type "list",data:=.seq its'.toArray n' }:=by
   rw [Heap.get?_update_self f ho (by rw [hf] <;> rfl),hf]
 refine I.write (x:=p) (e:=p) (by rw [h]; trivial) (.inl rfl) (fun b u hb q=>(Heap.get?_update_other _ _ (Ne.symm hb)).trans q) ⟨_,e⟩ ?_;exact ⟨hz,its',n',r,e⟩
noncomputable def aGx:V→V→V→Hp→(Hp→Prop)→Prop:=fun o i v H Q=>∃ p xs k j,o= .ref p∧i= .int k∧H p=some (.lst xs)∧ixN xs.length k=some j∧Q (upd H p (.lst (xs.set j v)))
theorem VP:aBV X aGx:=by
 intro pins s σ H o i v ov iv u Q I ro ri rv h;obtain ⟨p,xs,k,j,rfl,rfl,hp,hj,q⟩:=h;cases ro;obtain ⟨t,rfl⟩:=ri;obtain ⟨its,n,r,ho,hz⟩:=I.lst hp;obtain ⟨h1,h2,h3,h4⟩:=HP hj;have hl:=r.length;have hn:=lO;have I':Inv X pins σ (upd H p (.lst (xs.set j v))) { s with heap:=s.heap.update p (Obj.mapSeq (·.setIfInBounds j u)) } :=
   I.lstUpd hp ho (FV its n j u) (r.set rv j) (by rw [List.length_set]; exact hz) s.toks
 by_cases h0:0≤k
 · have hk:k.toNat=j:=by
     rw [seqIndex_of h0 h4] at h1;exact Option.some.inj h1
   exact W.ki_setAt ho h0 (by omega) (by rw [wHq,←hl]; exact h4) (by rw [hk]; exact ⟨_,I',q⟩)
 · have hk:(k + (its.toArray.size:Int)).toNat=j:=by
     rw [seqIndex_neg (by omega) h3] at h1;rw [wHq,←hl];exact Option.some.inj h1
   exact W.ki_setBack ho (by omega) (by rw [wHq,←hl]; exact h3) (by omega) (by rw [hk]; exact ⟨_,I',q⟩)
theorem yZ (lo hi:Option Int) (n:Nat):(sliceBounds lo hi none n).1=((HT.sIx n 0 lo:Nat):Int)∧(sliceBounds lo hi none n).2.1=((HT.sIx n n hi:Nat):Int)∧(sliceBounds lo hi none n).2.2=1:=by
 refine ⟨?_, ?_,rfl⟩
 · cases lo with
   | none=>simp [sliceBounds,HT.sIx]
   | some i =>
     simp only [sliceBounds,HT.sIx,Option.getD_none,show (1:Int) > 0 by decide,if_true];by_cases h:i < 0
     · simp only [h,if_true] <;> omega
     · simp only [h,if_false] <;> omega
 · cases hi with
   | none=>simp [sliceBounds,HT.sIx]
   | some i =>
     simp only [sliceBounds,HT.sIx,Option.getD_none,show (1:Int) > 0 by decide,if_true];by_cases h:i < 0
     · simp only [h,if_true] <;> omega
     · simp only [h,if_false] <;> omega
theorem uY (its:List Value) (lo hi:Option Int):slicePick its.toArray lo hi none=((its.drop (HT.sIx its.length 0 lo)).take (HT.sIx its.length its.length hi - HT.sIx its.length 0 lo)).toArray:=by
 obtain ⟨h1,h2,h3⟩:=yZ lo hi its.toArray.size;unfold slicePick;rw [h1,h2,h3];simp only [sliceRange_one,pick_run,wHq] <;> rfl
noncomputable def aJP (K:W.Frag):V→Option Int→Option Int→Hp→VK→Prop:=fun x lo hi H Q=>∃ a xs,x= .ref a∧SqL K H a xs∧∀ p,H p=none→Q (.ref p) (upd H p (.lst (CG xs lo hi)))
theorem XJ:SlR X (aJP X.K):=by
 intro pins s σ H x v vl vu lo hi sl Q I rx hs pl pu h;obtain ⟨a,xs,rfl,hx,q⟩:=h;cases rx;obtain ⟨its,r,ht,hz⟩:=I.list hx;have hlen:=r.length;refine ⟨"list",_,slot_list_getitem.lookup,ht.isList.typeIs, ?_⟩;refine wpAny_getItem_list_slice ht.isList hs pl pu .none (by simp) ?_ (by rw [wHq] <;> omega);rw [uY,←hlen];refine ⟨.ref s.heap.objs.size,_,I.laid (t':=s.toks) (o:=.lst (CG xs lo hi)) (fun b ob q=>wEq _ q) (Nat.le_refl _) ?_,rfl,q _ (I.hok.fresh (Nat.le_refl _))⟩;exact ⟨Nat.le_trans (pJ xs lo hi) hz,_,0,(r.drop (HT.sIx xs.length 0 lo)).take (HT.sIx xs.length xs.length hi - HT.sIx xs.length 0 lo),wGq _ rfl⟩
noncomputable def lF:V→Bool
 | .non=>true
 | .bl _=>true
 | .int _=>true
 | .str _=>true
 | _=>false
noncomputable def eqV:V→V→Bool
 | .non,.non=>true
 | .bl a,.bl b=>a == b
 | .bl a,.int b=>(if a then 1 else 0) == b
 | .int a,.bl b=>a == (if b then 1 else 0)
 | .int a,.int b=>a == b
 | .str a,.str b=>a == b
 | _,_=>false
theorem aCV {A:Around} {s:Shared} {y x:V} {u v:Value} (ry:aQ y u) (rx:aQ x v) (fy:lF y=true) (fx:lF x=true):SeqAt.EqAt A s u v (eqV y x):=by
 cases y with
 | non =>
   cases ry;cases x with
   | non=>cases rx; exact SeqAt.EqAt.same _
   | bl b=>cases rx; exact SeqAt.EqAt.none_bool b
   | int b=>obtain ⟨t,rfl⟩:=rx; exact SeqAt.EqAt.none_int b t
   | str b=>obtain ⟨t,rfl⟩:=rx; exact SeqAt.EqAt.none_str b t
   | _=>exact absurd (show false=true from fx) Bool.false_ne_true
 | bl a =>
   cases ry;cases x with
   | non=>cases rx; exact SeqAt.EqAt.bool_none a
   | bl b=>cases rx; exact SeqAt.EqAt.bool_bool a b
   | int b=>obtain ⟨t,rfl⟩:=rx; exact SeqAt.EqAt.bool_int a b t
   | str b=>obtain ⟨t,rfl⟩:=rx; exact SeqAt.EqAt.bool_str a b t
   | _=>exact absurd (show false=true from fx) Bool.false_ne_true
 | int a =>
   obtain ⟨t',rfl⟩:=ry;cases x with
   | non=>cases rx; exact SeqAt.EqAt.int_none a t'
   | bl b=>cases rx; exact SeqAt.EqAt.int_bool a t' b
   | int b=>obtain ⟨t,rfl⟩:=rx; exact SeqAt.EqAt.int_int a t' b t
   | str b=>obtain ⟨t,rfl⟩:=rx; exact SeqAt.EqAt.int_str a t' b t
   | _=>exact absurd (show false=true from fx) Bool.false_ne_true
 | str a =>
   obtain ⟨t',rfl⟩:=ry;cases x with
   | non=>cases rx; exact SeqAt.EqAt.str_none a t'
   | bl b=>cases rx; exact SeqAt.EqAt.str_bool a t' b
   | int b=>obtain ⟨t,rfl⟩:=rx; exact SeqAt.EqAt.str_int a t' b t
   | str b=>obtain ⟨t,rfl⟩:=rx; exact SeqAt.EqAt.str_str a t' b t
   | _=>exact absurd (show false=true from fx) Bool.false_ne_true
 | _=>exact absurd (show false=true from fy) Bool.false_ne_true
noncomputable def eqU (x:V) (u:Value):Bool:=match u with
 | .none=>eqV .non x
 | .bool b=>eqV (.bl b) x
 | .int i _=>eqV (.int i) x
 | .str z _=>eqV (.str z) x
 | _=>false
theorem OT {x y:V} {u:Value} (r:aQ y u) (f:lF y=true):eqU x u=eqV y x:=by
 cases y with
 | non=>cases r; rfl
 | bl b=>cases r; rfl
 | int i=>obtain ⟨t,rfl⟩:=r; rfl
 | str z=>obtain ⟨t,rfl⟩:=r; rfl
 | _=>exact absurd (show false=true from f) Bool.false_ne_true
theorem nK {x:V}:∀ {xs:List V} {us:List Value},aO xs us→xs.all lF=true→us.any (eqU x)=xs.any fun y=>eqV y x
 | _,_,.nil,_=>rfl
 | y :: xs,u :: us,.cons r t,f=>by
   rw [List.all_cons,Bool.and_eq_true] at f;rw [List.any_cons,List.any_cons,OT r f.1,nK t f.2]
theorem jP {A:Around} {s:Shared} {x:V} {v:Value} (rx:aQ x v) (fx:lF x=true):∀ {xs:List V} {us:List Value},aO xs us→xs.all lF=true→∀ u∈us,SeqAt.EqAt A s u v (eqU x u)
 | _,_,.nil,_=>fun u hu=>by cases hu
 | y :: xs,u :: us,.cons r t,f=>fun u' hu=>by
   rw [List.all_cons,Bool.and_eq_true] at f;rcases List.mem_cons.mp hu with rfl | hu
   · rw [OT r f.1]; exact aCV r rx f.1 fx
   · exact jP rx fx t f.2 u' hu
noncomputable def inV (x:V) (xs:List V):Bool:=xs.any fun y=>eqV y x
def rIn (K:W.Frag) (neg:Bool):R2:=fun x y H Q=>∃ p xs,y= .ref p∧(SqL K H p xs∨SqT K H p xs)∧lF x=true∧xs.all lF=true∧Q (.bl (if neg then !inV x xs else inV x xs)) H
theorem MH:OpR X (compareOp .In) (rIn X.K false):=by
 intro pins s σ H x y v u Q I rx ry h;obtain ⟨p,xs,rfl,hq,fx,fs,q⟩:=h;cases ry;rcases hq with hq | hq
 · obtain ⟨its,r,pl,hz⟩:=I.list hq;refine SeqAt.in_listAt (eqU x) pl.isList (fun w hw=>jP rx fx r fs w (by simpa using hw)) ⟨.bl _,H,I,rfl, ?_⟩;rw [show its.toArray.any (eqU x)=its.any (eqU x) by simp,nK r fs];exact q
 · obtain ⟨its,r,pl,hz⟩:=I.tuple hq;refine SeqAt.in_tupleAt (eqU x) pl (fun w hw=>jP rx fx r fs w (by simpa using hw)) ⟨.bl _,H,I,rfl, ?_⟩;rw [show its.toArray.any (eqU x)=its.any (eqU x) by simp,nK r fs];exact q
theorem yP:OpR X (compareOp .NotIn) (rIn X.K true):=by
 intro pins s σ H x y v u Q I rx ry h;obtain ⟨p,xs,rfl,hq,fx,fs,q⟩:=h;cases ry;rcases hq with hq | hq
 · obtain ⟨its,r,pl,hz⟩:=I.list hq;refine SeqAt.notIn_listAt (eqU x) pl.isList (fun w hw=>jP rx fx r fs w (by simpa using hw)) ⟨.bl _,H,I,rfl, ?_⟩;rw [show its.toArray.any (eqU x)=its.any (eqU x) by simp,nK r fs];exact q
 · obtain ⟨its,r,pl,hz⟩:=I.tuple hq;refine SeqAt.notIn_tupleAt (eqU x) pl (fun w hw=>jP rx fx r fs w (by simpa using hw)) ⟨.bl _,H,I,rfl, ?_⟩;rw [show its.toArray.any (eqU x)=its.any (eqU x) by simp,nK r fs];exact q
theorem xO:bK X (.builtin "len") (fun xs H Q=>∃ p ys,xs=[.ref p]∧(SqL X.K H p ys∨SqT X.K H p ys)∧Q (.int ys.length) H):=by
 intro pins s σ H xs us Q I r h;obtain ⟨p,ys,rfl,hq,q⟩:=h;obtain ⟨u,rfl,rx⟩:=fF r;cases rx;have hn:=lO;rcases hq with hq | hq
 · obtain ⟨its,r',pl,hz⟩:=I.list hq;have hlen:=r'.length;exact Calls.call_len_list pl.isList (by simp only [wHq] <;> omega) ⟨.int ys.length,H,I.tok _,⟨s.toks + 1,by rw [wHq,hlen]⟩,q⟩
 · obtain ⟨its,r',pl,hz⟩:=I.tuple hq;have hlen:=r'.length;exact len_tuple pl (by simp only [wHq] <;> omega) ⟨.int ys.length,H,I.tok _,⟨s.toks + 1,by rw [wHq,hlen]⟩,q⟩
theorem yX:bK X (.builtin "len") (fun xs H Q=>∃ z,xs=[.str z]∧z.length≤sizeLine∧Q (.int z.length) H):=by
 intro pins s σ H xs us Q I r h;obtain ⟨z,rfl,hz,q⟩:=h;obtain ⟨u,rfl,t,rfl⟩:=fF r;have hn:=lO;exact len_str (by omega) ⟨.int z.length,H,I.tok _,⟨_,rfl⟩,q⟩
theorem bK.or {f:Value} {r r':List V→Hp→VK→Prop} (h:bK X f r) (h':bK X f r'):bK X f (fun xs H Q=>r xs H Q∨r' xs H Q):=by
 intro pins s σ H xs us Q I rs q;rcases q with q | q
 · exact h pins s σ H xs us Q I rs q
 · exact h' pins s σ H xs us Q I rs q
theorem yG:bK X (.type "list") (fun xs H Q=>∃ p ys,xs=[.ref p]∧(SqL X.K H p ys∨SqT X.K H p ys)∧∀ l,H l=none→Q (.ref l) (upd H l (.lst ys))):=by
 intro pins s σ H xs us Q I r h;obtain ⟨p,ys,rfl,hq,q⟩:=h;obtain ⟨u,rfl,rx⟩:=fF r;cases rx;have fin:∀ (its:List Value),aO ys its→ys.length≤sizeLine→∀ (h':Heap) (c':Nat),(∀ b o',s.heap.get? b=some o'→h'.get? b=some o')→
     h'.get? s.heap.objs.size=some { cls:=.type "list",dict:=none,data:=.seq its.toArray c',slots:= #[] }→EP X pins σ Q (.ref s.heap.objs.size) { s with heap:=h' }:=fun its r' hz h' c' kp e =>
   ⟨.ref s.heap.objs.size,_,I.laid (t':=s.toks) kp (Nat.le_refl _) (show bJ X.prog X.w _ h' _ (.lst ys) from ⟨hz,its,c',r',e⟩),rfl,q _ (I.hok.fresh (Nat.le_refl _))⟩
 rcases hq with hq | hq
 · obtain ⟨its,r',pl,hz⟩:=I.list hq;have hlen:=r'.length;obtain ⟨o,ho,hc,n,hd⟩:=pl.isList;exact call_list_seq p (.inl rfl) ho hc hd (fun h' c' kp e=>fin its r' hz h' c' kp e) (by simp only [wHq] <;> omega)
 · obtain ⟨its,r',pl,hz⟩:=I.tuple hq;have hlen:=r'.length;obtain ⟨o,ho,hc,n,hd⟩:=pl;exact call_list_seq p (.inr rfl) ho hc hd (fun h' c' kp e=>fin its r' hz h' c' kp e) (by simp only [wHq] <;> omega)
theorem vS:bK X (.type "tuple") (fun xs H Q=>∃ p ys,xs=[.ref p]∧((SqL X.K H p ys∧∀ l,H l=none→Q (.ref l) (upd H l (.tup ys)))∨(SqT X.K H p ys∧Q (.ref p) H))):=by
 intro pins s σ H xs us Q I r h;obtain ⟨p,ys,rfl,h⟩:=h;obtain ⟨u,rfl,rx⟩:=fF r;cases rx;rcases h with ⟨hq,q⟩ | ⟨hq,q⟩
 · obtain ⟨its,r',pl,hz⟩:=I.list hq;have hlen:=r'.length;refine call_tuple_list pl.isList (fun h' kp=>?_) (by simp only [wHq] <;> omega);have I1:Inv X pins σ H { s with heap:=h' }:=I.kept (t':=s.toks) kp;have I2:Inv X pins σ (upd H h'.objs.size (.tup ys)) { s with heap:=h'.push { cls:=.type "tuple",data:=.seq its.toArray } } :=
     I1.laid (t':=s.toks) (fun b o e=>wEq _ e) (Nat.le_refl _) (show bJ X.prog X.w _ _ _ (.tup ys) from ⟨hz,its,r',fO.new _ _⟩)
   exact ⟨.ref h'.objs.size,_,I2,rfl,q _ (I1.hok.fresh (Nat.le_refl _))⟩
 · obtain ⟨its,r',pl,hz⟩:=I.tuple hq;exact call_tuple_same pl ⟨.ref p,H,I,rfl,q⟩
def tyV (K:W.Frag) (T:String) (x:V) (H:Hp):Prop:=match x with
 | .str _=>T="str"
 | .int _=>T="int"
 | .ref p=>(T="list"∧∃ xs,SqL K H p xs)∨(T="tuple"∧∃ o,K.lookup p=some o∧o.cls= .type "tuple"∧o.dict=none)∨
     (T="dict"∧((∃ kvs,H p=some (.dK kvs))∨∃ kvs,H p=some (.dT kvs)))∨(T="set"∧∃ S n,H p=some (.set S n))
 | _=>False
theorem aEO {pins:List (Addr×Obj)} {σ:St} {H:Hp} {s:Shared} {T:String} {x:V} {v:Value} (I:Inv X pins σ H s) (r:aQ x v) (ty:tyV X.K T x H) :
   s.TypeIs v T∧∀ a,v= .ref a→∃ ob,s.heap.get? a=some ob∧ob.dict=none:=by
 cases x with
 | str z =>
   obtain ⟨t,rfl⟩:=r;cases (show T="str" from ty);exact ⟨typeIs_str s z t,fun _ e=>nomatch e⟩
 | int i =>
   obtain ⟨t,rfl⟩:=r;cases (show T="int" from ty);exact ⟨typeIs_int s i t,fun _ e=>nomatch e⟩
 | ref p =>
   cases r;rcases ty with ⟨rfl,xs,hq⟩ | ⟨rfl,o,hk,hc,hd⟩ | ⟨rfl,hk⟩ | ⟨rfl,S,n,hk⟩
   · obtain ⟨its,_,pl,_⟩:=I.list hq;refine ⟨pl.isList.typeIs,fun a e=>?_⟩;cases e;obtain ⟨o,n,e,c,hd,_⟩:=pl;exact ⟨o,e,hd⟩
   · refine ⟨⟨o,I.kIn p o hk,hc⟩,fun a e=>?_⟩;cases e;exact ⟨o,I.kIn _ o hk,hd⟩
   · have z:∃ o,s.heap.get? p=some o∧o.ExactDict:=by
       rcases hk with ⟨kvs,hk⟩ | ⟨kvs,hk⟩
       · obtain ⟨_,_,_,_,o,_,_,e,ex,_⟩:=I.hok p _ hk;exact ⟨o,e,ex⟩
       · obtain ⟨_,_,_,_,o,_,_,e,ex,_⟩:=I.hok p _ hk;exact ⟨o,e,ex⟩
     obtain ⟨o,e,ex⟩:=z;refine ⟨⟨o,e,ex.1⟩,fun a e2=>?_⟩;cases e2;exact ⟨o,e,ex.2.1⟩
   · obtain ⟨o,_,_,_,e,ex,_⟩:=I.hok p _ hk;refine ⟨⟨o,e,ex.1⟩,fun a e2=>?_⟩;cases e2;exact ⟨o,e,ex.2.1⟩
 | _=>exact False.elim ty
def tBM (K:W.Frag) (T:String) (r:V→List V→Hp→VK→Prop) (to:TE) (t:TA):TE:=fun σ H Q=>to σ H fun x H1=>tyV K T x H1∧t σ H1 fun xs H2=>r x xs H2 Q
variable {o e:Expr} {es:List Expr} {to:TE} {t:TA} {name:Str} {apos cpos:Pos} {T id:String} {r:V→List V→Hp→VK→Prop}
theorem aBi (pa:PlainAttrs T) (slot:Slot T name id) (hty:typeOf (.builtin id)=pure (.type "method_descriptor")) (hm:MtR X id r) (ho:PE X o to) (ha:PA X (e :: es) t)
   (hbase:attributeBase o name X.env (eval o X.env)=eval o X.env:=by rfl)
   (hfew:((backTo cpos (starEach (e :: es) X.env)).all (fun x=> !x.1) && (backToKw cpos (keywordEach [] X.env)).all (fun x=>x.1.isSome)
     && decide ((e :: es).length + ([]:List Keyword).length + (if ([]:List Keyword).isEmpty then 0 else 1) < 30))=true:=by rfl)
   (hline:(apos.endLine == cpos.line)=true:=by rfl) (hs:starEach (e :: es) X.env=(false,eval e X.env) :: starEach es X.env:=by rfl) (hplain:(backTo cpos (starEach es X.env)).any (·.1)=false:=by rfl) :
   PE X (.Call (.Attribute o name apos) (e :: es) [] cpos) (tBM X.K T r to t):=by
 intro pins s σ H Q I h;refine wpAny_Call_method_late hbase hfew hline rfl (thn (ho pins s σ H _ I h) fun v s1 zz=>?_);obtain ⟨x,H1,I1,r1,ty,q1⟩:=zz;obtain ⟨h1,h2⟩:=aEO I1 r1 ty;refine ⟨T,id,pa,slot,hty,h1,h2, ?_⟩;have hA:=ha cpos pins s1 σ H1 _ I1 q1;rw [hs] at hA ⊢;refine Calls.callWith_builtin (by show (false || (backTo cpos (starEach es X.env)).any (·.1))=false; rw [hplain] <;> rfl) (Calls.evalArgs_plain ?_);exact thn hA <|by rintro us s2 ⟨vs,H2,I2,r2,q2⟩;exact hm pins s2 σ H2 x vs v us Q I2 r1 r2 q2
end
noncomputable def MtM (X:Cx) (id:String) (r:V→List V→Hp→VK→Prop):Prop :=
 ∀ (pins:List (Addr×Obj)) (s:Shared) (σ:St) (H:Hp) (x:V) (xs:List V) (v:Value) (us:List Value) (Q:VK),Inv X pins σ H s→aQ x v→aO xs us→r x xs H Q→
   wpAny (model X.prog X.w) X.A (call (.builtin id) (v :: us)) (EP X pins σ Q) X.xe s
theorem aO.one:∀ {x:V} {us:List Value},aO [x] us→∃ u,us=[u]∧aQ x u
 | _,_,.cons r .nil=>⟨_,rfl,r⟩
theorem aO.reverse {xs:List V} {us:List Value} (h:aO xs us):aO xs.reverse us.reverse:=by
 induction h with
 | nil=>exact .nil
 | cons r t ih=>rw [List.reverse_cons,List.reverse_cons]; exact aO.append ih (.cons r .nil)
section
variable {X:Cx} {pins:List (Addr×Obj)} {σ:St} {H:Hp} {s:Shared} {l b:Addr} {xs ys zs:List V}
theorem Inv.lset {its its':List Value} {n:Nat} {f:Array Value→Array Value} {t':Nat} (I:Inv X pins σ H s) (hH:H l=some (.lst xs))
   (e:s.heap.get? l=some { cls:=.type "list",data:=.seq its.toArray n }) (hf:f its.toArray=its'.toArray) (hv:aO ys its') (hz:ys.length≤sizeLine) :
   Inv X pins σ (upd H l (.lst ys)) { s with heap:=s.heap.update l (Obj.mapSeq f),toks:=t' }:=by
 have q:=PySem.IsL.update e f;rw [hf] at q;refine I.write (x:=l) (e:=l) (by rw [hH]; exact trivial) (.inl rfl) (fun b' u hb hu=>(Heap.get?_update_other s.heap (Obj.mapSeq f) (Ne.symm hb)).trans hu) ⟨_,q⟩ ?_;exact ⟨hz,its',_,hv,q⟩
theorem Inv.lnew {its:List Value} {t':Nat} (I:Inv X pins σ H s) (hv:aO ys its) (hz:ys.length≤sizeLine) :
   Inv X pins σ (upd H s.heap.objs.size (.lst ys)) { s with heap:=s.heap.push { cls:=.type "list",data:=.seq its.toArray },toks:=t' } :=
 I.laid (fun _ _ q=>wEq _ q) (Nat.le_refl _) ⟨hz,its,0,hv,wGq _ rfl⟩
theorem Inv.fresh (I:Inv X pins σ H s):H s.heap.objs.size=none:=I.hok.fresh (Nat.le_refl _)
theorem Inv.lstM (I:Inv X pins σ H s) (hH:H l=some (.lst xs)):xs.length≤sizeLine∧∃ (its:List Value) (n:Nat),aO xs its∧xs.length=its.length∧s.heap.get? l=some { cls:=.type "list",data:=.seq its.toArray n }:=by
 obtain ⟨z,its,n,r,e⟩:=I.hok l _ hH;exact ⟨z,its,n,r,r.length,e⟩
end
section
variable {X:Cx}
noncomputable def ZQ:V→List V→Hp→VK→Prop:=fun x vs H Q=>∃ l xs y,x= .ref l∧vs=[y]∧H l=some (.lst xs)∧xs.length < sizeLine∧Q .non (upd H l (.lst (xs ++ [y])))
theorem wE:MtM X "list.append" ZQ:=by
 intro pins s σ H x vs v us Q I rx rv h;obtain ⟨l,xs,y,rfl,rfl,hH,hz,q⟩:=h;cases rx;obtain ⟨u,rfl,ru⟩:=rv.one;obtain ⟨z,its,n,r,hl,e⟩:=I.lstM hH;refine call_meets F.slot_list_append ⟨_,e,rfl⟩ F.entry_list_append (F.args_list_append_2 _ _) (PySem.list_append l its.toArray n u (by rw [wHq]; omega)) ⟨e, ?_⟩;refine ⟨.non,_,I.lset (its':=its ++ [u]) hH e (by simp) (r.append (.cons ru .nil)) ?_,rfl,q⟩;rw [List.length_append,List.length_singleton];omega
def aIy:R2:=fun x y H Q=>∃ l b xs zs,x= .ref l∧y= .ref b∧H l=some (.lst xs)∧H b=some (.lst zs)∧xs.length + zs.length≤sizeLine∧∀ p,H p=none→Q (.ref p) (upd H p (.lst (xs ++ zs)))
theorem aB4:OpR X (binaryOp .Add) aIy:=by
 intro pins s σ H x y v u Q I rx ry h;obtain ⟨l,b,xs,zs,rfl,rfl,hH,hB,hz,q⟩:=h;cases rx;cases ry;obtain ⟨z,its,n,r,hl,e⟩:=I.lstM hH;obtain ⟨z2,its2,n2,r2,hl2,e2⟩:=I.lstM hB;refine PySem.P.add_list e e2 ?_ (by rw [wHq,wHq]; omega);have ea:its.toArray ++ its2.toArray=(its ++ its2).toArray:=by simp
 rw [ea];exact ⟨.ref _,_,I.lnew (t':=s.toks) (r.append r2) (by rw [List.length_append]; omega),rfl,q _ I.fresh⟩
end
section
variable {prog:Program} {w:World} {A:Around} {E:Value→Shared→Prop} {s:Shared}
end
section
variable {X:Cx}
end
end L2
namespace Att
open PySem PySem.W PySem.Calls PyProof.Rows
theorem rK {P:Params} {h:Heap}:∀ (ns:List Int) (vs:List Value),WellAll P h vs (ns.map WData.int)→IntsAre vs ns:=by
 intro ns;induction ns with
 | nil =>
   intro vs w;rw [List.map_nil] at w;cases w;exact .nil
 | cons n ns ih =>
   intro vs w;rw [List.map_cons] at w;cases w with
   | cons a b =>
     cases a;exact .cons _ _ (ih _ b)
theorem LU {l:OpenLaw} {n:Nat} (hn:l.most=some n) {P:Params} {h:Heap} {args:List WData} {vals:List Value}
   (hpre:l.row.toRowW.claim.pre args=true) (hwl:WellAll P h vals args) :
   ∃ a vs ns,vals=[Value.ref a]∧args=[WData.list (ns.map WData.int)]∧h.get? a=some { cls:=.type "list",data:=.seq vs.toArray }∧IntsAre vs ns∧ns.length≤n:=by
 have hsh:WShape.hasAll [] args [.list .int]=true:=(pre_splitW hpre).1;have hc:l.pre.holds [] { args:=args }=true:=(pre_splitW hpre).2;obtain ⟨d,r,rfl,h1,h2⟩:=hasAllW_cons hsh;obtain rfl:=hasAllW_nil h2;obtain ⟨xs,rfl,h3⟩:=hasW_list h1;obtain ⟨ns,rfl⟩:=items_int h3;have hlen:ns.length≤n:=by
   unfold OpenLaw.pre at hc;have h4:(WTm.not (.lt (.lit (.int (n:Int))) (.len (.arg 0)))).holds [] { args:=[.list (ns.map .int)] }=true:=by
     have h4:=(holds_andW hc).1;rw [hn] at h4;exact h4
   have h5:=condW_of h4 (w_not (w_lt w_lit (w_len_list (w_arg rfl))));rw [List.length_map] at h5;refine Nat.le_of_not_lt fun q=>?_;have q':(n:Int) < ((ns.length:Nat):Int):=by omega
   first
     | (rw [decide_eq_true q'] at h5; exact absurd h5 (by decide))
     | (simp at h5; omega)
 cases hwl with
 | cons w1 w2 =>
   cases w2;cases w1 with
   | list ho hall=>exact ⟨_,_,ns,rfl,rfl,ho,rK ns _ hall,hlen⟩
theorem NS (l:OpenLaw) (args:List WData):l.row.toRowW.claim.post args (.bool true) args=true :=
 postW_of (r:=l.row.toRowW) (X:=(true == true))
   (show WShape.has [] (.bool true) .bool=true by first | rfl | decide | simp [WShape.has,WShape.arms,WShape.armsAll])
   (show (WTm.eq .res (.lit (.bool true))).value [] { args:=args,res:=some (.bool true),after:=args }=some (.bool (true == true)) from w_eq_bool (w_res rfl) w_lit) rfl
theorem BY {l:OpenLaw} {n:Nat} {q:Program} {loose:List Str} {XP:(Str→Option Value)→Heap→Prop} {YP:World→Heap→Prop} {d:DefRec}
   (hn:l.most=some n) (hdf:d.params.defaults=[])
   (call:∀ (w:World) (s₀ s₁:Shared) (mg mb:Str→Option Value) (fa:Addr) (o:Obj) (pm cd doc:Value) (a:Addr) (vs:List Value) (ns:List Int),
     Ground q loose [] XP w s₀ mg mb s₁.heap→YP w s₁.heap→
     s₁.heap.get? fa=some o→o.data= .func (docDef d.name d.params d.body d.scope pm cd doc)→s₁.heap.CodeRec cd d.name→mg d.name=some (.ref fa)→
     s₁.heap.get? a=some { cls:=.type "list",data:=.seq vs.toArray }→IntsAre vs ns→ns.length≤n→s₁.gens= #[]→
     codeAny (model l.prog w) callerA (.call (.ref fa) ⟨[.ref a],[]⟩) (fun r s'=>r= .ok (.ret (.bool true))∧OldK s₁.heap s'.heap∧s'.os=s₁.os∧AllBare s'.gens) s₁) :
   WalkO q loose XP YP l.row.toRowW d [] (fun f vs=>PySem.call f vs):=by
 intro w s₀ s₁ mg mb G Y fa o pm cd doc dV kV ho hd hcd hD hmg hg args vals as hpre hlay hrd hwl hlo;obtain rfl:dV= .none:=Dflts.none hD hdf;obtain rfl:kV= .none:=Dflts.noKw hD;obtain ⟨a,vs,ns,rfl,rfl,hobj,hints,hlen⟩:=LU hn hpre hwl;refine enter_call (codeAny_mono (call w s₀ s₁ mg mb fa o pm cd doc a vs ns G Y ho (fd_plain hd) hcd hmg hobj hints hlen hg) fun r s' hq=>?_);obtain ⟨rfl,h2,h3,h4⟩:=hq;exact ⟨.inl ⟨.bool true,.bool true,[],rfl,fun _=>rfl,.bool true,NS l _,fun _=>⟨List.Pairwise.nil,fun _ hm=>(nomatch hm)⟩⟩,h2,h3,h4⟩
section
variable {prog:Program} {w:World} {A:Around} {E:Value→Shared→Prop} {s:Shared} {K:Frag}
end
end Att
namespace L2
open PySem PySem.Spec PyProof.Rows
theorem wA:∀ {vs:List Value} {ns:List Int},IntsAre vs ns→aO (ns.map V.int) vs
 | _,_,.nil=>.nil
 | _,_,.cons n t h=>.cons ⟨t,rfl⟩ (wA h)
def PY (H:Hp):Prop:= ∀ b,H b=none∨∃ o xs,H b=some (.frz o (.lst xs))
theorem TU {P:Program} {w:World} {K:W.Frag} {mg mb:Str→Option Value} {CX:CXT} {k:Nat} {fa a:Addr} {fd:FuncData} {x:Str} {sp:Sp} {s₁:Shared} {vs:List Value} {ns:List Int}
   (KX:K.In s₁.heap) (hns:s₁.heap.Ns mainGlobals mg) (hb:s₁.heap.Ns builtinsNs mb) (hbb:∀ x:Str,x≠"__name__"→mb x=bootBuiltins x) (hlim:s₁.heap.NoLimit) (hg:s₁.gens= #[])
   (ha:s₁.heap.get? a=some { cls:=.type "list",data:=.seq vs.toArray }) (hi:IntsAre vs ns) (hl:ns.length≤sizeLine) (hr:aU k callerA)
   (F:∀ base:Heap,K.In base→base.Ns mainGlobals mg→bC P w K mg base CX k fa fd [x] sp) (hbind:∀ (s:Shared) (u:Value),BindsTo s fd ⟨[u],[]⟩ [(x,u)])
   (hsp:∀ H:Hp,PY H→SqL K H a (ns.map V.int)→sp [.ref a] H (fun v _=>v= .bl true) fun _ _ _=>False)
   (hCX:∀ H e s',CX [] H s₁ (fun _ _ _=>False) e s'→False) :
   codeAny (model P w) callerA (.call (.ref fa) ⟨[.ref a],[]⟩) (fun r s'=>r= .ok (.ret (.bool true))∧OldK s₁.heap s'.heap∧s'.os=s₁.os∧AllBare s'.gens) s₁:=by
 have rv:=wA hi;have lenV:=hi.length;have core :∀ H:Hp,PY H→SqL K H a (ns.map V.int)→HOk P w H s₁.heap→(∀ b,H b≠none→b=a)→(H a≠none→K.lookup a=none)→
     codeAny (model P w) callerA (.call (.ref fa) ⟨[.ref a],[]⟩) (fun r s'=>r= .ok (.ret (.bool true))∧OldK s₁.heap s'.heap∧s'.os=s₁.os∧AllBare s'.gens) s₁:=by
   intro H hO hS hok hA hK;have base_of:∀ {b:Addr} {o:Obj},s₁.heap.get? b=some o→H b=none→(yQ s₁.heap H).get? b=some o:=fun e n=>SI e n;have noA:∀ {b:Addr} {o:Obj} {es:Array DictEntry} {ep:Nat},s₁.heap.get? b=some o→o.data= .dict es ep→H b=none:=fun {b o es ep} e d=>by
     cases q:H b with
     | none=>rfl
     | some u =>
       have e':b=a:=hA b (by rw [q]; simp);subst e';rw [ha] at e; cases e;have d':Data.seq vs.toArray _=Data.dict es ep:=d;cases d'
   have nsK:∀ {b:Addr} {m:Str→Option Value},s₁.heap.Ns b m→(yQ s₁.heap H).Ns b m:=fun {b m} ⟨o,es,ep,e,d,r⟩=>⟨o,es,ep,base_of e (noA e d),d,r⟩;have hKb:K.In (yQ s₁.heap H):=fun b o e=>base_of (KX b o e) (by
     cases q:H b with
     | none=>rfl
     | some u =>
       have e':b=a:=hA b (by rw [q]; simp);subst e';rw [hK (by rw [q]; simp)] at e; cases e)
   have hM:Mod K mg (yQ s₁.heap H):=⟨hKb,nsK hns,⟨mb,nsK hb,hbb⟩,let ⟨mc,h1,h2⟩:=hlim; ⟨mc,nsK h1,h2⟩⟩;have e0:oU P w K mg (yQ s₁.heap H) callerA [] s₁ H:=⟨rfl,hM,fun b o e=>ZL e,Nat.le_of_eq (NJ _ _),trivial,fun b hb=>absurd (show b∈([]:List Addr) from hb) (by simp),hok,.of_eq hg⟩;refine codeAny_mono ((F _ hKb (nsK hns)).run callerA [] s₁ H ⟨[.ref a],[]⟩ [.ref a] [.ref a] _ _ hr e0 (hbind s₁ (.ref a)) (.cons rfl .nil) (hsp H hO hS)) fun r s' h=>?_;cases r with
   | error e=>exact (hCX H e s' h).elim
   | ok fl =>
     cases fl with
     | next=>exact False.elim h
     | brk=>exact False.elim h
     | cont=>exact False.elim h
     | ret u =>
       obtain ⟨v,H',os,bare,un,hok',r',q⟩:=h;have q':v= .bl true:=q;subst q';obtain rfl:u=Value.bool true:=r';refine ⟨rfl,OldK.of_keep fun b o e=>?_,os,bare⟩;cases q:H b with
       | none=>exact un.keep b o e q (by intro z; exact absurd (show b∈([]:List Addr) from z) (by simp)) (by simp)
       | some u =>
         rcases hO b with z | ⟨ob,xs,z⟩
         · rw [q] at z; cases z
         · have z2:=un.frzs b ob _ z;obtain ⟨e1,_⟩:=hok b _ z;obtain ⟨e2,_⟩:=hok' b _ z2;rw [e] at e1; cases e1;exact e2
 cases hk:K.lookup a with
 | some o =>
   have e:=KX a o hk;rw [ha] at e;cases e;refine core (fun _=>none) (fun _=>.inl rfl) (.inr ⟨_,vs.toArray,_,hk,rfl,rfl,rfl,by rw [wHq,lenV]; exact hl,by simpa using rv⟩) (fun b u z=>by have z':(none:Option HO)=some u:=z; cases z') (fun b z=>absurd rfl z) fun z=>absurd rfl z
 | none =>
   refine core (fun b=>if b=a then some (.frz { cls:=.type "list",data:=.seq vs.toArray } (.lst (ns.map V.int))) else none) (fun b=>?_) (.inl (.inr ⟨{ cls:=.type "list",data:=.seq vs.toArray },if_pos rfl⟩)) (fun b u z=>?_) (fun b z=>?_) fun _=>hk
   · by_cases hb:b=a
     · exact .inr ⟨_,_,if_pos hb⟩
     · exact .inl (if_neg hb)
   · by_cases hb:b=a
     · have z':=(if_pos hb).symm.trans z;cases z';subst hb;exact ⟨ha,by rw [List.length_map]; exact hl,vs,_,rv,ha⟩
     · have z':=(if_neg hb).symm.trans z;cases z'
   · by_cases hb:b=a
     · exact hb
     · exact absurd (if_neg hb) z
theorem aAu {l:W.OpenLaw} {n k:Nat} {q:Program} {loose:List Str} {XP:(Str→Option Value)→Heap→Prop} {YP:World→Heap→Prop} {d:DefRec} {K:Params→W.Frag} {CX:World→CXT} {sp:World→Sp} {x:Str}
   (hn:l.most=some n) (hn2:n≤sizeLine) (hdf:d.params.defaults=[]) (hr:aU k callerA)
   (hY:∀ (w:World) (h:Heap),YP w h→(K w.params).In h)
   (F : ∀ (w:World) (mg:Str→Option Value) (fa:Addr) (h:Heap),(K w.params).In h→h.Ns mainGlobals mg→mg d.name=some (.ref fa)→
     ∃ fd:FuncData,(∀ (s:Shared) (u:Value),BindsTo s fd ⟨[u],[]⟩ [(x,u)])∧
       ∀ base:Heap,(K w.params).In base→base.Ns mainGlobals mg→bC l.prog w (K w.params) mg base (CX w) k fa fd [x] (sp w))
   (hsp:∀ (w:World) (H:Hp) (a:Addr) (ns:List Int),ns.length≤n→PY H→SqL (K w.params) H a (ns.map V.int)→sp w [.ref a] H (fun v _=>v= .bl true) fun _ _ _=>False)
   (hCX:∀ (w:World) (H:Hp) (s:Shared) (e:Value) (s':Shared),CX w [] H s (fun _ _ _=>False) e s'→False) :
   W.WalkO q loose XP YP l.row.toRowW d [] (fun f vs=>PySem.call f vs):=by
 refine Att.BY hn hdf fun w s₀ s₁ mg mb fa o pm cd doc a vs ns G Y ho hd hcd hmg hobj hints hlen hg=>?_;have KX:=hY w _ Y;obtain ⟨fd,hb,hF⟩:=F w mg fa _ KX G.T.g hmg;exact TU KX G.T.g G.T.b G.T.builtins G.T.nolimit hg hobj hints (Nat.le_trans hlen hn2) hr hF hb (fun H hO hS=>hsp w H a ns hlen hO hS) fun H e s'=>hCX w H s₁ e s'
theorem RD {l:W.OpenLaw} {n k:Nat} {q:Program} {loose:List Str} {XP:(Str→Option Value)→Heap→Prop} {YP:World→Heap→Prop} {d:DefRec} {K:Params→W.Frag} {CX:CXT} {sp:W.Frag→Sp} {x:Str}
   (hn:l.most=some n) (hn2:n≤sizeLine) (hdf:d.params.defaults=[]) (hr:aU k callerA)
   (hY:∀ (w:World) (h:Heap),YP w h→(K w.params).In h)
   (F : ∀ (w:World) (mg:Str→Option Value) (fa:Addr) (h:Heap),(K w.params).In h→h.Ns mainGlobals mg→mg d.name=some (.ref fa)→
     ∃ fd:FuncData,(∀ (s:Shared) (u:Value),BindsTo s fd ⟨[u],[]⟩ [(x,u)])∧
       ∀ base:Heap,(K w.params).In base→base.Ns mainGlobals mg→bC l.prog w (K w.params) mg base CX k fa fd [x] (sp (K w.params)))
   (hsp:∀ (K:W.Frag) (H:Hp) (a:Addr) (ns:List Int),ns.length≤n→PY H→SqL K H a (ns.map V.int)→sp K [.ref a] H (fun v _=>v= .bl true) fun _ _ _=>False)
   (hCX:∀ (H:Hp) (s:Shared) (e:Value) (s':Shared),CX [] H s (fun _ _ _=>False) e s'→False) :
   W.WalkO q loose XP YP l.row.toRowW d [] (fun f vs=>PySem.call f vs) :=
 aAu (K:=K) (CX:=fun _=>CX) (sp:=fun w=>sp (K w.params)) hn hn2 hdf hr hY F (fun w H a ns h1 h2 h3=>hsp (K w.params) H a ns h1 h2 h3) fun _ H s e s'=>hCX H s e s'
noncomputable def aB (s:Stmt) (j:Nat):Stmt:=match s with
 | .ClassDef _ _ _ body _ _ _ _ _ _ _=>body.getD j (.Pass ⟨0,0,0,0⟩)
 | _=>.Pass ⟨0,0,0,0⟩
noncomputable def gF (s:Stmt):Arguments:=match s with
 | .FunctionDef _ a _ _ _ _ _ _ _ _=>a
 | _=>{ posonlyargs:=[],args:=[],vararg:=none,kwonlyargs:=[],kw_defaults:=[],kwarg:=none,defaults:=[] }
noncomputable def aH (s:Stmt):List Stmt:=match s with
 | .FunctionDef _ _ b _ _ _ _ _ _ _=>b
 | _=>[]
noncomputable def aF (s:Stmt):Scope:=match s with
 | .FunctionDef _ _ _ _ _ _ sc _ _ _=>sc
 | _=>{ kind:=.function,names:=[],isGenerator:=false,isCoroutine:=false }
noncomputable abbrev CX0:CXT:=fun _ _ _ _ _ _=>False
noncomputable abbrev E0:XK:=fun _ _ _=>False
theorem iR {X:Cx}:iB CX0 X E0:=fun _ _ _ _ _ _ _ h=>h.elim
section
variable {P:Program} {w:World} {K:W.Frag} {mg:Str→Option Value} {base:Heap}
end
section
variable {X:Cx}
theorem pv (i:Nat) {x:Str} {pos:Pos} (hN:X.N[i]? =some x:=by rfl) (hv:Vis X.env.scope x:=by first | exact Or.inl rfl | exact Or.inr (Or.inl rfl) | exact Or.inr (Or.inr rfl)) (hd:(x == ("__debug__":Str))=false:=by decide)
   (hcd:(x == ("__classdict__":Str))=false:=by decide):PE X (.Name x pos) (aGt i):=UU hN hv hd hcd
end
def aN (H H':Hp):Prop:= ∀ b o,H b=some o→H' b=some o
theorem aN.refl (H:Hp):aN H H:=fun _ _ h=>h
theorem aN.trans {H H1 H2:Hp} (a:aN H H1) (b:aN H1 H2):aN H H2:=fun c o h=>b c o (a c o h)
theorem aN.seq {K:W.Frag} {H H':Hp} {a:Addr} {xs:List V} (e:aN H H') (h:SqL K H a xs):SqL K H' a xs:=by
 rcases h with (h | ⟨o,h⟩) | h
 · exact .inl (.inl (e _ _ h))
 · exact .inl (.inr ⟨o,e _ _ h⟩)
 · exact .inr h
end L2
set_option maxHeartbeats 4000000
namespace L2
open PySem PySem.Spec PyProof.Rows
def Sm (k:Nat) (x:Int):Prop:=x.natAbs < 2 ^ k
theorem Sm.mono {k l:Nat} {x:Int} (h:Sm k x) (q:k≤l):Sm l x:=wFq h (Nat.pow_le_pow_right (by decide) q)
theorem Sm.neg {k:Nat} {x:Int} (h:Sm k x):Sm k (-x):=by unfold Sm at *; rw [Int.natAbs_neg]; exact h
theorem Sm.le {k:Nat} {x y:Int} (h:Sm k y) (a:0≤x) (b:x≤y):Sm k x:=by unfold Sm at *; omega
theorem Sm.div {k:Nat} {x y:Int} (h:Sm k x) (hy:0 < y):Sm k (x / y):=by
 rcases Int.le_total 0 x with z | z
 · exact h.le (Int.ediv_nonneg z (by omega)) (Int.ediv_le_self _ z)
 · have a:x≤x / y:=Int.le_ediv_of_mul_le hy (by
     have:=Int.mul_le_mul_of_nonpos_left z (show 1≤y by omega);omega)
   have b:x / y≤0:=by
     have:=Int.ediv_le_ediv hy z;rw [Int.zero_ediv] at this; exact this
   unfold Sm at *; omega
theorem Sm.bits {k:Nat} {x:Int} (h:Sm k x):Builtin.Int.intBits x≤k:=by
 unfold Builtin.Int.intBits;split
 · exact Nat.zero_le _
 · rename_i z;have hz:x.natAbs≠0:=fun e=>z (by rw [Int.natAbs_eq_zero.mp e]; rfl);exact (Nat.log2_lt hz).mpr h
theorem Sm.log {k:Nat} {x:Int} (h:Sm k x) (e:k≤9000) (hk:0 < k):x.natAbs.log2 < 9000:=by
 by_cases hz:x.natAbs=0
 · rw [hz]; decide
 · exact wFq ((Nat.log2_lt hz).mpr h) e
section
variable {X:Cx}
def AS (i j:Int):Prop:=IntMulOk i j
theorem QJ {i j:Int} (h:Sm 64 i):AS i j:=IntMulOk.of_left h.bits
theorem aIF {i j:Int} (h:Sm 64 j):AS i j:=IntMulOk.of_right h.bits
def xC (_i j:Int):Prop:=0 < j∧∃ k,Sm k j∧0 < k∧k≤9000
theorem YD {k:Nat} {i j:Int} (h:0 < j) (q:Sm k j) (e:0 < k:=by decide) (e':k≤9000:=by decide):xC i j:=⟨h,k,q,e,e'⟩
theorem aAl:OpR X (binaryOp .Mult) (rI AS fun i j=>.int (i * j)):=opI fun _ _ _ _ _ _ _ hc q=>by
 exact mul_int q hc
theorem PZ:OpR X (binaryOp .FloorDiv) (rI xC fun i j=>.int (i / j)):=opI fun i j _ _ _ _ _ hc q=>by
 obtain ⟨h1,k,a,hk,e⟩:=hc;exact floordiv_int (by omega) (by rw [Int.fdiv_eq_ediv_of_nonneg i (by omega)]; exact q) (.inl (PyProof.noPylong_of_log2 (a.log e hk)))
end
section
variable {X:Cx} {CX:CXT} {k:Nat} {f C:Addr} {fd:FuncData} {ps ks:List Str} {sp:Sp} {E:XK} {x m:Str} {p pos apos kpos:Pos} {kws:List Keyword} {tk:TA}
variable {g:List Value→List Value→List Value} {gV:List V→List V→List V}
end
theorem fO.at {h:Heap} {a:Addr} {items:Array Value} {n:Nat} (e:h.get? a=some { cls:=.type "tuple",data:=.seq items n }):fO h a items:=⟨⟨_,e,rfl,n,rfl⟩,fun o q=>by rw [e] at q; cases q; rfl⟩
end L2
namespace LE
open PySem PyProof.Rows
open AutoSeq1 (wpAny_loadPart')
open Builtin
variable {prog:Program} {w:World} {A:Around} {E:Value→Shared→Prop} {s:Shared}
theorem aIa {it l:Addr} {i:Nat} {xs:Array Value} {x:Value} {Q:Value→Shared→Prop} (a:s.heap.IsTupleIter it l i) (b:s.heap.IsTuple l xs) (c:xs[i]? =some x)
   (q:∀ h',h'.IsTupleIter it l (i + 1)→Heap.SameBut it s.heap h'→Q x { s with heap:=h' }):wpAny (model prog w) A (Builtin.SmallTypes.nextOf (.ref it)) Q E s:=by
 obtain ⟨o,ho,hc,hd⟩:=id a;obtain ⟨p,hp,_,n,hn⟩:=b;unfold Builtin.SmallTypes.nextOf;refine wAq (wpAny_callSpecial?_slot (name:=Str.ofString "__next__") a.typeIs F.slot_tuple_iterator_next (wpAny_call_entry F.slot_tuple_iterator_next a.typeIs F.entry_tuple_iterator_next ?_ (F.args_tuple_iterator_next_1 _)));show wpAny _ _ (field (.ref it) 0 >>= _) _ _ _;refine wAq (wpAny_field ho hd (x:=.ref l) rfl ?_);show wpAny _ _ (if (Value.ref l == Value.none)=true then _ else _) _ _ _;rw [if_neg (show ¬((Value.ref l == Value.none)=true) from nofun)];show wpAny _ _ (field (.ref it) 1 >>= _) _ _ _;refine wAq (wpAny_field ho hd (x:=.int i 0) rfl ?_);show wpAny _ _ (seqItems? (.ref l) >>= _) _ _ _;refine wAq (wpAny_seqItems hp hn ?_);simp only [Int.toNat_natCast,c];exact wAq (wpAny_setField ho hd (by simp) (wBq ⟨x,rfl,wBq (q _ ⟨_,Heap.get?_update_self _ ho (Obj.isFreed_of_fields (Obj.data_mapFields hd _)),(Obj.cls_mapFields ..).trans hc,by rw [Obj.data_mapFields hd]; simp [rawInt]⟩ (Heap.SameBut.update ..))⟩))
theorem aIM {it l:Addr} {i:Nat} {xs:Array Value} {Q:Value→Shared→Prop} (hh:A.handled=none) (a:s.heap.IsTupleIter it l i) (b:s.heap.IsTuple l xs) (c:xs[i]? =none)
   (q:∀ h' e,Heap.ExtBut it s.heap h'→(∃ o,h'.get? e=some o∧o.cls= .type "StopIteration")→E (.ref e) { s with heap:=h' }):wpAny (model prog w) A (Builtin.SmallTypes.nextOf (.ref it)) Q E s:=by
 obtain ⟨o,ho,hc,hd⟩:=id a;obtain ⟨p,hp,_,n,hn⟩:=b;unfold Builtin.SmallTypes.nextOf;refine wAq (wpAny_callSpecial?_slot (name:=Str.ofString "__next__") a.typeIs F.slot_tuple_iterator_next (wpAny_call_entry F.slot_tuple_iterator_next a.typeIs F.entry_tuple_iterator_next ?_ (F.args_tuple_iterator_next_1 _)));show wpAny _ _ (field (.ref it) 0 >>= _) _ _ _;refine wAq (wpAny_field ho hd (x:=.ref l) rfl ?_);show wpAny _ _ (if (Value.ref l == Value.none)=true then _ else _) _ _ _;rw [if_neg (show ¬((Value.ref l == Value.none)=true) from nofun)];show wpAny _ _ (field (.ref it) 1 >>= _) _ _ _;refine wAq (wpAny_field ho hd (x:=.int i 0) rfl ?_);show wpAny _ _ (seqItems? (.ref l) >>= _) _ _ _;refine wAq (wpAny_seqItems hp hn ?_);simp only [Int.toNat_natCast,c];refine wAq (wpAny_rule (wAq (wpAny_setField ho hd (by simp) ?_)));show wpAny _ _ (newExc (.type "StopIteration") [] >>= _) _ _ _;refine wAq ?_;simp only [newExc,newTuple];refine wAq (wpAny_newObj_type ?_ (by size_fits));refine wAq (m:=firstArgMember _ _) (wpAny_of_eq (a:=Value.none) (by first | rfl | (simp only [firstArgMember]; rfl)) (wpAny_newObj_type ?_ (by size_fits)));simp only [raiseNew];refine wAq (wpAny_handled ?_);first | rw [show A.in1.handled=none from hh] | rw [hh]
 exact wAq (wBq (wpAny_throw (q _ _ (((Heap.SameBut.update ..).extBut.push _).push _) ⟨_,wGq _ rfl,rfl⟩)))
theorem aEc (hh:A.handled=none) (it l:Addr) (hne:l≠it) (xs:Array Value):Draws prog w A it [it,l] xs.size (fun i v=>xs[i]? =some v) (fun i h=>h.IsTupleIter it l i∧h.IsTuple l xs) where
 live:=fun _ _ st=>let ⟨o,ho,_⟩:=st.1; ⟨o,ho⟩
 frame:=fun _ _ _ st hk=>⟨st.1.at fun o e=>hk it (by simp) o e,let ⟨o,e,r⟩:=st.2; ⟨o,hk l (by simp) o e,r⟩⟩
 item:=fun i s Q E hi st hQ=>aIa st.1 st.2 (x:=xs[i]) (by simp [hi]) fun h' a b=>hQ _ h' s.toks (by simp [hi]) ⟨a,st.2.extBut b.extBut hne⟩ b
 done:=fun s Q E st hE=>aIM hh st.1 st.2 (by simp) hE
theorem aDN (hh:A.handled=none) (it l:Addr) (i:Nat) (xs:Array Value) (hx:xs[i]? =none):Draws prog w A it [it,l] i (fun _ _=>True) (fun j h=>j=i∧h.IsTupleIter it l j∧h.IsTuple l xs) where
 live:=fun _ _ st=>let ⟨o,ho,_⟩:=st.2.1; ⟨o,ho⟩
 frame:=fun _ _ _ st hk=>⟨st.1,st.2.1.at fun o e=>hk it (by simp) o e,let ⟨o,e,r⟩:=st.2.2; ⟨o,hk l (by simp) o e,r⟩⟩
 item:=fun j s Q E hi st hQ=>absurd st.1 (Nat.ne_of_lt hi)
 done:=fun s Q E st hE=>aIM hh st.2.1 st.2.2 hx hE
theorem YN (l:Addr) (items:Array Value) (o:Obj) (ho:o.cls= .type "tuple") (n:Nat) (hd:o.data= .seq items n) :
   Meets (Builtin.«enumerate.__new__» ⟨[.type "enumerate",.ref l],[]⟩) (fun _ R s=>s.heap.get? l=some o∧
     R (.ok (.ret (.ref (s.heap.push { cls:=.type "tuple_iterator",data:=.fields #[.ref l,.int 0 0] }).objs.size)))
       { s with heap:=(s.heap.push { cls:=.type "tuple_iterator",data:=.fields #[.ref l,.int 0 0] }).push { cls:=.type "enumerate",data:=.fields #[.none,.bool false,.ref s.heap.objs.size,rawInt 0,.none,.none] } }) :=
 .of_wp fun prog w A R s h=>by
   obtain ⟨hp,g,d,tk,os⟩:=s;obtain ⟨oc,od,dt,sl⟩:=o
   replace ho:oc= .type "tuple":=ho
   replace hd:dt= .seq items n:=hd
   subst ho hd;obtain ⟨hl,h⟩:=h;have hsub:=sub_enumerate;have hL:Heap.IsTuple (Shared.heap ⟨hp,g,d,tk,os⟩) l items:=⟨_,hl,rfl,n,rfl⟩
   wp_walk using wpAny_loadPart' hl
   refine wpAny_stack_any fun st=>wBq ?_;split
   · rename_i c _ _ _ _ _;cases (c == Value.type "enumerate") <;> (wp_walk using wpAny_loadPart' hl,wpAny_pyIter_tuple hL) <;> exact ⟨_,rfl,h⟩
   · wp_walk using wpAny_loadPart' hl,wpAny_pyIter_tuple hL
     exact ⟨_,rfl,h⟩
theorem LC {l:Addr} {items:Array Value} {Q:Value→Shared→Prop} (hL:s.heap.IsTuple l items)
   (h :∀ h',IsEnum h' (s.heap.objs.size + 1) s.heap.objs.size 0 .none→h'.IsTupleIter s.heap.objs.size l 0→h'.objs.size=s.heap.objs.size + 2→
     (∀ b o,s.heap.get? b=some o→h'.get? b=some o)→Q (.ref (s.heap.objs.size + 1)) { s with heap:=h' }) :
   wpAny (model prog w) A (call (.type "enumerate") [.ref l]) Q E s:=by
 obtain ⟨o,hl,hc,n,hd⟩:=hL;refine callType_new F.called_enumerate (by decide) (F.typeCall_enumerate_1 _) (F.newCall_enumerate_1 _) (fun obj=>F.args_object_init_2 obj _) F.entry_enumerate_new (YN l items o hc n hd) ⟨hl, ?_⟩;have hz:(s.heap.push { cls:=.type "tuple_iterator",data:=.fields #[.ref l,.int 0 0] }).objs.size=s.heap.objs.size + 1:=Heap.size_push ..;show _∧_;rw [hz];have he:IsEnum ((s.heap.push { cls:=.type "tuple_iterator",data:=.fields #[.ref l,.int 0 0] }).push
     { cls:=.type "enumerate",data:=.fields #[.none,.bool false,.ref s.heap.objs.size,rawInt 0,.none,.none] }) (s.heap.objs.size + 1) s.heap.objs.size 0 .none:=by
   have:=wGq (s.heap.push { cls:=.type "tuple_iterator",data:=.fields #[.ref l,.int 0 0] })
     (o:={ cls:=.type "enumerate",data:=.fields #[.none,.bool false,.ref s.heap.objs.size,rawInt 0,.none,.none] }) rfl
   rw [hz] at this; exact this
 exact ⟨⟨_,he,rfl⟩,h _ he ⟨_,wEq _ (wGq _ rfl),rfl,rfl⟩ (by rw [Heap.size_push,hz]) fun b o x=>wEq _ (wEq _ x)⟩
end LE
namespace L2
open PySem PySem.Spec PyProof.Rows
section
variable {X:Cx} {pins:List (Addr×Obj)} {σ:St} {H:Hp} {s:Shared} {h':Heap}
theorem Inv.turnNew {t':Nat} {ch:List Addr} {T:Addr} {u:HO} (I:Inv X pins σ H s)
   (hch:∀ b∈ch,(b∈X.ex∨X.s₀.heap.objs.size≤b)∧b≠X.env.locals∧(∀ x c,X.env.cells.lookup x=some c→c≠b)∧∀ p∈X.pn ++ pins,p.1≠b) (hn:∀ b∈ch,H b=none)
   (k:∀ b o,b∉ ch→s.heap.get? b=some o→h'.get? b=some o) (hT:s.heap.objs.size≤T) (new:bJ X.prog X.w (upd H T u) h' T u):Inv X pins σ (upd H T u) { s with heap:=h',toks:=t' }:=by
 have fT:H T=none:=I.hok.fresh hT;have nT:∀ {b o},s.heap.get? b=some o→b≠T:=fun q=>Nat.ne_of_lt (wFq (Heap.lt_size q) hT);have nit:∀ b u,H b=some u→b∉ ch:=fun b u e z=>by rw [hn b z] at e; cases e
 refine I.step (g':=s.gens) (d':=s.drawn) (ch:=ch) hch (fun b o _ _ hc e _=>k b o hc e) (fun b o _ _ hc e _=>⟨o.slots,k b o hc e⟩) (fun b o _ q n=>by rw [aD (nT q)]; exact n)
   (fun b o hc e=>⟨o,k b o hc e⟩) (fun b xs e=>by rw [aD (aG e fT)]; exact e) (fun b o v e=>by rw [aD (aG e fT)]; exact e) (fun b ps e=>⟨#[],by rw [aD (aG e fT),e]; simp⟩) (fun m hm=>?_) (fun b v e=>?_) I.bare
 · obtain ⟨o,es,ep,ho,r⟩:=hm;exact ⟨o,es,ep,k _ o (fun z=>(hch _ z).2.1 rfl) ho,r⟩
 · by_cases hb:b=T
   · subst hb;rw [aI] at e;cases e;exact new
   · rw [aD hb] at e;refine (I.hok b v e).stay (fun c v hc q=>k c v ?_ q) (fun c q=>by rw [aD (aG q fT)]; exact q) fun c xs q=>by rw [aD (aG q fT)]; exact q
     rcases hc with z | z
     · rw [z]; exact nit b _ e
     · exact nit c _ z
noncomputable def Ite (K:W.Frag) (a:Addr):It :=
 ⟨fun i H=>∃ xs x,SqT K H a xs∧xs[i]? =some x,fun i H x H'=>∃ T v,x= .ref T∧H T=none∧H'=upd H T (.tup [.int i,v])∧∀ xs,SqT K H a xs→xs[i]? =some v,fun i H=>∃ xs,SqT K H a xs∧xs.length≤i⟩
theorem JU {P:Program} {w:World} {K:W.Frag} {es:List Expr} {x1} {tp:Pos} (a e it:Addr) (hei:e≠it) (hai:a≠it) (hae:a≠e) :
   KP P w K (.Tuple es x1 tp) (Ite K a) [e,it] e (fun i h=>(∃ old,IsEnum h e it ((i:Nat):Int) old)∧h.IsTupleIter it a i) where
 mem:=by simp
 obj :=fun i h st b hb=>by
   obtain ⟨⟨old,h1⟩,o,h2,c,d⟩:=st;rcases List.mem_cons.mp hb with rfl | hb
   · exact ⟨_,h1,fun v z=>by have z':Data.fields _=Data.cell v:=z; cases z'⟩
   · have e':b=it:=by simpa using hb
     subst e';exact ⟨o,h2,fun v z=>by rw [d] at z; cases z⟩
 keep:=fun i h h' st k=>⟨let ⟨old,q⟩:=st.1; ⟨old,k e (by simp) _ q⟩,st.2.at fun o q=>k it (by simp) o q⟩
 item := by
   intro X hP hw hK hc i pins s σ H E I hf st hg;subst hP hw hK;obtain ⟨xs,x,hq,hx⟩:=hg;obtain ⟨its,rv,p,hz⟩:=I.tuple hq;obtain ⟨u,hu,ru⟩:=rv.get hx;obtain ⟨⟨old,he⟩,hit⟩:=st;have hi:i < its.toArray.size:=by
     have:=(List.getElem?_eq_some_iff.mp hu).1;simpa using this
   have D:=LE.aEc (prog:=X.prog) (w:=X.w) (A:=X.A.in1) (I.ok.hd hc) it a hai its.toArray;refine wpAny_pyNext_enum_itemD (A:=X.A) D he ⟨hit,(show s.heap.IsTuple a its.toArray from p)⟩ hi hei (by simp [hei,Ne.symm hae]) fun y h1 tk hy ho hs' hT hsz hk=>?_;refine ⟨_,rfl,wpAny_letOwnedTupleGo_enum ho fun h2 he2 sb=>?_⟩;have hy':y=u:=by
     have z:its.toArray[i]? =some u:=by simpa using hu
     exact Option.some.inj (hy.symm.trans z)
   subst hy';have hTe:s.heap.objs.size≠e:=Nat.ne_of_gt (Heap.lt_size he);have gT:h2.get? s.heap.objs.size=some { cls:=.type "tuple",data:=.seq #[.int i tk,y] }:=(sb.2 _ hTe).trans hT;refine ⟨.ref s.heap.objs.size,upd H s.heap.objs.size (.tup [.int i,x]),I.turnNew (ch:=[e,it]) (h':=h2) (fun b hb=>?_) (fun b hb=>(hf b hb).1) (fun b o hb q=>?_) (Nat.le_refl _) ?_,rfl,⟨_,x,rfl,I.hok.fresh (Nat.le_refl _),rfl,fun ys hy=>by rw [I.tuple_inj hy hq]; exact hx⟩,⟨⟨_,by simpa using he2⟩, ?_⟩,fun b hb=>?_⟩
   · obtain ⟨f0,f1,f2,f3,f4,f5⟩:=hf b hb;exact ⟨f3,f1,f4,f5⟩
   · simp only [List.mem_cons,List.not_mem_nil,or_false,not_or] at hb;exact (sb.2 b hb.1).trans (hk b o hb.1 hb.2 q)
   · exact ⟨by show 2≤sizeLine; decide,[.int i tk,y],.cons ⟨tk,rfl⟩ (.cons ru .nil),fO.at gT⟩
   · exact hs'.1.at fun o q=>(sb.2 it (Ne.symm hei)).trans q
   · have hl:∀ b,b∈ [e,it]→b≠s.heap.objs.size:=fun b hb z=>by
       rcases List.mem_cons.mp hb with r | r
       · exact hTe (z▸r)
       · obtain ⟨o,q,_⟩:=hit;have r':b=it:=by simpa using r
         have l:=Heap.lt_size q;rw [←r',z] at l;exact absurd l (Nat.lt_irrefl _)
     rw [aD (hl b hb)];exact (hf b hb).1
 done:=by
   intro X hP hw hK hc i pins s σ H E I hf st hg;subst hP hw hK;obtain ⟨xs,hq,hx⟩:=hg;obtain ⟨its,rv,p,hz⟩:=I.tuple hq;obtain ⟨⟨old,he⟩,hit⟩:=st;obtain ⟨f0,f1,f2,f3,f4,f5⟩:=hf it (by simp);have hl:=rv.length;have hx':its.toArray[i]? =none:=by simp; omega
   refine wpAny_pyNext_enum_endD (A:=X.A) (LE.aDN (prog:=X.prog) (w:=X.w) (A:=X.A.in1) (I.ok.hd hc) it a i its.toArray hx') he ⟨rfl,hit,(show s.heap.IsTuple a its.toArray from p)⟩ fun h' eb=>⟨rfl,I.turned (t':=s.toks) (fun b o hb e=>eb b o hb e) f0 f1 f3 f4 f5⟩
 self:=fun _ _ _ _ _ st h=>let ⟨_,q⟩:=st.1; wpAny_pyIter_enum q h
def aGf (K:W.Frag) (ta:TA):TI:=fun σ H R=>ta σ H fun vs H1=>∃ a,vs=[.ref a]∧(∃ xs,SqT K H1 a xs)∧R (Ite K a) H1
theorem XZ {es:List Expr} {x1} {tp:Pos} {e:Expr} {ta:TA} {p pos:Pos} (hg:Gl X "enumerate") (hm:X.mg "enumerate"=none) (ha:PA X [e] ta) (hs:starEach [e] X.env=[(false,eval e X.env)]:=by rfl) :
   PI X (.Tuple es x1 tp) (.Call (.Name "enumerate" p) [e] [] pos) (aGf X.K ta):=by
 intro pins s σ H R I h;refine Call_ (nW I hg hm boot_enumerate (PyProof.Rows.callWith_type1 (thn (ha pos pins s σ H _ I h) fun us s1 zz=>?_) hs rfl));obtain ⟨vs,H1,I1,r1,q1⟩:=zz;obtain ⟨a,e,⟨xs,hq⟩,q⟩:=q1;subst e;obtain ⟨u,rfl,r⟩:=fF r1;cases r;obtain ⟨its,rv,ht,hz⟩:=I1.tuple hq;have ht':s1.heap.IsTuple a its.toArray:=ht;have hl:a < s1.heap.objs.size:=let ⟨o,e,_⟩:=ht'; Heap.lt_size e
 refine LE.LC ht' fun h' he hit hsz k=>?_;have I2:Inv X pins σ H1 { s1 with heap:=h' }:=I1.kept (t':=s1.toks) k;refine wpAny_pyIter_enum (s:={ s1 with heap:=h' }) he ?_;refine ⟨s1.heap.objs.size + 1,[s1.heap.objs.size + 1,s1.heap.objs.size],_,_,H1,rfl,I2,JU a _ _ (Nat.succ_ne_self _) (Nat.ne_of_lt hl) (Nat.ne_of_lt (Nat.lt_succ_of_lt hl)),⟨⟨_,he⟩,hit⟩,fun b hb=>?_,q⟩;have hb':s1.heap.objs.size≤b:=by
   rcases List.mem_cons.mp hb with z | z
   · rw [z]; exact Nat.le_succ _
   · have z':b=s1.heap.objs.size:=by simpa using z
     exact Nat.le_of_eq z'.symm
 exact I1.fpOk hb' (I1.hok.fresh hb')
end
section
variable {X:Cx}
theorem IxR.imp {r r':R2} (h:IxR X r) (f:∀ x y H Q,r' x y H Q→r x y H Q):IxR X r':=fun value slice pins s σ H x y v u Q I rx ry q hs=>h value slice pins s σ H x y v u Q I rx ry (f _ _ _ _ q) hs
theorem bK.imp {g:Value} {r r':List V→Hp→VK→Prop} (h:bK X g r) (f:∀ x H Q,r' x H Q→r x H Q):bK X g r':=fun pins s σ H xs us Q I rs q=>h pins s σ H xs us Q I rs (f _ _ _ q)
theorem PG.imp {e:Expr} {t t':TG} (h:PG X e t) (f:∀ v σ H Q,t' v σ H Q→t v σ H Q):PG X e t':=fun pins s σ H v u Q I r q=>h pins s σ H v u Q I r (f _ _ _ _ q)
theorem PI.imp {tg it:Expr} {t t':TI} (h:PI X tg it t) (f:∀ σ H R,t' σ H R→t σ H R):PI X tg it t':=fun pins s σ H R I q=>h pins s σ H R I (f _ _ _ q)
end
theorem aBI {n:Nat}:ixN (n + 1) 0=some 0:=by unfold ixN; rw [if_pos (by decide),if_pos (by omega)]; rfl
theorem aBl {n:Nat}:ixN (n + 2) 1=some 1:=by unfold ixN; rw [if_pos (by decide),if_pos (by omega)]; rfl
theorem aBj {n:Nat}:ixN (n + 3) 2=some 2:=by unfold ixN; rw [if_pos (by decide),if_pos (by omega)]; rfl
theorem fW {H:Hp} {p q:Addr} {o u:HO} (h:H q=some u) (n:H p=none):upd H p o q=some u:=by rw [aD (aG h n)]; exact h
theorem aW {H:Hp} {p:Addr} (h:H p=none) (o:HO):aN H (upd H p o):=fun b u q=>fW q h
noncomputable def tyN (H:Hp):V→Option String
 | .non=>some "NoneType"
 | .bl _=>some "bool"
 | .int _=>some "int"
 | .str _=>some "str"
 | .ref a=>match H a with
   | some (.lst _)=>some "list"
   | some (.tup _)=>some "tuple"
   | some (.dK _)=>some "dict"
   | _=>none
 | _=>none
noncomputable def vK (n T:String):Bool:=n == T || (n == "bool" && T == "int")
noncomputable def kR:List String:=["int","bool","tuple","str","list","dict"]
noncomputable def GE:List String:=["NoneType","bool","int","str","list","tuple","dict"]
theorem aCk {K:W.Frag} {H:Hp} {x:V} {n:String} (h:tyN H x=some n):oZ K H x (.type n):=by
 unfold tyN at h;split at h
 · cases h; exact .non
 · cases h; exact .bl _
 · cases h; exact .int _
 · cases h; exact .str _
 · split at h
   · rename_i e; cases h; exact .lst e
   · rename_i e; cases h; exact .tup e
   · rename_i e; cases h; exact .dK e
   · cases h
 · cases h
theorem aDb (K:W.Frag):∀ n∈GE,∀ T∈kR,W.kitOne K (.type n) (.type T)=some (vK n T):=by
 intro n hn T hT;simp only [GE,kR,List.mem_cons,List.not_mem_nil,or_false] at hn hT;rcases hn with rfl | rfl | rfl | rfl | rfl | rfl | rfl <;> rcases hT with rfl | rfl | rfl | rfl | rfl | rfl <;> rfl
theorem OpR.imp {X:Cx} {f:Value→Value→Sem Value} {r r':R2} (h:OpR X f r) (g:∀ x y H Q,r' x y H Q→r x y H Q):OpR X f r':=fun pins s σ H x y v u Q I rx ry q=>h pins s σ H x y v u Q I rx ry (g _ _ _ _ q)
theorem aJV (i:Int):(if i < 0 then -i else i)=(i.natAbs:Int):=by split <;> omega
theorem MA {X:Cx}:bK X (.builtin "abs") (fun xs H Q=>∃ i,xs=[.int i]∧Q (.int (i.natAbs:Int)) H):=VN.imp <|by rintro _ _ _ ⟨i,a,q⟩;exact ⟨i,a,by rw [aJV]; exact q⟩
theorem aKz:((0:Nat):Int)=0:=rfl
theorem aHa:((1:Nat):Int)=1:=rfl
theorem aGZ:((2:Nat):Int)=2:=rfl
theorem aKB:((3:Nat):Int)=3:=rfl
section
variable {prog:Program} {w:World} {A:Around} {R:Result→Shared→Prop} {s:Shared}
noncomputable abbrev NoE:Value→Shared→Prop:=fun _ _=>False
theorem JQ {elt target iter:Expr} {ifs:List Expr} {scope:Scope} {pos:Pos} {it acc:Value} {env:Env} (I:Nat→Shared→Prop)
   (turn : ∀ n s,I n s→wpAny (model prog w) A (pyNext it) (fun r s₁=>match r with
     | none=>R (.ok .next) s₁
     | some v=>wpAny (model prog w) A (letOwnedTupleGo target it v) (fun _ s₁'=>wpAny (model prog w) A (assign target env v) (fun _ s₂ =>
         wpAny (model prog w) A (forIn ifs true fun c r=>if r=true then do let ok ←isTrue c env (eval c env); pure (ForInStep.yield ok) else pure (ForInStep.yield r)) (fun ok s₃ =>
           if ok=true then wpAny (model prog w) A (eval elt env) (fun x s₄=>wpAny (model prog w) A (call (.builtin "list.append") [acc,x]) (fun _ s₅=>∃ m,m < n∧I m s₅) NoE s₄) NoE s₃
           else ∃ m,m < n∧I m s₃) NoE s₂) NoE s₁') NoE s₁) NoE s) (n:Nat) (h:I n s) :
   codeAny (model prog w) A (.compLoop (.ListComp elt [⟨target,iter,ifs,0⟩] scope pos) 0 it acc env) R s:=by
 refine codeAny_loop rfl I (fun n s hI=>?_) n h;refine wpAny_noted (m:=compTurn (.ListComp elt [⟨target,iter,ifs,0⟩] scope pos) 0 it acc env) ?_;rw [compTurn_list];refine wAq (wpAny_standAt (wAq (wpAny_mono (turn n s hI) (fun r s₁ h₁=>?_) fun _ _ f=>f.elim)));cases r with
 | none=>exact wBq h₁
 | some v =>
   refine wAq (wpAny_mono h₁ (fun _ s₁' h₁'=>?_) fun _ _ f=>f.elim);refine wAq (wpAny_mono h₁' (fun _ s₂ h₂=>wAq (wpAny_mono h₂ (fun ok s₃ h₃=>?_) fun _ _ f=>f.elim)) fun _ _ f=>f.elim);cases ok with
   | false=>exact wBq ⟨rfl,h₃⟩
   | true =>
     exact wAq (wAq (wpAny_mono h₃ (fun x s₄ h₄=>wAq (wpAny_mono h₄ (fun _ s₅ h₅=>wBq (wBq ⟨rfl,h₅⟩)) fun _ _ f=>f.elim)) fun _ _ f=>f.elim))
end
noncomputable def lK (cl cells:List (Str×Addr)):List (Str×NameKind)→Prop
 | []=>True
 | (n,k) :: r=>(k= .free→∃ c,cl.lookup n=some c∧cells.lookup n=some c)∧lK cl cells r
noncomputable def vQ (cells:List (Str×Addr)):List (Str×Addr)→Prop
 | []=>True
 | (n,c) :: r=>cells.lookup n=some c∧vQ cells r
theorem vQ.look {cells:List (Str×Addr)}:∀ {cl:List (Str×Addr)} {x:Str} {c:Addr},vQ cells cl→cl.lookup x=some c→cells.lookup x=some c
 | [],_,_,_,h=>by cases h
 | (n,c') :: r,x,c,ok,h=>by
   cases hx:x == n with
   | true =>
     rw [List.lookup_cons,hx] at h;cases h;rw [beq_iff_eq.mp hx]; exact ok.1
   | false =>
     rw [List.lookup_cons,hx] at h;exact vQ.look ok.2 h
theorem lK.look {cl cells:List (Str×Addr)} {f:Str×NameKind→Str×NameKind} (hf:∀ y,(f y).1=y.1∧((f y).2= .cell∨(f y).2= .free→y.2= .cell∨y.2= .free)):∀ {names:List (Str×NameKind)} {x:Str},lK cl cells names→
   ((names.map f).lookup x=some .cell∨(names.map f).lookup x=some .free)→(∃ c,cl.lookup x=some c)∨(x,NameKind.cell)∈names
 | [],_,_,h=>by rcases h with h | h <;> cases h
 | (n, k) :: r,x,ok,h=>by
   have h1:=hf (n,k);rw [List.map_cons] at h;cases hx:x == (f (n,k)).1 with
   | true =>
     have e:List.lookup x (f (n,k) :: r.map f)=some (f (n,k)).2:=by rw [List.lookup_cons,hx]
     rw [e] at h;have hk:k= .cell∨k= .free:=h1.2 (h.imp Option.some.inj Option.some.inj);rcases hk with hk | hk
     · subst hk;rw [beq_iff_eq.mp hx,h1.1];exact .inr (wDq ..)
     · obtain ⟨c,q,_⟩:=ok.1 hk;rw [beq_iff_eq.mp hx,h1.1]; exact .inl ⟨c,q⟩
   | false =>
     have e:List.lookup x (f (n,k) :: r.map f)=List.lookup x (r.map f):=by rw [List.lookup_cons,hx]
     rw [e] at h;exact (lK.look hf ok.2 h).imp_right fun z=>wCq _ z
theorem cU:∀ (names:List (Str×NameKind)) (n:Nat) (acc:List (Str×Addr)),cellsFrom n names acc=cellsFrom n names [] ++ acc
 | [],_,_=>rfl
 | (y,k) :: r,n,acc=>by
   unfold cellsFrom;split
   · rw [cU r (n + 1) ((y,n) :: acc),cU r (n + 1) [(y,n)],List.append_assoc]; rfl
   · exact cU r n acc
theorem dI:∀ {names:List (Str×NameKind)} {n:Nat} {acc:List (Str×Addr)} {x:Str} {c:Addr},(x,c)∈cellsFrom n names acc→(x,c)∈acc∨((x,NameKind.cell)∈names∧n≤c)
 | [],_,_,_,_,h=>.inl h
 | (y, k) :: r,n,acc,x,c,h=>by
   unfold cellsFrom at h;split at h
   · rename_i hk;rcases dI h with z | ⟨z,l⟩
     · rcases List.mem_cons.mp z with e | z
       · cases e; rw [beq_iff_eq.mp hk]; exact .inr ⟨wDq ..,Nat.le_refl _⟩
       · exact .inl z
     · exact .inr ⟨wCq _ z,Nat.le_of_succ_le l⟩
   · rcases dI h with z | ⟨z,l⟩
     · exact .inl z
     · exact .inr ⟨wCq _ z,l⟩
theorem gJ:∀ {names:List (Str×NameKind)} {n:Nat} {acc:List (Str×Addr)} {x:Str},(x,NameKind.cell)∈names∨(∃ c,(x,c)∈acc)→∃ c,(x,c)∈cellsFrom n names acc
 | [],_,_,_,h=>by
   rcases h with h | h
   · cases h
   · exact h
 | (y, k) :: r,n,acc,x,h=>by
   unfold cellsFrom;split
   · refine gJ ?_;rcases h with h | ⟨c,h⟩
     · rcases List.mem_cons.mp h with e | h
       · cases e; exact .inr ⟨n,wDq ..⟩
       · exact .inl h
     · exact .inr ⟨c,wCq _ h⟩
   · rename_i hk;refine gJ (h.imp_left fun h=>?_);rcases List.mem_cons.mp h with e | h
     · cases e; exact absurd rfl hk
     · exact h
theorem CB {l:List (Str×Addr)} {x:Str}:(∃ c,(x,c)∈l)→∃ c,l.lookup x=some c:=by
 induction l with
 | nil=>rintro ⟨_,h⟩; cases h
 | cons p r ih =>
   rintro ⟨c,h⟩;rw [List.lookup_cons];cases hb:x == p.1 with
   | true=>exact ⟨p.2,rfl⟩
   | false =>
     rcases List.mem_cons.mp h with e | h
     · rw [←e] at hb; rw [beq_self_eq_true] at hb; cases hb
     · exact ih ⟨c,h⟩
theorem dQ {n:Nat} {names:List (Str×NameKind)} {cl:List (Str×Addr)} {x:Str} {c:Addr} (h:(cellsFrom n names cl).lookup x=some c):((x,c)∈cellsFrom n names []∧(x,NameKind.cell)∈names∧n≤c)∨cl.lookup x=some c:=by
 rw [cU,List.lookup_append] at h;cases e:(cellsFrom n names []).lookup x with
 | none=>rw [e] at h; exact .inr h
 | some d =>
   rw [e] at h; cases h;have m:=PySem.mem_of_lookup e;rcases dI m with z | z
   · cases z
   · exact .inl ⟨m,z⟩
theorem oO {n:Nat} {names:List (Str×NameKind)} {cl:List (Str×Addr)} {x:Str} {c:Addr} (hx:(x,NameKind.cell)∉ names) (h:cl.lookup x=some c):(cellsFrom n names cl).lookup x=some c:=by
 rw [cU,List.lookup_append];cases e:(cellsFrom n names []).lookup x with
 | none=>exact h
 | some d =>
   rcases dI (PySem.mem_of_lookup e) with z | z
   · cases z
   · exact absurd z.1 hx
theorem xA {n:Nat} {names:List (Str×NameKind)} {cl:List (Str×Addr)} {x:Str} (h:(x,NameKind.cell)∈names):∃ c,(cellsFrom n names cl).lookup x=some c∧n≤c:=by
 obtain ⟨c,e⟩:=CB (gJ (n:=n) (acc:=[]) (.inl h));refine ⟨c,by rw [cU,List.lookup_append,e]; rfl, ?_⟩;rcases dI (PySem.mem_of_lookup e) with z | z
 · cases z
 · exact z.2
noncomputable def aIV (scope:Scope) (x:Str):Bool:=scope.names.contains (x,NameKind.cell)
theorem DH {M:Model} {A:Around} {E:Value→Shared→Prop} {s:Shared} {scope:Scope} {globals:Addr} {cl:List (Str×Addr)} {qual:Str} {env:Env} {Q:Env→Shared→Prop}
   (hQ:Q (newEnv scope s.heap.objs.size globals (cellsFrom (s.heap.objs.size + 1) scope.names cl) qual none .none (some env) builtinsNs) { s with heap:=pushCells (s.heap.push { cls:=.type "dict",data:=.dict #[] }) scope.names }) :
   wpAny M A (newFunctionEnv scope globals cl [] qual none .none (some env)) Q E s:=by
 simp only [newFunctionEnv,Option.isSome_some,if_true];refine wAq (wpAny_alloc ?_);refine wAq (wpAny_layCells _ (fun name kind cells=>by cases hkc:kind == NameKind.cell <;> simp [hkc]) _ _ _ _ ?_);rw [show ({ s with heap:=s.heap.push { cls:=.type "dict",data:=.dict #[] } }:Shared).heap.objs.size=s.heap.objs.size + 1 from Heap.size_push ..];rw [List.forIn_nil];exact wAq (wBq (wBq hQ))
noncomputable def cxC (X:Cx) (N:List Str) (scope:Scope) (cl:List (Str×Addr)) (C:Addr) (s₀:Shared) (H₀:Hp) (ex:List Addr):Cx :=
 { X with N:=N,s₀:=s₀,H₀:=H₀,env:=compEnvC scope (cellsFrom (C + 1) scope.names cl) C X.env,outer:=X.stack,stack:=X.stack,ex:=ex,fn:=aIV scope,pn:=[],xe:=NoE }
noncomputable def PR (js:List (Option Nat)) (σ:St):St:=js.map fun o=>match o with | none=>none | some j=>(σ[j]?).getD none
noncomputable def fY (X:Cx) (scope:Scope) (cl:List (Str×Addr)):List Str→List (Option Nat)→Prop
 | [],[]=>True
 | _ :: N,none :: J=>fY X scope cl N J
 | x :: N,some j :: J=>(X.N[j]? =some x∧X.env.kindOf x=some .cell∧(relabel scope X.env).names.lookup x=some .cell∧∃ c,cl.lookup x=some c∧X.env.cells.lookup x=some c)∧fY X scope cl N J
 | _,_=>False
theorem fY.len {X:Cx} {scope:Scope} {cl:List (Str×Addr)}:∀ {N:List Str} {J:List (Option Nat)},fY X scope cl N J→N.length=J.length
 | [],[],_=>rfl
 | _ :: _,none :: _,h=>congrArg (· + 1) (fY.len (show fY X scope cl _ _ from h))
 | _ :: _,some _ :: _,h=>congrArg (· + 1) (fY.len h.2)
 | [],_ :: _,h=>h.elim
 | _ :: _,[],h=>h.elim
theorem fY.at {X:Cx} {scope:Scope} {cl:List (Str×Addr)}:∀ {N:List Str} {J:List (Option Nat)} {i:Nat} {x:Str} {σ:St} {v:V},fY X scope cl N J→N[i]? =some x→(PR J σ)[i]? =some (some v)→
   ∃ (j:Nat),σ[j]? =some (some v)∧X.N[j]? =some x∧X.env.kindOf x=some .cell∧(relabel scope X.env).names.lookup x=some .cell∧∃ c,cl.lookup x=some c∧X.env.cells.lookup x=some c
 | [],[],_,_,_,_,_,h,_=>by cases h
 | y :: N,none :: J,i,x,σ,v,ok,h,q=>by
   cases i with
   | zero=>cases q
   | succ i=>exact fY.at (show fY X scope cl N J from ok) h q
 | y :: N,some j :: J,i,x,σ,v,ok,h,q=>by
   cases i with
   | zero =>
     cases h;refine ⟨j, ?_,ok.1⟩;have q':some ((σ[j]?).getD none)=some (some v):=q;have q2:=Option.some.inj q';cases e:σ[j]? with
     | none=>rw [e] at q2; cases q2
     | some o=>rw [e] at q2; exact congrArg some q2
   | succ i=>exact fY.at ok.2 h q
 | [],_ :: _,_,_,_,_,ok,_,_=>ok.elim
 | _ :: _,[],_,_,_,_,ok,_,_=>ok.elim
section
variable {X:Cx} {pins:List (Addr×Obj)} {σ:St} {H:Hp} {s:Shared} {N:List Str} {scope:Scope} {cl:List (Str×Addr)} {js:List (Option Nat)} {fp:List Addr}
structure iO (X:Cx) (N:List Str) (scope:Scope) (cl:List (Str×Addr)) (js:List (Option Nat)):Prop where
 clos:closureFor scope X.env=pure cl
 own:∀ x,(x,NameKind.cell)∈scope.names→cl.lookup x=none
 kind:scope.kind= .function
 names:∀ y∈scope.names,y.2= .local→scope.names.lookup y.1=some .local
 free:lK cl X.env.cells scope.names
 cls:vQ X.env.cells cl
 cap:fY X scope cl N js
theorem AH (S:iO X N scope cl js) (I:Inv X pins σ H s) (hf:∀ b∈fp,vN X pins H b) (he:∀ b∈fp,b < s.heap.objs.size) {h':Heap} {m:Str→Option Value} {t':Nat} (hn:h'.Ns s.heap.objs.size m)
   (k:∀ b o,s.heap.get? b=some o→h'.get? b=some o) (hc:CellsOk h' (s.heap.objs.size + 1) (cellsFrom (s.heap.objs.size + 1) scope.names [])):Inv (cxC X N scope cl s.heap.objs.size s H fp) [] (PR js σ) H { s with heap:=h',toks:=t' }:=by
 have hcl:∀ x c,cl.lookup x=some c→X.env.cells.lookup x=some c:=fun x c h=>S.cls.look h;have lo:∀ x c,cl.lookup x=some c→c < s.heap.objs.size:=fun x c h=>let ⟨_,q⟩:=I.cell x c (hcl x c h); q.lt
 refine ⟨⟨I.mod, ?_,I.ok.glob,I.ok.blt,Nat.le_refl _,fun x y c a b=>?_,fun x hx=>?_,fun x c z e=>?_,I.ok.hd,I.ok.frames,.inl rfl,fun b hb=>⟨Nat.ne_of_lt (he b hb),fun x c e=>?_⟩,
   I.bs,Nat.le_trans I.ok.bsz I.sz,fun b o e hb=>?_,fun b hb z=>?_,I.stack,I.stkFree⟩,rfl,I.bare,⟨fun b o q _ _ _=>k b o q,fun b o q _ _ _=>⟨o.slots,k b o q⟩,fun _ _ _ n _=>n,fun b o q _=>⟨o,k b o q⟩,fun _ _ q=>q,fun _ _ _ q=>q,fun b ps q=>⟨#[],by rw [show H b=_ from q]; simp⟩⟩, ?_,fun x c e=>?_, ?_,fun x c e=>?_,(fun p hp=>nomatch hp),I.hok.kept k, ?_⟩
 · exact S.kind
 · rcases dQ a with ⟨m1,_,l1⟩ | a1 <;> rcases dQ b with ⟨m2,_,l2⟩ | b1
   · exact name_of_addr hc.apart m1 m2
   · exact absurd (wFq (lo y c b1) (Nat.le_of_succ_le l1)) (Nat.lt_irrefl _)
   · exact absurd (wFq (lo x c a1) (Nat.le_of_succ_le l2)) (Nat.lt_irrefl _)
   · exact I.ok.inj x y c (hcl x c a1) (hcl y c b1)
 · have q:=lK.look (f:=fun y=>if (y.2 == .free && X.env.scope.kind == .function && X.env.kindOf y.1 == some .cell) then (y.1,.cell) else (y.1,y.2)) (fun y=>by
     by_cases hc:(y.2 == .free && X.env.scope.kind == .function && X.env.kindOf y.1 == some .cell)=true
     · rw [if_pos hc];refine ⟨rfl,fun _=>.inr ?_⟩;rw [Bool.and_eq_true,Bool.and_eq_true] at hc;exact beq_iff_eq.mp hc.1.1
     · rw [if_neg hc];exact ⟨rfl,fun z=>z⟩) S.free hx
   rcases q with ⟨c,q⟩ | q
   · refine ⟨c,oO (fun z=>?_) q⟩;rw [S.own x z] at q; cases q
   · obtain ⟨c,e,_⟩:=xA (n:=s.heap.objs.size + 1) (cl:=cl) q;exact ⟨c,e⟩
 · have z':(x,NameKind.cell)∈scope.names:=List.contains_iff_mem.mp z;rcases dQ e with ⟨_,_,l⟩ | q
   · exact Nat.le_of_succ_le l
   · rw [S.own x z'] at q; cases q
 · rcases dQ e with ⟨_,_,l⟩ | q
   · exact Nat.ne_of_gt (wFq (he b hb) (Nat.le_of_succ_le l))
   · exact (hf b hb).2.2.2.2.1 x c (hcl x c q)
 · obtain ⟨_,n2⟩:=I.bs b o e;rcases (hf b hb).2.2.2.1 with z | z
   · exact I.ok.noex b o e z
   · exact absurd (wFq (Heap.lt_size (I.ok.bs b o e).1) z) (Nat.lt_irrefl _)
 · obtain ⟨_,f1,f2,_⟩:=hf b hb;exact (List.mem_cons.mp (I.stkSub b z)).elim f1 f2
 · obtain ⟨mX,hnX,hl⟩:=I.loc;refine ⟨m,hn,fun i x v e1 e2 e3=>?_⟩;obtain ⟨j,q1,q2,q3,q4,c,q5,q6⟩:=S.cap.at e1 e2;obtain ⟨u,r,l⟩:=hl j x v q2 q1 (.inr (.inl q3));refine ⟨u,r,.inr ⟨.inl q4,c,oO (fun z=>?_) q5, ?_⟩⟩
   · rw [S.own x z] at q5; cases q5
   rcases l with ⟨l,_⟩ | ⟨_,c',e',z⟩
   · rw [q3] at l; cases l
   · rw [q6] at e'; cases e';obtain ⟨o,ho,hd⟩:=z;exact ⟨o,k _ _ ho,hd⟩
 · rcases dQ e with ⟨m1,_,_⟩ | q
   · exact ⟨none,(hc.empty x c m1).1⟩
   · obtain ⟨v,o,ho,hd⟩:=I.cell x c (hcl x c q);exact ⟨v,o,k _ _ ho,hd⟩
 · exact I.hok.fresh (Nat.le_refl _)
 · rcases dQ e with ⟨_,_,l⟩ | q
   · exact I.hok.fresh (Nat.le_of_succ_le l)
   · exact I.freeC x c (hcl x c q)
 · show (js.map _).length=N.length;rw [List.length_map]; exact S.cap.len.symm
end
noncomputable def PTs (X:Cx) (ifs:List Expr) (t:TT):Prop :=
 ∀ (pins:List (Addr×Obj)) (s:Shared) (σ:St) (H:Hp) (Q:Bool→Hp→Prop),Inv X pins σ H s→t σ H Q→
   wpAny (model X.prog X.w) X.A (forIn ifs true fun c r=>if r=true then do let ok ←isTrue c X.env (eval c X.env); pure (ForInStep.yield ok) else pure (ForInStep.yield r)) (TP X pins σ Q) X.xe s
theorem aA0 {X:Cx}:PTs X [] (fun _ H Q=>Q true H):=fun pins s σ H Q I h=>wpAny_tests_nil ⟨H,I,h⟩
theorem XM {X:Cx} {c:Expr} {t:TT} (h:PT X c t):PTs X [c] t:=fun pins s σ H Q I q=>wpAny_tests_one (h pins s σ H Q I q)
def RH (J:It) (D:Addr) (g:TG) (ts:TT) (te:TE) (Q:VK) (σ:St) (H:Hp):Prop:= ∃ W:Nat→Nat→St→Hp→Prop,(∃ m,W 0 m σ H)∧∀ i m σ' H',W i m σ' H'→
 (J.stop i H'∧Q (.ref D) H')∨(J.go i H'∧∃ N:St→Hp→Prop,(∀ σ2 H2,N σ2 H2→∃ m',m' < m∧W (i + 1) m' σ2 H2)∧∀ x H2,J.yld i H' x H2→g x σ' H2 fun σ3 H3=>ts σ3 H3 fun ok H4=>if ok=true then te σ3 H4 fun y H5 =>
   ∃ ys,H5 D=some (.lst ys)∧ys.length < sizeLine∧N σ3 (upd H5 D (.lst (ys ++ [y]))) else N σ3 H4)
def TX (wi:TI) (g:TG) (ts:TT) (te:TE) (js:List (Option Nat)):TE:=fun σ H Q=>wi σ H fun J H1=>∀ D,H1 D=none→RH J D g ts te Q (PR js σ) (upd H1 D (.lst []))
section
variable {X:Cx} {pins:List (Addr×Obj)} {σ:St} {H:Hp} {s:Shared} {N:List Str} {scope:Scope} {cl:List (Str×Addr)} {js:List (Option Nat)} {fp:List Addr} {tg elt iter:Expr} {ifs:List Expr} {pos:Pos} {J:It} {it:Addr} {tn:Nat→Heap→Prop}
 {g:TG} {ts:TT} {te:TE}
structure aEA (X:Cx) (pins:List (Addr×Obj)) (σ:St) (Q:VK) (D C:Addr) (s':Shared):Prop where
 ex:∃ H' m,Inv X pins σ H' s'∧s'.heap.Ns C m∧H' C=none∧C≠X.env.locals∧C∉ X.fs∧X.s₀.heap.objs.size≤C∧(∀ x c,X.env.cells.lookup x=some c→c≠C)∧(∀ p∈X.pn ++ pins,p.1≠C)∧Q (.ref D) H'
theorem BP (S:iO X N scope cl js) (hc:X.calm=true) (I:Inv X pins σ H s) (T:KP X.prog X.w X.K tg J fp it tn) (st:tn 0 s.heap) (hf:∀ b∈fp,vN X pins H b)
   (hg:∀ C s₀ H₀ ex,PG (cxC X N scope cl C s₀ H₀ ex) tg g) (ht:∀ C s₀ H₀ ex,PTs (cxC X N scope cl C s₀ H₀ ex) ifs ts) (he:∀ C s₀ H₀ ex,PE (cxC X N scope cl C s₀ H₀ ex) elt te) {Q:VK}
   (q:∀ D,H D=none→RH J D g ts te Q (PR js σ) (upd H D (.lst [])))
   {RR:Value→Addr→Result→Shared→Prop} (hR:∀ D C s',aEA X pins σ Q D C s'→RR (.ref D) C (.ok .next) s') {E:Value→Shared→Prop} :
   wpAny (model X.prog X.w) X.A (newList []) (fun acc s₃=>wpAny (model X.prog X.w) X.A (newFunctionEnv scope X.env.globals cl [] X.env.qual none .none (some X.env)) (fun cenv s₄ =>
     codeAny (model X.prog X.w) X.A (.compStart (.ListComp elt [⟨tg,iter,ifs,0⟩] scope pos) 0 (.ref it) acc { cenv with scope:=relabel scope X.env }) (RR acc cenv.locals) s₄) E s₃) E s:=by
 refine wpAny_newObj_type (DH ?_);have fD:H s.heap.objs.size=none:=I.hok.fresh (Nat.le_refl _);have I3:Inv X pins σ (upd H s.heap.objs.size (.lst [])) { s with heap:=s.heap.push { cls:=.type "list",dict:=none,data:=.seq ([]:List Value).toArray },toks:=s.toks } :=
   I.laid (t':=s.toks) (fun b u e=>wEq _ e) (Nat.le_refl _) ⟨Nat.zero_le _,[],0,.nil,wGq _ rfl⟩
 have lt:∀ b∈fp,b < s.heap.objs.size:=fun b hb=>let ⟨o,e,_⟩:=T.obj _ _ st b hb; Heap.lt_size e
 have hf3:∀ b∈fp,vN X pins (upd H s.heap.objs.size (.lst [])) b:=fun b hb=>⟨by rw [aD (Nat.ne_of_lt (lt b hb))]; exact (hf b hb).1,(hf b hb).2⟩;dsimp only;generalize hH2:s.heap.push { cls:=.type "list",dict:=none,data:=.seq ([]:List Value).toArray }=H2 at I3 ⊢;have hns₁:(pushCells (H2.push { cls:=.type "dict",data:=.dict #[] }) scope.names).Ns H2.objs.size (fun _=>none):=(Heap.Ns.new H2 (.type "dict")).keeps (pushCells_keeps _ _);have hco:CellsOk (pushCells (H2.push { cls:=.type "dict",data:=.dict #[] }) scope.names) (H2.objs.size + 1) (cellsFrom (H2.objs.size + 1) scope.names []):=by
   have ok:=cellsFrom_ok scope.names (H2.push { cls:=.type "dict",data:=.dict #[] }) (H2.objs.size + 1) [] ⟨fun _ _ hm=>(nomatch hm),List.Pairwise.nil⟩ (by rw [Heap.size_push]; exact Nat.le_refl _);rw [Heap.size_push] at ok;exact ok
 have keep:∀ b o,H2.get? b=some o→(pushCells (H2.push { cls:=.type "dict",data:=.dict #[] }) scope.names).get? b=some o:=fun b o e=>pushCells_keeps _ _ b o (wEq _ e);generalize pushCells (H2.push { cls:=.type "dict",data:=.dict #[] }) scope.names=h₁ at hns₁ hco keep ⊢;have hC:H2.objs.size=s.heap.objs.size + 1:=by rw [←hH2,Heap.size_push]
 have Ic:=AH (t':=s.toks) S I3 hf3 (fun b hb=>by show b < H2.objs.size; rw [hC]; exact Nat.lt_succ_of_lt (lt b hb)) hns₁ keep hco;obtain ⟨W,⟨m0,w0⟩,turn⟩:=q _ fD;have stat:∀ {H':Hp},(∀ b∈fp,H' b=none)→∀ b∈fp,vN (cxC X N scope cl H2.objs.size { s with heap:=H2,toks:=s.toks } (upd H s.heap.objs.size (.lst [])) fp) [] H' b:=fun hn b hb =>
   ⟨hn b hb,Nat.ne_of_lt (by rw [hC]; exact Nat.lt_succ_of_lt (lt b hb)),fun z=>(List.mem_cons.mp (I.stkSub b z)).elim (hf b hb).2.1 (hf b hb).2.2.1,.inl hb,fun x c e=>(dQ e).elim (fun z=>Nat.ne_of_gt (wFq (lt b hb) (Nat.le_trans (by rw [hC]; omega) z.2.2))) fun q=>(hf b hb).2.2.2.2.1 x c (S.cls.look q),(fun p hp=>nomatch hp)⟩
 have st1:tn 0 h₁:=T.keep _ _ _ st fun b hb o e=>keep b o (by rw [←hH2]; exact wEq _ e);have loop:codeAny (model X.prog X.w) X.A (.compLoop (.ListComp elt [⟨tg,iter,ifs,0⟩] scope pos) 0 (.ref it) (.ref s.heap.objs.size) (compEnvC scope (cellsFrom (H2.objs.size + 1) scope.names cl) H2.objs.size X.env)) (RR (.ref s.heap.objs.size) H2.objs.size)
     { s with heap:=h₁,toks:=s.toks }:=by
   refine JQ (fun n s'=>∃ i σ' H',Inv (cxC X N scope cl H2.objs.size { s with heap:=H2,toks:=s.toks } (upd H s.heap.objs.size (.lst [])) fp) [] σ' H' s'∧tn i s'.heap∧(∀ b∈fp,H' b=none)∧W i n σ' H') ?_ m0
     ⟨0,_,_,Ic,st1,fun b hb=>(hf3 b hb).1,w0⟩
   rintro n s3 ⟨i,σ3,H3,I3',st3,fr3,w3⟩;rcases turn i n σ3 H3 w3 with ⟨stop,qn⟩ | ⟨go,Nx,hN,step⟩
   · refine thn (T.done (cxC X N scope cl H2.objs.size { s with heap:=H2,toks:=s.toks } (upd H s.heap.objs.size (.lst [])) fp) rfl rfl rfl hc i [] s3 σ3 H3 NoE I3' (stat fr3) st3 stop) fun r s4 zz=>?_;obtain ⟨hr,I4⟩:=zz;subst hr;obtain ⟨mC,hnC,_⟩:=I4.loc;have IX:Inv X pins σ H3 s4:=I3.call' (ch:=fp) I4.os I4.base I4.hok I4.bare fun b hb=>by
       obtain ⟨_,f1,_,f3,f4,f5⟩:=hf3 b hb;exact ⟨f3,f1,f4,f5⟩
     have up:s.heap.objs.size≤H2.objs.size:=by rw [hC]; exact Nat.le_succ _
     have fp0:=I.fpOk (H':=H3) up I4.free;exact hR _ _ s4 ⟨⟨H3,mC,IX,hnC,I4.free,fp0.2.1,fp0.2.2.1,Nat.le_trans I.sz up,fp0.2.2.2.2.1,fp0.2.2.2.2.2,qn⟩⟩
   · refine thn (T.item (cxC X N scope cl H2.objs.size { s with heap:=H2,toks:=s.toks } (upd H s.heap.objs.size (.lst [])) fp) rfl rfl rfl hc i [] s3 σ3 H3 NoE I3' (stat fr3) st3 go) fun r s4 zz=>?_;obtain ⟨u,hr,h4⟩:=zz;subst hr;refine thn h4 fun _ s5 zz=>?_;obtain ⟨x,H5,I5,r5,y5,st5,fr5⟩:=zz;have I5':=I5.pinned (stat fr5) (T.obj _ _ st5);refine thn (hg _ _ _ _ _ s5 σ3 H5 x u _ I5' r5 (step x H5 y5)) fun _ s6 zz=>?_;obtain ⟨σ6,H6,I6,q6⟩:=zz;refine thn (ht _ _ _ _ _ s6 σ6 H6 _ I6 q6) fun ok s7 zz=>?_;obtain ⟨H7,I7,q7⟩:=zz;have again:∀ {σ8:St} {H8:Hp} {s8:Shared},Inv (cxC X N scope cl H2.objs.size { s with heap:=H2,toks:=s.toks } (upd H s.heap.objs.size (.lst [])) fp) ([] ++ uD fp s5.heap) σ8 H8 s8→Nx σ8 H8→
         ∃ m,m < n∧∃ i σ' H',Inv (cxC X N scope cl H2.objs.size { s with heap:=H2,toks:=s.toks } (upd H s.heap.objs.size (.lst [])) fp) [] σ' H' s8∧tn i s8.heap∧(∀ b∈fp,H' b=none)∧W i m σ' H':=fun {σ8 H8 s8} I8 n8=>by
       obtain ⟨m',hm,w8⟩:=hN σ8 H8 n8;refine ⟨m',hm,i + 1,σ8,H8,I8.unpinned,T.keep _ _ _ st5 fun b hb o e=>(I8.pin (b,o) (List.mem_append_right _ (List.mem_append_right _ (iH hb e)))).1,fun b hb=>?_,w8⟩;obtain ⟨o,e,d⟩:=T.obj _ _ st5 b hb;exact (I8.pin (b,o) (List.mem_append_right _ (List.mem_append_right _ (iH hb e)))).2.1
     cases ok with
     | false=>exact again I7 q7
     | true =>
       refine thn (he _ _ _ _ _ s7 σ6 H7 _ I7 q7) fun v s8 zz=>?_;obtain ⟨y,H8,I8,r8,ys,e8,l8,q8⟩:=zz;exact thn (wE _ s8 σ6 H8 (.ref s.heap.objs.size) [y] (.ref s.heap.objs.size) [v] (fun _ H9=>Nx σ6 H9) I8 rfl (.cons r8 .nil) ⟨_,ys,y,rfl,rfl,e8,l8,q8⟩) <|by rintro _ s9 ⟨_,H9,I9,_,q9⟩;exact again I9 q9
 exact codeAny_compStart_list loop (T.self _ 0 _ _ _ st1 loop)
theorem aAZ {wi:TI} (S:iO X N scope cl js) (hc:X.calm=true) (hi:PI X tg iter wi) (hg:∀ C s₀ H₀ ex,PG (cxC X N scope cl C s₀ H₀ ex) tg g) (ht:∀ C s₀ H₀ ex,PTs (cxC X N scope cl C s₀ H₀ ex) ifs ts) (he:∀ C s₀ H₀ ex,PE (cxC X N scope cl C s₀ H₀ ex) elt te)
   (hs:∀ x,foldedSetIterable iter X.env x=pure x:=by intro _; rfl):PE X (.ListComp elt [⟨tg,iter,ifs,0⟩] scope pos) (TX wi g ts te js):=by
 intro pins s σ H Q I h;rw [eval_ListComp];refine wpAny_comprehension_free (use:=none) (g:=⟨tg,iter,ifs,0⟩) (gs:=[]) rfl hs S.clos S.kind S.names (thn (hi pins s σ H _ I h) fun v s1 h1=>thn h1 fun itv s2 h2=>?_);obtain ⟨it,fp,tn,J,H2,e,I2,T,st2,f2,q⟩:=h2;subst e;refine BP (RR:=fun acc C=>compPost (model X.prog X.w) X.A X.xe none (EP X pins σ Q) acc C) S hc I2 T st2 f2 hg ht he q ?_;rintro D C s' ⟨H',m,I',hn,f0,f1,_,f3,f4,f5,q'⟩;exact ⟨m,hn,fun h' sb=>⟨.ref D,H',I'.turned (t':=s'.toks) (fun b o hb e=>(sb.2 b hb).trans e) f0 f1 (.inr f3) f4 f5,rfl,q'⟩⟩
theorem YM {wi:TI} {i:Nat} {y:Str} {py spos:Pos} (S:iO X N scope cl js) (hc:X.calm=true) (hN:X.N.Nodup) (hi':X.N[i]? =some y) (hy:X.env.scope.names.lookup y=some .local) (hi:PI X tg iter wi)
   (hg:∀ C s₀ H₀ ex,PG (cxC X N scope cl C s₀ H₀ ex) tg g) (ht:∀ C s₀ H₀ ex,PTs (cxC X N scope cl C s₀ H₀ ex) ifs ts) (he:∀ C s₀ H₀ ex,PE (cxC X N scope cl C s₀ H₀ ex) elt te)
   (hsw:swapsWith (.ListComp elt [⟨tg,iter,ifs,0⟩] scope pos) (some (.Name y py)) spos.line X.env=pure true:=by rfl)
   (hs:∀ x,foldedSetIterable iter X.env x=pure x:=by intro _; rfl):PS X (.Assign [.Name y py] (.ListComp elt [⟨tg,iter,ifs,0⟩] scope pos) spos) (aDF (TX wi g ts te js) (OE i)):=by
 intro pins s σ H D' I h;rw [exec_Assign_Name_used _ _ _ _ hsw];refine wAq (wpAny_standAt (wAq ?_));show wpAny _ X.A (do let _ ←comprehension (.ListComp elt [⟨tg,iter,ifs,0⟩] scope pos) scope X.env _ (newList []) false (eval iter X.env) (some (assign (.Name y py) X.env))) _ _ s;refine wAq (wpAny_mono (wpAny_comprehension_free (use:=some (assign (.Name y py) X.env)) (g:=⟨tg,iter,ifs,0⟩) (gs:=[]) (Q:=fun _ s'=>SP X pins D' .next s') rfl hs S.clos S.kind S.names
   (thn (hi pins s σ H _ I h) fun v s1 h1=>thn h1 fun itv s2 h2=>?_)) (fun _ s' hq=>wBq (wBq hq)) fun _ _ e=>e)
 obtain ⟨it,fp,tn,J,H2,e,I2,T,st2,f2,q⟩:=h2;subst e;refine BP (Q:=fun x H1=>OE i x σ H1 D'.nx) (RR:=fun acc C=>compPost (model X.prog X.w) X.A X.xe (some (assign (.Name y py) X.env)) (fun _ s'=>SP X pins D' .next s') acc C) S hc I2 T st2 f2 hg ht he q ?_;rintro D C s' ⟨H',m,I',hn,f0,f1,f2',f3,f4,f5,q'⟩;obtain ⟨oC,es,ep,hoC,hdC,hrC⟩:=hn;have Ip:Inv X (pins ++ [(C,oC)]) σ H' s':=I'.pins_of fun p hp=>(List.mem_append.mp hp).elim (fun z=>I'.pin p (List.mem_append_right _ z)) fun z=>by
   rw [List.mem_singleton.mp z];exact ⟨hoC,f0,f1,f2',fun v z=>by rw [hdC] at z; cases z⟩
 show wpAny _ X.A (assign (.Name y py) X.env (.ref D)) _ _ _;refine thn (IP (i:=i) hN hi' (.inl hy) (.inr hy) _ s' σ H' (.ref D) (.ref D) _ Ip rfl q') fun _ s'' zz=>?_;obtain ⟨σ',H'',I'',q''⟩:=zz;have pc:=I''.pin (C,oC) (List.mem_append_right _ (List.mem_append_right _ (List.mem_singleton.mpr rfl)));refine ⟨m,⟨oC,es,ep,pc.1,hdC,hrC⟩,fun h' sb=>⟨σ',H'', ?_,q''⟩⟩;exact (I''.unpinned).turned (t':=s''.toks) (fun b o hb e=>(sb.2 b hb).trans e) pc.2.1 f1 (.inr f3) f4 f5
end
mutual
inductive RdD (H:Hp):V→PyData→Prop
 | non:RdD H .non .none
 | bl (b:Bool):RdD H (.bl b) (.bool b)
 | int (i:Int):RdD H (.int i) (.int i)
 | str (x:Str):RdD H (.str x) (.str x)
 | tup {a:Addr} {xs:List V} {ds:List PyData}:H a=some (.tup xs)→RdDs H xs ds→RdD H (.ref a) (.tuple ds)
 | lst {a:Addr} {xs:List V} {ds:List PyData}:H a=some (.lst xs)→RdDs H xs ds→RdD H (.ref a) (.list ds)
inductive RdDs (H:Hp):List V→List PyData→Prop
 | nil:RdDs H [] []
 | cons {x:V} {xs:List V} {d:PyData} {ds:List PyData}:RdD H x d→RdDs H xs ds→RdDs H (x :: xs) (d :: ds)
end
section
variable {P:Program} {w:World} {H H':Hp} {h:Heap}
mutual
theorem RdD.reads (ok:HOk P w H h):∀ {x:V} {d:PyData} {u:Value},RdD H x d→aQ x u→∃ as,Reads h u d as
 | _,_,_,.non,r=>⟨[],by cases r; exact .none⟩
 | _,_,_,.bl b,r=>⟨[],by cases r; exact .bool b⟩
 | _,_,_,.int i,r=>⟨[],by obtain ⟨t,rfl⟩:=r; exact .int i t⟩
 | _,_,_,.str x,r=>⟨[],by obtain ⟨t,rfl⟩:=r; exact .str x t⟩
 | _,_,_,.tup e rs,r=>by
   cases r;obtain ⟨_,its,rv,⟨o,ho,hc,n,hd⟩,_⟩:=ok _ _ e;obtain ⟨as,q⟩:=RdDs.reads ok rs rv;exact ⟨as,.tuple ho hc hd (by simpa using q)⟩
 | _,_,_,.lst e rs,r=>by
   cases r;obtain ⟨_,its,n,rv,ho⟩:=ok _ _ e;obtain ⟨as,q⟩:=RdDs.reads ok rs rv;exact ⟨_ :: as,.list ho rfl rfl (by simpa using q)⟩
theorem RdDs.reads (ok:HOk P w H h):∀ {xs:List V} {ds:List PyData} {us:List Value},RdDs H xs ds→aO xs us→∃ as,ReadsAll h us ds as
 | _,_,_,.nil,r=>⟨[],by cases r; exact .nil⟩
 | _, _,_,.cons a b,r=>by
   cases r with
   | cons r1 r2 =>
     obtain ⟨as,q⟩:=RdD.reads ok a r1;obtain ⟨bs,q2⟩:=RdDs.reads ok b r2;exact ⟨as ++ bs,.cons q q2⟩
end
mutual
theorem RdD.same (s:aN H H'):∀ {x:V} {d:PyData},RdD H x d→RdD H' x d
 | _,_,.non=>.non
 | _,_,.bl b=>.bl b
 | _,_,.int i=>.int i
 | _,_,.str x=>.str x
 | _,_,.tup e rs=>.tup (s _ _ e) (RdDs.same s rs)
 | _,_,.lst e rs=>.lst (s _ _ e) (RdDs.same s rs)
theorem RdDs.same (s:aN H H'):∀ {xs:List V} {ds:List PyData},RdDs H xs ds→RdDs H' xs ds
 | _,_,.nil=>.nil
 | _,_,.cons a b=>.cons (RdD.same s a) (RdDs.same s b)
end
end
section
variable {X:Cx}
end
section
variable {X:Cx} {CX:CXT} {k:Nat} {f C:Addr} {fd:FuncData} {ps ks:List Str} {sp:Sp} {E:XK} {pins:List (Addr×Obj)} {σ:St} {H:Hp} {s:Shared} {Q:VK} {us:List Value} {vs:List V} {dvs:List V} {ds:List Value}
theorem fP {A':Around} (F:bC X.prog X.w X.K X.mg X.base CX k f fd ps sp) (hr:aU k A') (e0:oU X.prog X.w X.K X.mg X.base A' X.stack s H) (hb:aL X.K fd ps ds) (hd:aO dvs ds) (hx:iB CX X E)
   (I:Inv X pins σ H s) (r:aO vs us) (h:sp (vs ++ dvs) H Q E):wpAny (model X.prog X.w) A' (call (.ref f) us) (EP X pins σ Q) X.xe s:=by
 have r2:aO (vs ++ dvs) (us ++ ds):=r.append hd;have hl:(us ++ ds).length=ps.length:=by rw [←r2.length]; exact F.len _ _ _ _ h
 refine wpAny_call (codeAny_mono (F.run A' X.stack s H ⟨us,[]⟩ (us ++ ds) (vs ++ dvs) Q E hr e0 (hb s us I.kIn hl) r2 h) fun r s' hq=>?_);cases r with
 | error e=>exact hx pins σ H s e s' I hq
 | ok fl =>
   cases fl with
   | ret u=>exact I.after hq
   | next=>exact False.elim hq
   | brk=>exact False.elim hq
   | cont=>exact False.elim hq
theorem aU.in2 {k:Nat} {A:Around} (r:aU (k + 2) A):aU k A.in1.in1:=(aU.in1 (aU.in1 r))
end
structure LF (K:W.Frag) (C:Addr):Prop where
 cl:Cls K C
 ha:W.findIn K (.ref C) "__class__"=some (some (.builtin "object.__class__"))
 hn:W.specialIn K (.builtin "object.__class__") "__get__"=some (some (.builtin "getset_descriptor.__get__"))
 htk:W.takesIn K (.builtin "object.__class__")=some true
 hm:W.mroIn K C (.type "object")=some true
theorem bZ {X:Cx} {pins:List (Addr×Obj)} {σ:St} {H:Hp} {s:Shared} {p C dx:Addr} {fs:List (Str×V)} (I:Inv X pins σ H s) (e:H p=some (.ins C dx fs)):∃ od,W.InstAt s.heap p (W.instObj C dx) C (some od):=by
 obtain ⟨mA,O,_⟩:=rO I.hok e;obtain ⟨od,J,_⟩:=O.look;exact ⟨od,J⟩
section
variable {X:Cx} {CX:CXT} {k:Nat} {f C:Addr} {fd:FuncData} {sp:Sp}
noncomputable def aIc (C:Addr) (sp:Sp):List V→Hp→VK→Prop:=fun xs H Q=>∃ p dx fs,xs=[.ref p]∧H p=some (.ins C dx fs)∧sp [.ref p] H (fun v H'=>∃ n,v= .int n∧0≤n∧n < 2 ^ 63∧Q (.int n) H') E0
theorem LS (M:dZ X.K C "__len__" f) (F:bC X.prog X.w X.K X.mg X.base CX0 k f fd ["self"] sp) (hr:aU (k + 1) X.A) (hb:aL X.K fd ["self"] []):bK X (.builtin "len") (aIc C sp):=by
 rintro pins s σ H xs us Q I r ⟨p,dx,fs,e,ea,q⟩;subst e;obtain ⟨u,rfl,ru⟩:=fF r;cases ru;obtain ⟨od,J⟩:=bZ I ea;obtain ⟨m,Fm⟩:=I.fr;refine W.len_K Fm I.ok.mod.kin J M.at_ M.fn (thn (fP (dvs:=[]) (ds:=[]) (vs:=[.ref p]) F hr.in1 I.env0.in1 hb .nil iR I (.cons rfl .nil) q) fun v s' zz=>?_);obtain ⟨x,H',I',rx,n,e,h0,h1,q'⟩:=zz;subst e;obtain ⟨t,rfl⟩:=rx;exact ⟨⟨h0,h1⟩,.int n,H',I'.tok _,⟨_,rfl⟩,q'⟩
noncomputable def aBh (C:Addr) (sp:Sp):List V→Hp→VK→Prop:=fun xs H Q=>∃ p dx fs,xs=[.ref p]∧H p=some (.ins C dx fs)∧sp [.ref p] H (fun v H'=>∃ x,v= .str x∧Q (.str x) H') E0
theorem GI (M:dZ X.K C "__repr__" f) (F:bC X.prog X.w X.K X.mg X.base CX0 k f fd ["self"] sp) (hr:aU (k + 1) X.A) (hb:aL X.K fd ["self"] []):bK X (.builtin "repr") (aBh C sp):=by
 rintro pins s σ H xs us Q I r ⟨p,dx,fs,e,ea,q⟩;subst e;obtain ⟨u,rfl,ru⟩:=fF r;cases ru;obtain ⟨od,J⟩:=bZ I ea;obtain ⟨m,Fm⟩:=I.fr;refine W.repr_K hr.in1.units0 Fm I.ok.mod.kin J M.at_ M.fn (thn (fP (dvs:=[]) (ds:=[]) (vs:=[.ref p]) F hr.in1 I.env0.in1 hb .nil iR I (.cons rfl .nil) q) fun v s' zz=>?_);obtain ⟨x,H',I',rx,y,e,q'⟩:=zz;subst e;obtain ⟨t,rfl⟩:=rx;exact ⟨.str y,H',I',⟨_,rfl⟩,q'⟩
theorem NE (M:dZ X.K C "__str__" f) (F:bC X.prog X.w X.K X.mg X.base CX0 k f fd ["self"] sp) (hr:aU (k + 2) X.A) (hb:aL X.K fd ["self"] []):bK X (.type "str") (aBh C sp):=by
 rintro pins s σ H xs us Q I r ⟨p,dx,fs,e,ea,q⟩;subst e;obtain ⟨u,rfl,ru⟩:=fF r;cases ru;obtain ⟨od,J⟩:=bZ I ea;refine W.kso_call hr.in2.units0 I.kIn J M.at_ M.fn (thn (fP (dvs:=[]) (ds:=[]) (vs:=[.ref p]) F hr.in2 I.env0.in1.in1 hb .nil iR I (.cons rfl .nil) q) fun v s' zz=>?_);obtain ⟨x,H',I',rx,y,e,q'⟩:=zz;subst e;obtain ⟨t,rfl⟩:=rx;exact ⟨.str y,H',I',⟨_,rfl⟩,q'⟩
theorem aKo {A':Around} {pins:List (Addr×Obj)} {σ:St} {H:Hp} {s:Shared} {p dx:Addr} {fs:List (Str×V)} {Q:Bool→Hp→Prop} (hB:W.findIn X.K (.ref C) "__bool__"=some none) (M:dZ X.K C "__len__" f)
   (F:bC X.prog X.w X.K X.mg X.base CX0 k f fd ["self"] sp) (hr:aU k A'.in1) (e0:oU X.prog X.w X.K X.mg X.base A'.in1 X.stack s H) (hb:aL X.K fd ["self"] []) (I:Inv X pins σ H s) (ea:H p=some (.ins C dx fs))
   (q:sp [.ref p] H (fun v H'=>∃ n,v= .int n∧0≤n∧n < 2 ^ 63∧Q (n != 0) H') E0):wpAny (model X.prog X.w) A' (truthy (.ref p)) (TP X pins σ Q) X.xe s:=by
 obtain ⟨od,J⟩:=bZ I ea;have XK:=I.kIn;unfold truthy;refine wAq (m:=callSpecial? (.ref p) (Str.ofString "__bool__")) (wAq (wAq (J.type.here ((W.looks_findIn XK hB).here (wBq ?_)))));refine wAq (wAq (J.type.here ((W.looks_findIn XK M.at_).here ?_)));show wpAny _ _ (if (some (Value.ref f)).isNone=true then _ else _) _ _ _;rw [if_neg (by simp)];refine wAq (wpAny_mono (Q:=fun r s'=>∃ n t,r=Value.int n t∧TP X pins σ Q (n != 0) s') ?_ (fun r s' h'=>?_) fun _ _ e=>e)
 · refine wpAny_runValue (codeAny_builtin entry_len ?_);rw [Around.under_plainId plain_len _];show wpAny _ _ (Builtin.«len» ⟨[.ref p],[]⟩) _ _ _;unfold Builtin.«len»;refine wAq (m:=oneArg "len" _) (wBq ?_);refine wAq (m:=callSpecial? (.ref p) (Str.ofString "__len__")) (W.special_fn XK J M.at_ (beq_iff_eq.mp M.fn) (thn (fP (dvs:=[]) (ds:=[]) (vs:=[.ref p]) F hr e0 hb .nil iR I (.cons rfl .nil) q) fun v s' ⟨x,H',I',rx,n,e,h0,h1,q'⟩=>?_));subst e;obtain ⟨t,rfl⟩:=rx;refine wAq (wpAny_holding (wBq ?_));refine wAq (wpAny_letGo ?_);show wpAny _ _ (if n < 0 then _ else _) _ _ _;rw [if_neg (by omega)];show wpAny _ _ (if n ≥ 2 ^ 63 then _ else _) _ _ _;rw [if_neg (by omega)];exact wAq (wpAny_mkInt (wBq ⟨n,_,rfl,H',I'.tok _,q'⟩))
 · obtain ⟨n,t,rfl,q'⟩:=h';exact wBq q'
theorem BG {prog:Program} {w:World} (p:Addr):MeetsIn prog w (Builtin.«bool.__new__» ⟨[.type "bool",.ref p],[]⟩) (fun A R s=>wpAny (model prog w) A.in1 (truthy (.ref p)) (fun b s'=>R (.ok (.ret (.bool b))) s') (fun e s'=>R (.error e) s') s) :=
 fun A R s h=>by
   obtain ⟨hp,g,d,tk,os⟩:=s;have f1:=PySem.F.conv_sub_bool;have tr:∀ (Q:Bool→Shared→Prop),(∀ b s',R (.ok (.ret (.bool b))) s'→Q b s')→wpAny (model prog w) A.in1 (truthy (.ref p)) Q (fun e s'=>R (.error e) s') ⟨hp,g,d,tk,os⟩:=fun Q hq=>wpAny_mono h hq fun _ _ e=>e
   repeat (any_goals (first | assumption | with_reducible apply tr | wp_step))
   all_goals (intro b s' q; repeat (any_goals (first | assumption | wp_step)))
theorem EB (hB:W.findIn X.K (.ref C) "__bool__"=some none) (M:dZ X.K C "__len__" f) (F:bC X.prog X.w X.K X.mg X.base CX0 k f fd ["self"] sp) (hr:aU (k + 3) X.A) (hb:aL X.K fd ["self"] []) :
   bK X (.type "bool") (fun xs H Q=>∃ p dx fs,xs=[.ref p]∧H p=some (.ins C dx fs)∧sp [.ref p] H (fun v H'=>∃ n,v= .int n∧0≤n∧n < 2 ^ 63∧Q (.bl (n != 0)) H') E0):=by
 rintro pins s σ H xs us Q I r ⟨p,dx,fs,e,ea,q⟩;subst e;obtain ⟨u,rfl,ru⟩:=fF r;cases ru;refine callType_newIn PySem.F.called_bool PySem.F.newNe_bool (PySem.F.typeCall_bool_1 _) (PySem.F.newCall_bool_1 _) (fun obj=>PySem.F.args_object_init_2 obj _) PySem.F.entry_bool_new (BG p) ?_;refine thn (aKo (A':=X.A.in1.in1) (Q:=fun b H'=>Q (.bl b) H') hB M F hr.in1.in1.in1 I.env0.in1.in1.in1 hb I ea q) fun b s2 zz=>?_;obtain ⟨H2,I2,q2⟩:=zz;exact ⟨PySem.typeIs_bool _ _,.bl b,H2,I2,rfl,q2⟩
end
section
variable {X:Cx} {e:Expr} {es:List Expr} {te:TE} {pos:Pos}
noncomputable def PJ (X:Cx) (parts:List Expr) (t:Str→TE):Prop :=
 ∀ (out:Str) (pins:List (Addr×Obj)) (s:Shared) (σ:St) (H:Hp) (Q:VK),Inv X pins σ H s→t out σ H Q→wpAny (model X.prog X.w) X.A (joinParts out (evalEach parts X.env)) (EP X pins σ Q) X.xe s
noncomputable def tJ0:Str→TE:=fun out _ H Q=>out.length≤sizeLine∧Q (.str out) H
noncomputable def tJ1 (te:TE) (t:Str→TE):Str→TE:=fun out σ H Q=>te σ H fun x H1=>∃ y,x= .str y∧(out ++ y).length≤sizeLine∧t (out ++ y) σ H1 Q
theorem aEJ:PJ X [] tJ0:=fun out pins s σ H Q I h=>joinParts_nil ⟨.str out,H,I.tok _,⟨_,rfl⟩,h.2⟩ h.1
theorem HD {t:Str→TE} (he:PE X e te) (hr:PJ X es t) (hs:evalEach (e :: es) X.env=eval e X.env :: evalEach es X.env:=by rfl):PJ X (e :: es) (tJ1 te t):=by
 intro out pins s σ H Q I h;rw [hs];refine joinParts_cons (thn (he pins s σ H _ I h) fun v s1 zz=>?_);obtain ⟨x,H1,I1,r1,y,ex,hz,q⟩:=zz;subst ex;obtain ⟨t',rfl⟩:=r1;exact ⟨hz,hr (out ++ y) pins s1 σ H1 Q I1 q⟩
def tFv (te:TE):TE:=fun σ H Q=>te σ H fun x H1=>∃ y,x= .str y∧y.length≤sizeLine∧Q (.str y) H1
theorem aFz (he:PE X e te):PE X (.FormattedValue e (-1) none pos) (tFv te):=by
 intro pins s σ H Q I h;refine FormattedValue_plain (thn (he pins s σ H _ I h) fun v s1 zz=>?_);obtain ⟨x,H1,I1,r1,y,ex,hz,q⟩:=zz;subst ex;obtain ⟨t',rfl⟩:=r1;exact formatField_str (fun t2 tk=>⟨.str y,H1,I1.tok tk,⟨_,rfl⟩,q⟩) hz
theorem YR {v₁ v₂:Expr} {aV:List Expr} {t:Str→TE} (h:PJ X (v₁ :: v₂ :: aV) t):PE X (.JoinedStr (v₁ :: v₂ :: aV) pos) (t Str.empty):=fun pins s σ H Q I q=>JoinedStr_many (h Str.empty pins s σ H Q I q)
theorem HF:∀ {ys:List Str} {us:List Value},aO (ys.map V.str) us→StrsAre us ys
 | [],_,r=>by cases r; exact .nil
 | y :: ys,_,r=>by
   cases r with
   | cons r1 r2 =>
     obtain ⟨t,rfl⟩:=r1;exact .cons _ _ (HF r2)
noncomputable def aGb:V→List V→Hp→VK→Prop:=fun x xs H Q=>∃ sep p ys,x= .str sep∧xs=[.ref p]∧H p=some (.lst (ys.map V.str))∧(ys.map (·.length)).sum + ys.length * sep.length≤16777216∧Q (.str (Txt.join sep ys)) H
theorem YW:MtR X "str.join" aGb:=by
 rintro pins s σ H x xs v us Q I r rs ⟨sep,p,ys,e1,e2,e3,hz,q⟩;subst e1 e2;obtain ⟨t,rfl⟩:=r;obtain ⟨u,rfl,ru⟩:=fF rs;cases ru;obtain ⟨_,its,n,rv,hl⟩:=I.hok _ _ e3;exact join_list (items:=its.toArray) ⟨_,hl,rfl,n,rfl⟩ (by simpa using HF rv) hz fun t' k=>⟨.str _,H,I.tok k,⟨_,rfl⟩,q⟩
theorem tU {α β:Type} {f g:α→Option β}:∀ (l:List α),(∀ x∈l,f x=g x)→l.filterMap f=l.filterMap g
 | [],_=>rfl
 | x :: r,h=>by
   rw [List.filterMap_cons,List.filterMap_cons,h x (wDq ..),tU r fun y hy=>h y (wCq _ hy)]
theorem lP {α:Type}:∀ m:List α,(List.range m.length).filterMap (fun k=>m[k]?)=m
 | []=>rfl
 | x :: r=>by
   rw [List.length_cons,List.range_succ_eq_map,List.filterMap_cons];simp only [List.getElem?_cons_zero,List.filterMap_map];have e:((fun k=>(x :: r)[k]?) ∘ Nat.succ)=fun k=>r[k]? :=by funext k; rfl
   rw [e,lP r]
theorem QC (its:List Value):slicePick its.toArray none none (some (-1))=its.reverse.toArray:=by
 unfold slicePick
 congr 1
 have e:sliceRange (sliceBounds none none (some (-1)) its.toArray.size).1 (sliceBounds none none (some (-1)) its.toArray.size).2.1 (sliceBounds none none (some (-1)) its.toArray.size).2.2=(List.range its.length).map fun k=>its.length - 1 - k:=by
   simp only [sliceBounds,Option.getD_some,wHq];rw [if_neg (by decide),if_neg (by decide)];unfold sliceRange;dsimp only;rw [if_neg (by decide)];have c:(if (its.length:Int) - 1 > -1 then ((its.length:Int) - 1 - -1 - -1 - 1) / (- -1) else 0).toNat=its.length:=by
     rw [show (- -1:Int)=1 from rfl,Int.ediv_one];split <;> omega
   rw [c];refine List.map_congr_left fun k hk=>?_;omega
 rw [e,List.filterMap_map];have e2:(List.range its.length).filterMap ((fun x=>its.toArray[x]?) ∘ fun k=>its.length - 1 - k)=(List.range its.reverse.length).filterMap (fun k=>its.reverse[k]?):=by
   rw [List.length_reverse];refine tU _ fun k hk=>?_;have hk':k < its.length:=List.mem_range.mp hk;show its.toArray[its.length - 1 - k]? =_;rw [List.getElem?_reverse hk'];simp
 rw [e2,lP]
end
end L2
namespace LE
open PySem PyProof.Rows
open AutoSeq1 (wpAny_loadPart')
end LE
namespace L2
open PySem PySem.Spec PyProof.Rows
section
variable {X:Cx} {CX:CXT} {k:Nat} {f C:Addr} {fd:FuncData} {ps ks:List Str} {sp:Sp} {E:XK} {x:Str} {p pos:Pos} {kws:List Keyword} {tk:TA} {g:List Value→List Value→List Value} {gV:List V→List V→List V}
end
section
variable {X:Cx} {C:Addr} {f x:Str} {pos pos':Pos} {e o value:Expr} {ta tv:TE} {i:Int}
theorem PE.imp {t t':TE} (h:PE X e t) (g:∀ σ H Q,t' σ H Q→t σ H Q):PE X e t':=fun pins s σ H Q I q=>h pins s σ H Q I (g _ _ _ q)
theorem PS.imp {st:Stmt} {t t':TS} (h:PS X st t) (g:∀ D σ H,t' D σ H→t D σ H):PS X st t':=fun pins s σ H D I q=>h pins s σ H D I (g _ _ _ q)
end
section
variable {X:Cx} {es:List Expr} {te:TE} {t:TA} {pos:Pos}
end
end L2
namespace LZ
open PySem PyProof.Rows
open AutoSeq1 (wpAny_loadPart')
open Builtin
section
variable {prog:Program} {w:World} {A:Around} {E:Value→Shared→Prop} {s:Shared}
end
end LZ
namespace LZ
open PySem PyProof.Rows
open Builtin
section
variable {prog:Program} {w:World} {A:Around} {E:Value→Shared→Prop} {s:Shared}
end
end LZ
namespace LZ
open PySem PyProof.Rows
open Builtin
section
variable {prog:Program} {w:World} {A:Around} {E:Value→Shared→Prop}
end
end LZ
namespace L2
open PySem PySem.Spec PyProof.Rows LZ
section
variable {X:Cx} {pins:List (Addr×Obj)} {σ:St} {H:Hp} {s:Shared} {h':Heap}
end
section
variable {X:Cx} {pins:List (Addr×Obj)} {σ:St} {H:Hp} {s:Shared} {h':Heap}
end
end L2
namespace L2
open PySem PySem.Spec PyProof.Rows
section
variable {X:Cx}
theorem CW:∀ {bs:List Bool} {us:List Value} {i:Nat} {v:Value},aO (bs.map V.bl) us→us[i]? =some v→∃ b,bs[i]? =some b∧v= .bool b
 | [],_,_,_,r,h=>by cases r; simp at h
 | b :: bs,_,0,v,r,h=>by
   cases r with
   | cons r1 r2 =>
     simp at h; subst h
     exact ⟨b,rfl,r1⟩
 | b :: bs,_,i + 1,v,r,h=>by
   cases r with
   | cons r1 r2 =>
     obtain ⟨c,e,q⟩:=CW (i:=i) r2 (by simpa using h);exact ⟨c,by simpa using e,q⟩
theorem aAz {s:Shared} {h':Heap} {o:Obj} (hk:∀ b x,b∉ [s.heap.objs.size]→(s.heap.push o).get? b=some x→h'.get? b=some x):∀ b x,s.heap.get? b=some x→h'.get? b=some x :=
 fun b x e=>hk b x (fun hm=>by rw [List.mem_singleton.mp hm] at e; exact Nat.lt_irrefl _ (Heap.lt_size e)) (wEq _ e)
theorem KF (bs:List Bool):((List.range bs.length).all fun i=>(bs[i]?).getD true)=bs.all id:=by
 rw [Bool.eq_iff_iff,List.all_eq_true,List.all_eq_true];constructor
 · intro h b hb;obtain ⟨i,hi,rfl⟩:=List.getElem_of_mem hb;have:=h i (List.mem_range.mpr hi);simp only [List.getElem?_eq_getElem hi,Option.getD_some] at this;exact this
 · intro h i hi;have hi':=List.mem_range.mp hi;simp only [List.getElem?_eq_getElem hi',Option.getD_some];exact h _ (List.getElem_mem hi')
theorem MR (hc:X.calm=true):bK X (.builtin "all") (fun xs H Q=>∃ (p:Addr) (bs:List Bool),xs=[.ref p]∧H p=some (.lst (bs.map V.bl))∧Q (.bl (bs.all id)) H):=by
 rintro pins s σ H xs us Q I r ⟨p,bs,e,hp,q⟩;subst e;obtain ⟨u,rfl,ru⟩:=fF r;cases ru;obtain ⟨_,its,n,rv,ho⟩:=I.hok _ _ hp;have hl:s.heap.IsList p its.toArray:=⟨_,ho,rfl,n,rfl⟩;have hlt:p < s.heap.objs.size:=Heap.lt_size ho;refine call_all_walk (wpAny_pyIter_list hl ?_);refine ⟨s.heap.objs.size,[s.heap.objs.size,p],[s.heap.objs.size],its.toArray.size,_,_,fun i=>(bs[i]?).getD true,rfl,Walks.list (A:=X.A.in1) (I.ok.hd hc) _ p (Nat.ne_of_lt hlt) its.toArray,
   ⟨⟨_,wGq _ rfl,rfl,rfl⟩,hl.push _⟩,fun i v s' Q' E' hP hQ=>?_,fun h' tk hk=>?_⟩
 · obtain ⟨b,e,rfl⟩:=CW rv (i:=i) (v:=v) (by simpa using hP);simp only [e,Option.getD_some] at hQ;exact wpAny_truthy_bool hQ
 · have e:((List.range its.toArray.size).all fun i=>(bs[i]?).getD true)=bs.all id:=by
     have:=rv.length;rw [List.length_map] at this;rw [wHq,←this]; exact KF bs
   rw [e];exact ⟨.bl _,H,I.kept (t':=tk) (aAz hk),rfl,q⟩
end
end L2
namespace LX
open PySem PyProof.Rows
section
variable {prog:Program} {w:World} {A:Around} {E:Value→Shared→Prop} {s:Shared}
end
end LX
namespace L2
open PySem PySem.Spec PyProof.Rows
section
variable {X:Cx} {pos:Pos}
def aJT (C:Addr) (sp:Sp):R2:=fun x y H Q=>∃ p dx fs p' dx' fs',x= .ref p∧y= .ref p'∧H p=some (.ins C dx fs)∧H p'=some (.ins C dx' fs')∧sp [.ref p,.ref p'] H (fun v H'=>∃ b,v= .bl b∧Q (.bl b) H') E0
theorem aCf {k:Nat} {f C:Addr} {fd:FuncData} {sp:Sp} (M:dZ X.K C "__eq__" f) (F:bC X.prog X.w X.K X.mg X.base CX0 k f fd ["self","other"] sp) (hr:aU k X.A) (hb:aL X.K fd ["self","other"] []) :
   OpR X (compareOp .Eq) (aJT C sp):=by
 rintro pins s σ H x y v u Q I rx ry ⟨p,dx,fs,p',dx',fs',e1,e2,ea,eb,q⟩;subst e1 e2;cases rx;cases ry;obtain ⟨od,J⟩:=bZ I ea;obtain ⟨od',J'⟩:=bZ I eb;obtain ⟨m,Fm⟩:=I.fr;refine W.cmp_ofEq (W.cmp_K hr.units0 Fm I.ok.mod.kin J J'.type (by unfold W.notFirst; simp) M.at_ M.fn
   (thn (fP (dvs:=[]) (ds:=[]) (vs:=[.ref p,.ref p']) F hr I.env0 hb .nil iR I (.cons rfl (.cons rfl .nil)) q) fun v s' ⟨x,H',I',rx,b,e,q'⟩=>?_))
 subst e;cases rx;exact ⟨.bl b,H',I',rfl,q'⟩
variable {a b c d:Expr} {ta tb tc td:TE}
end
section
variable {X:Cx}
end
section
variable {X:Cx} {pos:Pos}
theorem Inv.big1 {pins:List (Addr×Obj)} {σ:St} {H:Hp} {s:Shared} (I:Inv X pins σ H s):sysModules < s.heap.objs.size:=by
 obtain ⟨o,es,ep,ho,_⟩:=I.mod.glob;exact Nat.lt_trans (show sysModules < mainGlobals by decide) (Heap.lt_size (I.bk _ _ ho))
theorem aDs:PE X (.Dict [] [] pos) (fun _ H Q=>∀ p,H p=none→Q (.ref p) (upd H p (.dK []))):=fun pins s σ H Q I h =>
 wpAny_Dict_empty ⟨.ref s.heap.objs.size,_,I.laid (a:=s.heap.objs.size) (o:=.dK []) (t':=s.toks) (fun _ _ q=>wEq _ q) (Nat.le_refl _)
   (show bJ X.prog X.w _ _ _ (.dK []) from ⟨Nat.zero_le _,beq_eq_false_iff_ne.mpr (Ne.symm (Nat.ne_of_lt I.big1)),[],.nil,Heap.DictOf.new s.heap⟩),rfl,h _ (I.hok.fresh (Nat.le_refl _))⟩
end
end L2
namespace LE
open PySem PyProof.Rows
open AutoSeq1 (wpAny_loadPart')
open MeetsSeq MeetsSeq2 MeetsSeq3 SeqRoads2
theorem tZ {prog:Program} {w:World} {A:Around} {E:Value→Shared→Prop} {s:Shared} {T id:String} {B:Builtin} {c x:Value} {S:PySem.Spec} {Q:Value→Shared→Prop} (hT:s.TypeIs c T) (slot:Slot T "__contains__" id)
   (entry:entryFor table id=some B) (args:argsOk id ⟨[c,x],[]⟩) (g:MeetsIn prog w (B ⟨[c,x],[]⟩) S)
   (h:S A (wants (fun v s'=>∃ b,v= .bool b∧Q (.bool b) s') E) s):wpAny (model prog w) A (compareOp .In x c) Q E s:=by
 show wpAny _ A (do return .bool (←contains c x)) Q E s;refine wAq (wpAny_contains_slot hT slot (wpAny_mono (call_meetsIn slot hT entry args g h) (fun v s' hv=>?_) fun _ _ e=>e));obtain ⟨b,rfl,hq⟩:=hv;exact wpAny_truthy_bool (wBq hq)
theorem uZ {prog:Program} {w:World} {A:Around} {E:Value→Shared→Prop} {s:Shared} {T id:String} {B:Builtin} {c x:Value} {S:PySem.Spec} {Q:Value→Shared→Prop} (hT:s.TypeIs c T) (slot:Slot T "__contains__" id)
   (entry:entryFor table id=some B) (args:argsOk id ⟨[c,x],[]⟩) (g:MeetsIn prog w (B ⟨[c,x],[]⟩) S)
   (h:S A (wants (fun v s'=>∃ b,v= .bool b∧Q (.bool (!b)) s') E) s):wpAny (model prog w) A (compareOp .NotIn x c) Q E s:=by
 show wpAny _ A (do return .bool (!(←contains c x))) Q E s;refine wAq (wpAny_contains_slot hT slot (wpAny_mono (call_meetsIn slot hT entry args g h) (fun v s' hv=>?_) fun _ _ e=>e));obtain ⟨b,rfl,hq⟩:=hv;exact wpAny_truthy_bool (wBq hq)
end LE
namespace L2
open PySem PySem.Spec PyProof.Rows
section
variable {X:Cx}
end
section
variable {κ:Type} [DecidableEq κ]
noncomputable def valV (kvs:List (κ×V)) (k:κ):Option V:=(kvs.find? fun kv=>decide (kv.1=k)).map (·.2)
noncomputable def tE (kvs:List (κ×V)) (k:κ) (v:V):List (κ×V) :=
 if (kvs.any fun kv=>decide (kv.1=k))=true then kvs.map (fun kv=>if kv.1=k then (kv.1,v) else kv) else kvs ++ [(k,v)]
theorem aFC {k:κ}:valV ([]:List (κ×V)) k=none:=rfl
theorem sD {p:κ×V} {r:List (κ×V)} {k:κ} (e:p.1=k):valV (p :: r) k=some p.2:=by simp [valV,List.find?_cons,e]
theorem uN {p:κ×V} {r:List (κ×V)} {k:κ} (e:¬p.1=k):valV (p :: r) k=valV r k:=by simp [valV,List.find?_cons,e]
theorem BD (kvs:List (κ×V)) (k:κ) (v:V):(tE kvs k v).length≤kvs.length + 1:=by
 unfold tE;split
 · rw [List.length_map]; omega
 · rw [List.length_append,List.length_cons,List.length_nil]; omega
theorem KV.val {kvs:List (κ×V)} {vs:List (κ×Value)} (r:KV kvs vs) (k:κ):tY (valV kvs k) (valueAt vs k):=by
 unfold KV at r;induction r with
 | nil=>exact True.intro
 | @cons p q ps qs h t ih =>
   obtain ⟨h1,h2⟩:=h;by_cases e:p.1=k
   · have e':q.1=k:=h1.symm.trans e;have b:valueAt (q :: qs) k=some q.2:=by simp [valueAt,List.find?_cons,e']
     rw [sD e,b]; exact h2
   · have e':¬q.1=k:=fun z=>e (h1.trans z);have b:valueAt (q :: qs) k=valueAt qs k:=by simp [valueAt,List.find?_cons,e']
     rw [uN e,b]; exact ih
theorem KV.any {kvs:List (κ×V)} {vs:List (κ×Value)} (r:KV kvs vs) (k:κ):(kvs.any fun kv=>decide (kv.1=k))=vs.any fun kv=>decide (kv.1=k):=by
 unfold KV at r;induction r with
 | nil=>rfl
 | cons h t ih=>rw [List.any_cons,List.any_cons,ih,h.1]
theorem KV.repl {kvs:List (κ×V)} {vs:List (κ×Value)} (r:KV kvs vs) (k:κ) {y:V} {u:Value} (ry:aQ y u) :
   KV (kvs.map fun kv=>if kv.1=k then (kv.1,y) else kv) (vs.map fun kv=>if kv.1=k then (kv.1,u) else kv):=by
 unfold KV at r ⊢;induction r with
 | nil=>exact .nil
 | @cons p q ps qs h t ih =>
   rw [List.map_cons,List.map_cons];refine .cons ?_ ih;obtain ⟨h1,h2⟩:=h;by_cases e:p.1=k
   · rw [if_pos e,if_pos (h1.symm.trans e)]; exact ⟨h1,ry⟩
   · rw [if_neg e,if_neg (fun z=>e (h1.trans z))]; exact ⟨h1,h2⟩
theorem KV.put {kvs:List (κ×V)} {vs:List (κ×Value)} (r:KV kvs vs) (k:κ) {y:V} {u:Value} (ry:aQ y u):KV (tE kvs k y) (stored vs k u):=by
 unfold tE stored;rw [r.any k];by_cases e:(vs.any fun kv=>decide (kv.1=k))=true
 · rw [if_pos e,if_pos e]; exact r.repl k ry
 · rw [if_neg e,if_neg e]; exact Paired.snoc r ⟨rfl,ry⟩
end
theorem UT {P:Program} {w:World} {k:Key} {u:Value} (r:aQ (kV k) u):(bX P w).is k u=true:=by
 cases k with
 | inl i=>obtain ⟨t,e⟩:=(show ∃ t,u=Value.int i t from r); subst e; exact DD P w i t
 | inr x=>obtain ⟨t,e⟩:=(show ∃ t,u=Value.str x t from r); subst e; exact BX P w x t
theorem xG {P:Program} {w:World}:∀ {ks:List Key} {us:List Value},aO (ks.map kV) us→ItemsAre (bX P w) ks us
 | [],_,r=>by rw [List.map_nil] at r; cases r; exact .nil
 | k :: ks,_,r=>by
   rw [List.map_cons] at r;cases r with
   | cons h t=>exact .cons (UT h) (xG t)
noncomputable abbrev KT (H:Hp):List (List Key×V)→List (List Key×Addr×Value)→Prop:=Paired fun p q=>p.1=q.1∧H q.2.1=some (.tup (p.1.map kV))∧aQ p.2 q.2.2
theorem KT.val {H:Hp} {kvs:List (List Key×V)} {xs:List (List Key×Addr×Value)} (r:KT H kvs xs) (k:List Key):tY (valV kvs k) ((atKey xs k).map (·.2)):=by
 induction r with
 | nil=>exact True.intro
 | @cons p q ps qs h t ih =>
   obtain ⟨h1,_,h2⟩:=h;by_cases e:p.1=k
   · have e':q.1=k:=h1.symm.trans e;have b:atKey (q :: qs) k=some q.2:=by simp [atKey,List.find?_cons,e']
     rw [sD e,b]; exact h2
   · have e':¬q.1=k:=fun z=>e (h1.trans z);have b:atKey (q :: qs) k=atKey qs k:=by simp [atKey,List.find?_cons,e']
     rw [uN e,b]; exact ih
section
variable {P:Program} {w:World} {H:Hp} {h:Heap} {a:Addr}
theorem aA8 {u:HO} (ok:HOk P w H h) (e:Rd H a u):bJ P w H h a u:=e.ok ok
theorem SY {kvs:List (Key×V)} (ok:HOk P w H h) (e:Rd H a (.dK kvs)):kvs.length≤sizeLine∧(a == sysModules)=false∧∃ vs,KV kvs vs∧h.DictOf (bX P w) a vs :=
 show bJ P w H h a (.dK kvs) from aA8 ok e
theorem aFI {kvs:List (Key×V)} (ok:HOk P w H h) (e:H a=some (.dK kvs)):kvs.length≤sizeLine∧(a == sysModules)=false∧∃ vs,KV kvs vs∧h.DictOf (bX P w) a vs:=SY ok (.inl e)
theorem UY {ks:List Key} (ok:HOk P w H h) (e:H a=some (.tup (ks.map kV))):(tupleKind (bX P w)).is h ks a:=by
 obtain ⟨_,its,r,⟨o,h1,h2,n,h3⟩,_⟩:=(show bJ P w H h a (.tup (ks.map kV)) from ok a _ e);exact ⟨o,its.toArray,n,h1,h2,h3,by simpa using xG r⟩
theorem aBC {kvs:List (List Key×V)} (ok:HOk P w H h) (e:Rd H a (.dT kvs)):kvs.length≤sizeLine∧(a == sysModules)=false∧
   ∃ xs,KT H kvs xs∧h.DictOfH (tupleKind (bX P w)) a xs:=by
 obtain ⟨z,y,xs,r,o,es,ep,h1,h2,h3,h4,h5⟩:=(show bJ P w H h a (.dT kvs) from aA8 ok e);refine ⟨z,y,xs,r,o,es,ep,h1,h2,h3,h4,fun x hx=>?_,h5⟩;have all:∀ {l:List (List Key×V)} {m:List (List Key×Addr×Value)},KT H l m→∀ x∈m,(tupleKind (bX P w)).is h x.1 x.2.1:=by
   intro l m q;induction q with
   | nil=>intro x hx; exact nomatch hx
   | @cons p q ps qs hq t ih =>
     intro x hx;rcases List.mem_cons.mp hx with e | hx
     · subst e;exact UY ok (by rw [←hq.1]; exact hq.2.1)
     · exact ih x hx
 exact all r x hx
end
noncomputable def VB (H:Hp) (a:Addr) (y:V) (r:Option V):Prop :=
 (∃ kvs k,Rd H a (.dK kvs)∧y=kV k∧r=valV kvs k)∨∃ kvs k b,Rd H a (.dT kvs)∧y= .ref b∧H b=some (.tup (k.map kV))∧r=valV kvs k
theorem VB.k {H:Hp} {a:Addr} {kvs:List (Key×V)} {k:Key} (e:H a=some (.dK kvs)):VB H a (kV k) (valV kvs k):=.inl ⟨kvs,k,.inl e,rfl,rfl⟩
section
variable {X:Cx} {pins:List (Addr×Obj)} {σ:St} {H:Hp} {s:Shared} {a:Addr} {y v:V} {u r:Value} {o:Option V} {A:Around} {E:Value→Shared→Prop}
theorem Inv.big (I:Inv X pins σ H s):sysModules < s.heap.objs.size:=by
 have h:mainGlobals < s.heap.objs.size:=(I.mod.glob.keeps I.bk).lt;exact Nat.lt_trans (by decide) h
theorem MW {Q:Value→Shared→Prop} (hu:A.units + 1 < cLine) (I:Inv X pins σ H s) (g:VB H a y (some v)) (ry:aQ y u) (h:∀ w' s',Inv X pins σ H s'→aQ v w'→Q w' s') :
   wpAny (model X.prog X.w) A (getItem (.ref a) u) Q E s:=by
 rcases g with ⟨kvs,k,e,ey,l⟩ | ⟨kvs,k,b,e,ey,eb,l⟩
 · subst ey;obtain ⟨z,hd,vs,rel,dd⟩:=SY I.hok e;obtain ⟨w',hw,rw'⟩:=tY.some_of (v:=v) (o:=valueAt vs k) (by rw [l]; exact rel.val k);exact wpAny_getItem_of (UT ry) dd.mapOf hw (h w' _ (I.tok _) rw')
 · subst ey;cases (show u=Value.ref b from ry);obtain ⟨z,hd,xs,rel,dd⟩:=aBC I.hok e;obtain ⟨w',hw,rw'⟩:=tY.some_of (v:=v) (o:=(atKey xs k).map (·.2)) (by rw [l]; exact rel.val k);obtain ⟨p,hp,hp2⟩:=Option.map_eq_some_iff.mp hw;refine wpAny_getItem_heap (tupleKind_room_in1 hu) (UY I.hok eb) dd hp ?_;rw [hp2];exact h w' _ (I.tok _) rw'
theorem YI {h':Heap} {t':Nat} {ob:HO} (I:Inv X pins σ H s) (mu:Mut (H a)) (hs:Heap.SameBut a s.heap h') (he:∃ q,h'.get? a=some q) (new:bJ X.prog X.w (upd H a ob) h' a ob) :
   Inv X pins σ (upd H a ob) { s with heap:=h',toks:=t' } :=
 I.write (x:=a) (e:=a) mu (.inl rfl) (fun b q hb z=>(hs.2 b hb).trans z) he new
theorem aDi {P:Program} {w:World} {H':Hp} {h':Heap} {kvs:List (Key×V)} {vs:List (Key×Value)} (z:kvs.length≤sizeLine) (hd:(a == sysModules)=false) (rel:KV kvs vs) (dd:h'.DictOf (bX P w) a vs) :
   bJ P w H' h' a (.dK kvs):=⟨z,hd,vs,rel,dd⟩
end
section
variable {X:Cx} {pins:List (Addr×Obj)} {σ:St} {H:Hp} {s:Shared} {a:Addr} {kvs:List (Key×V)} {k:Key} {u:Value} {A:Around} {E:Value→Shared→Prop}
end
theorem zU {X:Cx} {pins:List (Addr×Obj)} {σ:St} {H:Hp} {s:Shared} {a:Addr} {y:V} {o:Option V} (I:Inv X pins σ H s) (g:VB H a y o):s.TypeIs (.ref a) "dict":=by
 rcases g with ⟨kvs,k,e,_,_⟩ | ⟨kvs,k,b,e,_,_,_⟩
 · obtain ⟨_,_,vs,_,dd⟩:=SY I.hok e;exact dd.typeIs
 · obtain ⟨_,_,xs,_,dd⟩:=aBC I.hok e;exact dd.typeIs
section
variable {X:Cx} {o i e value:Expr} {pos pos' tpos:Pos} {td ty tv:TE}
end
theorem VH {P:Program} {w:World} {H:Hp} (h:Heap) (hb:sysModules < h.objs.size):bJ P w H (h.push { cls:=.type "dict",data:=.dict #[] }) h.objs.size (.dK []) :=
 ⟨Nat.zero_le _,beq_eq_false_iff_ne.mpr (Ne.symm (Nat.ne_of_lt hb)),[],.nil,Heap.DictOf.new h⟩
section
variable {X:Cx} {pos:Pos}
end
noncomputable abbrev VV:List (V×V)→List (Value×Value)→Prop:=Paired fun p q=>aQ p.1 q.1∧aQ p.2 q.2
noncomputable def jO (kvs more:List (Key×V)):List (Key×V):=more.foldl (fun acc kv=>tE acc kv.1 kv.2) kvs
theorem KV.merge:∀ {more:List (Key×V)} {rs:List (Key×Value)} {kvs:List (Key×V)} {vs:List (Key×Value)},KV more rs→KV kvs vs→KV (jO kvs more) (merged vs rs):=by
 intro more rs kvs vs r;unfold KV at r;induction r generalizing kvs vs with
 | nil=>intro q; exact q
 | @cons p q ps qs h t ih =>
   intro r0;have e:KV (tE kvs p.1 p.2) (stored vs q.1 q.2):=by
     have:=r0.put p.1 h.2;rw [←h.1]; exact this
   exact ih e
theorem lC:∀ (more kvs:List (Key×V)),(jO kvs more).length≤kvs.length + more.length
 | [],kvs=>by show kvs.length≤kvs.length + 0; omega
 | p :: r,kvs=>by
   have h1:=lC r (tE kvs p.1 p.2);have h2:=BD kvs p.1 p.2;show (jO (tE kvs p.1 p.2) r).length≤_;rw [List.length_cons]; omega
theorem uF {P:Program} {w:World}:∀ {kvs:List (Key×V)} {ws:List (Value×Value)},VV (kvs.map fun kv=>(kV kv.1,kv.2)) ws→∃ rs,Carries (bX P w) ws rs∧KV kvs rs
 | [],_,r=>by rw [List.map_nil] at r; cases r; exact ⟨[],True.intro,.nil⟩
 | p :: kvs,_,r=>by
   rw [List.map_cons] at r;cases r with
   | @cons a b as bs h t =>
     obtain ⟨rs,c,q⟩:=uF (P:=P) (w:=w) t;obtain ⟨b1,b2⟩:=b;exact ⟨(p.1,b2) :: rs,⟨UT h.1,rfl,c⟩,.cons ⟨rfl,h.2⟩ q⟩
noncomputable abbrev TD:=St→Hp→(List (V×V)→Hp→Prop)→Prop
noncomputable def PD (X:Cx) (pos:Pos) (keys:List (Option Expr)) (values:List Expr) (t:TD):Prop :=
 ∀ (pins:List (Addr×Obj)) (s:Shared) (σ:St) (H:Hp) (Q:List (V×V)→Hp→Prop),Inv X pins σ H s→t σ H Q→
   wpAny (model X.prog X.w) X.A (evalPairs (pairTrees keys values X.env pos)) (fun vs s'=>∃ ps H',Inv X pins σ H' s'∧VV ps vs∧Q ps H') X.xe s
theorem aBZ {X:Cx} {pos:Pos}:PD X pos [] [] (fun _ H Q=>Q [] H):=fun pins s σ H Q I h=>pairTrees_nil_walk ⟨[],H,I,.nil,h⟩
theorem XU {X:Cx} {pos:Pos} {k v:Expr} {ks:List (Option Expr)} {vs:List Expr} {tk tv:TE} {tr:TD} (hk:PE X k tk) (hv:PE X v tv) (hr:PD X pos ks vs tr) :
   PD X pos (some k :: ks) (v :: vs) (fun σ H Q=>tk σ H fun x H1=>tv σ H1 fun y H2=>tr σ H2 fun ps H3=>Q ((x,y) :: ps) H3):=fun pins s σ H Q I h =>
 pairTrees_cons_walk (thn (hk pins s σ H _ I h) fun u s1 ⟨x,H1,I1,rx,q1⟩=>thn (hv pins s1 σ H1 _ I1 q1) fun w2 s2 ⟨y,H2,I2,ry,q2⟩ =>
   thn (hr pins s2 σ H2 _ I2 q2) <|by rintro ws s3 ⟨ps,H3,I3,rel,q3⟩;exact ⟨(x,y) :: ps,H3,I3,.cons ⟨rx,ry⟩ rel,q3⟩)
theorem PD.imp {X:Cx} {pos:Pos} {ks:List (Option Expr)} {vs:List Expr} {t t':TD} (h:PD X pos ks vs t) (g:∀ σ H Q,t' σ H Q→t σ H Q):PD X pos ks vs t':=fun pins s σ H Q I q=>h pins s σ H Q I (g _ _ _ q)
def aGk (t:TD):TE:=fun σ H Q=>∀ p,H p=none→t σ (upd H p (.dK [])) fun ps H2=>H2 p=some (.dK [])∧∃ kvs:List (Key×V),ps=kvs.map (fun kv=>(kV kv.1,kv.2))∧kvs.length≤15∧Q (.ref p) (upd H2 p (.dK (jO [] kvs)))
theorem aDW {X:Cx} {pos:Pos} {keys:List (Option Expr)} {values:List Expr} {t:TD} (h:PD X pos keys values t) (hall:keys.all (·.isSome)=true) (hl:keys.length=values.length) (h0:keys≠ [])
   (h15:keys.length≤15):PE X (.Dict keys values pos) (aGk t):=by
 intro pins s σ H Q I q;have hn:=I.hok.fresh (Nat.le_refl s.heap.objs.size);have I1:=I.laid (a:=s.heap.objs.size) (o:=.dK []) (h':=s.heap.push { cls:=.type "dict",data:=.dict #[] }) (t':=s.toks) (fun _ _ q=>wEq _ q) (Nat.le_refl _) (VH s.heap I.big);refine wpAny_Dict_walk (knd:=bX X.prog X.w) hall hl h0 h15 (thn (h pins _ σ _ _ I1 (q _ hn)) fun ws s2 zz=>?_);obtain ⟨ps,H2,I2,rel,e,kvs,ep,lk,q2⟩:=zz;subst ep;obtain ⟨rs,c,rk⟩:=uF (P:=X.prog) (w:=X.w) rel;obtain ⟨z,hd,vs0,r0,dd⟩:=aFI I2.hok e;cases r0;refine ⟨rs,c,dd,fun h' dd' hs=>⟨.ref s.heap.objs.size,_, ?_,rfl,q2⟩⟩;have hz:(jO [] kvs).length≤sizeLine:=by
   have h1:=lC kvs [];rw [List.length_nil] at h1;rw [sizeLine_eq]; omega
 have he:∃ q,h'.get? s.heap.objs.size=some q:=let ⟨q,_,_,hq,_⟩:=dd'; ⟨q,hq⟩
 exact YI I2 (by rw [e]; exact True.intro) hs he (aDi hz hd (rk.merge .nil) dd')
def aJQ:R2:=fun x y H Q=>∃ a v,x= .ref a∧VB H a y (some v)∧Q v H
theorem ZP {X:Cx} {k:Nat} (hr:aU k X.A):IxR X aJQ:=by
 rintro value slice pins s σ H x y v u Q I rx ry ⟨a,z,ex,g,q⟩ hs;subst ex;cases rx;exact tail_any (zU I g) slot_dict_getitem.lookup (MW (by have:=hr.units; omega) I g ry fun w' s' I' r'=>⟨z,H,I',r',q⟩) hs
theorem VI {kvs:List (Key×V)} {k:Key} {v:V} (h:k∉ kvs.map (·.1)):tE kvs k v=kvs ++ [(k,v)]:=by
 unfold tE;rw [if_neg];intro z;obtain ⟨p,hp,e⟩:=List.any_eq_true.mp z;exact h (List.mem_map.mpr ⟨p,hp,of_decide_eq_true e⟩)
theorem uP:∀ {more kvs:List (Key×V)},((kvs ++ more).map (·.1)).Nodup→jO kvs more=kvs ++ more
 | [],kvs,_=>by rw [List.append_nil]; rfl
 | p :: r,kvs,h=>by
   have h1:p.1∉ kvs.map (·.1):=by
     rw [List.map_append,List.nodup_append] at h;intro z;exact h.2.2 _ z _ (by rw [List.map_cons]; exact wDq ..) rfl
   show jO (tE kvs p.1 p.2) r=_;rw [VI h1,uP (by rw [List.append_assoc]; exact h),List.append_assoc]; rfl
end L2
namespace LE
open PySem PySem.W PySem.Calls PyProof.Rows Builtin
section
variable {prog:Program} {w:World} {A:Around} {E:Value→Shared→Prop} {s:Shared} {K:Frag} {x C L f:Addr} {h₀:Heap} {m:Str→Option Value} {ox:Obj} {od:Option Obj} {b tb:Value}
theorem JB {M:Model} {T id:String} {name:Str} {args:List Value} {Q:Option Value→Shared→Prop} (X:K.In s.heap) (I:InstAt s.heap x ox C od) (hs:findIn K (.ref C) name=some (some (.builtin id))) (S:Slot T name id)
   (h:wpAny M A (call (.builtin id) (.ref x :: args)) (fun v=>Q (some v)) E s):wpAny M A (callSpecialIfBound? (.ref x) name args) Q E s:=by
 simp only [callSpecialIfBound?,bindSpecialIfBound?];refine wpAny_holding (wAq (wAq (wAq (I.type.here ((looks_findIn X hs).here ?_)))));simp only [S.bind];refine wAq (wpAny_askSetting (wpAny_ite ?_));have fin:wpAny M A (call (.builtin id) ([.ref x] ++ args) >>= fun v=>pure (some v)) Q E s:=wAq (wpAny_mono h (fun v s' h'=>wBq h') fun _ _ h'=>h');split
 · exact wAq (wBq (wBq fin))
 · exact wpAny_tryCatch (wAq (wBq (wBq fin)))
theorem SV {M:Model} {Q:Unit→Shared→Prop} (X:K.In s.heap) (I:InstAt s.heap x ox C od) (hob:subIn K (.ref C) (.type "object")=some true) (hq:Q () s) :
   wpAny M A (checkBuiltinCall "object.__ne__" ⟨[.ref x,b],[]⟩) Q E s:=by
 have ha:=PySem.F.cmpArgs_ne (.ref x) b;simp only [checkBuiltinCall,PySem.F.cmpKind_ne,PySem.F.cmpSplit_ne];refine wAq ?_;unfold isInstance;refine wAq (I.type.here ((looks_subIn X hob).here ?_));simp only [Bool.not_true,Bool.false_eq_true,if_false];cases hsig:Manifest.signature? "object.__ne__" with
 | none=>exact wBq hq
 | some sig =>
   simp only [argsOk,hsig] at ha;have h2:Bind.checkArgs "object.__ne__" sig ⟨[.ref x,b],[]⟩=pure ():=ha;show wpAny M A (Bind.checkArgs "object.__ne__" sig ⟨[.ref x,b],[]⟩) Q E _;rw [h2]; exact wBq hq
theorem aIt {Q:Value→Shared→Prop} (hu:A.units + 1 < cLine) (X:K.In s.heap) (I:InstAt s.heap x ox C od) (hb:Looks (model prog w) s.heap (typeOf b) tb) (hn:notFirst K C tb=true) (hne:findIn K (.ref C) "__ne__"=some (some (.builtin "object.__ne__")))
   (hob:subIn K (.ref C) (.type "object")=some true) (hs:findIn K (.ref C) "__eq__"=some (some (.ref f))) (hf:isFn K (.ref f)=true)
   (h:wpAny (model prog w) A.in1 (call (.ref f) [.ref x,b]) (fun v s'=>∃ r,v= .bool r∧Q (.bool (!r)) s') E s):wpAny (model prog w) A (richCompare .NotEq (.ref x) b) Q E s:=by
 have one:wpAny (model prog w) A (tryCompare (.ref x) (cmpInfo .NotEq).2.1 b) (fun r s'=>∃ v,r=some v∧Q v s') E s:=by
   unfold tryCompare;refine wAq (JB (T:="object") X I hne PySem.F.cmp_object.ne ?_);refine wpAny_call (codeAny_call_builtin PySem.F.cmp_object.ne.plain PySem.F.cmpEntry_ne (SV X I hob ?_));unfold Builtin.«object.__ne__»;refine wAq (m:=slotArgs "__ne__" 1 _) (wBq ?_);refine wAq (wpAny_cRoomFor (by show A.units + 1 < cLine; exact hu) ?_);refine wAq (ifBound_K X I hs hf (wpAny_mono h (fun v s' hv=>?_) fun _ _ e=>e));obtain ⟨r,rfl,q⟩:=hv;refine wAq (wpAny_truthy_bool ?_);refine wBq ?_;exact wBq ⟨_,rfl,q⟩
 unfold richCompare;simp only [oneThing_ref];refine wpAny_holding (wAq (wpAny_cRoomFor (by omega) ?_));refine wAq (I.type.here (wAq (hb.here ?_)));split
 · rename_i q;have e:subIn K tb (.ref C)=some false:=by
     rcases Bool.or_eq_true_iff.mp hn with e | e
     · rw [beq_iff_eq.mp e] at q; simp at q
     · exact beq_iff_eq.mp e
   refine wAq ((looks_subIn X e).here ?_);simp only [Bool.false_eq_true,if_false];refine wAq (wpAny_mono one (fun r s' z=>?_) fun _ _ e=>e);obtain ⟨v,rfl,hq⟩:=z;exact wBq hq
 · refine wAq (wBq ?_);simp only [Bool.false_eq_true,if_false];refine wAq (wpAny_mono one (fun r s' z=>?_) fun _ _ e=>e);obtain ⟨v,rfl,hq⟩:=z;exact wBq hq
end
end LE
namespace L2
open PySem PySem.Spec PyProof.Rows
section
variable {X:Cx}
structure NeC (K:W.Frag) (C:Addr):Prop where
 ne:W.findIn K (.ref C) "__ne__"=some (some (.builtin "object.__ne__"))
 ob:W.subIn K (.ref C) (.type "object")=some true
 bo:W.findIn K (.ref C) "__bool__"=some none
def aKq (C:Addr) (sp:Sp):R2:=fun x y H Q=>∃ p dx fs p' dx' fs',x= .ref p∧y= .ref p'∧H p=some (.ins C dx fs)∧H p'=some (.ins C dx' fs')∧sp [.ref p,.ref p'] H (fun v H'=>∃ b,v= .bl b∧Q (.bl (!b)) H') E0
theorem aDY {k:Nat} {f C:Addr} {fd:FuncData} {sp:Sp} (N:NeC X.K C) (M:dZ X.K C "__eq__" f) (F:bC X.prog X.w X.K X.mg X.base CX0 k f fd ["self","other"] sp) (hr:aU (k + 1) X.A) (hb:aL X.K fd ["self","other"] []) :
   OpR X (compareOp .NotEq) (aKq C sp):=by
 rintro pins s σ H x y v u Q I rx ry ⟨p,dx,fs,p',dx',fs',e1,e2,ea,eb,q⟩;subst e1 e2;cases rx;cases ry;obtain ⟨od,J⟩:=bZ I ea;obtain ⟨od',J'⟩:=bZ I eb;refine W.cmp_ofNotEq (LE.aIt (by have:=hr.units; omega) I.kIn J J'.type (by unfold W.notFirst; simp) N.ne N.ob M.at_ M.fn
   (thn (fP (dvs:=[]) (ds:=[]) (vs:=[.ref p,.ref p']) F hr.in1 I.env0.in1 hb .nil iR I (.cons rfl (.cons rfl .nil)) q) fun v s' ⟨x,H',I',rx,b,e,q'⟩=>?_))
 subst e;cases rx;exact ⟨b,rfl,.bl (!b),H',I',rfl,q'⟩
end
end L2
namespace LE
open PySem PyProof.Rows
open AutoSeq1 (wpAny_loadPart')
open MeetsSeq MeetsSeq2 MeetsSeq3 SeqRoads2 SeqAt
end LE
namespace HT
open PySem PySem.Spec PyProof.Rows
section
variable {prog:Program} {w:World} {A:Around} {E:Value→Shared→Prop} {s:Shared}
theorem nZ {sl:Addr} {vs:Value} {n:Nat} {Q:Int×Int×Nat→Shared→Prop} (hs:s.heap.IsSliceOf sl .none .none vs) (ps:IsPart vs (some (-1)))
   (h:Q ((n:Int) - 1,-1,n) s):wpAny (model prog w) A (Builtin.Slice.sliceApplied (.ref sl) (pure (n:Int))) Q E s:=by
 obtain ⟨os,hos,hcs,hds⟩:=id hs;unfold Builtin.Slice.sliceApplied Builtin.Slice.sliceFields;refine wAq (wAq (wpAny_field hos hds (x:=.none) rfl (wAq (wpAny_field hos hds (x:=.none) rfl (wAq (wpAny_field hos hds (x:=vs) rfl (wBq ?_)))))));refine wAq (lQ ps ?_);show wpAny _ _ (if ((-1:Int) == 0)=true then _ else _) _ _ s;rw [if_neg (by decide)];refine wAq (slicePart_none (wAq (slicePart_none (wAq (wBq ?_)))));have e1:Builtin.Slice.sliceAdjust none none (-1) (n:Int)=((n:Int) - 1,-1):=rfl;have e2:Builtin.Slice.slicePlaces ((n:Int) - 1) (-1) (-1)=n:=by
   unfold Builtin.Slice.slicePlaces;rw [if_neg (by decide)];split
   · rw [show (- -1:Int)=1 from rfl,Int.ediv_one]; omega
   · omega
 show wpAny _ _ (match Builtin.Slice.sliceAdjust none none (-1) (n:Int) with | (lo,hi)=>pure (lo,(-1:Int),Builtin.Slice.slicePlaces lo hi (-1))) _ _ s;rw [e1];show wpAny _ _ (pure ((n:Int) - 1,(-1:Int),Builtin.Slice.slicePlaces ((n:Int) - 1) (-1) (-1))) _ _ s;rw [e2];exact wBq h
theorem KM (its:List Value):((List.range its.toArray.size).filterMap fun (m:Nat)=>its.toArray[((its.toArray.size:Int) - 1 + (m:Int) * -1).toNat]?).toArray=its.reverse.toArray:=by
 congr 1
 have e2:(List.range its.toArray.size).filterMap (fun (m:Nat)=>its.toArray[((its.toArray.size:Int) - 1 + (m:Int) * -1).toNat]?)=(List.range its.reverse.length).filterMap (fun k=>its.reverse[k]?):=by
   rw [List.length_reverse,wHq];refine L2.tU _ fun k hk=>?_;have hk':k < its.length:=List.mem_range.mp hk;rw [List.getElem?_reverse hk'];have:((its.length:Int) - 1 + (k:Int) * -1).toNat=its.length - 1 - k:=by omega
   rw [this]; simp
 rw [e2,L2.lP]
theorem nF {t sl:Addr} {its:List Value} {vs:Value} {Q:Value→Shared→Prop} (ht:IsTup s.heap t its.toArray) (hs:s.heap.IsSliceOf sl .none .none vs) (ps:IsPart vs (some (-1)))
   (h:Q (.ref s.heap.objs.size) { s with heap:=s.heap.push { cls:=.type "tuple",data:=.seq its.reverse.toArray } })
   (hsz:its.length≤sizeLine):wpAny (model prog w) A (getItem (.ref t) (.ref sl)) Q E s:=by
 have htake:sizeOk (.seq its.reverse.toArray):=by
   show its.reverse.toArray.size≤sizeLine;rw [wHq,List.length_reverse]; exact hsz
 obtain ⟨os,hos,hcs,hds⟩:=id hs;have hTs:s.TypeIs (.ref sl) "slice":=⟨os,hos,hcs⟩;unfold getItem
 try with_reducible refine wpAny_holding ?_
 first | refine wAq (wBq ?_) | skip
 refine wAq (wpAny_sequenceKey ht.typeIs (by decide) ?_);refine wAq (wpAny_callSpecial?_slot (name:=Str.ofString "__getitem__") ht.typeIs PyProof.Rows.slot_tuple_getitem
   (wpAny_call_entry PyProof.Rows.slot_tuple_getitem ht.typeIs entry_tuple_getitem ?_ (args_tuple_getitem _ _)))
 show wpAny _ _ (Builtin.Tuple.tupleItemsOf (.ref t) >>= _) _ _ s;refine wAq (tupleItemsOf_ ht ?_);refine wAq (wpAny_typeOf hTs ?_);rw [if_pos (by decide)];refine wAq (nZ hs ps ?_);have hno:¬((((its.toArray.size:Int) - 1 == 0) && (-1:Int) == 1 && its.toArray.size == its.toArray.size)=true):=by
   rw [show ((-1:Int) == 1)=false from rfl,Bool.and_false,Bool.false_and]; exact Bool.false_ne_true
 show wpAny _ _ (if (((its.toArray.size:Int) - 1 == 0) && (-1:Int) == 1 && its.toArray.size == its.toArray.size)=true then _ else _) _ _ s;rw [if_neg hno,KM];first
   | exact wAq (m:=Builtin.Tuple.tupleExact _) (wpAny_newObj_type (wBq ⟨_,rfl,wBq h⟩) htake)
   | exact wAq (m:=Builtin.Tuple.tupleExact _) (wpAny_newObj_type (wAq (wBq (wBq ⟨_,rfl,wBq h⟩))) htake)
   | exact wAq (wAq (m:=Builtin.Tuple.tupleExact _) (wpAny_newObj_type (wBq (wBq ⟨_,rfl,wBq h⟩)) htake))
   | exact wAq (wAq (m:=Builtin.Tuple.tupleExact _) (wpAny_newObj_type (wBq ⟨_,rfl,wBq h⟩) htake))
end
end HT
namespace L2
open PySem PySem.Spec PyProof.Rows
section
variable {X:Cx} {pins:List (Addr×Obj)} {σ:St} {H:Hp} {s:Shared} {a:Addr} {xs:List V}
end
section
variable {X:Cx} {o e:Expr} {to te:TE} {pos apos:Pos}
def aGa (K:W.Frag) (te:TE):TE:=fun σ H Q=>te σ H fun x H1=>∃ p xs,x= .ref p∧((H1 p=some (.lst xs)∧∀ q,H1 q=none→Q (.ref q) (upd H1 q (.lst xs.reverse)))∨(SqT K H1 p xs∧∀ q,H1 q=none→Q (.ref q) (upd H1 q (.tup xs.reverse))))
theorem WX {p1 p2 p3:Pos} {k1} (he:PE X e te):PE X (.Subscript e (.Slice none none (some (.UnaryOp .USub (.Constant (.int 1) k1 p1) p2)) p3) pos) (aGa X.K te):=by
 intro pins s σ H Q I h;refine Subscript_ (thn (he pins s σ H _ I h) fun v s1 zz=>?_);obtain ⟨x,H1,I1,r1,p,xs,ex,hq⟩:=zz;subst ex;cases r1;refine wpAny_Slice ?_;rw [evalPart_none];refine wBq ?_;refine wBq ?_;refine thn ((HK (aBz SN (RS (X:=X)))) pins s1 σ H1 (fun o H2=>o=some (-1)∧H2=H1) I1 ⟨_,rfl,_,rfl,rfl,rfl⟩) fun vs s2 zz=>?_;obtain ⟨o,H2,I2,ps,eo,eH⟩:=zz;subst eo eH;have I3:Inv X pins σ H2 { s2 with heap:=s2.heap.push { cls:=.type "slice",data:=.fields #[.none,.none,vs] } }:=I2.kept (t':=s2.toks) fun b ob q=>wEq _ q;rcases hq with ⟨hp,q⟩ | ⟨hp,q⟩
 · obtain ⟨its,rv,ht,hz⟩:=I3.list (SqL.of hp);have hlen:=rv.length;refine tail_any (ops:=[.ref p,.ref s2.heap.objs.size]) ht.isList.typeIs slot_list_getitem.lookup ?_ (by with_unfolding_all rfl);refine wpAny_getItem_list_slice (lo:=none) (hi:=none) ht.isList (Heap.IsSliceOf.new ..) .none .none ps (by decide) ?_ (by rw [wHq] <;> omega);rw [QC];refine ⟨.ref _,_,I3.laid (t':=s2.toks) (o:=.lst xs.reverse) (fun b ob q=>wEq _ q) (Nat.le_refl _) ?_,rfl,q _ (I3.hok.fresh (Nat.le_refl _))⟩;exact ⟨by rw [List.length_reverse]; exact hz,_,0,rv.reverse,wGq _ rfl⟩
 · obtain ⟨its,rv,ht,hz⟩:=I3.tuple hp;have hlen:=rv.length;refine tail_any (ops:=[.ref p,.ref s2.heap.objs.size]) ht.typeIs PyProof.Rows.slot_tuple_getitem.lookup ?_ (by with_unfolding_all rfl);refine HT.nF ht (Heap.IsSliceOf.new ..) ps ?_ (by omega);refine ⟨.ref _,_,I3.laid (t':=s2.toks) (o:=.tup xs.reverse) (fun b ob q=>wEq _ q) (Nat.le_refl _) ?_,rfl,q _ (I3.hok.fresh (Nat.le_refl _))⟩;exact ⟨by rw [List.length_reverse]; exact hz,_,rv.reverse,fO.new _ _⟩
end
section
variable {X:Cx} {a:Addr} {es:Array DictEntry} {n:Nat}
end
section
variable {X:Cx} {pos:Pos}
def aG6 (i j l:Nat) (ta:TA):TS:=fun D σ H=>ta σ H fun vs H1=>∃ v w u,vs=[v,w,u]∧D.nx (((σ.set i (some v)).set j (some w)).set l (some u)) H1
theorem aAF {i j l:Nat} {x y z:Str} {a b c:Expr} {ta:TA} {px py pz pt:Pos} {kt k2 pt2} (hc:X.calm=true) (hN:X.N.Nodup) (hi:X.N[i]? =some x) (hj:X.N[j]? =some y) (hl:X.N[l]? =some z) (hij:i≠j) (hil:i≠l) (hjl:j≠l)
   (hx:X.env.scope.names.lookup x=some .local) (hy:X.env.scope.names.lookup y=some .local) (hz:X.env.scope.names.lookup z=some .local) (ha:PA X [a,b,c] ta)
   (hw:swappedStores [.Tuple [.Name x px,.Name y py,.Name z pz] kt pt] (.Tuple [a,b,c] k2 pt2) X.env=pure (some [x,y,z]))
   (hs:swapsWithSole [.Tuple [.Name x px,.Name y py,.Name z pz] kt pt] (.Tuple [a,b,c] k2 pt2) pos.line X.env=pure false:=by rfl) :
   PS X (.Assign [.Tuple [.Name x px,.Name y py,.Name z pz] kt pt] (.Tuple [a,b,c] k2 pt2) pos) (aG6 i j l ta):=by
 intro pins s σ H D I h;rw [exec_Assign_arm];refine wAq (wpAny_standAt ?_);rw [hs];refine wAq (wBq ?_);rw [if_neg (by decide)];refine wAq (Tuple_ (thn (ha _ pins s σ H _ I h) fun us s1 zz=>?_));obtain ⟨vs,H1,I1,r1,q1⟩:=zz;obtain ⟨v,w,v3,e1,q1⟩:=q1;subst e1;obtain ⟨u1,u2,u3,rfl,rv,rw',ru⟩:∃ u1 u2 u3,us=[u1,u2,u3]∧aQ v u1∧aQ w u2∧aQ v3 u3:=by
   cases r1 with
   | cons p q =>
     cases q with
     | cons p' q' =>
       cases q' with
       | cons p2 q2 =>
         cases q2;exact ⟨_,_,_,rfl,p,p',p2⟩
 refine wpAny_newObj_type ?_ (by show 3≤sizeLine; decide);have I2:Inv X pins σ H1 { s1 with heap:=s1.heap.push { cls:=.type "tuple",data:=.seq [u1,u2,u3].toArray } }:=I1.kept (t':=s1.toks) fun b o e=>wEq _ e;rw [hw];refine wAq (wBq ?_);show wpAny (model X.prog X.w) X.A (do rule "assign.swapped-stores"; let items ←unpackItems (.ref s1.heap.objs.size) 3 none; assignInOrder [fun v=>bindName X.env z v,fun v=>bindName X.env y v,fun v=>bindName X.env x v] items.reverse; pure Flow.next) _ _ _;refine wAq (wpAny_rule (wAq (unpackItems_tuple (items:= #[u1,u2,u3]) (I.ok.hd hc) (IsTup.new s1.heap _) fun h' hx'=>?_)));have I3:=I2.kept (h':=h') (t':=s1.toks) fun b o e=>hx' b o (Nat.ne_of_lt (Heap.lt_size e)) e;show wpAny _ _ (assignInOrder [fun v=>bindName X.env z v,fun v=>bindName X.env y v,fun v=>bindName X.env x v] [u3,u2,u1] >>= fun _=>pure Flow.next) _ _ _;refine wAq (assignInOrder_cons (wpAny_bindName (eX I3 hN hl (.inl hz) ru (fun s2 I4=>?_) (.inr hz))));refine assignInOrder_cons (wpAny_bindName (eX I4 hN hj (.inl hy) rw' (fun s2 I4=>?_) (.inr hy)));refine assignInOrder_cons (wpAny_bindName (eX I4 hN hi (.inl hx) rv (fun s3 I5=>assignInOrder_nil (wBq ?_)) (.inr hx)));rw [List.set_comm _ _ (Ne.symm hij),List.set_comm _ _ (Ne.symm hil),List.set_comm _ _ (Ne.symm hjl)] at I5;exact ⟨_,H1,I5,q1⟩
end
end L2
namespace HT
open PySem PySem.Spec PyProof PyProof.Rows
section
variable {prog:Program} {w:World} {A:Around} {E:Value→Shared→Prop} {s:Shared}
theorem kN {t sl:Addr} {items:Array Value} {vl vu:Value} {lo hi:Option Int} {Q:Value→Shared→Prop} (ht:IsTup s.heap t items) (hs:s.heap.IsSliceOf sl vl vu .none) (pl:IsPart vl lo) (pu:IsPart vu hi)
   (hw:sIx items.size 0 lo=0∧sIx items.size items.size hi=items.size)
   (h:Q (.ref t) s):wpAny (model prog w) A (getItem (.ref t) (.ref sl)) Q E s:=by
 obtain ⟨os,hos,hcs,hds⟩:=id hs;have hTs:s.TypeIs (.ref sl) "slice":=⟨os,hos,hcs⟩;unfold getItem
 try with_reducible refine wpAny_holding ?_
 first | refine wAq (wBq ?_) | skip
 refine wAq (wpAny_sequenceKey ht.typeIs (by decide) ?_);refine wAq (wpAny_callSpecial?_slot (name:=Str.ofString "__getitem__") ht.typeIs PyProof.Rows.slot_tuple_getitem
   (wpAny_call_entry PyProof.Rows.slot_tuple_getitem ht.typeIs entry_tuple_getitem ?_ (args_tuple_getitem _ _)))
 show wpAny _ _ (Builtin.Tuple.tupleItemsOf (.ref t) >>= _) _ _ s;refine wAq (tupleItemsOf_ ht ?_);refine wAq (wpAny_typeOf hTs ?_);rw [if_pos (by decide)];refine wAq (gU hs pl pu ?_);have hno:(((sIx items.size 0 lo:Nat):Int) == 0 && (1:Int) == 1 && (sIx items.size items.size hi - sIx items.size 0 lo) == items.size)=true:=by
   rw [hw.1,hw.2]; simp
 show wpAny _ _ (if (((sIx items.size 0 lo:Nat):Int) == 0 && (1:Int) == 1 && (sIx items.size items.size hi - sIx items.size 0 lo) == items.size)=true then _ else _) _ _ s;rw [if_pos hno];unfold Builtin.Tuple.tupleIsExact;refine wAq (wAq (wpAny_typeOf ht.typeIs (wBq ?_)));rw [if_pos (by decide)];refine wAq (wpAny_rule ?_);first
   | exact wAq (wBq ⟨_,rfl,wBq h⟩)
   | exact wAq (wBq (wBq ⟨_,rfl,wBq h⟩))
   | exact wBq ⟨_,rfl,wBq h⟩
end
end HT
namespace L2
open PySem PySem.Spec PyProof.Rows
section
variable {X:Cx}
noncomputable def aKi (K:W.Frag):V→Option Int→Option Int→Hp→VK→Prop:=fun x lo hi H Q=>∃ a xs,x= .ref a∧SqT K H a xs∧
 (HT.sIx xs.length 0 lo=0∧HT.sIx xs.length xs.length hi=xs.length)∧Q (.ref a) H
theorem aAj:SlR X (aKi X.K):=by
 intro pins s σ H x v vl vu lo hi sl Q I rx hs pl pu h;obtain ⟨a,xs,rfl,hx,hw,q⟩:=h;cases rx;obtain ⟨its,r,ht,hz⟩:=I.tuple hx;have hlen:its.toArray.size=xs.length:=by rw [wHq]; exact r.length.symm
 refine ⟨"tuple",_,PyProof.Rows.slot_tuple_getitem.lookup,ht.typeIs, ?_⟩;exact HT.kN ht hs pl pu (by rw [hlen]; exact hw) ⟨.ref a,_,I,rfl,q⟩
end
end L2
namespace LR
open PySem PySem.W PyProof PyProof.Rows
section
variable {prog:Program} {w:World} {A:Around} {E:Value→Shared→Prop} {s:Shared} {K:Frag} {x C L f:Addr} {h₀:Heap} {m:Str→Option Value} {ox:Obj} {od:Option Obj} {a:Value}
theorem cmp_R {Ta id:String} {Q:Value→Shared→Prop} (hu:A.units < cLine) (F:Fr h₀ L s.heap m) (X₀:K.In h₀) (I:InstAt s.heap x ox C od) (ha:s.TypeIs a Ta)
   (hsl:Slot Ta "__eq__" id) (hsub:subIn K (.ref C) (.type Ta)=some false)
   (hc:∀ Q':Value→Shared→Prop,Q' .notImplemented s→wpAny (model prog w) A (call (.builtin id) [a,.ref x]) Q' E s)
   (hs:findIn K (.ref C) "__eq__"=some (some (.ref f))) (hf:isFn K (.ref f)=true)
   (h:wpAny (model prog w) A (call (.ref f) [.ref x,a]) (W.CmpBack Q) E s):wpAny (model prog w) A (richCompare .Eq a (.ref x)) Q E s:=by
 have X:=X₀.keeps F.keep;have one:wpAny (model prog w) A (tryCompare (.ref x) "__eq__" a) (fun r s'=>∃ v,r=some v∧Q v s') E s:=by
   unfold tryCompare;refine wAq (ifBound_K X I hs hf (wpAny_mono h (fun v s' hv=>?_) fun _ _ e=>e));cases v <;> first | exact hv.elim | exact wBq ⟨_,rfl,hv⟩
 have hi:cmpInfo CmpOp.Eq=("==",("__eq__":Str),("__eq__":Str)):=rfl;simp only [richCompare,hi,ha.oneThing_none];refine wpAny_holding (wAq (wpAny_cRoomFor hu ?_));refine wAq (wpAny_typeOf ha (wAq (I.type.here ?_)));have hne:(Value.type Ta != Value.ref C)=true:=rfl;simp only [hne,if_true];refine wAq ((looks_subIn X hsub).here ?_);simp only [Bool.false_eq_true,if_false,Bool.not_false,if_true];refine wAq (m:=tryCompare a _ (.ref x)) (wpAny_tryCompare_declines ha hsl (hc _ ⟨rfl, ?_⟩));refine wAq (wpAny_mono one (fun r s' z=>?_) fun _ _ e=>e);obtain ⟨v,rfl,hq⟩:=z;exact wBq hq
theorem uM {T:String} {Q':Bool→Shared→Prop} {M:Model} (X:K.In s.heap) (I:InstAt s.heap x ox C od) (hsub:subIn K (.ref C) (.type T)=some false) (q:Q' false s):wpAny M A (isInstance (.ref x) (.type T)) Q' E s:=by
 unfold isInstance;exact wAq (I.type.here ((looks_subIn X hsub).here q))
theorem dec_tuple {t:Addr} {Q':Value→Shared→Prop} (X:K.In s.heap) (ht:s.TypeIs (.ref t) "tuple") (I:InstAt s.heap x ox C od) (hsub:subIn K (.ref C) (.type "tuple")=some false) (q:Q' .notImplemented s) :
   wpAny (model prog w) A (call (.builtin "tuple.__eq__") [.ref t,.ref x]) Q' E s:=by
 refine wpAny_call_entry PySem.F.slot_tuple_eq ht PySem.F.entry_tuple_eq ?_ (PySem.F.args_tuple_eq_2 _ _);show wpAny _ _ (isInstance (.ref x) (.type "tuple") >>= _) _ _ s;refine wAq (uM X I hsub ?_);exact wAq (wBq (wBq ⟨_,rfl,q⟩))
theorem dec_list {t:Addr} {Q':Value→Shared→Prop} (X:K.In s.heap) (ht:s.TypeIs (.ref t) "list") (I:InstAt s.heap x ox C od) (hsub:subIn K (.ref C) (.type "list")=some false) (q:Q' .notImplemented s) :
   wpAny (model prog w) A (call (.builtin "list.__eq__") [.ref t,.ref x]) Q' E s:=by
 refine wpAny_call_entry PySem.F.slot_list_eq ht PySem.F.entry_list_eq ?_ (PySem.F.args_list_eq_2 _ _);show wpAny _ _ (isInstance (.ref x) (.type "list") >>= _) _ _ s;refine wAq (uM X I hsub ?_);exact wAq (wBq (wBq ⟨_,rfl,q⟩))
theorem dec_none {Q':Value→Shared→Prop} (q:Q' .notImplemented s):wpAny (model prog w) A (call (.builtin "NoneType.__eq__") [.none,.ref x]) Q' E s:=by
 refine wpAny_call_entry PySem.F.slot_NoneType_eq (s:=s) rfl PySem.F.entry_NoneType_eq ?_ (PySem.F.args_NoneType_eq_2 _ _);exact wBq ⟨_,rfl,q⟩
open PySem.AutoSeq1 (wpAny_loadPart') in
theorem dec_int {C dx:Addr} {sl:Array (Option Value)} {i:Int} {u:Tok} {Q':Value→Shared→Prop} (ho:s.heap.get? x=some { cls:=.ref C,dict:=some dx,data:=.plain,slots:=sl }) (q:Q' .notImplemented s) :
   wpAny (model prog w) A (call (.builtin "int.__eq__") [.int i u,.ref x]) Q' E s:=by
 refine wpAny_call_entry PySem.F.slot_int_eq (s:=s) rfl PySem.F.entry_int_eq ?_ (PySem.F.args_int_eq_2 _ _);obtain ⟨hp,g,d,tk,os⟩:=s
 wp_walk using wpAny_loadPart' ho
 exact ⟨_,rfl,q⟩
open PySem.AutoSeq1 (wpAny_loadPart') in
theorem dec_bool {C dx:Addr} {sl:Array (Option Value)} {b:Bool} {Q':Value→Shared→Prop} (ho:s.heap.get? x=some { cls:=.ref C,dict:=some dx,data:=.plain,slots:=sl }) (q:Q' .notImplemented s) :
   wpAny (model prog w) A (call (.builtin "int.__eq__") [.bool b,.ref x]) Q' E s:=by
 refine wpAny_call_entry PySem.F.slot_bool_eq (s:=s) rfl PySem.F.entry_int_eq ?_ (PySem.F.args_int_eq_2 _ _);obtain ⟨hp,g,d,tk,os⟩:=s
 wp_walk using wpAny_loadPart' ho
 exact ⟨_,rfl,q⟩
open PySem.AutoSeq1 (wpAny_loadPart') in
theorem dec_str {C dx:Addr} {sl:Array (Option Value)} {z:Str} {u:Tok} {Q':Value→Shared→Prop} (ho:s.heap.get? x=some { cls:=.ref C,dict:=some dx,data:=.plain,slots:=sl }) (q:Q' .notImplemented s) :
   wpAny (model prog w) A (call (.builtin "str.__eq__") [.str z u,.ref x]) Q' E s:=by
 refine wpAny_call_entry PySem.F.slot_str_eq (s:=s) rfl PySem.F.entry_str_eq ?_ (PySem.F.args_str_eq_2 _ _);obtain ⟨hp,g,d,tk,os⟩:=s
 wp_walk using wpAny_loadPart' ho
 exact ⟨_,rfl,q⟩
theorem dec_dict {t:Addr} {od':Obj} {Q':Value→Shared→Prop} (X:K.In s.heap) (ht:s.heap.get? t=some od') (hc:od'.cls= .type "dict") (I:InstAt s.heap x ox C od) (hsub:subIn K (.ref C) (.type "dict")=some false) (q:Q' .notImplemented s) :
   wpAny (model prog w) A (call (.builtin "dict.__eq__") [.ref t,.ref x]) Q' E s:=by
 refine wpAny_call_entry PySem.F.slot_dict_eq ⟨od',ht,hc⟩ PySem.F.entry_dict_eq ?_ (PySem.F.args_dict_eq_2 _ _);obtain ⟨hp,g,d,tk,os⟩:=s;obtain ⟨cls,dd,data,sl⟩:=od';have hc:cls= .type "dict":=hc;subst hc
 wp_walk using PySem.AutoSeq1.wpAny_loadPart' ht,uM X I hsub
 exact ⟨_,rfl,q⟩
variable {y D:Addr} {oy:Obj} {oyd:Option Obj}
end
end LR
namespace L2
open PySem PySem.Spec PyProof.Rows
section
variable {X:Cx}
noncomputable def aE0:List String:=["NoneType","bool","int","str","list","tuple","dict"]
structure EqL (K:W.Frag) (C:Addr):Prop where
 nt:∀ T∈aE0,W.subIn K (.ref C) (.type T)=some false
 tn:∀ T∈aE0,W.subIn K (.type T) (.ref C)=some false
structure EqD (K:W.Frag) (C D:Addr):Prop where
 ne:D≠C
 cd:W.subIn K (.ref C) (.ref D)=some false
 dc:W.subIn K (.ref D) (.ref C)=some false
inductive BuV (K:W.Frag) (H:Hp):V→Prop
 | non:BuV K H .non
 | bl (b:Bool):BuV K H (.bl b)
 | int (i:Int):BuV K H (.int i)
 | str (z:Str):BuV K H (.str z)
 | tup {a:Addr} {xs:List V}:SqT K H a xs→BuV K H (.ref a)
 | lst {a:Addr} {xs:List V}:SqL K H a xs→BuV K H (.ref a)
 | dK {a:Addr} {kvs:List (Key×V)}:H a=some (.dK kvs)→BuV K H (.ref a)
def aJw (K:W.Frag) (C:Addr) (sp:Sp):R2:=fun x y H Q=>∃ p dx fs,y= .ref p∧H p=some (.ins C dx fs)∧BuV K H x∧sp [.ref p,x] H (fun v H'=>∃ b,v= .bl b∧Q (.bl b) H') E0
theorem aDr {k:Nat} {f C:Addr} {fd:FuncData} {sp:Sp} (L:EqL X.K C) (M:dZ X.K C "__eq__" f) (F:bC X.prog X.w X.K X.mg X.base CX0 k f fd ["self","other"] sp) (hr:aU k X.A) (hb:aL X.K fd ["self","other"] []) :
   OpR X (compareOp .Eq) (aJw X.K C sp):=by
 rintro pins s σ H x y v u Q I rx ry ⟨p,dx,fs,e2,eb,bu,q⟩;subst e2;cases ry;obtain ⟨od,J⟩:=bZ I eb;obtain ⟨m,Fm⟩:=I.fr;have K0:=I.kIn;have hi:=J.at_;have fin:wpAny (model X.prog X.w) X.A (call (.ref f) [.ref p,v]) (W.CmpBack (EP X pins σ Q)) X.xe s :=
   thn (fP (dvs:=[]) (ds:=[]) (vs:=[.ref p,x]) F hr I.env0 hb .nil iR I (.cons rfl (.cons rx .nil)) q) <|by
     rintro v s' ⟨x,H',I',rx,b,e,q'⟩;subst e; cases rx; exact ⟨.bl b,H',I',rfl,q'⟩
 refine W.cmp_ofEq ?_;have nt:=L.nt;cases bu with
 | non=>cases rx; exact LR.cmp_R hr.units0 Fm I.ok.mod.kin J (typeIs_none s) PySem.F.slot_NoneType_eq (nt "NoneType" (by decide)) (fun Q' q=>LR.dec_none q) M.at_ M.fn fin
 | bl b=>cases rx; exact LR.cmp_R hr.units0 Fm I.ok.mod.kin J (PySem.typeIs_bool s b) PySem.F.slot_bool_eq (nt "bool" (by decide)) (fun Q' q=>LR.dec_bool hi q) M.at_ M.fn fin
 | int i=>obtain ⟨t,rfl⟩:=rx; exact LR.cmp_R hr.units0 Fm I.ok.mod.kin J (typeIs_int s i t) PySem.F.slot_int_eq (nt "int" (by decide)) (fun Q' q=>LR.dec_int hi q) M.at_ M.fn fin
 | str z=>obtain ⟨t,rfl⟩:=rx; exact LR.cmp_R hr.units0 Fm I.ok.mod.kin J (typeIs_str s z t) PySem.F.slot_str_eq (nt "str" (by decide)) (fun Q' q=>LR.dec_str hi q) M.at_ M.fn fin
 | tup h=>cases rx; obtain ⟨its,_,ht,_⟩:=I.tuple h; exact LR.cmp_R hr.units0 Fm I.ok.mod.kin J ht.typeIs PySem.F.slot_tuple_eq (nt "tuple" (by decide)) (fun Q' q=>LR.dec_tuple K0 ht.typeIs J (nt "tuple" (by decide)) q) M.at_ M.fn fin
 | lst h =>
   cases rx;obtain ⟨its,_,⟨o,n,e,c,_⟩,_⟩:=I.list h;exact LR.cmp_R hr.units0 Fm I.ok.mod.kin J ⟨o,e,c⟩ PySem.F.slot_list_eq (nt "list" (by decide)) (fun Q' q=>LR.dec_list K0 ⟨o,e,c⟩ J (nt "list" (by decide)) q) M.at_ M.fn fin
 | dK h =>
   cases rx;obtain ⟨_,_,vs,_,hd⟩:=I.hok _ _ h;obtain ⟨o,es,ep,e,xd,_⟩:=hd;exact LR.cmp_R hr.units0 Fm I.ok.mod.kin J ⟨o,e,xd.1⟩ PySem.F.slot_dict_eq (nt "dict" (by decide)) (fun Q' q=>LR.dec_dict K0 e xd.1 J (nt "dict" (by decide)) q) M.at_ M.fn fin
theorem aEV {M:Model} {s:Shared} {v:Value} {T:String} (h:s.TypeIs v T):W.Looks M s.heap (typeOf v) (.type T):=by
 cases v with
 | ref a =>
   obtain ⟨o,e,c⟩:=h;exact c▸(W.Looks.ld e).andThen .now
 | _=>rw [show typeOf _=pure (Value.type T) from h]; exact .now
theorem BuV.ty {pins:List (Addr×Obj)} {σ:St} {H:Hp} {s:Shared} {x:V} {v:Value} (I:Inv X pins σ H s) (r:aQ x v) (h:BuV X.K H x):∃ T∈aE0,s.TypeIs v T:=by
 cases h with
 | non=>cases r; exact ⟨"NoneType",by decide,typeIs_none s⟩
 | bl b=>cases r; exact ⟨"bool",by decide,PySem.typeIs_bool s b⟩
 | int i=>obtain ⟨t,rfl⟩:=r; exact ⟨"int",by decide,typeIs_int s i t⟩
 | str z=>obtain ⟨t,rfl⟩:=r; exact ⟨"str",by decide,typeIs_str s z t⟩
 | tup h=>cases r; obtain ⟨its,_,ht,_⟩:=I.tuple h; exact ⟨"tuple",by decide,ht.typeIs⟩
 | lst h=>cases r; obtain ⟨its,_,⟨o,n,e,c,_⟩,_⟩:=I.list h; exact ⟨"list",by decide,⟨o,e,c⟩⟩
 | dK h=>cases r; obtain ⟨_,_,vs,_,o,es,ep,e,xd,_⟩:=I.hok _ _ h; exact ⟨"dict",by decide,⟨o,e,xd.1⟩⟩
def AnV (K:W.Frag) (C:Addr) (H:Hp) (y:V):Prop:=BuV K H y∨∃ p' D dx' fs',y= .ref p'∧H p'=some (.ins D dx' fs')∧W.subIn K (.ref D) (.ref C)=some false
theorem AnV.looks {pins:List (Addr×Obj)} {σ:St} {H:Hp} {s:Shared} {C:Addr} {y:V} {u:Value} {M:Model} (L:EqL X.K C) (I:Inv X pins σ H s) (r:aQ y u) (h:AnV X.K C H y):∃ tb,W.Looks M s.heap (typeOf u) tb∧W.notFirst X.K C tb=true:=by
 rcases h with h | ⟨p',D,dx',fs',rfl,e,hs⟩
 · obtain ⟨T,hT,ty⟩:=h.ty I r;exact ⟨_,aEV ty,by unfold W.notFirst; rw [L.tn T hT]; simp⟩
 · cases r;obtain ⟨od',J'⟩:=bZ I e;exact ⟨_,J'.type,by unfold W.notFirst; rw [hs]; simp⟩
def aFM (neg:Bool) (K:W.Frag) (C:Addr) (sp:Sp):R2:=fun x y H Q=>∃ p dx fs,x= .ref p∧H p=some (.ins C dx fs)∧AnV K C H y∧sp [.ref p,y] H (fun v H'=>∃ b,v= .bl b∧Q (.bl (if neg=true then !b else b)) H') E0
theorem aDd {k:Nat} {f C:Addr} {fd:FuncData} {sp:Sp} (L:EqL X.K C) (M:dZ X.K C "__eq__" f) (F:bC X.prog X.w X.K X.mg X.base CX0 k f fd ["self","other"] sp) (hr:aU k X.A) (hb:aL X.K fd ["self","other"] []) :
   OpR X (compareOp .Eq) (aFM false X.K C sp):=by
 rintro pins s σ H x y v u Q I rx ry ⟨p,dx,fs,e1,ea,an,q⟩;subst e1;cases rx;obtain ⟨od,J⟩:=bZ I ea;obtain ⟨m,Fm⟩:=I.fr;obtain ⟨tb,lk,nf⟩:=an.looks (M:=model X.prog X.w) L I ry;refine W.cmp_ofEq (W.cmp_K hr.units0 Fm I.ok.mod.kin J lk nf M.at_ M.fn
   (thn (fP (dvs:=[]) (ds:=[]) (vs:=[.ref p,y]) F hr I.env0 hb .nil iR I (.cons rfl (.cons ry .nil)) q) fun v s' ⟨x,H',I',rx,b,e,q'⟩=>?_))
 subst e;cases rx;exact ⟨.bl b,H',I',rfl,q'⟩
theorem aCv {k:Nat} {f C:Addr} {fd:FuncData} {sp:Sp} (L:EqL X.K C) (N:NeC X.K C) (M:dZ X.K C "__eq__" f) (F:bC X.prog X.w X.K X.mg X.base CX0 k f fd ["self","other"] sp) (hr:aU (k + 1) X.A) (hb:aL X.K fd ["self","other"] []) :
   OpR X (compareOp .NotEq) (aFM true X.K C sp):=by
 rintro pins s σ H x y v u Q I rx ry ⟨p,dx,fs,e1,ea,an,q⟩;subst e1;cases rx;obtain ⟨od,J⟩:=bZ I ea;obtain ⟨tb,lk,nf⟩:=an.looks (M:=model X.prog X.w) L I ry;refine W.cmp_ofNotEq (LE.aIt (by have:=hr.units; omega) I.kIn J lk nf N.ne N.ob M.at_ M.fn
   (thn (fP (dvs:=[]) (ds:=[]) (vs:=[.ref p,y]) F hr.in1 I.env0.in1 hb .nil iR I (.cons rfl (.cons ry .nil)) q) fun v s' ⟨x,H',I',rx,b,e,q'⟩=>?_))
 subst e;cases rx;exact ⟨b,rfl,.bl (!b),H',I',rfl,q'⟩
end
end L2
namespace LR
open PySem PyProof.Rows
open AutoSeq1 (wpAny_loadPart')
open MeetsSeq MeetsSeq2 MeetsSeq3 SeqRoads2
theorem sC {prog:Program} {w:World} {l:Addr} {x:Value} {N:Nat} {A:Around} {R:Result→Shared→Prop} (W:Nat→Shared→Prop)
   (hW:∀ i s,W i s→∃ (items:Array Value) (n:Nat) (dd:Option Addr) (sl:Array (Option Value)),items.size=N∧s.heap.get? l=some { cls:=.type "list",dict:=dd,data:=.seq items n,slots:=sl }∧
     ∀ h:i < items.size,wpAny (model prog w) A.in1 (eqBool items[i] x) (fun b s'=>if b=true then R (.ok (.ret (.bool true))) s' else W (i + 1) s') (fun e s'=>R (.error e) s') s)
   (fin:∀ s,W N s→R (.ok (.ret (.bool false))) s) (k:Nat) :
   ∀ i:Nat,N - i=k→i≤N→MeetsIn prog w (Builtin.«list.__contains__.loop» ⟨[.ref l,x,rawInt i],[]⟩) (fun A' R' s=>A'=A∧R'=R∧W i s):=by
 induction k with
 | zero =>
   rintro i hk hi A' R' s ⟨eA,eR,h⟩;subst eA eR;obtain ⟨items,n,dd,sl,hz,hl,_⟩:=hW i s h;have e:i=N:=by omega
   subst e;obtain ⟨hp,g,d,tk,os⟩:=s
   wp_walk using wpAny_loadPart' hl
   have hi:items[((i:Nat):Int).toNat]? =none:=by simp; omega
   rw [hi]
   wp_walk
   exact fin _ h
 | succ k ih =>
   rintro i hk hi A' R' s ⟨eA,eR,h⟩;subst eA eR;obtain ⟨items,n,dd,sl,hz,hl,st⟩:=hW i s h;have hlt:i < items.size:=by omega
   have st:=st hlt;obtain ⟨hp,g,d,tk,os⟩:=s
   wp_walk using wpAny_loadPart' hl
   have hi:items[((i:Nat):Int).toNat]? =some items[i]:=by simp [hlt]
   rw [hi];refine wAq (wpAny_mono st (fun b s' hb=>?_) fun _ _ e=>e);cases b with
   | true =>
     rw [if_pos rfl] at hb
     wp_walk
     exact hb
   | false =>
     rw [if_neg Bool.false_ne_true] at hb;obtain ⟨hp',g',d',tk',os'⟩:=s';have hc:((i:Int) + 1)=((i + 1:Nat):Int):=by push_cast; rfl
     wp_walk
     rw [hc];refine ⟨plainId_quiet plain_contains_loop _,codeAny_builtin entry_contains_loop ?_⟩;rw [Around.under_plainId plain_contains_loop _];exact ih (i + 1) (by omega) (by omega) _ _ _ ⟨rfl,rfl,hb⟩
theorem containsG {prog:Program} {w:World} {l:Addr} {x:Value} {N:Nat} {A:Around} {R:Result→Shared→Prop} (W:Nat→Shared→Prop)
   (hW:∀ i s,W i s→∃ (items:Array Value) (n:Nat) (dd:Option Addr) (sl:Array (Option Value)),items.size=N∧s.heap.get? l=some { cls:=.type "list",dict:=dd,data:=.seq items n,slots:=sl }∧
     ∀ h:i < items.size,wpAny (model prog w) A.in1 (eqBool items[i] x) (fun b s'=>if b=true then R (.ok (.ret (.bool true))) s' else W (i + 1) s') (fun e s'=>R (.error e) s') s)
   (fin:∀ s,W N s→R (.ok (.ret (.bool false))) s) :
   MeetsIn prog w (Builtin.«list.__contains__» ⟨[.ref l,x],[]⟩) (fun A' R' s=>A'=A∧R'=R∧W 0 s):=by
 rintro A' R' s ⟨eA,eR,h⟩;subst eA eR;obtain ⟨items,n,dd,sl,hz,hl,_⟩:=hW 0 s h;obtain ⟨hp,g,d,tk,os⟩:=s
 wp_walk using wpAny_loadPart' hl
 refine ⟨plainId_quiet plain_contains_loop _,codeAny_builtin entry_contains_loop ?_⟩;rw [Around.under_plainId plain_contains_loop _];exact sC W hW fin _ 0 rfl (Nat.zero_le _) _ _ _ ⟨rfl,rfl,h⟩
end LR
namespace L2
open PySem PySem.Spec PyProof.Rows
section
variable {X:Cx}
inductive ItV (X:Cx) (k:Nat) (C p:Addr) (H:Hp):V→List V→Sp→Prop
 | bu {y:V} {f:Addr} {fd:FuncData} {sp:Sp}:BuV X.K H y→EqL X.K C→dZ X.K C "__eq__" f→bC X.prog X.w X.K X.mg X.base CX0 k f fd ["self","other"] sp→aL X.K fd ["self","other"] []→ItV X k C p H y [.ref p,y] sp
 | own {a D dx f:Addr} {fs:List (Str×V)} {fd:FuncData} {sp:Sp}:a≠p→H a=some (.ins D dx fs)→(C=D∨W.subIn X.K (.ref C) (.ref D)=some false)→dZ X.K D "__eq__" f→bC X.prog X.w X.K X.mg X.base CX0 k f fd ["self","other"] sp→aL X.K fd ["self","other"] []→ItV X k C p H (.ref a) [.ref a,.ref p] sp
theorem aDA {A:Around} {E Q:Value→Shared→Prop} {pins:List (Addr×Obj)} {σ:St} {H:Hp} {s:Shared} {f C p dx:Addr} {fs:List (Str×V)} {x:V} {v:Value} (L:EqL X.K C) (M:dZ X.K C "__eq__" f) (I:Inv X pins σ H s)
   (eb:H p=some (.ins C dx fs)) (bu:BuV X.K H x) (rx:aQ x v) (hu:A.units < cLine) (fin:wpAny (model X.prog X.w) A (call (.ref f) [.ref p,v]) (W.CmpBack Q) E s):wpAny (model X.prog X.w) A (richCompare .Eq v (.ref p)) Q E s:=by
 obtain ⟨od,J⟩:=bZ I eb;obtain ⟨m,Fm⟩:=I.fr;have K0:=I.kIn;have hi:=J.at_;have nt:=L.nt;cases bu with
 | non=>cases rx; exact LR.cmp_R hu Fm I.ok.mod.kin J (typeIs_none s) PySem.F.slot_NoneType_eq (nt "NoneType" (by decide)) (fun Q' q=>LR.dec_none q) M.at_ M.fn fin
 | bl b=>cases rx; exact LR.cmp_R hu Fm I.ok.mod.kin J (PySem.typeIs_bool s b) PySem.F.slot_bool_eq (nt "bool" (by decide)) (fun Q' q=>LR.dec_bool hi q) M.at_ M.fn fin
 | int i=>obtain ⟨t,rfl⟩:=rx; exact LR.cmp_R hu Fm I.ok.mod.kin J (typeIs_int s i t) PySem.F.slot_int_eq (nt "int" (by decide)) (fun Q' q=>LR.dec_int hi q) M.at_ M.fn fin
 | str z=>obtain ⟨t,rfl⟩:=rx; exact LR.cmp_R hu Fm I.ok.mod.kin J (typeIs_str s z t) PySem.F.slot_str_eq (nt "str" (by decide)) (fun Q' q=>LR.dec_str hi q) M.at_ M.fn fin
 | tup h=>cases rx; obtain ⟨its,_,ht,_⟩:=I.tuple h; exact LR.cmp_R hu Fm I.ok.mod.kin J ht.typeIs PySem.F.slot_tuple_eq (nt "tuple" (by decide)) (fun Q' q=>LR.dec_tuple K0 ht.typeIs J (nt "tuple" (by decide)) q) M.at_ M.fn fin
 | lst h =>
   cases rx;obtain ⟨its,_,⟨o,n,e,c,_⟩,_⟩:=I.list h;exact LR.cmp_R hu Fm I.ok.mod.kin J ⟨o,e,c⟩ PySem.F.slot_list_eq (nt "list" (by decide)) (fun Q' q=>LR.dec_list K0 ⟨o,e,c⟩ J (nt "list" (by decide)) q) M.at_ M.fn fin
 | dK h =>
   cases rx;obtain ⟨_,_,vs,_,hd⟩:=I.hok _ _ h;obtain ⟨o,es,ep,e,xd,_⟩:=hd;exact LR.cmp_R hu Fm I.ok.mod.kin J ⟨o,e,xd.1⟩ PySem.F.slot_dict_eq (nt "dict" (by decide)) (fun Q' q=>LR.dec_dict K0 e xd.1 J (nt "dict" (by decide)) q) M.at_ M.fn fin
theorem aIL {k:Nat} {pins:List (Addr×Obj)} {σ:St} {H:Hp} {s:Shared} {C p dx:Addr} {fs:List (Str×V)} {y:V} {vs:List V} {sp:Sp} (I:Inv X pins σ H s) (hp:H p=some (.ins C dx fs)) (it:ItV X k C p H y vs sp):y≠.ref p:=by
 obtain ⟨od,J⟩:=bZ I hp;have jc:∀ {o':Obj} {T:String},s.heap.get? p=some o'→o'.cls= .type T→False:=fun {o' T} e c=>by
   have e1:=J.at_.symm.trans e;cases e1;cases c
 cases it with
 | own ne _ _ _ _ _=>intro e; cases e; exact ne rfl
 | bu b _ _ _ _ =>
   intro e;subst e;cases b with
   | tup t=>obtain ⟨its,_,⟨o,ho,hc,_⟩,_⟩:=I.tuple t; exact jc ho hc
   | lst t=>obtain ⟨its,_,⟨o,n,ho,hc,_⟩,_⟩:=I.list t; exact jc ho hc
   | dK t=>rw [hp] at t; cases t
theorem DJ {k:Nat} {C p dx:Addr} {fs:List (Str×V)} {pins:List (Addr×Obj)} {σ:St} {H:Hp} {s:Shared} {y:V} {u:Value} {Q1:Bool→Hp→Prop} {N:Hp→Prop} {R:Result→Shared→Prop} (hr:aU (k + 1) X.A)
   (I:Inv X pins σ H s) (hp:H p=some (.ins C dx fs)) (ry:aQ y u) (h:(y= .ref p∧Q1 true H)∨(∃ vs sp,ItV X k C p H y vs sp∧sp vs H (fun v H'=>∃ b,v= .bl b∧if b=true then Q1 true H' else N H') E0))
   (hR:∀ b s' H',Inv X pins σ H' s'→Q1 b H'→R (.ok (.ret (.bool b))) s') (hE:∀ e s',X.xe e s'→R (.error e) s') :
   wpAny (model X.prog X.w) X.A.in1 (eqBool u (.ref p)) (fun b s'=>if b=true then R (.ok (.ret (.bool true))) s' else ∃ H,Inv X pins σ H s'∧N H) (fun e s'=>R (.error e) s') s:=by
 unfold eqBool;rcases h with ⟨e,q⟩ | ⟨vs,sp,it,q⟩
 · rw [e] at ry;cases ry;refine wpAny_holding (wpAny_ite_split (fun hab=>?_) (fun hab=>absurd (beq_self_eq_true _) hab));refine wAq (wpAny_rule (wBq ?_));rw [if_pos rfl];exact hR true s H I q
 · have ne:y≠.ref p:=aIL I hp it;have hne:¬(u == Value.ref p)=true:=fun z=>by
     have z:=eq_of_beq z;subst z;cases y <;> first | (cases ry; exact ne rfl) | (obtain ⟨t,e⟩:=ry; cases e) | cases ry
   have bk:∀ v s',(∃ x H',Inv X pins σ H' s'∧aQ x v∧∃ b,x= .bl b∧if b=true then Q1 true H' else N H')→∃ b,v= .bool b∧if b=true then R (.ok (.ret (.bool true))) s' else ∃ H,Inv X pins σ H s'∧N H:=by
     rintro v s' ⟨x,H',I',rx,b,e,q'⟩;subst e;cases rx;refine ⟨b,rfl, ?_⟩;cases b with
     | true=>rw [if_pos rfl] at q' ⊢; exact hR true s' H' I' q'
     | false=>rw [if_neg Bool.false_ne_true] at q' ⊢; exact ⟨H',I',q'⟩
   have cmp:wpAny (model X.prog X.w) X.A.in1 (richCompare .Eq u (.ref p)) (fun v s'=>∃ b,v= .bool b∧if b=true then R (.ok (.ret (.bool true))) s' else ∃ H,Inv X pins σ H s'∧N H) (fun e s'=>R (.error e) s') s:=by
     rw [←List.append_nil vs] at q;cases it with
     | bu bu L M F hb=>exact aDA L M I hp bu ry hr.in1.units0 (wpAny_mono (fP (vs:=[.ref p,y]) (dvs:=[]) (ds:=[]) F hr.in1 I.env0.in1 hb .nil iR I (.cons rfl (.cons ry .nil)) q) (fun v s' h=>by obtain ⟨x,H',I',rx,b,e,q'⟩:=h; subst e; cases rx; exact bk _ _ ⟨.bl b,H',I',rfl,b,rfl,q'⟩) fun e s' h=>hE e s' h)
     | own hne hh hc M F hb =>
       cases ry;obtain ⟨od,J⟩:=bZ I hp;obtain ⟨m,Fm⟩:=I.fr;obtain ⟨od',J'⟩:=bZ I hh;refine W.cmp_K hr.in1.units0 Fm I.ok.mod.kin J' J.type ?_ M.at_ M.fn (wpAny_mono (fP (vs:=[.ref _,.ref p]) (dvs:=[]) (ds:=[]) F hr.in1 I.env0.in1 hb .nil iR I (.cons rfl (.cons rfl .nil)) q) (fun v s' h=>by obtain ⟨x,H',I',rx,b,e,q'⟩:=h; subst e; cases rx; exact bk _ _ ⟨.bl b,H',I',rfl,b,rfl,q'⟩) fun e s' h=>hE e s' h);unfold W.notFirst;rcases hc with rfl | hc
       · simp
       · rw [hc]; simp
   have fin:wpAny (model X.prog X.w) X.A.in1 (richCompare .Eq u (.ref p) >>= fun v=>truthOfDropped v) (fun b s'=>if b=true then R (.ok (.ret (.bool true))) s' else ∃ H,Inv X pins σ H s'∧N H) (fun e s'=>R (.error e) s') s:=by
     refine wAq (wpAny_mono cmp (fun v s' hv=>?_) fun _ _ e=>e);obtain ⟨b,rfl,hq⟩:=hv;exact wpAny_truthy_bool hq
   refine wpAny_holding (wpAny_ite_split (fun hab=>absurd hab hne) (fun hab=>?_));cases u <;> exact fin
noncomputable def inW (X:Cx) (k:Nat) (C:Addr) (l p:Addr) (ys:List V) (Q:Bool→Hp→Prop):List V→Hp→Prop
 | [],H=>H l=some (.lst ys)∧Q false H
 | y :: r,H=>H l=some (.lst ys)∧(∃ dx fs,H p=some (.ins C dx fs))∧((y= .ref p∧Q true H)∨(∃ vs sp,ItV X k C p H y vs sp∧sp vs H (fun v H'=>∃ b,v= .bl b∧if b=true then Q true H' else inW X k C l p ys Q r H') E0))
theorem inW.l {k:Nat} {C:Addr} {l p:Addr} {ys r:List V} {Q:Bool→Hp→Prop} {H:Hp} (h:inW X k C l p ys Q r H):H l=some (.lst ys):=by
 cases r with
 | nil=>exact h.1
 | cons y r=>exact h.1
def aFs (neg:Bool) (X:Cx) (k:Nat) (C:Addr):R2:=fun x y H Q=>∃ p l ys,x= .ref p∧y= .ref l∧inW X k C l p ys (fun b H'=>Q (.bl (if neg=true then !b else b)) H') ys H
theorem IY {k:Nat} {C p l:Addr} {pins:List (Addr×Obj)} {σ:St} {H:Hp} {s:Shared} {ys:List V} {Q1:Bool→Hp→Prop} {R:Result→Shared→Prop} (hr:aU (k + 1) X.A)
   (I:Inv X pins σ H s) (h:inW X k C l p ys Q1 ys H) (hR:∀ b s' H',Inv X pins σ H' s'→Q1 b H'→R (.ok (.ret (.bool b))) s') (hE:∀ e s',X.xe e s'→R (.error e) s') :
   MeetsIn X.prog X.w (Builtin.«list.__contains__» ⟨[.ref l,.ref p],[]⟩) (fun A' R' s=>A'=X.A∧R'=R∧∃ H,Inv X pins σ H s∧inW X k C l p ys Q1 (ys.drop 0) H):=by
 refine LR.containsG (N:=ys.length) (fun i s=>∃ H,Inv X pins σ H s∧inW X k C l p ys Q1 (ys.drop i) H) ?_ ?_
 · rintro i s ⟨H,I,h⟩;obtain ⟨_,its,n,rv,ho⟩:=I.hok _ _ h.l;have hl:=rv.length;refine ⟨its.toArray,n,_,_,by rw [wHq]; exact hl.symm,ho,fun hi=>?_⟩;rw [wHq] at hi;have hi':i < ys.length:=by omega
   rw [List.drop_eq_getElem_cons hi'] at h;obtain ⟨_,⟨dx,fs,hp⟩,h⟩:=h;obtain ⟨u,eu,ry⟩:=rv.get (List.getElem?_eq_getElem hi');have e0:its.toArray[i]=u:=by
     have:its[i]? =some its[i]:=List.getElem?_eq_getElem hi;rw [this] at eu;exact Option.some.inj eu
   rw [e0];exact DJ hr I hp ry h hR hE
 · rintro s ⟨H,I,h⟩;rw [List.drop_length] at h;exact hR false s H I h.2
theorem aEw {k:Nat} {C:Addr} (hr:aU (k + 1) X.A) :
   OpR X (compareOp .In) (aFs false X k C):=by
 rintro pins s σ H x y v u Q I rx ry ⟨p,l,ys,e1,e2,h⟩;subst e1 e2;cases rx;cases ry;obtain ⟨_,its,n,rv,ho⟩:=I.hok _ _ h.l;exact LE.tZ (T:="list") ⟨_,ho,rfl⟩ PySem.F.slot_list_contains PySem.F.entry_list_contains (PySem.F.args_list_contains_2 _ _)
   (IY hr I h (fun b s' H' I' q'=>⟨b,rfl,.bl b,H',I',rfl,q'⟩) fun e s' h=>h) ⟨rfl,rfl,H,I,h⟩
theorem LY {k:Nat} {C:Addr} (hr:aU (k + 1) X.A) :
   OpR X (compareOp .NotIn) (aFs true X k C):=by
 rintro pins s σ H x y v u Q I rx ry ⟨p,l,ys,e1,e2,h⟩;subst e1 e2;cases rx;cases ry;obtain ⟨_,its,n,rv,ho⟩:=I.hok _ _ h.l;exact LE.uZ (T:="list") ⟨_,ho,rfl⟩ PySem.F.slot_list_contains PySem.F.entry_list_contains (PySem.F.args_list_contains_2 _ _)
   (IY hr I h (fun b s' H' I' q'=>⟨b,rfl,.bl (!b),H',I',rfl,q'⟩) fun e s' h=>h) ⟨rfl,rfl,H,I,h⟩
end
end L2
namespace LR
open PySem PyProof.Rows
open AutoSeq1 (wpAny_loadPart')
open MeetsSeq MeetsSeq2 MeetsSeq3 SeqRoads2
theorem containsT {prog:Program} {w:World} {t:Addr} {x:Value} {items:Array Value} {n:Nat} {dd:Option Addr} {sl:Array (Option Value)} {A:Around} {R:Result→Shared→Prop} (W:List Value→Shared→Prop)
   (step:∀ y r s,W (y :: r) s→wpAny (model prog w) A.in1 (eqBool y x) (fun b s'=>if b=true then R (.ok (.ret (.bool true))) s' else W r s') (fun e s'=>R (.error e) s') s)
   (fin:∀ s,W [] s→R (.ok (.ret (.bool false))) s) :
   MeetsIn prog w (Builtin.«tuple.__contains__» ⟨[.ref t,x],[]⟩) (fun A' R' s=>A'=A∧R'=R∧s.heap.get? t=some { cls:=.type "tuple",dict:=dd,data:=.seq items n,slots:=sl }∧W items.toList s) :=
 .of_wp fun A' R' s h=>by
   obtain ⟨hp,g,d,tk,os⟩:=s; obtain ⟨eA,eR,hl,h⟩:=h;subst eA eR
   wp_walk using wpAny_loadPart' hl,wpAny_forIn_array _ (fun aV b s'=>b.1=none∧W aV s') _
   case turn =>
     rintro y aV b s' ⟨hb,h⟩;refine wAq (wpAny_mono (step y aV s' h) (fun b s'' hb=>?_) fun _ _ e=>e);cases b with
     | true =>
       rw [if_pos rfl] at hb
       wp_walk
       exact ⟨_,rfl,hb⟩
     | false =>
       rw [if_neg Bool.false_ne_true] at hb
       wp_walk
       exact ⟨rfl,hb⟩
   case fin =>
     rintro ⟨b1,b2⟩ s' ⟨hb,h⟩;simp only at hb;subst hb
     wp_walk
     exact ⟨_,rfl,fin _ h⟩
   case h =>
     exact ⟨rfl,h⟩
end LR
namespace L2
open PySem PySem.Spec PyProof.Rows
section
variable {X:Cx}
noncomputable def inT (X:Cx) (k:Nat) (C:Addr) (p:Addr) (Q:Bool→Hp→Prop):List V→Hp→Prop
 | [],H=>Q false H
 | y :: r,H=>(∃ dx fs,H p=some (.ins C dx fs))∧((y= .ref p∧Q true H)∨(∃ vs sp,ItV X k C p H y vs sp∧sp vs H (fun v H'=>∃ b,v= .bl b∧if b=true then Q true H' else inT X k C p Q r H') E0))
def aJW (neg:Bool) (X:Cx) (k:Nat) (C:Addr):R2:=fun x y H Q=>∃ p t ys,x= .ref p∧y= .ref t∧SqT X.K H t ys∧inT X k C p (fun b H'=>Q (.bl (if neg=true then !b else b)) H') ys H
theorem PF {k:Nat} {C p t:Addr} {pins:List (Addr×Obj)} {σ:St} {Q1:Bool→Hp→Prop} {R:Result→Shared→Prop} {items:Array Value} {n:Nat} {dd:Option Addr} {sl:Array (Option Value)} (hr:aU (k + 1) X.A)
   (hR:∀ b s' H',Inv X pins σ H' s'→Q1 b H'→R (.ok (.ret (.bool b))) s') (hE:∀ e s',X.xe e s'→R (.error e) s') :
   MeetsIn X.prog X.w (Builtin.«tuple.__contains__» ⟨[.ref t,.ref p],[]⟩) (fun A' R' s=>A'=X.A∧R'=R∧s.heap.get? t=some { cls:=.type "tuple",dict:=dd,data:=.seq items n,slots:=sl }∧
     ∃ H r,Inv X pins σ H s∧aO r items.toList∧inT X k C p Q1 r H):=by
 refine LR.containsT (fun aV s=>∃ H r,Inv X pins σ H s∧aO r aV∧inT X k C p Q1 r H) ?_ ?_
 · rintro u aV s ⟨H,r,I,rv,h⟩;cases rv with
   | cons ry rr =>
     obtain ⟨⟨dx,fs,hp⟩,h⟩:=h;refine wpAny_mono (DJ hr I hp ry h hR hE) (fun b s' hb=>?_) fun _ _ e=>e;cases b with
     | true=>rw [if_pos rfl] at hb ⊢; exact hb
     | false =>
       rw [if_neg Bool.false_ne_true] at hb ⊢;obtain ⟨H',I',h'⟩:=hb;exact ⟨H',_,I',rr,h'⟩
 · rintro s ⟨H,r,I,rv,h⟩;cases rv;exact hR false s H I h
theorem aCg {k:Nat} {C:Addr} (hr:aU (k + 1) X.A) :
   OpR X (compareOp .In) (aJW false X k C):=by
 rintro pins s σ H x y v u Q I rx ry ⟨p,t,ys,e1,e2,ht,h⟩;subst e1 e2;cases rx;cases ry;obtain ⟨its,r,⟨⟨oc,od,dt,sl⟩,ho,hc,n,hd⟩,_⟩:=I.tuple ht
 replace hc:oc= .type "tuple":=hc
 replace hd:dt= .seq its.toArray n:=hd
 subst hc hd;exact LE.tZ (T:="tuple") ⟨_,ho,rfl⟩ PySem.F.slot_tuple_contains PySem.F.entry_tuple_contains (PySem.F.args_tuple_contains_2 _ _)
   (PF hr (fun b s' H' I' q'=>⟨b,rfl,.bl b,H',I',rfl,q'⟩) fun e s' h=>h) ⟨rfl,rfl,ho,H,ys,I,r,h⟩
end
end L2
namespace L2
open PySem PySem.Spec
open PyProof.Rows hiding St
noncomputable def iM (h:Heap) (lo:Nat) (H:Hp) (e:Addr) (C:Value) (d:Option Addr):Prop :=
 lo ≤e∧H e=none∧∃ oe vs,h.get? e=some oe∧oe.cls=C∧oe.dict=d∧oe.data= .fields vs∧1 < vs.size∧
   ∃ T oT ts fl,vs[1]? =some (.ref T)∧lo≤T∧H T=none∧T≠e∧h.get? T=some oT∧oT.data= .fields ts∧ts[3]? =some fl
noncomputable def aKe (h:Heap) (lo:Nat) (H:Hp) (e:Addr) (C:Value) (d:Option Addr):Prop :=
 lo≤e∧H e=none∧∃ oe vs,h.get? e=some oe∧oe.cls=C∧oe.dict=d∧oe.data= .fields vs∧1 < vs.size∧vs[1]? =some .none
def tJ (h:Heap) (lo:Nat) (H:Hp) (e:Addr) (C:Value) (d:Option Addr):Prop:=aKe h lo H e C d∨iM h lo H e C d
structure Way (fs ch:List Addr) (h h':Heap):Prop where
 keep:∀ b o,b∉ fs→b∉ ch→h.get? b=some o→h'.get? b=some o
 slot:∀ b o,b∈fs→h.get? b=some o→∃ sl,h'.get? b=some { o with slots:=sl }
 there:∀ b o,h.get? b=some o→∃ o',h'.get? b=some o'
theorem Way.refl {fs:List Addr} {h:Heap}:Way fs [] h h:=⟨fun _ _ _ _ e=>e,fun _ o _ e=>⟨o.slots,e⟩,fun _ o e=>⟨o,e⟩⟩
def tP (h:Heap) (lo:Nat) (H:Hp) (ch:List Addr):Prop:= ∀ b∈ch,lo≤b∧H b=none∧∃ o vs,h.get? b=some o∧o.data= .fields vs
theorem tP.nil {h:Heap} {lo:Nat} {H:Hp}:tP h lo H []:=fun _ z=>nomatch z
section
variable {M:Model} {A:Around} {E:Value→Shared→Prop} {s:Shared} {base:Heap} {env:Env} {outer:List Env} {L e:Addr} {C:Value} {d:Option Addr} {lo:Nat} {H:Hp}
theorem IQ {oe:Obj} {vs:Array Value} {head:Value} {hadNext:Bool} {Q:Unit→Shared→Prop}
   (hfr:A.frames=some (env :: outer)) (hl:s.heap.FunFrames base (env :: outer)) (hf:env.frame=some L) (hlo:lo≤s.heap.objs.size) (hH:∀ b,s.heap.objs.size≤b→H b=none)
   (le:lo≤e) (he0:H e=none) (he:s.heap.get? e=some oe) (hc:oe.cls=C) (hdd:oe.dict=d) (hd:oe.data= .fields vs) (hsz:1 < vs.size)
   (h:∀ h',Way (frs (env :: outer)) [e] s.heap h'→iM h' lo H e C d→Q () { s with heap:=h' }) :
   wpAny M A (do let a ←frameOf env; let pl ←entryPlaceOf L hadNext; let b ←EntryCells.newEntry head a .none (rawInt L) .none pl; setField (.ref e) 1 b) Q E s:=by
 have hene:e∉ (env :: outer).filterMap (·.frame):=fun hm=>by
   obtain ⟨_,o,ho,hnf⟩:=hl.mem hm;rw [he] at ho; injection ho with ho; subst ho; exact hnf vs hd
 refine wAq (wpAny_frameOf_fun hfr hl hf fun h₁ hs₁=>?_);refine wAq (wpAny_entryPlaceOf fun pl hpl=>?_);unfold EntryCells.newEntry newFields;refine wAq (wpAny_newObj_type ?_ (hpl.sizeOk5 _ _ _ _ _));have he₁:h₁.get? e=some oe:=(hs₁.2.1 e hene).trans he;have he₂:=wEq (h:=h₁) { cls:=.type "traceback",dict:=none,data:=.fields ([head,.ref L,.none,rawInt L,.none] ++ (if pl.isEmpty then List.replicate 6 Value.none else pl)).toArray } he₁;refine wpAny_setField he₂ hd hsz (h _ ?_ ?_)
 · have keep:∀ b o,b≠e→h₁.get? b=some o→
     ((h₁.push { cls:=.type "traceback",dict:=none,data:=.fields ([head,.ref L,.none,rawInt L,.none] ++ (if pl.isEmpty then List.replicate 6 Value.none else pl)).toArray }).update e (Obj.mapFields (·.setIfInBounds 1 (Value.ref h₁.objs.size)))).get? b=some o :=
     fun b o hbe hb=>by
       rw [Heap.get?_update_other _ _ (Ne.symm hbe)];exact wEq _ hb
   have hd₃:=Obj.data_mapFields hd (·.setIfInBounds 1 (Value.ref h₁.objs.size));have he₃:=Heap.get?_update_self (Obj.mapFields (·.setIfInBounds 1 (Value.ref h₁.objs.size))) he₂ (Obj.isFreed_of_fields hd₃);refine ⟨fun b o hb hc ho=>keep b o (fun z=>hc (by simp [z])) ((hs₁.2.1 b hb).trans ho),fun b o hb ho=>?_,fun b o ho=>?_⟩
   · obtain ⟨sl,hs⟩:=hs₁.2.2 b o ho;exact ⟨sl,keep b _ (fun z=>hene (z▸hb)) hs⟩
   · by_cases z:b=e
     · subst z; exact ⟨_,he₃⟩
     · obtain ⟨sl,hs⟩:=hs₁.2.2 b o ho;exact ⟨_,keep b _ z hs⟩
 · have hTe:h₁.objs.size≠e:=Nat.ne_of_gt (Heap.lt_size he₁);have hd₃:=Obj.data_mapFields hd (·.setIfInBounds 1 (Value.ref h₁.objs.size));have he₃:=Heap.get?_update_self (Obj.mapFields (·.setIfInBounds 1 (Value.ref h₁.objs.size))) he₂ (Obj.isFreed_of_fields hd₃);have hT₃:=(Heap.get?_update_other (h₁.push { cls:=.type "traceback",dict:=none,data:=.fields ([head,.ref L,.none,rawInt L,.none] ++ (if pl.isEmpty then List.replicate 6 Value.none else pl)).toArray })
     (Obj.mapFields (·.setIfInBounds 1 (Value.ref h₁.objs.size))) (Ne.symm hTe)).trans (wGq h₁ rfl)
   have hz:s.heap.objs.size=h₁.objs.size:=by first | exact hs₁.1.symm | exact hs₁.1
   refine ⟨le,he0,_,_,he₃,(Obj.cls_mapFields _ _).trans hc, ?_,hd₃,by simpa using hsz,h₁.objs.size,_,_,rawInt L,by simp [hsz],by omega,hH _ (by omega),hTe,hT₃,rfl,by first | (simp; done) | (rcases hpl with rfl | ⟨_,_,_,_,_,_,_,rfl⟩ <;> simp)⟩;rw [←hdd];unfold Obj.mapFields;split <;> rfl
theorem SM {fo:Option Addr} {Q:Unit→Shared→Prop} (hl:s.heap.FunFrames base (env :: outer)) (x:tJ s.heap lo H e C d)
   (h:∀ h' ch,tP s.heap lo H ch→Way (frs (env :: outer)) ch s.heap h'→tJ h' lo H e C d→(iM s.heap lo H e C d→iM h' lo H e C d)→Q () { s with heap:=h' }):wpAny M A (setFlight (.ref e) fo) Q E s:=by
 rcases x with x | x
 · have x0:=x;obtain ⟨le,he0,oe,vs,he,hc,hdd,hd,hsz,h1⟩:=x;unfold setFlight;refine wAq (wpAny_field he hd h1 ?_);rw [if_neg (by decide)];exact wBq (h s.heap [] tP.nil Way.refl (.inl x0) fun z=>z)
 · obtain ⟨le,he0,oe,vs,he,hc,hdd,hd,hsz,T,oT,ts,fl,h1,lT,hT0,hTe,hT,hdT,h3⟩:=x;have hsz3:3 < ts.size:=(Array.getElem?_eq_some_iff.mp h3).1;have nf:T∉ frs (env :: outer):=fun hm=>by
     obtain ⟨_,o,ho,hnf⟩:=hl.mem hm;rw [hT] at ho; injection ho with ho; subst ho; exact hnf ts hdT
   unfold setFlight;refine wAq (wpAny_field he hd h1 ?_);rw [if_pos (show (Value.ref T != Value.none)=true from by simp)];have hd₃:=Obj.data_mapFields hdT (·.setIfInBounds 3 (fo.elim .none fun f=>rawInt f));have hT₃:=Heap.get?_update_self (Obj.mapFields (·.setIfInBounds 3 (fo.elim .none fun f=>rawInt f))) hT (Obj.isFreed_of_fields hd₃);have other:∀ b,b≠T→(s.heap.update T (Obj.mapFields (·.setIfInBounds 3 (fo.elim .none fun f=>rawInt f)))).get? b=s.heap.get? b:=fun b hb=>Heap.get?_update_other _ _ (Ne.symm hb);have xt:iM (s.heap.update T (Obj.mapFields (·.setIfInBounds 3 (fo.elim .none fun f=>rawInt f)))) lo H e C d :=
     ⟨le,he0,oe,vs,(other e (Ne.symm hTe)).trans he,hc,hdd,hd,hsz,T,_,_,_,h1,lT,hT0,hTe,hT₃,hd₃,by simp [hsz3]; rfl⟩
   refine wpAny_setField hT hdT hsz3 (h _ [T] (fun b hb=>?_) ⟨fun b o hb hc ho=>?_,fun b o hb ho=>?_,fun b o ho=>?_⟩ (.inr xt) fun _=>xt)
   · have e:b=T:=by simpa using hb
     subst e; exact ⟨lT,hT0,oT,ts,hT,hdT⟩
   · exact (other b fun z=>hc (by simp [z])).trans ho
   · exact ⟨o.slots,(other b fun z=>nf (z▸hb)).trans ho⟩
   · by_cases z:b=T
     · subst z; exact ⟨_,hT₃⟩
     · exact ⟨o,(other b z).trans ho⟩
theorem Way.trans {fs c1 c2:List Addr} {h1 h2 h3:Heap} (a:Way fs c1 h1 h2) (b:Way fs c2 h2 h3):Way fs (c1 ++ c2) h1 h3:=by
 refine ⟨fun x o hf hc ho=>b.keep x o hf (fun z=>hc (List.mem_append_right _ z)) (a.keep x o hf (fun z=>hc (List.mem_append_left _ z)) ho),fun x o hf ho=>?_,fun x o ho=>?_⟩
 · obtain ⟨sl,e⟩:=a.slot x o hf ho;obtain ⟨sl',e'⟩:=b.slot x _ hf e;exact ⟨sl',e'⟩
 · obtain ⟨o',e⟩:=a.there x o ho;exact b.there x o' e
theorem aEu {Q:Unit→Shared→Prop} (hfr:A.frames=some (env :: outer)) (hl:s.heap.FunFrames base (env :: outer)) (hf:env.frame=some L) (hlo:lo≤s.heap.objs.size) (hH:∀ b,s.heap.objs.size≤b→H b=none) (x:tJ s.heap lo H e C d)
   (h:∀ h' ch,tP s.heap lo H ch→Way (frs (env :: outer)) ch s.heap h'→iM h' lo H e C d→Q () { s with heap:=h' }):wpAny M A (noteFrame (.ref e) env) Q E s:=by
 rcases x with x | x
 · obtain ⟨le,he0,oe,vs,he,hc,hdd,hd,hsz,h1⟩:=x;unfold noteFrame;simp only [hf];refine wAq (wpAny_field he hd h1 ?_);rw [if_neg (by decide)];refine IQ hfr hl hf hlo hH le he0 he hc hdd hd hsz fun h' w x'=>h h' [e] (fun b hb=>?_) w x';have e':b=e:=by simpa using hb
   subst e'; exact ⟨le,he0,oe,vs,he,hd⟩
 · have x0:=x;obtain ⟨le,he0,oe,vs,he,hc,hdd,hd,hsz,T,oT,ts,fl,h1,lT,hT0,hTe,hT,hdT,h3⟩:=x;have hsz3:3 < ts.size:=(Array.getElem?_eq_some_iff.mp h3).1;have nf:T∉ frs (env :: outer):=fun hm=>by
     obtain ⟨_,o,ho,hnf⟩:=hl.mem hm;rw [hT] at ho; injection ho with ho; subst ho; exact hnf ts hdT
   unfold noteFrame;simp only [hf];refine wAq (wpAny_field he hd h1 ?_);rw [if_pos (show (Value.ref T != Value.none)=true from by simp)];refine wAq (wpAny_field hT hdT h3 ?_);by_cases hfl:(fl == rawInt L)=true
   · rw [if_pos hfl];exact wBq (h s.heap [] tP.nil Way.refl x0)
   · rw [if_neg hfl];have hd₃:=Obj.data_mapFields hdT (·.setIfInBounds 3 Value.none);have hT₃:=Heap.get?_update_self (Obj.mapFields (·.setIfInBounds 3 Value.none)) hT (Obj.isFreed_of_fields hd₃);have other:∀ b,b≠T→(s.heap.update T (Obj.mapFields (·.setIfInBounds 3 Value.none))).get? b=s.heap.get? b:=fun b hb=>Heap.get?_update_other _ _ (Ne.symm hb);have w1:Way (frs (env :: outer)) [T] s.heap (s.heap.update T (Obj.mapFields (·.setIfInBounds 3 Value.none))):=by
       refine ⟨fun b o hb hc ho=>(other b fun z=>hc (by simp [z])).trans ho,fun b o hb ho=>⟨o.slots,(other b fun z=>nf (z▸hb)).trans ho⟩,fun b o ho=>?_⟩;by_cases z:b=T
       · subst z; exact ⟨_,hT₃⟩
       · exact ⟨o,(other b z).trans ho⟩
     have hzz:(s.heap.update T (Obj.mapFields (·.setIfInBounds 3 Value.none))).objs.size=s.heap.objs.size:=Heap.size_update ..;refine wAq (wpAny_setField hT hdT hsz3 ?_);refine IQ (base:=base) hfr (hl.of_keeps fun b o hb hnf=>⟨o,(other b fun z=>by subst z; rw [hT] at hb; cases hb; exact hnf ts hdT).trans hb,rfl⟩) hf (by rw [hzz]; exact hlo) (fun b hb=>hH b (by rw [hzz] at hb; exact hb)) le he0 ((other e (Ne.symm hTe)).trans he) hc hdd hd hsz fun h' w x'=>h h' ([T] ++ [e]) (fun b hb=>?_) (w1.trans w) x';rcases List.mem_append.mp hb with hb | hb
     · have e':b=T:=by simpa using hb
       subst e'; exact ⟨lT,hT0,oT,ts,hT,hdT⟩
     · have e':b=e:=by simpa using hb
       subst e'; exact ⟨le,he0,oe,vs,he,hd⟩
end
noncomputable def Cx.lo (X:Cx):Nat:=X.pn.foldr (fun p n=>max (p.1 + 1) n) X.s₀.heap.objs.size
theorem HX {X:Cx}:X.s₀.heap.objs.size≤X.lo:=by
 unfold Cx.lo;induction X.pn with
 | nil=>exact Nat.le_refl _
 | cons p r ih=>exact Nat.le_trans ih (Nat.le_max_right _ _)
theorem VQ {X:Cx}:∀ p∈X.pn,p.1 < X.lo:=by
 unfold Cx.lo;induction X.pn with
 | nil=>intro p hp; cases hp
 | cons q r ih =>
   intro p hp;rcases List.mem_cons.mp hp with e | hp
   · subst e; exact wFq (Nat.lt_succ_self _) (Nat.le_max_left _ _)
   · exact wFq (ih p hp) (Nat.le_max_right _ _)
section
variable {X:Cx} {pins:List (Addr×Obj)} {σ:St} {H:Hp} {s:Shared}
theorem Inv.lo_le (I:Inv X pins σ H s):X.lo≤s.heap.objs.size:=by
 have h:∀ l:List (Addr×Obj),(∀ p∈l,p.1 < s.heap.objs.size)→l.foldr (fun p n=>max (p.1 + 1) n) X.s₀.heap.objs.size≤s.heap.objs.size:=fun l=>by
   induction l with
   | nil=>intro _; exact I.sz
   | cons p r ih=>intro h; exact Nat.max_le.mpr ⟨h p (wDq ..),ih fun q hq=>h q (wCq _ hq)⟩
 exact h X.pn fun p hp=>Heap.lt_size (I.pin p (List.mem_append_left _ hp)).1
theorem Inv.nopins (I:Inv X pins σ H s):Inv X [] σ H s:=I.pins_of fun _ z=>nomatch z
theorem Inv.way {h':Heap} {ch:List Addr} (I:Inv X [] σ H s) (hc:tP s.heap X.lo H ch) (w:Way (frs X.stack) ch s.heap h'):Inv X [] σ H { s with heap:=h' }:=by
 have nch:∀ b u,H b=some u→b∉ ch:=fun b u e z=>by rw [(hc b z).2.1] at e; cases e
 have nfs:∀ b u,H b=some u→b∉ frs X.stack:=fun b u e z=>by rw [I.stkFree b z] at e; cases e
 refine I.call (g':=s.gens) (t':=s.toks) (d':=s.drawn) (ch:=ch) (H':=H) ⟨fun b o e n hf hx=>w.keep b o hf hx e,fun b o e n hf hx=>w.slot b o hf e,fun _ _ _ n _=>n,fun b o e _=>w.there b o e,fun _ _ e=>e,fun _ _ _ e=>e,fun b ps e=>⟨#[],by rw [e]; simp⟩⟩ (fun b u e=>?_) I.bare fun b hb=>?_
 · refine (I.hok b u e).stay (fun c v hcv q=>?_) (fun _ q=>q) fun _ _ q=>q;rcases hcv with z | z
   · rw [z] at q ⊢; exact w.keep b v (nfs b u e) (nch b u e) q
   · exact w.keep c v (nfs c _ z) (nch c _ z) q
 · obtain ⟨l1,n1,o,vs,ho,hd⟩:=hc b hb;refine ⟨.inr (Nat.le_trans HX l1),fun z=>?_,fun x c e z=>?_,fun p hp z=>?_⟩
   · obtain ⟨m,⟨o',es,ep,ho',hd',_⟩,_⟩:=I.loc;rw [←z,ho] at ho'; cases ho'; rw [hd] at hd'; cases hd'
   · obtain ⟨v,o',ho',hd'⟩:=I.cell x c e;rw [z,ho] at ho'; cases ho'; rw [hd] at hd'; cases hd'
   · have:=VQ p (by simpa using hp);rw [z] at this;exact absurd l1 (Nat.not_le.mpr this)
end
noncomputable def CXo (P:Program) (w:World):CXT:=fun outer H s E e s'=>∃ a C d H',e= .ref a∧s'.os=s.os∧AllBare s'.gens∧Un (frs outer) [] H H' s.heap s'.heap∧HOk P w H' s'.heap∧iM s'.heap s.heap.objs.size H' a C d∧E C d H'
noncomputable def xeO (X:Cx) (E:XK):Value→Shared→Prop:=fun e s'=>∃ a C d σ H',e= .ref a∧Inv X [] σ H' s'∧tJ s'.heap X.lo H' a C d∧E C d H'
structure Own (X:Cx):Prop where
 st:X.stack=X.env :: X.outer
 fr:X.env.frame=some X.env.locals
theorem iM.mono {h:Heap} {lo lo':Nat} {H:Hp} {e:Addr} {C:Value} {d:Option Addr} (x:iM h lo H e C d) (hl:lo'≤lo):iM h lo' H e C d:=by
 obtain ⟨le,he0,oe,vs,he,hc,hdd,hd,hsz,T,oT,ts,fl,h1,lT,r⟩:=x;exact ⟨Nat.le_trans hl le,he0,oe,vs,he,hc,hdd,hd,hsz,T,oT,ts,fl,h1,Nat.le_trans hl lT,r⟩
section
variable {X:Cx} {E:XK}
theorem UD {a:Addr} {C:Value} {d:Option Addr} {σ:St} {H:Hp} {s:Shared} {M:Model} {E':Value→Shared→Prop} {Q:Unit→Shared→Prop} (ow:Own X) (I:Inv X [] σ H s) (x:tJ s.heap X.lo H a C d)
   (h:∀ h',Inv X [] σ H { s with heap:=h' }→iM h' X.lo H a C d→Q () { s with heap:=h' }):wpAny M X.A (noteFrame (.ref a) X.env) Q E' s:=by
 have hl:=I.stack;rw [ow.st] at hl;refine aEu (base:=X.base) (outer:=X.outer) (by rw [I.ok.frames,ow.st]) hl ow.fr I.lo_le (fun b hb=>I.hok.fresh hb) x fun h' ch hc w x'=>?_;rw [←ow.st] at w;exact h h' (I.way hc w) x'
theorem sQ {a:Addr} {C:Value} {d fo:Option Addr} {σ:St} {H:Hp} {s:Shared} {M:Model} {A:Around} {E':Value→Shared→Prop} {Q:Unit→Shared→Prop} (ow:Own X) (I:Inv X [] σ H s) (x:tJ s.heap X.lo H a C d)
   (h:∀ h',Inv X [] σ H { s with heap:=h' }→tJ h' X.lo H a C d→(iM s.heap X.lo H a C d→iM h' X.lo H a C d)→Q () { s with heap:=h' }):wpAny M A (setFlight (.ref a) fo) Q E' s:=by
 have hl:=I.stack;rw [ow.st] at hl;refine SM (base:=X.base) (outer:=X.outer) (env:=X.env) hl x fun h' ch hc w x' xt=>?_;rw [←ow.st] at w;exact h h' (I.way hc w) x' xt
theorem GQ {h:Heap} {lo:Nat} {H:Hp} {a:Addr} {C:Value} {d:Option Addr} {M:Model} {A:Around} {E':Value→Shared→Prop} {Q:Value→Shared→Prop} {s:Shared} (x:iM s.heap lo H a C d) (h:∀ T,Q (.ref T) s):wpAny M A (field (.ref a) 1) Q E' s:=by
 obtain ⟨le,he0,oe,vs,he,hc,hdd,hd,hsz,T,oT,ts,fl,h1,r⟩:=x;exact wpAny_field he hd h1 (h T)
theorem aHZ {a:Addr} {C:Value} {d:Option Addr} {σ:St} {H:Hp} {s:Shared} (ow:Own X) (I:Inv X [] σ H s) (x:iM s.heap X.lo H a C d) (q:E C d H):cameBackBy (model X.prog X.w) X.A X.env (xeO X E) (.ref a) s:=by
 unfold cameBackBy;refine wAq (GQ (h:=s.heap) x fun T=>?_);rw [if_neg (by simp)];exact sQ ow I (.inr x) fun h' I' x' _=>⟨a,C,d,σ,H,rfl,I',x',q⟩
theorem aJ0 (ow:Own X):PassesOwn (model X.prog X.w) X.A X.env (xeO X E):=by
 rintro e s' ⟨a,C,d,σ,H,rfl,I,x,q⟩;unfold notedBy;exact UD ow I x fun h' I' x'=>aHZ ow I' x' q
end
end L2
namespace LX
open PySem PySem.W PyProof.Rows
open PySem.Builtin PySem.Builtin.ObjectAttr
noncomputable def vE:List Value:=[.type "ValueError",.type "Exception",.type "BaseException",.type "object"]
noncomputable def aE:List Value:=[.type "ArithmeticError",.type "Exception",.type "BaseException",.type "object"]
noncomputable def lE:List Value:=[.type "LookupError",.type "Exception",.type "BaseException",.type "object"]
noncomputable def UI:List Value→Bool
 | .ref _ :: r=>UI r
 | l=>l == vE || l == aE || l == lE
noncomputable def IL (K:Frag) (C:Addr):Bool:=(clsIn K C).any fun cd=>UI cd.mro
section
variable {prog:Program} {w:World} {A:Around} {E:Value→Shared→Prop} {s:Shared} {K:Frag} {x C:Addr} {name:Str} {v:Value} {R:Result→Shared→Prop}
end
end LX
namespace LX
open PySem PySem.W PyProof.Rows
open PySem.Builtin PySem.Builtin.ObjectAttr
noncomputable abbrev exO (C:Value) (d:Option Addr) (t:Addr):Obj:={ cls:=C,dict:=d,data:=.fields #[.ref t,.none,.none,.none,.bool false,.none] }
section
variable {prog:Program} {w:World} {A:Around} {E:Value→Shared→Prop} {h:Heap} {g:Array GenState} {d:Drawn} {t:Nat} {os:OsState}
variable {nm q:Str} {C N:Addr} {bs bm bmB:List Value} {hdct:Bool} {sn:List Str} {sub:List Value} {ab:Bool} {col:Option Bool} {dd:Option Addr} {k0 k1 k2 k3 k5:Option Value} {B newId initId:String}
noncomputable abbrev mdX (h:Heap) (C:Addr) (aV:List Value):Heap:=(h.push { cls:=.type "tuple",data:=.seq aV.toArray }).push (exO (.ref C) none h.objs.size)
theorem EE (F:ExcBaseFacts B newId initId bmB) (T:OwnTail h bmB bm) {mN:Str→Option Value} {aV:List Value} {fI:Addr} {oI:Obj} {Q:Fin→Shared→Prop}
   (hC:h.get? C=some (excClassObj nm q C N bs bm hdct sn sub ab col dd k0 k1 k2 k3 k5 newId)) (hn:h.Ns N mN) (hi:mN "__init__"=some (.ref fI))
   (hfI:h.get? fI=some oI) (hfc:oI.cls= .type "function")
   (hq:wpAny (model prog w) A (call (.ref fI) (.ref (h.objs.size + 1) :: aV)) (fun r s'=>r= .none∧Q (.done (.ret (.ref (h.objs.size + 1)))) s') E ⟨mdX h C aV,g,d,t,os⟩) (hrest:aV.length≤sizeLine:=by size_fits) :
   wpAny (model prog w) A (Builtin.«type.__call__» ⟨.ref C :: aV,[]⟩) Q E ⟨h,g,d,t,os⟩:=by
 repeat (first | with_reducible refine wpAny_loadPart_at hC ?_ | with_reducible refine wpAny_madeBy_exc hC ?_ | wp_step)
 refine codeAny_call_builtin_code (Code.quiet_builtin _ F.quiet) (wpAny_check_new_subT F T hC ?_);refine codeAny_exc_new_subT F T hC ?_ hrest;show wpAny _ _ _ _ _ _;have hC₁:=wEq { cls:=.ref C,data:=.fields #[.ref h.objs.size,.none,.none,.none,.bool false,.none] }
   (wEq { cls:=.type "tuple",data:=.seq aV.toArray } hC)
 have hfI₁:=wEq { cls:=.ref C,data:=.fields #[.ref h.objs.size,.none,.none,.none,.bool false,.none] }
   (wEq { cls:=.type "tuple",data:=.seq aV.toArray } hfI)
 have hn₁:((h.push { cls:=.type "tuple",data:=.seq aV.toArray }).push { cls:=.ref C,data:=.fields #[.ref h.objs.size,.none,.none,.none,.bool false,.none] }).Ns N mN:=let ⟨o,es,ep,e,r⟩:=hn; ⟨o,es,ep,wEq _ (wEq _ e),r⟩
 have hget:((h.push { cls:=.type "tuple",data:=.seq aV.toArray }).push { cls:=.ref C,data:=.fields #[.ref h.objs.size,.none,.none,.none,.bool false,.none] }).get? (h.objs.size + 1)=some { cls:=.ref C,data:=.fields #[.ref h.objs.size,.none,.none,.none,.bool false,.none] }:=by heap_get
 have hcC:(Value.ref C :: bm).contains (.ref C)=true:=by simp
 have T₁:=T.keeps (h':=((h.push { cls:=.type "tuple",data:=.seq aV.toArray }).push { cls:=.ref C,data:=.fields #[.ref h.objs.size,.none,.none,.none,.bool false,.none] })) fun b o e=>wEq _ (wEq _ e);unfold isInstance
 repeat (first | with_reducible refine wpAny_loadPart_at hget ?_ | (with_reducible refine wpAny_isSubtype_exc hC₁ ?_; rw [hcC]) | wp_step)
 show wpAny _ _ (typeLookup (.ref C) _) _ _ _;refine wpAny_typeLookup_tail hC₁ hn₁ T₁ F.mroIs F.init.lookup ?_;rw [hi];refine wpAny_holding (wAq ?_);unfold bindSpecial;refine wAq (wpAny_typeOf (T:="function") ⟨_,hfI₁,hfc⟩ ?_);rw [if_pos (by decide)];refine wBq (wAq (wpAny_mono hq (fun r s' hr=>?_) fun _ _ x=>x));obtain ⟨rfl,hQ⟩:=hr
 wp_walk
 exact hQ
theorem NB (F:ExcBaseFacts B newId initId bmB) (T:OwnTail h bmB bm) {mN:Str→Option Value} {aV:List Value} {fI:Addr} {oI:Obj} {Q:Value→Shared→Prop}
   (hC:h.get? C=some (excClassObj nm q C N bs bm hdct sn sub ab col dd k0 k1 k2 k3 k5 newId)) (hn:h.Ns N mN) (hi:mN "__init__"=some (.ref fI))
   (hfI:h.get? fI=some oI) (hfc:oI.cls= .type "function")
   (hq:wpAny (model prog w) (A.under (.builtin "type.__call__" ⟨.ref C :: aV,[]⟩)) (call (.ref fI) (.ref (h.objs.size + 1) :: aV)) (fun r s'=>r= .none∧Q (.ref (h.objs.size + 1)) s') E ⟨mdX h C aV,g,d,t,os⟩) (hrest:aV.length≤sizeLine:=by size_fits) :
   wpAny (model prog w) A (call (.ref C) aV) Q E ⟨h,g,d,t,os⟩:=by
 have f1:=tc_lookup;have f2:=tc_bind (.ref C);have hT:(⟨h,g,d,t,os⟩:Shared).TypeIs (.ref C) "type":=⟨_,hC,rfl⟩;refine wpAny_call (codeAny_of_tree ?_);show wpAny _ _ (callAny (.ref C) _) _ _ _
 repeat (any_goals (first | assumption | with_reducible refine wpAny_loadPart_at hC ?_ | wp_step))
 refine ⟨rfl, ?_⟩;refine codeAny_call_builtin_at (Code.quiet_builtin _ (by decide +kernel)) entry_typeCall (wpAny_check_type_call_sub hC (EE (hrest:=hrest) F T hC hn hi hfI hfc hq))
theorem WK {s:Shared} {x:Sem Value} {env:Env} {Q:Flow→Shared→Prop} (hbase:bm.contains (.type "BaseException")=true) (hh:A.handled=none)
   (hx:wpAny (model prog w) A x (fun v s₁=>∃ e tt dx,v= .ref e∧s₁.heap.get? C=some (excClassObj nm q C N bs bm hdct sn sub ab col dd k0 k1 k2 k3 k5 newId)∧
     s₁.heap.get? e=some (exO (.ref C) dx tt)∧E (.ref e) s₁) E s) :
   wpAny (model prog w) A (raiseStmt env (some x) none) Q E s:=by
 have hcB:(Value.ref C :: bm).contains (.type "BaseException")=true:=by rw [List.contains_cons,hbase,Bool.or_true]
 unfold raiseStmt;refine wAq (wpAny_mono hx (fun v s₁ h₁=>?_) fun _ _ x=>x);obtain ⟨e,t,dx,rfl,hC,he,hE⟩:=h₁;obtain ⟨hp,g,d,tk,os⟩:=s₁;have he:hp.get? e=some { cls:=.ref C,dict:=dx,data:=.fields #[.ref t,.none,.none,.none,.bool false,.none] }:=he
 repeat (first | with_reducible refine wpAny_loadPart_at he ?_ | with_reducible refine wpAny_loadPart_at hC ?_ | (with_reducible refine wpAny_isSubtype_exc hC ?_; rw [hcB]) | wp_step)
 exact wpAny_raiseNew_none hh hE
end
end LX
namespace LX
open PySem PySem.W PyProof.Rows
theorem FY {K:Frag} {h:Heap} {N:Addr} {mg:Str→Option Value} {n:Str} {v:Value} (X:K.In h) (G:h.Ns N mg) (e:nsIn K N n=some (some v)):mg n=some v:=by
 obtain ⟨o,es,ep,ho,hd,_,hf⟩:=G;unfold nsIn at e;split at e
 · rename_i c d es' n' sl q;have:=X _ _ q;rw [ho] at this;cases this;cases hd;split at e
   · rename_i he;rw [←hf];unfold nsFind findBy;rw [←Array.find?_toList,he];exact Option.some.inj e
   · split at e
     · cases e
     · cases e
 · cases e
theorem aFJ {K:Frag} {h:Heap} {N:Addr} {n:Str} {iv:Option Value} (X:K.In h) (e:nsOkIn K N=true) (q:nsIn K N n=some iv):h.nsMap N n=iv:=by
 cases iv with
 | none=>exact nsMap_none_of_in X e q
 | some v=>exact FY X (.of_isNs (isNs_of_in X e)) q
noncomputable def EK (K:Frag) (C:Addr) (bmB:List Value) (newId:String) (iv:Option Value):Bool:=match K.lookup C with
 | some ⟨.type "type",_,.cls cd,sl⟩=>(match cd.mro,sl.toList with
   | .ref C' :: bm,[_,_,_,_,some (.builtin n),_]=>C' == C && n == newId && !cd.hasDel && tailIn K bmB bm && nsOkIn K cd.ns && nsIn K cd.ns "__init__" == some iv
   | _,_=>false)
 | _=>false
structure Shp (K:Frag) (C:Addr) (bmB:List Value) (newId:String) (iv:Option Value) (bm:List Value) (N:Addr) (nm qn:Str) (bs:List Value) (hd:Bool) (sn:List Str) (sub:List Value) (ab:Bool) (col:Option Bool) (dd:Option Addr) (k0 k1 k2 k3 k5:Option Value):Prop where
 lk:K.lookup C=some (excClassObj nm qn C N bs bm hd sn sub ab col dd k0 k1 k2 k3 k5 newId)
 ok:nsOkIn K N=true
 ini:nsIn K N "__init__"=some iv
 tl:tailIn K bmB bm=true
theorem RA {K:Frag} {C:Addr} {bmB:List Value} {newId:String} {iv:Option Value} (q:EK K C bmB newId iv=true) :
   ∃ bm N nm qn bs hd sn sub ab col dd k0 k1 k2 k3 k5,Shp K C bmB newId iv bm N nm qn bs hd sn sub ab col dd k0 k1 k2 k3 k5:=by
 unfold EK at q;split at q
 · rename_i dd cd sl ho;split at q
   · rename_i C' bm k0 k1 k2 k3 n k5 hm hs;simp only [Bool.and_eq_true,beq_iff_eq,Bool.not_eq_true'] at q;obtain ⟨⟨⟨⟨⟨rfl,rfl⟩,hdel⟩,ht⟩,hok⟩,hni⟩:=q;obtain ⟨nm,bs,mro,ns,qn,hd,sn,sub,ab,col,del⟩:=cd;dsimp only at hm hdel hok hni;subst hm hdel;have hsl:sl= #[k0,k1,k2,k3,some (.builtin n),k5]:=by
       obtain ⟨l⟩:=sl;simp only at hs;rw [hs]
     subst hsl;exact ⟨bm,ns,nm,qn,bs,hd,sn,sub,ab,col,dd,k0,k1,k2,k3,k5,ho,hok,hni,ht⟩
   · cases q
 · cases q
end LX
namespace L2
open PySem PySem.Spec
open PyProof.Rows hiding St
noncomputable def XN (e C:Addr):Heap→Prop:=fun h=>∃ t,h.get? e=some (LX.exO (.ref C) none t)
noncomputable def XD (e C d:Addr):Heap→Prop:=fun h=>∃ t,h.get? e=some (LX.exO (.ref C) (some d) t)
section
variable {P:Program} {w:World} {H:Hp} {h:Heap} {e C d:Addr}
theorem XN.ok (x:XN e C h):bJ P w H h e (.ext (XN e C)):=⟨x,let ⟨t,q⟩:=x; ⟨_,q⟩,by rintro h1 h2 ⟨t,q⟩ k;exact ⟨t,k _ q⟩⟩
end
noncomputable def del (H:Hp) (a:Addr):Hp:=fun b=>if b=a then none else H b
theorem yW {H:Hp} {a b:Addr} (h:b≠a):del H a b=H b:=if_neg h
theorem tG {H:Hp} {a:Addr}:del H a a=none:=if_pos rfl
section
variable {X:Cx} {pins:List (Addr×Obj)} {σ:St} {H:Hp} {s:Shared}
theorem Inv.untrack {e:Addr} {φ:Heap→Prop} (I:Inv X pins σ H s) (he:H e=some (.ext φ)):Inv X pins σ (del H e) s:=by
 have no:∀ b,H b=none→del H e b=none:=fun b n=>by
   by_cases z:b=e
   · subst z; exact tG
   · rw [yW z]; exact n
 have ke:∀ b u,H b=some u→u≠.ext φ→del H e b=some u:=fun b u q nu=>by
   rw [yW (aG1 q he nu)]; exact q
 refine ⟨I.ok,I.os,I.bare,⟨I.base.keep,I.base.slot,fun b o q n hx=>no b (I.base.free b o q n hx),I.base.there,fun b xs q=>ke _ _ (I.base.tups b xs q) (by intro z; cases z),fun b o u q=>ke _ _ (I.base.frzs b o u q) (by intro z; cases z),fun b ps q=>?_⟩,I.loc,I.cell,no _ I.free,fun x c q=>no _ (I.freeC x c q),fun p hp=>?_,fun b u q=>?_,I.len⟩
 · obtain ⟨m,e1⟩:=I.base.tbls b ps q;exact ⟨m,ke _ _ e1 (by intro z; cases z)⟩
 · obtain ⟨a1,a2,a3⟩:=I.pin p hp;exact ⟨a1,no _ a2,a3⟩
 · have z:b≠e:=fun z=>by subst z; rw [tG] at q; cases q
   rw [yW z] at q;exact (I.hok b u q).stay (fun _ _ _ r=>r) (fun c r=>ke _ _ r (by intro z; cases z)) fun c xs r=>ke _ _ r (by intro z; cases z)
end
structure XIn (K:W.Frag) (mg:Str→Option Value) (C f:Addr) (Bn fld:Str):Prop where
 ex :∃ B newId initId bmB BC,ExcBaseFacts B newId initId bmB∧LX.EK K C bmB newId (some (.ref f))=true∧mg Bn=some (.ref BC)∧W.readsIn K BC (.type "type")=true∧
   W.findCls K (.ref BC) (.type "type") "__init__"=some (.val (.builtin initId))∧W.handedIn (.builtin initId)=true∧W.specialIn K (.ref BC) "__getattribute__"=some (some (.builtin "type.__getattribute__"))
 sa:W.findIn K (.ref C) "__setattr__"=some (some (.builtin "object.__setattr__"))
 ov:LX.IL K C=true
 na:W.takerIn K C fld=some none
 hd:W.hasDictIn K C=true
 kp:W.keepIn K (.ref C)=true
 fn:W.isFn K (.ref f)=true
section
variable {X:Cx} {C f:Addr} {Bn fld self arg:Str} {p1 p2 p3 p4 p5 p6:Pos} {j:Nat} {t:Str} {i i2:Nat}
end
noncomputable def spI (C:Addr) (fld:Str):Sp:=fun vs H Q _=>∃ e v,vs=[.ref e,v]∧H e=some (.ext (XN e C))∧∀ d,H d=none→Q .non (upd (upd H e (.ext (XD e C d))) d (.xd [(fld,v)]))
section
variable {X:Cx} {C f:Addr} {Bn fld x:Str} {np cpos pos:Pos} {e:Expr} {te:TE} {k:Nat} {fd:FuncData} {ps:List Str} {EX:XK}
theorem Inv.xmade {pins:List (Addr×Obj)} {σ:St} {H:Hp} {s:Shared} {us:List Value} (I:Inv X pins σ H s):Inv X pins σ (upd H (s.heap.objs.size + 1) (.ext (XN (s.heap.objs.size + 1) C))) { s with heap:=LX.mdX s.heap C us }:=by
 have hx:(LX.mdX s.heap C us).get? (s.heap.objs.size + 1)=some (LX.exO (.ref C) none s.heap.objs.size):=by
   have:=wGq (s.heap.push { cls:=.type "tuple",data:=.seq us.toArray }) (o:=LX.exO (.ref C) none s.heap.objs.size) rfl
   rwa [Heap.size_push] at this
 exact I.laid (a:=s.heap.objs.size + 1) (o:=.ext (XN (s.heap.objs.size + 1) C)) (t':=s.toks) (fun b u q=>wEq _ (wEq _ q)) (Nat.le_succ _) (XN.ok ⟨_,hx⟩)
theorem LM (D:XIn X.K X.mg C f Bn fld) (hg:Gl X x) (hm:X.mg x=some (.ref C)) (hdb:(x == ("__debug__":Str))=false) (F:bC X.prog X.w X.K X.mg X.base CX0 k f fd ps (spI C fld)) (hh:X.A.handled=none) (hr:aU (k + 1) X.A) (hb:aL X.K fd ps []) (ha:PE X e te)
   (hxe:∀ e s',xeO X EX e s'→X.xe e s') (hst:starEach [e] X.env=(false,eval e X.env) :: starEach [] X.env) :
   PS X (.Raise (some (.Call (.Name x np) [e] [] cpos)) none pos) (fun _ σ H=>te σ H fun v H1=>∀ d,H1 d=none→EX (.ref C) (some d) (upd H1 d (.xd [(fld,v)]))):=by
 intro pins s σ H E I h;obtain ⟨B,newId,initId,bmB,BC,Fb,ini,_⟩:=D.ex;obtain ⟨bm,N,nm,qn,bs,hdc,sn,sub,ab,col,dd,k0,k1,k2,k3,k5,S⟩:=LX.RA ini;have hbase:bm.contains (.type "BaseException")=true:=(W.tail_of_in I.kIn S.tl).hasType Fb.hasBase;have ev : wpAny (model X.prog X.w) X.A (eval (.Call (.Name x np) [e] [] cpos) X.env) (fun v s₁=>∃ e tt dx,v= .ref e∧s₁.heap.get? C=some (excClassObj nm qn C N bs bm hdc sn sub ab col dd k0 k1 k2 k3 k5 newId)∧
     s₁.heap.get? e=some (LX.exO (.ref C) dx tt)∧X.xe (.ref e) s₁) X.xe s:=by
   refine wpAny_Call_Name_kw (eV I hg hm ?_ hdb);refine W.callWith_K (h₀:=X.base) I.ok.mod.kin D.kp (thn (cZ ha gL hst cpos pins s σ H (fun vs H1=>match vs with | [v]=>∀ d,H1 d=none→EX (.ref C) (some d) (upd H1 d (.xd [(fld,v)])) | _=>False) I h) fun us s1 ⟨vs,H1,I1,r,q⟩=>⟨I1.kIn, ?_⟩) hst rfl
   match vs,q,r with
   | [v],q,r =>
   obtain ⟨u,rfl,ru⟩:=fF r;have I2:=I1.xmade (C:=C) (us:=[u]);have hl0:=I1.lo_le;have hc0:=I1.kIn _ _ S.lk;have hfc:∃ oI,s1.heap.get? f=some oI∧oI.cls= .type "function":=by
     have hf:=D.fn
     replace hf:((X.K.lookup f).map (·.cls) == some (.type "function"))=true:=hf
     cases lk:X.K.lookup f with
     | none=>rw [lk] at hf; cases hf
     | some o =>
       rw [lk] at hf;exact ⟨o,I1.kIn _ _ lk,by simpa using hf⟩
   obtain ⟨oI,hoI,hfc⟩:=hfc;have fresh1:H1 (s1.heap.objs.size + 1)=none:=I1.hok.fresh (Nat.le_succ _);have run:=F.run (X.A.under (.builtin "type.__call__" ⟨.ref C :: [u],[]⟩)) X.stack { s1 with heap:=LX.mdX s1.heap C [u] } (upd H1 (s1.heap.objs.size + 1) (.ext (XN (s1.heap.objs.size + 1) C))) ⟨[.ref (s1.heap.objs.size + 1),u],[]⟩ [.ref (s1.heap.objs.size + 1),u] [.ref (s1.heap.objs.size + 1),v]
     (fun r H2=>r= .non∧∃ d,H1 d=none∧d≠s1.heap.objs.size + 1∧H2=upd (upd (upd H1 (s1.heap.objs.size + 1) (.ext (XN (s1.heap.objs.size + 1) C))) (s1.heap.objs.size + 1) (.ext (XD (s1.heap.objs.size + 1) C d))) d (.xd [(fld,v)])) E0 (hr.make C [u] []) (I2.env0.make C [u] [])
   obtain ⟨hp,g,dr,tk,os⟩:=s1;refine LX.NB Fb (W.tail_of_in I1.kIn S.tl) hc0 (.of_isNs (W.isNs_of_in I1.kIn S.ok)) (LX.aFJ I1.kIn S.ok S.ini) hoI hfc ?_ (by show 1≤sizeLine; decide);refine wpAny_call (codeAny_mono (run (hb _ [.ref (hp.objs.size + 1),u] I2.kIn ?_) (.cons rfl (.cons ru .nil)) ⟨_,v,rfl,aI,fun d hd=>⟨rfl,d, ?_⟩⟩) fun r s' hq'=>?_)
   · exact F.len [.ref (hp.objs.size + 1),v] _ (fun _ _=>True) E0 ⟨_,v,rfl,aI (H:=H1),fun _ _=>trivial⟩
   · have dn:d≠hp.objs.size + 1:=fun z=>by subst z; rw [aI] at hd; cases hd
     rw [aD dn] at hd;exact ⟨hd,dn,rfl⟩
   · cases r with
     | error e=>exact False.elim hq'
     | ok fl =>
       cases fl with
       | ret u' =>
         obtain ⟨v',H',I3,rv,ev,d,hd,dn,eH⟩:=I2.after hq';subst ev eH;cases rv;refine ⟨rfl, ?_⟩;have hx:upd (upd (upd H1 (hp.objs.size + 1) (.ext (XN (hp.objs.size + 1) C))) (hp.objs.size + 1) (.ext (XD (hp.objs.size + 1) C d))) d (.xd [(fld,v)]) (hp.objs.size + 1)=some (.ext (XD (hp.objs.size + 1) C d)):=by rw [aD (Ne.symm dn),aI]
         obtain ⟨⟨tt,he⟩,_,_⟩:=I3.hok _ _ hx;have I4:=I3.untrack hx;have eH:del (upd (upd (upd H1 (hp.objs.size + 1) (.ext (XN (hp.objs.size + 1) C))) (hp.objs.size + 1) (.ext (XD (hp.objs.size + 1) C d))) d (.xd [(fld,v)])) (hp.objs.size + 1)=upd H1 d (.xd [(fld,v)]):=by
           funext b
           by_cases z:b=hp.objs.size + 1
           · subst z; rw [tG,aD (Ne.symm dn)]; exact fresh1.symm
           · rw [yW z];by_cases z2:b=d
             · subst z2; rw [aI,aI]
             · rw [aD z2,aD z2,aD z,aD z]
         rw [eH] at I4;refine ⟨_,tt,some d,rfl,I3.kIn _ _ S.lk,he,hxe _ _ ⟨hp.objs.size + 1,.ref C,some d,σ,_,rfl,I4.nopins,.inl ⟨Nat.le_trans hl0 (Nat.le_succ _),by rw [aD (Ne.symm dn)]; exact fresh1,_,_,he,rfl,rfl,rfl,by show 1 < 6; decide,rfl⟩,q d hd⟩⟩
       | next=>exact False.elim hq'
       | brk=>exact False.elim hq'
       | cont=>exact False.elim hq'
 rw [arm_exec_Raise];refine wAq (wpAny_standAt (LX.WK (C:=C) (nm:=nm) (q:=qn) (N:=N) (bs:=bs) (bm:=bm) (hdct:=hdc) (sn:=sn) (sub:=sub) (ab:=ab) (col:=col) (dd:=dd) (k0:=k0) (k1:=k1) (k2:=k2) (k3:=k3) (k5:=k5) (newId:=newId) hbase hh ?_));refine wAq (wpAny_mono ev (fun v s₃ h₃=>wAq (wpAny_standAt (wBq h₃))) fun _ _ x=>x)
end
noncomputable def Cx.mk2 (X:Cx) (e:Value):Cx:={ X with A:=X.A.mark (some e),calm:=false,xe:=fun _ _=>False }
noncomputable def Cx.pin (X:Cx) (pins:List (Addr×Obj)):Cx:={ X with pn:=X.pn ++ pins }
section
variable {X:Cx} {pins:List (Addr×Obj)} {σ:St} {H:Hp} {s:Shared} {e:Value}
theorem Inv.marked (I:Inv X pins σ H s):Inv (X.mk2 e) pins σ H s :=
 ⟨⟨I.ok.mod,I.ok.kind,I.ok.glob,I.ok.blt,I.ok.above,I.ok.inj,I.ok.has,I.ok.cab,(fun z=>by cases z),I.ok.frames,I.ok.stk,I.ok.exf,I.ok.bs,I.ok.bsz,I.ok.noex,I.ok.exfs,I.ok.funs,I.ok.frf⟩,I.os,I.bare,I.base,I.loc,I.cell,I.free,I.freeC,I.pin,I.hok,I.len⟩
theorem Inv.unmarked (ok:X.Ok) (I:Inv (X.mk2 e) pins σ H s):Inv X pins σ H s:=⟨ok,I.os,I.bare,I.base,I.loc,I.cell,I.free,I.freeC,I.pin,I.hok,I.len⟩
theorem Cx.Ok.pin (ok:X.Ok) (pins:List (Addr×Obj)):(X.pin pins).Ok :=
 ⟨ok.mod,ok.kind,ok.glob,ok.blt,ok.above,ok.inj,ok.has,ok.cab,ok.hd,ok.frames,ok.stk,ok.exf,ok.bs,ok.bsz,ok.noex,ok.exfs,ok.funs,ok.frf⟩
theorem Inv.pinX (I:Inv X pins σ H s):Inv (X.pin pins) [] σ H s :=
 ⟨I.ok.pin pins,I.os,I.bare,I.base,I.loc,I.cell,I.free,I.freeC,(fun p hp=>I.pin p (by
   have hp:p∈(X.pn ++ pins) ++ []:=hp;rw [List.append_nil] at hp; exact hp)),I.hok,I.len⟩
theorem Inv.unpinX (ok:X.Ok) (I:Inv (X.pin pins) [] σ H s):Inv X pins σ H s :=
 ⟨ok,I.os,I.bare,I.base,I.loc,I.cell,I.free,I.freeC,(fun p hp=>I.pin p (by
   show p∈(X.pn ++ pins) ++ [];rw [List.append_nil]; exact hp)),I.hok,I.len⟩
theorem Inv.track {a:Addr} {o:HO} (I:Inv X [] σ H s) (hl:X.lo≤a) (hn:H a=none) (ho:∀ H',bJ X.prog X.w H' s.heap a o) (hr:∃ ob vs,s.heap.get? a=some ob∧ob.data= .fields vs):Inv X [] σ (upd H a o) s:=by
 obtain ⟨ob,vs,hob,hd⟩:=hr;have h0:∀ b ob',X.s₀.heap.get? b=some ob'→b≠a:=fun b ob' q=>Nat.ne_of_lt (wFq (Heap.lt_size q) (Nat.le_trans HX hl));have hL:X.env.locals≠a:=fun z=>by
   obtain ⟨m,⟨o',es,ep,ho',hd',_⟩,_⟩:=I.loc;rw [z,hob] at ho'; cases ho'; rw [hd] at hd'; cases hd'
 refine ⟨I.ok,I.os,I.bare,⟨I.base.keep,I.base.slot,fun b ob' q n hx=>?_,I.base.there,fun b xs q=>?_,fun b ob' u q=>?_,fun b ps q=>?_⟩,I.loc,I.cell, ?_,fun x c q=>?_,fun p hp=>?_,fun b u q=>?_,I.len⟩
 · rw [aD (h0 b ob' q)]; exact I.base.free b ob' q n hx
 · have:=I.base.tups b xs q;rw [aD (aG this hn)]; exact this
 · have:=I.base.frzs b ob' u q;rw [aD (aG this hn)]; exact this
 · obtain ⟨m,this⟩:=I.base.tbls b ps q;exact ⟨m,by rw [aD (aG this hn)]; exact this⟩
 · rw [aD hL]; exact I.free
 · have:c≠a:=fun z=>by
     obtain ⟨v,o',ho',hd'⟩:=I.cell x c q;rw [z,hob] at ho'; cases ho'; rw [hd] at hd'; cases hd'
   rw [aD this]; exact I.freeC x c q
 · obtain ⟨a1,a2,a3⟩:=I.pin p hp;have:p.1≠a:=fun z=>by
     have:=VQ p (by simpa using hp);rw [z] at this;exact absurd hl (Nat.not_le.mpr this)
   exact ⟨a1,by rw [aD this]; exact a2,a3⟩
 · by_cases z:b=a
   · subst z; rw [aI] at q; cases q; exact ho _
   · rw [aD z] at q;exact (I.hok b u q).stay (fun _ _ _ r=>r) (fun c r=>by rw [aD (aG r hn)]; exact r) fun c xs r=>by rw [aD (aG r hn)]; exact r
theorem MM {M:Model} {A:Around} {E:Value→Shared→Prop} {i:Nat} {x:Str} {v:V} {Q:Unit→Shared→Prop} (I:Inv X pins σ H s) (hN:X.N.Nodup) (hi:X.N[i]? =some x) (hx:X.env.scope.names.lookup x=some .local) (hv:σ[i]? =some (some v))
   (h:∀ s',Inv X pins (σ.set i none) H s'→Q () s'):wpAny M A (unbindName X.env x) Q E s:=by
 obtain ⟨m,hn,hl⟩:=id I.loc;have hcls:(X.env.scope.kind == .class || (X.env.scope.kind == .module && X.env.locals != X.env.globals))=false:=by rw [I.ok.kind]; rfl
 have cne:=I.cne;obtain ⟨u0,_,lk⟩:=hl i x v hi hv (.inl hx);have hm:m x=some u0:=by
   rcases lk with ⟨_,q⟩ | ⟨k,_⟩
   · exact q
   · have k:X.env.scope.names.lookup x=some .cell∨X.env.scope.names.lookup x=some .free:=k;rw [hx] at k; rcases k with k | k <;> cases k
 refine wpAny_unbindName_local hx hn hm hcls fun h' u hn' hs=>h _ ?_;obtain ⟨oL,_,_,hoL,_⟩:=id hn;refine ⟨I.ok,I.os,I.bare,⟨fun b o e n hb hx=>?_,fun b o e n hb hx=>?_,I.base.free,fun b o e hx=>?_,I.base.tups,I.base.frzs,I.base.tbls⟩,⟨_,hn',fun j y v' e1 e2 e3=>?_⟩,fun y c e=>?_,I.free,I.freeC,fun p hp=>?_,fun b ob e=>?_,by simpa using I.len⟩
 · exact (hs.2 b (Nat.ne_of_lt (wFq (Heap.lt_size e) I.ok.above))).trans (I.base.keep b o e n hb hx)
 · obtain ⟨sl,e1⟩:=I.base.slot b o e n hb hx;exact ⟨sl,(hs.2 b (Nat.ne_of_lt (wFq (Heap.lt_size e) I.ok.above))).trans e1⟩
 · obtain ⟨o',e1⟩:=I.base.there b o e hx;exact ⟨o',(hs.2 b (Nat.ne_of_lt (wFq (Heap.lt_size e) I.ok.above))).trans e1⟩
 · by_cases hj:j=i
   · subst hj;have hlt:j < σ.length:=by rw [I.len]; exact (List.getElem?_eq_some_iff.mp hi).1
     rw [List.getElem?_set_self hlt] at e2;cases e2
   · rw [List.getElem?_set_ne (Ne.symm hj)] at e2;obtain ⟨u',r',q⟩:=hl j y v' e1 e2 e3;refine ⟨u',r', ?_⟩;rcases q with ⟨k,e⟩ | ⟨k,c,e,z⟩
     · refine .inl ⟨k, ?_⟩;have:y≠x:=fun e=>hj (sV hN e1 (e▸hi));simp [this,e]
     · exact .inr ⟨k,c,e,z.sameBut hs (cne y c e)⟩
 · obtain ⟨w',z⟩:=I.cell y c e;exact ⟨w',z.sameBut hs (cne y c e)⟩
 · obtain ⟨e,n,ne,nf,d⟩:=I.pin p hp;exact ⟨(hs.2 p.1 ne).trans e,n,ne,nf,d⟩
 · refine (I.hok b ob e).stay (fun c w' hc q=>(hs.2 c ?_).trans q) (fun _ q=>q) fun _ _ q=>q;intro z;have:H c=none:=by rw [z]; exact I.free
   rcases hc with rfl | hc
   · rw [this] at e; cases e
   · rw [this] at hc; cases hc
end
end L2
namespace LX
open PySem PySem.W PyProof.Rows
noncomputable def aDP (K:Frag) (c:Addr):Bool:=(clsIn K c).isSome
noncomputable def pL (K:Frag) (c:Addr):Bool:=aDP K c && subIn K (.ref c) (.type "BaseException") == some true
noncomputable def nG (K:Frag) (Ca:Addr):List Addr→Option Bool
 | []=>some false
 | c :: r=>match subIn K (.ref Ca) (.ref c) with
   | some true=>some true
   | some false=>nG K Ca r
   | none=>none
section
variable {M:Model} {A:Around} {E:Value→Shared→Prop} {s:Shared} {K:Frag}
theorem JX {h:Heap} {c:Addr} (X:K.In h) (hc:pL K c=true):Looks M h (isExcClass (.ref c)) true:=by
 obtain ⟨h1,h2⟩:=Bool.and_eq_true_iff.mp hc;obtain ⟨cd,hcd⟩:=Option.isSome_iff_exists.mp h1;have t:Looks M h (isType (.ref c)) true:=by
   unfold clsIn at hcd;split at hcd
   · rename_i o ho;cases hcd;exact (Looks.ld (X _ _ ho)).andThen .now
   · cases hcd
 exact t.andThen (looks_subIn X (beq_iff_eq.mp h2))
theorem WA:∀ {cs:List Addr} {Q:PUnit→Shared→Prop},K.In s.heap→(∀ c∈cs,pL K c=true)→Q PUnit.unit s→wpAny M A (forIn (cs.map Value.ref) PUnit.unit fun c (__s:PUnit)=>do
     let __do_lift ←isExcClass c
     if (!__do_lift)=true then do
         rule "try.except-non-exception-class"
         raiseErrorWords "TypeError" "catching classes that do not inherit from BaseException is not allowed"
         pure (ForInStep.yield PUnit.unit)
       else pure (ForInStep.yield PUnit.unit)) Q E s
 | [],Q,X,_,q=>wBq q
 | c :: r,Q,X,h,q=>by
   rw [List.map_cons,List.forIn_cons];refine wAq (wAq ((JX X (h c (wDq ..))).here ?_));rw [if_neg (by decide)];exact wBq (WA X (fun c' hc=>h c' (wCq _ hc)) q)
theorem UA {Ca:Addr} {b:Bool}:∀ {cs:List Addr} {Q:Option Bool×Unit→Shared→Prop},K.In s.heap→nG K Ca cs=some b→Q ((if b=true then some true else none),()) s→wpAny M A (forIn (cs.map Value.ref) ((none,()):Option Bool×Unit) fun c __s=>do
     let __do_lift ←isSubtype (.ref Ca) c
     if __do_lift=true then pure (ForInStep.done (some true,())) else pure (ForInStep.yield (none,()))) Q E s
 | [],Q,X,h,q=>by cases h; exact wBq q
 | c :: r,Q,X,h,q=>by
   unfold nG at h;rw [List.map_cons,List.forIn_cons];split at h
   · rename_i e;cases h;refine wAq (wAq ((looks_subIn X e).here ?_));rw [if_pos rfl];exact wBq (wBq q)
   · rename_i e;refine wAq (wAq ((looks_subIn X e).here ?_));rw [if_neg (by decide)];exact wBq (UA X h q)
   · cases h
theorem BS {e p Ca:Addr} {cs:List Addr} {b:Bool} {oe:Obj} {Q:Bool→Shared→Prop} (X:K.In s.heap) (hp:IsTup s.heap p (cs.map Value.ref).toArray) (he:s.heap.get? e=some oe) (hc:oe.cls= .ref Ca) (h1:∀ c∈cs,pL K c=true) (h2:nG K Ca cs=some b) (q:Q b s) :
   wpAny M A (excMatches (.ref e) (.ref p)) Q E s:=by
 obtain ⟨o,ho,hoc,n,hd⟩:=hp;have ht:Looks M s.heap (typeOf (.ref e)) (.ref Ca):=by
   rw [←hc];exact (Looks.ld he).andThen .now
 unfold excMatches;refine wAq (wpAny_isInstance ⟨o,ho,hoc⟩ isSubtype_tuple_tuple ?_);dsimp only;rw [if_pos rfl];refine wAq (wpAny_seqItems ho hd (wAq (wBq ?_)));dsimp only [Option.getD_some,Option.getD];refine wAq (WA X h1 (wAq (ht.here (wAq (UA X h2 ?_)))));cases b <;> exact wBq q
theorem AW {e c Ca:Addr} {b:Bool} {oe:Obj} {Q:Bool→Shared→Prop} (X:K.In s.heap) (he:s.heap.get? e=some oe) (hc:oe.cls= .ref Ca) (h1:pL K c=true) (ht0:subIn K (.type "type") (.type "tuple")=some false) (hty:typeIn K (.ref c)=some (.type "type")) (h2:nG K Ca [c]=some b) (q:Q b s) :
   wpAny M A (excMatches (.ref e) (.ref c)) Q E s:=by
 have ht:Looks M s.heap (typeOf (.ref e)) (.ref Ca):=by
   rw [←hc];exact (Looks.ld he).andThen .now
 have hi:Looks M s.heap (isInstance (.ref c) (.type "tuple")) false:=(looks_typeIn X hty).andThen (looks_subIn X ht0);unfold excMatches;refine wAq (hi.here ?_);dsimp only;rw [if_neg (by decide)];refine wAq (wBq ?_);refine wAq (WA (cs:=[c]) X (fun c' hc'=>by rw [List.mem_singleton.mp hc']; exact h1) (wAq (ht.here (wAq (UA (cs:=[c]) X h2 ?_)))));cases b <;> exact wBq q
end
end LX
namespace L2
open PySem PySem.Spec
open PyProof.Rows hiding St
noncomputable def XC (a:Addr) (C:Value) (d:Option Addr):Heap→Prop:=fun h=>∃ oe vs,h.get? a=some oe∧oe.cls=C∧oe.dict=d∧oe.data= .fields vs
theorem XC.ok {P:Program} {w:World} {H:Hp} {h:Heap} {a:Addr} {C:Value} {d:Option Addr} (x:XC a C d h):bJ P w H h a (.ext (XC a C d)):=⟨x,let ⟨o,_,q,_⟩:=x; ⟨o,q⟩,by rintro h1 h2 ⟨o,vs,q,r⟩ k;exact ⟨o,vs,k _ q,r⟩⟩
noncomputable def aHh (D:uR) (j:Nat):uR:=⟨fun σ H=>D.nx (σ.set j none) H,D.rt,fun σ H=>D.bk (σ.set j none) H,fun σ H=>D.ct (σ.set j none) H⟩
theorem AZ:∀ {l:List Addr} {us:List Value},aO (l.map V.ref) us→us=l.map Value.ref
 | [],_,r=>by cases r; rfl
 | a :: l,_,r=>by
   cases r with
   | cons r1 r2=>cases r1; rw [AZ r2]; rfl
theorem EG {env:Env} {q:Str×Pos×Addr} {l:List (Str×Pos×Addr)}:starEach (.Name q.1 q.2.1 :: l.map fun q=>Expr.Name q.1 q.2.1) env=(false,eval (.Name q.1 q.2.1) env) :: starEach (l.map fun q=>Expr.Name q.1 q.2.1) env:=rfl
theorem zW {X:Cx}:∀ {l:List (Str×Pos×Addr)},(∀ q∈l,Gl X q.1∧X.mg q.1=some (.ref q.2.2)∧(q.1 == ("__debug__":Str))=false)→PA X (l.map fun q=>Expr.Name q.1 q.2.1) (fun σ H Q=>Q (l.map fun q=>V.ref q.2.2) H)
 | [],_=>gL
 | q :: l,h=>by
   have h1:=h q (wDq ..);exact cZ (te:=tC (.ref q.2.2)) (fun pins s σ H Q I hq=>eV I h1.1 h1.2.1 ⟨.ref q.2.2,H,I,rfl,hq⟩ h1.2.2) (zW fun q' hq=>h q' (wCq _ hq)) EG
inductive iG (X:Cx):Expr→List Addr→Prop
 | tup {l:List (Str×Pos×Addr)} {k:Nat} {pos:Pos}:(∀ q∈l,Gl X q.1∧X.mg q.1=some (.ref q.2.2)∧(q.1 == ("__debug__":Str))=false)→l.length≤sizeLine→iG X (.Tuple (l.map fun q=>Expr.Name q.1 q.2.1) k pos) (l.map (·.2.2))
 | one {x:Str} {p:Pos} {c:Addr}:Gl X x→X.mg x=some (.ref c)→(x == ("__debug__":Str))=false→W.typeIn X.K (.ref c)=some (.type "type")→W.subIn X.K (.type "type") (.type "tuple")=some false→iG X (.Name x p) [c]
theorem iG.mk2 {X:Cx} {t:Expr} {cs:List Addr} {e:Value} {pins:List (Addr×Obj)} (c:iG X t cs):iG ((X.pin pins).mk2 e) t cs:=by
 cases c with
 | tup h z=>exact .tup h z
 | one a b c d e=>exact .one a b c d e
theorem LB {X:Cx} {t:Expr} {cs:List Addr} {pins:List (Addr×Obj)} {σ:St} {H:Hp} {s:Shared} {a Ca:Addr} {oe:Obj} {b:Bool} {Q:Bool→Shared→Prop} {E:Value→Shared→Prop} (c:iG X t cs) (I:Inv X pins σ H s) (hx:X.xe=fun _ _=>False) (hp:(a,oe)∈pins) (hc:oe.cls= .ref Ca)
   (h1:∀ c∈cs,LX.pL X.K c=true) (h2:LX.nG X.K Ca cs=some b) (q:∀ s',Inv X pins σ H s'→Q b s') :
   wpAny (model X.prog X.w) X.A (eval t X.env) (fun v s₁=>wpAny (model X.prog X.w) X.A (excMatches (.ref a) v) Q E s₁) E s:=by
 have nx:∀ {α:Type} {f:Sem α} {Q1:α→Shared→Prop} {s:Shared},wpAny (model X.prog X.w) X.A f Q1 X.xe s→wpAny (model X.prog X.w) X.A f Q1 E s:=fun {α f Q1 s} h=>wpAny_mono h (fun _ _ z=>z) fun _ _ z=>by rw [hx] at z; exact z.elim
 cases c with
 | @tup l k pos h z =>
   refine wpAny_Tuple_spliced (nx (thn (zW h pos pins s σ H (fun vs H1=>vs=(l.map (·.2.2)).map V.ref∧H1=H) I ⟨by rw [List.map_map]; rfl,rfl⟩) fun us s1 zz=>?_));obtain ⟨vs,H1,I1,r,ev,eH⟩:=zz;subst ev eH;have eu:=AZ r;subst eu;refine ⟨by simpa using z, ?_⟩;have I2:=I1.kept (t':=s1.toks) (h':=s1.heap.push { cls:=.type "tuple",data:=.seq ((l.map (·.2.2)).map Value.ref).toArray }) fun b o e=>wEq _ e;exact LX.BS I2.kIn (IsTup.new s1.heap _) (I2.pin _ (List.mem_append_right _ hp)).1 hc h1 h2 (q _ I2)
 | one g m d ty ht =>
   exact eV I g m (LX.AW I.kIn (I.pin _ (List.mem_append_right _ hp)).1 hc (h1 _ (wDq ..)) ht ty h2 (q _ I)) d
theorem iM.pins {X:Cx} {σ:St} {H:Hp} {s:Shared} {a:Addr} {C:Value} {d:Option Addr} (I:Inv X [] σ H s) (x:iM s.heap X.lo H a C d):∃ oe oT T,Inv X [(a,oe),(T,oT)] σ H s∧oe.cls=C∧
   ∀ h',h'.get? a=some oe→h'.get? T=some oT→iM h' X.lo H a C d:=by
 obtain ⟨le,he0,oe,vs,he,hc,hdd,hd,hsz,T,oT,ts,fl,h1,lT,hT0,hTe,hT,hdT,h3⟩:=x;refine ⟨oe,oT,T,I.pins_of fun p hp=>?_,hc,fun h' e1 e2=>⟨le,he0,oe,vs,e1,hc,hdd,hd,hsz,T,oT,ts,fl,h1,lT,hT0,hTe,e2,hdT,h3⟩⟩;have key:∀ b ob ws,s.heap.get? b=some ob→ob.data= .fields ws→H b=none→s.heap.get? b=some ob∧H b=none∧b≠X.env.locals∧b∉ X.fs∧∀ v,ob.data≠.cell v:=fun b ob ws e1 e2 e3=>by
   refine ⟨e1,e3,fun z=>?_,fun z=>?_,fun v z=>by rw [e2] at z; cases z⟩
   · obtain ⟨m,⟨o',es,ep,ho',hd',_⟩,_⟩:=I.loc;rw [←z,e1] at ho'; cases ho'; rw [e2] at hd'; cases hd'
   · obtain ⟨_,o,ho,hnf⟩:=I.funs.mem z;rw [e1] at ho; cases ho; exact hnf ws e2
 rcases List.mem_cons.mp hp with e | hp
 · subst e; exact key a oe vs he hd he0
 · rw [List.mem_singleton.mp hp]; exact key T oT ts hT hdT hT0
theorem aFi {X:Cx} (ow:Own X) {pins:List (Addr×Obj)} {s:Shared} {σ:St} {H:Hp} {D:uR} (I:Inv X pins σ H s) {EX:XK} {tb:TS} {body suite:List Stmt} {b0:Stmt} {t:Expr} {n:Str} {j:Nat} {hpos pos:Pos} {cs:List Addr}
   (nd:X.N.Nodup) (hj:X.N[j]? =some n) (hloc:X.env.scope.names.lookup n=some .local) (cl:iG X t cs) (hcs:∀ c∈cs,LX.pL X.K c=true)
   (hb:PSs ((X.pin pins).wish (xeO (X.pin pins) EX)) body tb) (h:tb D σ H)
   (hx:∀ C d H1,EX C d H1→∃ Ca,C= .ref Ca∧LX.nG X.K Ca cs=some true∧∀ a,H1 a=none→∃ th,PSs ((X.pin pins).mk2 (.ref a)) (b0 :: suite) th∧th (aHh D j) ((List.replicate X.N.length none).set j (some (.ref a))) (upd H1 a (.ext (XC a C d)))) :
   wpAny (model X.prog X.w) X.A (exec (.Try body [.ExceptHandler (some t) (some n) (b0 :: suite) hpos] [] [] pos) X.env) (SP X pins D) X.xe s:=by
 have ow':Own (X.pin pins):=⟨ow.st,ow.fr⟩;refine wpAny_Try_except (wpAny_mono (hb [] s σ H D (I.pinX.wish _) h) (fun f s₁ q=>?_) fun e s₁ hxe=>?_)
 · have q:=q.unwish;cases f with
   | next=>obtain ⟨σ',H',J,q⟩:=q; exact wpAny_execs_nil ⟨σ',H',J.unpinX I.ok,q⟩
   | brk=>obtain ⟨σ',H',J,q⟩:=q; exact ⟨σ',H',J.unpinX I.ok,q⟩
   | cont=>obtain ⟨σ',H',J,q⟩:=q; exact ⟨σ',H',J.unpinX I.ok,q⟩
   | ret u=>obtain ⟨v,σ',H',J,r,q⟩:=q; exact ⟨v,σ',H',J.unpinX I.ok,r,q⟩
 · obtain ⟨a,C,d,σ1,H1,rfl,I1,x,q⟩:=hxe;obtain ⟨Ca,rfl,hit,hh⟩:=hx C d H1 q;refine UD (X:=X.pin pins) ow' I1 x fun h2 I2 x2=>?_;refine sQ (X:=X.pin pins) ow' I2 (.inr x2) fun h3 I3 _ x3=>?_
   replace x3:=x3 x2
   obtain ⟨oe,oT,T,I4,hcl,back⟩:=x3.pins I3;refine wpAny_handleBy_cons (codeAny_handlers_test ?_) (by intro q; cases q);refine LB (X:=(X.pin pins).mk2 (.ref a)) (a:=a) (Ca:=Ca) (b:=true) cl.mk2 I4.marked rfl (wDq ..) hcl hcs hit fun s5 I5=>?_;have I6:=I5.unmarked (I.ok.pin pins);have x6:iM s5.heap (X.pin pins).lo H1 a (.ref Ca) d:=back _ (I6.pin (a,oe) (List.mem_append_right _ (by simp))).1 (I6.pin (T,oT) (List.mem_append_right _ (by simp))).1;show codeAny _ _ _ _ _;refine codeAny_handlers_suite_as ?_;refine sQ (X:=X.pin pins) ow' I6.nopins (.inr x6) fun h7 I7 _ x7=>?_
   replace x7:=x7 x6
   obtain ⟨le,he0,oe7,vs7,he7,hc7,hdd7,hd7,_⟩:=x7;have I8:=I7.track (o:=.ext (XC a (.ref Ca) d)) le he0 (fun _=>XC.ok ⟨oe7,vs7,he7,hc7,hdd7,hd7⟩) ⟨oe7,vs7,he7,hd7⟩;have I9:Inv (X.pin pins) [] (List.replicate X.N.length none) (upd H1 a (.ext (XC a (.ref Ca) d))) _:=I8.weak (by rw [List.length_replicate]; exact I8.len.symm) fun i v e=>by
     rw [List.getElem?_replicate] at e;split at e <;> cases e
   obtain ⟨th,hth,hq⟩:=hh a he0;refine eX (X:=X.pin pins) I9 nd hj (.inl hloc) (v:=.ref a) rfl (fun s10 I10=>?_) (.inr hloc);refine wpAny_mono (hth [] s10 _ _ _ I10.marked hq) (fun f s11 q11=>?_) fun _ _ z=>z.elim;show wpAny _ _ (do bindName X.env n .none; unbindBehindTheSuite X.env n hpos) _ _ s11;have fin:∀ {σ':St} {H':Hp} {Q:Unit→Shared→Prop},Inv ((X.pin pins).mk2 (.ref a)) [] σ' H' s11→(∀ s',Inv X pins (σ'.set j none) H' s'→Q () s')→wpAny (model X.prog X.w) X.A (do bindName X.env n .none; unbindBehindTheSuite X.env n hpos) Q X.xe s11:=fun {σ' H' Q} J k=>by
     have J1:=(J.unmarked (I.ok.pin pins)).unpinX I.ok;refine wAq (wpAny_bindName (eX J1 nd hj (.inl hloc) (v:=.non) rfl (fun s12 J2=>?_) (.inr hloc)));unfold unbindBehindTheSuite;refine wpAny_onRaise (MM J2 nd hj hloc (v:=.non) (by
       have hlt:j < σ'.length:=by rw [J.len]; exact (List.getElem?_eq_some_iff.mp hj).1
       rw [List.getElem?_set_self hlt]) fun s13 J3=>?_)
     rw [List.set_set] at J3;exact k s13 J3
   cases f with
   | next=>obtain ⟨σ',H',J,q⟩:=q11; exact fin J fun s' K=>⟨_,H',K,q⟩
   | brk=>obtain ⟨σ',H',J,q⟩:=q11; exact fin J fun s' K=>⟨_,H',K,q⟩
   | cont=>obtain ⟨σ',H',J,q⟩:=q11; exact fin J fun s' K=>⟨_,H',K,q⟩
   | ret u=>obtain ⟨v,σ',H',J,r,q⟩:=q11; exact fin J fun s' K=>⟨v,_,H',K,r,q⟩
end L2
namespace LX
open PySem PySem.W PyProof.Rows
open PySem.Builtin PySem.Builtin.ObjectAttr
section
variable {prog:Program} {w:World} {A:Around} {E:Value→Shared→Prop} {s:Shared} {K:Frag} {x C:Addr}
end
end LX
namespace L2
open PySem PySem.Spec
open PyProof.Rows hiding St
structure XAt (K:W.Frag) (C:Addr):Prop where
 ga:W.findIn K (.ref C) "__getattribute__"=some (some (.builtin "BaseException.__getattribute__"))
 gh:W.findIn K (.ref C) "__getattr__"=some none
 ov:LX.IL K C=true
 hd:W.hasDictIn K C=true
 ha:W.findIn K (.ref C) "__class__"=some (some (.builtin "object.__class__"))
 hn:W.specialIn K (.builtin "object.__class__") "__get__"=some (some (.builtin "getset_descriptor.__get__"))
 ht:W.takesIn K (.builtin "object.__class__")=some true
 hm:W.mroIn K C (.type "object")=some true
section
variable {X:Cx} {pins:List (Addr×Obj)} {σ:St} {H:Hp} {s:Shared} {a C:Addr} {A:Around} {E:Value→Shared→Prop}
end
end L2
namespace L3
open PySem PySem.Spec
open PyProof.Rows hiding St
open L2
inductive PV where
 | non | bl (b:Bool) | int (i:Int) | str (x:Str) | tup (xs:List PV) | lst (xs:List PV) | scr (ns:List Int)
 | ob (c:String) (ns:List Str) (xs:List PV) | ref (a:Addr) | ty (n:String) | cl (c:String) | fn (f:Str) | emp | dct (ks:List Key) (xs:List PV) | exc (c:String) (ns:List Str) (xs:List PV)
structure Ev where
 K:W.Frag
 cls:String→Addr
 fna:Str→Addr:=fun _=>0
 f0:Hp:=fun _=>none
 z0:Hp:=fun _=>none
mutual
noncomputable def RP (E:Ev) (Z:Hp):PV→V→Prop
 | .non=>fun v=>v= .non
 | .bl b=>fun v=>v= .bl b
 | .int i=>fun v=>v= .int i
 | .str x=>fun v=>v= .str x
 | .ty n=>fun v=>v= .ty n
 | .ref a=>fun v=>v= .ref a
 | .cl c=>fun v=>v= .ref (E.cls c)
 | .fn f=>fun v=>v= .ref (E.fna f)
 | .emp=>fun v=>∃ a,v= .ref a∧Z a=some (.dK [])
 | .scr ns=>fun v=>∃ a,v= .ref a∧SqL E.K Z a (ns.map V.int)
 | .tup xs=>fun v=>∃ a vs,v= .ref a∧SqT E.K Z a vs∧RPs E Z xs vs
 | .lst xs=>fun v=>∃ a vs,v= .ref a∧Z a=some (.lst vs)∧RPs E Z xs vs
 | .dct ks xs=>fun v=>∃ a vs,v= .ref a∧Z a=some (.dK (ks.zip vs))∧ks.length=vs.length∧RPs E Z xs vs
 | .ob c ns xs=>fun v=>∃ a dx vs,v= .ref a∧Z a=some (.ins (E.cls c) dx (ns.zip vs))∧ns.length=vs.length∧RPs E Z xs vs
 | .exc c ns xs=>fun v=>∃ a d vs,v= .ref a∧Z a=some (.ext (XC a (.ref (E.cls c)) d))∧ns.length=vs.length∧(∀ dd,d=some dd→Z dd=some (.xd (ns.zip vs)))∧(d=none→ns=[])∧RPs E Z xs vs
noncomputable def RPs (E:Ev) (Z:Hp):List PV→List V→Prop
 | []=>fun vs=>vs=[]
 | x :: xs=>fun vs=>∃ v r,vs=v :: r∧RP E Z x v∧RPs E Z xs r
end
theorem cR {K:W.Frag} {Z Z':Hp} {a:Addr} {xs:List V} (e:aN Z Z') (h:SqT K Z a xs):SqT K Z' a xs:=by
 rcases h with (h | ⟨o,h⟩) | h
 · exact .inl (.inl (e _ _ h))
 · exact .inl (.inr ⟨o,e _ _ h⟩)
 · exact .inr h
section
variable {E:Ev} {Z Z' Z1 Z2 H H':Hp}
mutual
theorem RP.mono (e:aN Z Z'):∀ {x:PV} {v:V},RP E Z x v→RP E Z' x v
 | .non,_,h=>h
 | .bl _,_,h=>h
 | .int _,_,h=>h
 | .str _,_,h=>h
 | .ty _,_,h=>h
 | .ref _,_,h=>h
 | .cl _,_,h=>h
 | .fn _,_,h=>h
 | .emp,_,⟨a,e1,h⟩=>⟨a,e1,e _ _ h⟩
 | .scr _,_,⟨a,e1,h⟩=>⟨a,e1,e.seq h⟩
 | .tup _,_,⟨a,vs,e1,h,r⟩=>⟨a,vs,e1,cR e h,RPs.mono e r⟩
 | .lst _,_,⟨a,vs,e1,h,r⟩=>⟨a,vs,e1,e _ _ h,RPs.mono e r⟩
 | .dct _ _,_,⟨a,vs,e1,h,l,r⟩=>⟨a,vs,e1,e _ _ h,l,RPs.mono e r⟩
 | .ob _ _ _,_,⟨a,dx,vs,e1,h,l,r⟩=>⟨a,dx,vs,e1,e _ _ h,l,RPs.mono e r⟩
 | .exc _ _ _,_,⟨a,d,vs,e1,h,l,hd,hn,r⟩=>⟨a,d,vs,e1,e _ _ h,l,fun dd q=>e _ _ (hd dd q),hn,RPs.mono e r⟩
theorem RPs.mono (e:aN Z Z'):∀ {xs:List PV} {vs:List V},RPs E Z xs vs→RPs E Z' xs vs
 | [],_,h=>h
 | _ :: _,_,⟨v,r,e1,h,t⟩=>⟨v,r,e1,RP.mono e h,RPs.mono e t⟩
end
theorem RPs.length:∀ {xs:List PV} {vs:List V},RPs E Z xs vs→xs.length=vs.length
 | [],_,h=>by cases h; rfl
 | _ :: _,_,⟨v,r,e1,_,t⟩=>by subst e1; rw [List.length_cons,List.length_cons,RPs.length t]
theorem RPs.get:∀ {xs:List PV} {vs:List V} {i:Nat} {x:PV},RPs E Z xs vs→xs[i]? =some x→∃ v,vs[i]? =some v∧RP E Z x v
 | [],_,_,_,_,e=>by simp at e
 | y :: _,_,0,x,⟨v,r,e1,h,t⟩,e=>by
   subst e1;have:y=x:=by simpa using e
   subst this;exact ⟨v,rfl,h⟩
 | _ :: _,_,i + 1,x,⟨v,r,e1,h,t⟩,e=>by
   subst e1;obtain ⟨u,a,b⟩:=RPs.get (i:=i) t (by simpa using e);exact ⟨u,by simpa using a,b⟩
theorem RPs.append:∀ {xs ys:List PV} {vs us:List V},RPs E Z xs vs→RPs E Z ys us→RPs E Z (xs ++ ys) (vs ++ us)
 | [],_,_,_,h,q=>by cases h; exact q
 | _ :: _,_,_,us,⟨v,r,e1,h,t⟩,q=>by subst e1; exact ⟨v,r ++ us,rfl,h,RPs.append t q⟩
theorem RPs.set {y:PV} {u:V} (q:RP E Z y u):∀ {xs:List PV} {vs:List V} (i:Nat),RPs E Z xs vs→RPs E Z (xs.set i y) (vs.set i u)
 | [],_,_,h=>by cases h; exact rfl
 | _ :: _,_,0,⟨v,r,e1,h,t⟩=>by subst e1; exact ⟨u,r,rfl,q,t⟩
 | _ :: _,_,i + 1,⟨v,r,e1,h,t⟩=>by subst e1; exact ⟨v,r.set i u,rfl,h,RPs.set q i t⟩
theorem RPs.take:∀ {xs:List PV} {vs:List V} (n:Nat),RPs E Z xs vs→RPs E Z (xs.take n) (vs.take n)
 | _,_,0,_=>rfl
 | [],_,_ + 1,h=>by cases h; exact rfl
 | _ :: _,_,n + 1,⟨v,r,e1,h,t⟩=>by subst e1; exact ⟨v,r.take n,rfl,h,RPs.take n t⟩
theorem RPs.drop:∀ {xs:List PV} {vs:List V} (n:Nat),RPs E Z xs vs→RPs E Z (xs.drop n) (vs.drop n)
 | _,_,0,h=>h
 | [],_,_ + 1,h=>by cases h; exact rfl
 | _ :: _,_,n + 1,⟨v,r,e1,h,t⟩=>by subst e1; exact RPs.drop n t
theorem RPs.ofInts:∀ (ns:List Int),RPs E Z (ns.map PV.int) (ns.map V.int)
 | []=>rfl
 | n :: r=>⟨.int n,r.map V.int,rfl,rfl,RPs.ofInts r⟩
theorem RPs.reverse:∀ {xs:List PV} {vs:List V},RPs E Z xs vs→RPs E Z xs.reverse vs.reverse
 | [],_,h=>by cases h; exact rfl
 | x :: xs,_,⟨v,r,e1,h,t⟩=>by
   subst e1;rw [List.reverse_cons,List.reverse_cons];exact RPs.append (RPs.reverse t) ⟨v,[],rfl,h,rfl⟩
end
inductive GO where
 | lst (xs:List PV) | ins (c:String) (ns:List Str) (xs:List PV)
noncomputable abbrev Gh:=Addr→Option GO
noncomputable def gup (G:Gh) (a:Addr) (o:GO):Gh:=fun b=>if b=a then some o else G b
noncomputable def MN (G:Gh) (a:Addr):Gh:=fun b=>if b=a then none else G b
theorem aR {G:Gh} {a:Addr} {o:GO}:gup G a o a=some o:=if_pos rfl
theorem eO {G:Gh} {a b:Addr} {o:GO} (h:b≠a):gup G a o b=G b:=if_neg h
theorem eW {G:Gh} {a:Addr} {o u:GO}:gup (gup G a o) a u=gup G a u:=by funext b; unfold gup; split <;> rfl
theorem zL {G:Gh} {a b:Addr} (h:b≠a):MN G a b=G b:=if_neg h
theorem JZ {G:Gh} {a:Addr}:MN G a a=none:=if_pos rfl
theorem tN {G:Gh} {a:Addr} {o:GO} (h:G a=none):MN (gup G a o) a=G:=by
 funext b; unfold MN gup
 split
 · rename_i e; rw [e]; exact h.symm
 · rfl
noncomputable def RO (E:Ev) (Z:Hp):GO→HO→Prop
 | .lst xs,o=>∃ vs,o= .lst vs∧RPs E Z xs vs
 | .ins c ns xs,o=>∃ dx vs,o= .ins (E.cls c) dx (ns.zip vs)∧ns.length=vs.length∧RPs E Z xs vs
theorem RO.mono {E:Ev} {Z Z':Hp} (e:aN Z Z'):∀ {o:GO} {o':HO},RO E Z o o'→RO E Z' o o'
 | .lst _,_,⟨vs,a,b⟩=>⟨vs,a,b.mono e⟩
 | .ins _ _ _,_,⟨dx,vs,a,l,b⟩=>⟨dx,vs,a,l,b.mono e⟩
structure Sim (E:Ev) (F H Z:Hp) (G:Gh):Prop where
 z:aN Z H
 f:∀ a o,F a=some o→H a=some o∧Z a=none∧G a=none
 g:∀ a o,G a=some o→Z a=none∧∃ o',H a=some o'∧RO E Z o o'
 z0:aN E.z0 Z
 ff:aN E.f0 F
section
variable {E:Ev} {F H Z:Hp} {G G':Gh} {p:Addr} {o:HO} {go:GO}
theorem Sim.zn (S:Sim E F H Z G) (n:H p=none):Z p=none:=by
 cases e:Z p with
 | none=>rfl
 | some u=>rw [S.z _ _ e] at n; cases n
theorem Sim.gn (S:Sim E F H Z G) (n:H p=none):G p=none:=by
 cases e:G p with
 | none=>rfl
 | some u=>obtain ⟨_,o',e',_⟩:=S.g _ _ e; rw [e'] at n; cases n
theorem Sim.fn (S:Sim E F H Z G) (n:H p=none):F p=none:=by
 cases e:F p with
 | none=>rfl
 | some u=>rw [(S.f _ _ e).1] at n; cases n
theorem Sim.fz (S:Sim E F H Z G) (n:H p=none):Sim E F (upd H p o) (upd Z p o) G:=by
 have zn:=S.zn n;have sub:aN Z (upd Z p o):=aW zn o;refine ⟨fun a u q=>?_,fun a u q=>?_,fun a u q=>?_,S.z0.trans sub,S.ff⟩
 · by_cases e:a=p
   · subst e; rw [aI] at q ⊢; exact q
   · rw [aD e] at q ⊢; exact S.z _ _ q
 · obtain ⟨h1,h2,h3⟩:=S.f a u q;have e:a≠p:=aG h1 n;exact ⟨by rw [aD e]; exact h1,by rw [aD e]; exact h2,h3⟩
 · obtain ⟨a1,o',a2,r⟩:=S.g a u q;have e:a≠p:=aG a2 n;exact ⟨by rw [aD e]; exact a1,o',by rw [aD e]; exact a2,r.mono sub⟩
theorem Sim.new (S:Sim E F H Z G) (n:H p=none) (r:RO E Z go o):Sim E F (upd H p o) Z (gup G p go):=by
 refine ⟨fun a u q=>fW (S.z _ _ q) n,fun a u q=>?_,fun a u q=>?_,S.z0,S.ff⟩
 · obtain ⟨h1,h2,h3⟩:=S.f a u q;have e:a≠p:=aG h1 n;exact ⟨by rw [aD e]; exact h1,h2,by rw [eO e]; exact h3⟩
 by_cases e:a=p
 · subst e; rw [aR] at q; cases q; exact ⟨S.zn n,o,aI,r⟩
 · rw [eO e] at q;obtain ⟨a1,o',a2,r'⟩:=S.g a u q;exact ⟨a1,o',by rw [aD e]; exact a2,r'⟩
theorem Sim.other (S:Sim E F H Z G) (n:H p=none):Sim E F (upd H p o) Z G:=by
 refine ⟨fun a u q=>fW (S.z _ _ q) n,fun a u q=>⟨fW (S.f a u q).1 n,(S.f a u q).2⟩,fun a u q=>?_,S.z0,S.ff⟩;obtain ⟨a1,o',a2,r'⟩:=S.g a u q;exact ⟨a1,o',fW a2 n,r'⟩
theorem Sim.set {u:GO} (S:Sim E F H Z G) (n:G p=some u) (r:RO E Z go o):Sim E F (upd H p o) Z (gup G p go):=by
 obtain ⟨z,_,_,_⟩:=S.g _ _ n;refine ⟨fun a u q=>?_,fun a u' q=>?_,fun a u q=>?_,S.z0,S.ff⟩
 · have e:a≠p:=aG q z;rw [aD e]; exact S.z _ _ q
 · obtain ⟨h1,h2,h3⟩:=S.f a u' q;have e:a≠p:=fun e=>by subst e; rw [n] at h3; cases h3
   exact ⟨by rw [aD e]; exact h1,h2,by rw [eO e]; exact h3⟩
 · by_cases e:a=p
   · subst e; rw [aR] at q; cases q; exact ⟨z,o,aI,r⟩
   · rw [eO e] at q;obtain ⟨a1,o',a2,r'⟩:=S.g a u q;exact ⟨a1,o',by rw [aD e]; exact a2,r'⟩
theorem Sim.frz {u:GO} (S:Sim E F H Z G) (n:G p=some u) (h:H p=some o):Sim E F H (upd Z p o) (MN G p):=by
 obtain ⟨z,_,_,_⟩:=S.g _ _ n;refine ⟨fun a u q=>?_,fun a u' q=>?_,fun a u q=>?_,S.z0.trans (aW z o),S.ff⟩
 · by_cases e:a=p
   · subst e; rw [aI] at q; rw [←q]; exact h
   · rw [aD e] at q; exact S.z _ _ q
 · obtain ⟨h1,h2,h3⟩:=S.f a u' q;have e:a≠p:=fun e=>by subst e; rw [n] at h3; cases h3
   exact ⟨h1,by rw [aD e]; exact h2,by rw [zL e]; exact h3⟩
 · by_cases e:a=p
   · subst e; rw [JZ] at q; cases q
   · rw [zL e] at q;obtain ⟨a1,o',a2,r'⟩:=S.g a u q;exact ⟨by rw [aD e]; exact a1,o',a2,r'.mono (aW z o)⟩
theorem Sim.weak (S:Sim E F H Z G) (h:∀ a o,G' a=some o→G a=some o):Sim E F H Z G':=⟨S.z,fun a o q=>⟨(S.f a o q).1,(S.f a o q).2.1,by
 cases e:G' a with
 | none=>rfl
 | some u=>exact absurd (h _ _ e) (by rw [(S.f a o q).2.2]; intro z; cases z)⟩,fun a o q=>S.g a o (h a o q),S.z0,S.ff⟩
theorem Sim.mine (S:Sim E F H Z G) (n:H p=none):Sim E (upd F p o) (upd H p o) Z G:=by
 refine ⟨fun a u q=>fW (S.z _ _ q) n,fun a u q=>?_,fun a u q=>?_,S.z0,S.ff.trans (aW (S.fn n) o)⟩
 · by_cases e:a=p
   · subst e; rw [aI] at q ⊢; exact ⟨q,S.zn n,S.gn n⟩
   · rw [aD e] at q ⊢; exact S.f a u q
 · obtain ⟨a1,o',a2,r'⟩:=S.g a u q;exact ⟨a1,o',fW a2 n,r'⟩
theorem Sim.f0n (S:Sim E F H Z G) (n:H p=none):E.f0 p=none:=by
 cases e:E.f0 p with
 | none=>rfl
 | some u=>exact absurd (S.ff _ _ e) (by rw [S.fn n]; intro z; cases z)
theorem TJ {F':Hp} (h:aN E.f0 (upd F p o)) (n:E.f0 p=none):aN E.f0 F:=fun a u q=>by
 have e:a≠p:=aG q n;have:=h a u q
 rwa [aD e] at this
theorem Sim.turn {u:HO} (S:Sim E (upd F p u) H Z G) (nf:E.f0 p=none):Sim E (upd F p o) (upd H p o) Z G:=by
 obtain ⟨h1,h2,h3⟩:=S.f p u aI;refine ⟨fun a v q=>?_,fun a v q=>?_,fun a v q=>?_,S.z0,fun a v q=>by
   have e:a≠p:=aG q nf;have:=S.ff a v q;rw [aD e] at this ⊢; exact this⟩
 · have e:a≠p:=aG q h2;rw [aD e]; exact S.z _ _ q
 · by_cases e:a=p
   · subst e; rw [aI] at q ⊢; exact ⟨q,h2,h3⟩
   · rw [aD e] at q ⊢;exact S.f a v (by rw [aD e]; exact q)
 · obtain ⟨a1,o',a2,r'⟩:=S.g a v q;have e:a≠p:=fun e=>by subst e; rw [h3] at q; cases q
   exact ⟨a1,o',by rw [aD e]; exact a2,r'⟩
theorem Sim.mineZ (S:Sim E (upd F p o) H Z G) (n:F p=none) (nf:E.f0 p=none):Sim E F H (upd Z p o) G:=by
 obtain ⟨h1,h2,h3⟩:=S.f p o aI;have sub:aN Z (upd Z p o):=aW h2 o;refine ⟨fun a v q=>?_,fun a v q=>?_,fun a v q=>?_,S.z0.trans sub,TJ (F':=F) S.ff nf⟩
 · by_cases e:a=p
   · subst e; rw [aI] at q; rw [←q]; exact h1
   · rw [aD e] at q; exact S.z _ _ q
 · have e:a≠p:=aG q n;obtain ⟨b1,b2,b3⟩:=S.f a v (by rw [aD e]; exact q);exact ⟨b1,by rw [aD e]; exact b2,b3⟩
 · obtain ⟨a1,o',a2,r'⟩:=S.g a v q;have e:a≠p:=fun e=>by subst e; rw [h3] at q; cases q
   exact ⟨by rw [aD e]; exact a1,o',a2,r'.mono sub⟩
theorem Sim.mineG (S:Sim E (upd F p o) H Z G) (n:F p=none) (nf:E.f0 p=none) (r:RO E Z go o):Sim E F H Z (gup G p go):=by
 obtain ⟨h1,h2,h3⟩:=S.f p o aI;refine ⟨S.z,fun a v q=>?_,fun a v q=>?_,S.z0,TJ (F':=F) S.ff nf⟩
 · have e:a≠p:=aG q n;obtain ⟨b1,b2,b3⟩:=S.f a v (by rw [aD e]; exact q);exact ⟨b1,b2,by rw [eO e]; exact b3⟩
 · by_cases e:a=p
   · subst e; rw [aR] at q; cases q; exact ⟨h2,o,h1,r⟩
   · rw [eO e] at q; exact S.g a v q
theorem Sim.weakF (S:Sim E F H Z G):Sim E E.f0 H Z G:=⟨S.z,fun a o q=>S.f a o (S.ff a o q),S.g,S.z0,aN.refl _⟩
end
noncomputable abbrev Ev.at (E:Ev) (f z:Hp):Ev:={ E with f0:=f,z0:=z }
section
variable {E:Ev} {f z Z:Hp}
mutual
theorem RP.at:∀ {x:PV} {v:V},RP E Z x v→RP (E.at f z) Z x v
 | .non,_,h=>h
 | .bl _,_,h=>h
 | .int _,_,h=>h
 | .str _,_,h=>h
 | .ty _,_,h=>h
 | .ref _,_,h=>h
 | .cl _,_,h=>h
 | .fn _,_,h=>h
 | .emp,_,h=>h
 | .scr _,_,h=>h
 | .tup _,_,⟨a,vs,e1,h,r⟩=>⟨a,vs,e1,h,RPs.at r⟩
 | .lst _,_,⟨a,vs,e1,h,r⟩=>⟨a,vs,e1,h,RPs.at r⟩
 | .dct _ _,_,⟨a,vs,e1,h,l,r⟩=>⟨a,vs,e1,h,l,RPs.at r⟩
 | .ob _ _ _,_,⟨a,dx,vs,e1,h,l,r⟩=>⟨a,dx,vs,e1,h,l,RPs.at r⟩
 | .exc _ _ _,_,⟨a,d,vs,e1,h,l,hd,hn,r⟩=>⟨a,d,vs,e1,h,l,hd,hn,RPs.at r⟩
theorem RPs.at:∀ {xs:List PV} {vs:List V},RPs E Z xs vs→RPs (E.at f z) Z xs vs
 | [],_,h=>h
 | _ :: _,_,⟨v,r,e1,h,t⟩=>⟨v,r,e1,RP.at h,RPs.at t⟩
end
mutual
theorem RP.un:∀ {x:PV} {v:V},RP (E.at f z) Z x v→RP E Z x v
 | .non,_,h=>h
 | .bl _,_,h=>h
 | .int _,_,h=>h
 | .str _,_,h=>h
 | .ty _,_,h=>h
 | .ref _,_,h=>h
 | .cl _,_,h=>h
 | .fn _,_,h=>h
 | .emp,_,h=>h
 | .scr _,_,h=>h
 | .tup _,_,⟨a,vs,e1,h,r⟩=>⟨a,vs,e1,h,RPs.un r⟩
 | .lst _,_,⟨a,vs,e1,h,r⟩=>⟨a,vs,e1,h,RPs.un r⟩
 | .dct _ _,_,⟨a,vs,e1,h,l,r⟩=>⟨a,vs,e1,h,l,RPs.un r⟩
 | .ob _ _ _,_,⟨a,dx,vs,e1,h,l,r⟩=>⟨a,dx,vs,e1,h,l,RPs.un r⟩
 | .exc _ _ _,_,⟨a,d,vs,e1,h,l,hd,hn,r⟩=>⟨a,d,vs,e1,h,l,hd,hn,RPs.un r⟩
theorem RPs.un:∀ {xs:List PV} {vs:List V},RPs (E.at f z) Z xs vs→RPs E Z xs vs
 | [],_,h=>h
 | _ :: _,_,⟨v,r,e1,h,t⟩=>⟨v,r,e1,RP.un h,RPs.un t⟩
end
theorem RO.at:∀ {o:GO} {o':HO},RO E Z o o'→RO (E.at f z) Z o o'
 | .lst _,_,⟨vs,a,b⟩=>⟨vs,a,b.at⟩
 | .ins _ _ _,_,⟨dx,vs,a,l,b⟩=>⟨dx,vs,a,l,b.at⟩
theorem RO.un:∀ {o:GO} {o':HO},RO (E.at f z) Z o o'→RO E Z o o'
 | .lst _,_,⟨vs,a,b⟩=>⟨vs,a,b.un⟩
 | .ins _ _ _,_,⟨dx,vs,a,l,b⟩=>⟨dx,vs,a,l,b.un⟩
variable {F H:Hp} {G:Gh}
theorem Sim.at (S:Sim E F H Z G):Sim (E.at F Z) F H Z G:=⟨S.z,S.f,fun a o q=>let ⟨h1,o',h2,r⟩:=S.g a o q; ⟨h1,o',h2,r.at⟩,aN.refl _,aN.refl _⟩
theorem Sim.un {F1 H1 Z1:Hp} {G1:Gh} (S:Sim E F H Z G) (S1:Sim (E.at F Z) F H1 Z1 G1):Sim E F H1 Z1 G1:=⟨S1.z,S1.f,fun a o q=>let ⟨h1,o',h2,r⟩:=S1.g a o q; ⟨h1,o',h2,r.un⟩,S.z0.trans S1.z0,S.ff⟩
end
noncomputable abbrev PX:=String→List Str→List PV→Gh→Prop
noncomputable def WkX (x:PX):PX:=fun c ns xs G=>∃ G2:Gh,(∀ a o,G2 a=some o→G a=some o)∧x c ns xs G2
def KX (E:Ev) (F Z:Hp) (x:PX) (EX:XK):Prop:= ∀ c ns xs d vs Z1 G1 H1,aN Z Z1→Sim E F H1 Z1 G1→ns.length=vs.length→RPs E Z1 xs vs→(∀ dd,d=some dd→Z1 dd=some (.xd (ns.zip vs)))→(d=none→ns=[])→x c ns xs G1→EX (.ref (E.cls c)) d H1
noncomputable abbrev PSt:=List (Option PV)
noncomputable def RSl (E:Ev) (Z:Hp):Option PV→Option V→Prop
 | none,_=>True
 | some x,o=>∃ v,o=some v∧RP E Z x v
inductive RSt (E:Ev) (Z:Hp):PSt→St→Prop
 | nil:RSt E Z [] []
 | cons {o:Option PV} {u:Option V} {σ':PSt} {σ:St}:RSl E Z o u→RSt E Z σ' σ→RSt E Z (o :: σ') (u :: σ)
section
variable {E:Ev} {Z Z':Hp}
theorem RSl.mono (e:aN Z Z'):∀ {o:Option PV} {u:Option V},RSl E Z o u→RSl E Z' o u
 | none,_,_=>trivial
 | some _,_,⟨v,a,r⟩=>⟨v,a,r.mono e⟩
theorem RSt.mono (e:aN Z Z'):∀ {σ':PSt} {σ:St},RSt E Z σ' σ→RSt E Z' σ' σ
 | _,_,.nil=>.nil
 | _,_,.cons a b=>.cons (a.mono e) (RSt.mono e b)
theorem RSt.get:∀ {σ':PSt} {σ:St} {i:Nat} {x:PV},RSt E Z σ' σ→σ'[i]? =some (some x)→∃ v,σ[i]? =some (some v)∧RP E Z x v
 | _,_,_,_,.nil,e=>by simp at e
 | _,_,0,x,.cons a _,e=>by
   simp at e; subst e
   obtain ⟨v,e1,r⟩:=a;subst e1;exact ⟨v,rfl,r⟩
 | _,_,i + 1,x,.cons _ b,e=>by
   obtain ⟨v,e1,r⟩:=RSt.get (i:=i) b (by simpa using e);exact ⟨v,by simpa using e1,r⟩
theorem RSt.set {x:PV} {v:V} (r:RP E Z x v):∀ {σ':PSt} {σ:St} (i:Nat),RSt E Z σ' σ→RSt E Z (σ'.set i (some x)) (σ.set i (some v))
 | _,_,_,.nil=>.nil
 | _,_,0,.cons _ b=>.cons ⟨v,rfl,r⟩ b
 | _,_,i + 1,.cons a b=>.cons a (RSt.set r i b)
theorem RSt.unset:∀ {σ':PSt} {σ:St} (i:Nat),RSt E Z σ' σ→RSt E Z (σ'.set i none) (σ.set i none)
 | _,_,_,.nil=>.nil
 | _,_,0,.cons _ b=>.cons trivial b
 | _,_,i + 1,.cons a b=>.cons a (RSt.unset i b)
theorem RSt.nones:∀ (n:Nat),RSt E Z (List.replicate n none) (List.replicate n none)
 | 0=>.nil
 | n + 1=>.cons trivial (RSt.nones n)
theorem RSt.append:∀ {a b:PSt} {c d:St},RSt E Z a c→RSt E Z b d→RSt E Z (a ++ b) (c ++ d)
 | _,_,_,_,.nil,h=>h
 | _,_,_,_,.cons r t,h=>.cons r (RSt.append t h)
theorem RSt.vals:∀ {xs:List PV} {vs:List V},RPs E Z xs vs→RSt E Z (xs.map some) (vs.map some)
 | [],_,h=>by cases h; exact .nil
 | _ :: _,_,⟨v,r,e,h,t⟩=>by subst e; exact .cons ⟨v,rfl,h⟩ (RSt.vals t)
theorem RSl.at {f z:Hp}:∀ {o:Option PV} {u:Option V},RSl E Z o u→RSl (E.at f z) Z o u
 | none,_,_=>trivial
 | some _,_,⟨v,a,r⟩=>⟨v,a,r.at⟩
theorem RSl.un {f z:Hp}:∀ {o:Option PV} {u:Option V},RSl (E.at f z) Z o u→RSl E Z o u
 | none,_,_=>trivial
 | some _,_,⟨v,a,r⟩=>⟨v,a,r.un⟩
theorem RSt.at {f z:Hp}:∀ {σ':PSt} {σ:St},RSt E Z σ' σ→RSt (E.at f z) Z σ' σ
 | _,_,.nil=>.nil
 | _,_,.cons a b=>.cons a.at (RSt.at b)
theorem RSt.un {f z:Hp}:∀ {σ':PSt} {σ:St},RSt (E.at f z) Z σ' σ→RSt E Z σ' σ
 | _,_,.nil=>.nil
 | _,_,.cons a b=>.cons a.un (RSt.un b)
theorem RSt.length:∀ {σ':PSt} {σ:St},RSt E Z σ' σ→σ'.length=σ.length
 | _,_,.nil=>rfl
 | _,_,.cons _ b=>by rw [List.length_cons,List.length_cons,RSt.length b]
noncomputable def aM (n:Nat) (xs:List PV):PSt:=xs.map some ++ List.replicate (n - xs.length) none
theorem RSt.start {N:List Str} {xs:List PV} {vs:List V} (r:RPs E Z xs vs):RSt E Z (aM N.length xs) (L2.start N vs):=by
 unfold aM L2.start;rw [r.length];exact RSt.append (RSt.vals r) (RSt.nones _)
end
noncomputable abbrev PK1:=PV→Gh→Prop
noncomputable abbrev PTE:=PSt→Gh→PK1→Prop
noncomputable abbrev PTT:=PSt→Gh→(Bool→Gh→Prop)→Prop
noncomputable abbrev PTA:=PSt→Gh→(List PV→Gh→Prop)→Prop
structure jH where
 nx:PSt→Gh→Prop
 rt:PK1
 bk:PSt→Gh→Prop
 ct:PSt→Gh→Prop
noncomputable abbrev PTS:=jH→PSt→Gh→Prop
def Kq (E:Ev) (F Z:Hp) (Q':PK1) (Q:VK):Prop:= ∀ x v Z1 G1 H1,aN Z Z1→Sim E F H1 Z1 G1→RP E Z1 x v→Q' x G1→Q v H1
def KA (E:Ev) (F:Hp) (n:Nat) (Z:Hp) (Q':List PV→Gh→Prop) (Q:List V→Hp→Prop):Prop:= ∀ xs vs Z1 G1 H1,xs.length=n→aN Z Z1→Sim E F H1 Z1 G1→RPs E Z1 xs vs→Q' xs G1→Q vs H1
def KT (E:Ev) (F Z:Hp) (Q':Bool→Gh→Prop) (Q:Bool→Hp→Prop):Prop:= ∀ b Z1 G1 H1,aN Z Z1→Sim E F H1 Z1 G1→Q' b G1→Q b H1
def KSt (E:Ev) (F Z:Hp) (Q':PSt→Gh→Prop) (Q:St→Hp→Prop):Prop:= ∀ σ' σ Z1 G1 H1,aN Z Z1→Sim E F H1 Z1 G1→RSt E Z1 σ' σ→Q' σ' G1→Q σ H1
structure KD (E:Ev) (F Z:Hp) (D':jH) (D:uR):Prop where
 nx:KSt E F Z D'.nx D.nx
 rt:Kq E F Z D'.rt D.rt
 bk:KSt E F Z D'.bk D.bk
 ct:KSt E F Z D'.ct D.ct
theorem Kq.mono {E:Ev} {F Z Z2:Hp} {Q':PK1} {Q:VK} (e:aN Z Z2) (k:Kq E F Z Q' Q):Kq E F Z2 Q' Q:=fun x v Z1 G1 H1 s=>k x v Z1 G1 H1 (e.trans s)
theorem KT.mono {E:Ev} {F Z Z2:Hp} {Q':Bool→Gh→Prop} {Q:Bool→Hp→Prop} (e:aN Z Z2) (k:KT E F Z Q' Q):KT E F Z2 Q' Q:=fun x Z1 G1 H1 s=>k x Z1 G1 H1 (e.trans s)
theorem KSt.mono {E:Ev} {F Z Z2:Hp} {Q':PSt→Gh→Prop} {Q:St→Hp→Prop} (e:aN Z Z2) (k:KSt E F Z Q' Q):KSt E F Z2 Q' Q:=fun x v Z1 G1 H1 s=>k x v Z1 G1 H1 (e.trans s)
theorem KD.mono {E:Ev} {F Z Z2:Hp} {D':jH} {D:uR} (e:aN Z Z2) (k:KD E F Z D' D):KD E F Z2 D' D:=⟨k.nx.mono e,k.rt.mono e,k.bk.mono e,k.ct.mono e⟩
def low (E:Ev) (F:Hp) (t:PTE):TE:=fun σ H Q=>∃ σ' Z G Q',RSt E Z σ' σ∧Sim E F H Z G∧t σ' G Q'∧Kq E F Z Q' Q
def xZ (E:Ev) (F:Hp) (t:PTT):TT:=fun σ H Q=>∃ σ' Z G Q',RSt E Z σ' σ∧Sim E F H Z G∧t σ' G Q'∧KT E F Z Q' Q
def vX (E:Ev) (F:Hp) (n:Nat) (t:PTA):TA:=fun σ H Q=>∃ σ' Z G Q',RSt E Z σ' σ∧Sim E F H Z G∧t σ' G Q'∧KA E F n Z Q' Q
def aD8 (E:Ev) (F:Hp) (t:PTS):TS:=fun D σ H=>∃ σ' Z G D',RSt E Z σ' σ∧Sim E F H Z G∧t D' σ' G∧KD E F Z D' D
noncomputable def bQ (G:Gh):PV→Option (List PV)
 | .lst xs=>some xs
 | .ref a=>match G a with
   | some (.lst xs)=>some xs
   | _=>none
 | _=>none
section
variable {E:Ev} {F H Z:Hp} {G:Gh} {x:PV} {v:V} {xs:List PV}
theorem dB (S:Sim E F H Z G) (r:RP E Z x v) (h:bQ G x=some xs):∃ a vs,v= .ref a∧H a=some (.lst vs)∧RPs E Z xs vs:=by
 cases x with
 | lst ys =>
   cases h;obtain ⟨a,vs,e,q,t⟩:=r;exact ⟨a,vs,e,S.z _ _ q,t⟩
 | ref a =>
   have e:v= .ref a:=r;subst e;unfold bQ at h;dsimp only at h;split at h
   · rename_i ys e;cases h;obtain ⟨_,o',q,vs,e',t⟩:=S.g _ _ e;subst e';exact ⟨a,vs,rfl,q,t⟩
   · cases h
 | _=>cases h
theorem eE (S:Sim E F H Z G) (r:RP E Z (.tup xs) v):∃ a vs,v= .ref a∧SqT E.K H a vs∧RPs E Z xs vs:=by
 obtain ⟨a,vs,e,q,t⟩:=r;exact ⟨a,vs,e,cR S.z q,t⟩
theorem Kq.here {Q':PK1} {Q:VK} (k:Kq E F Z Q' Q) (S:Sim E F H Z G) (q:Q' x G) (r:RP E Z x v):Q v H:=k x v Z G H (aN.refl Z) S r q
theorem bM {i:Int}:RP E Z (.int i) (.int i):=rfl
theorem iC {i:Str}:RP E Z (.str i) (.str i):=rfl
theorem bO {i:Bool}:RP E Z (.bl i) (.bl i):=rfl
theorem oE:RP E Z .non .non:=rfl
theorem Kq.newZ {Q':PK1} {Q:VK} {p:Addr} {o:HO} (k:Kq E F Z Q' Q) (S:Sim E F H Z G) (n:H p=none) (r:RP E (upd Z p o) x (.ref p)) (q:Q' x G):Q (.ref p) (upd H p o) :=
 k x (.ref p) (upd Z p o) G _ (aW (S.zn n) o) (S.fz n) r q
theorem kG {vs:List V} {p:Addr} (n:Z p=none) (r:RPs E Z xs vs):RP E (upd Z p (.tup vs)) (.tup xs) (.ref p):=⟨p,vs,rfl,SqT.of aI,r.mono (aW n _)⟩
theorem fH {vs:List V} {p:Addr} (n:Z p=none) (r:RPs E Z xs vs):RP E (upd Z p (.lst vs)) (.lst xs) (.ref p):=⟨p,vs,rfl,aI,r.mono (aW n _)⟩
end
noncomputable abbrev P2:=PV→PV→Gh→PK1→Prop
def dS (E:Ev) (F:Hp) (p:P2):R2:=fun v u H Q=>∃ x y Z G Q',RP E Z x v∧RP E Z y u∧Sim E F H Z G∧p x y G Q'∧Kq E F Z Q' Q
def pI (C:Int→Int→Prop) (g:Int→Int→PV):P2:=fun x y G Q=>match x,y with
 | .int i,.int j=>C i j∧Q (g i j) G
 | _,_=>False
theorem iA {E:Ev} {F:Hp} {C:Int→Int→Prop} {g:Int→Int→V} {g':Int→Int→PV} (hg:∀ Z i j,RP E Z (g' i j) (g i j)) {v u:V} {H:Hp} {Q:VK} (h:dS E F (pI C g') v u H Q):rI C g v u H Q:=by
 obtain ⟨x,y,Z,G,Q',r1,r2,S,q,k⟩:=h;unfold pI at q;split at q
 · obtain ⟨c,q⟩:=q;exact ⟨_,_,r1,r2,c,k.here S q (hg _ _ _)⟩
 · exact q.elim
def zZ (x y:PV) (G:Gh) (Q:PK1):Prop:=match x,y with
 | .int i,.int j=>Q (.int (i + j)) G
 | .str i,.str j=>i.length + j.length≤sizeLine∧Q (.str (i ++ j)) G
 | .tup xs,.tup ys=>xs.length + ys.length≤sizeLine∧Q (.tup (xs ++ ys)) G
 | x,y=>∃ xs ys,bQ G x=some xs∧bQ G y=some ys∧xs.length + ys.length≤sizeLine∧Q (.lst (xs ++ ys)) G
theorem ZK {E:Ev} {x y:PV} {xs ys:List PV} {v u:V} {F H Z:Hp} {G:Gh} {Q':PK1} {Q:VK} (r1:RP E Z x v) (r2:RP E Z y u) (S:Sim E F H Z G) (hx:bQ G x=some xs) (hy:bQ G y=some ys) (hz:xs.length + ys.length≤sizeLine) (q:Q' (.lst (xs ++ ys)) G) (k:Kq E F Z Q' Q):aIy v u H Q:=by
 obtain ⟨a,vs,rfl,ha,ta⟩:=dB S r1 hx;obtain ⟨b,us,rfl,hb,tb⟩:=dB S r2 hy;exact ⟨a,b,vs,us,rfl,rfl,ha,hb,by rw [←ta.length,←tb.length]; exact hz,fun p n=>k.newZ S n (fH (S.zn n) (ta.append tb)) q⟩
def aEf (K:W.Frag):R2:=fun x y H Q=>∃ a b ys,x= .ref a∧y= .ref b∧SqT K H a []∧SqT K H b ys∧Q (.ref b) H
theorem SU {X:Cx}:OpR X (binaryOp .Add) (aEf X.K):=by
 intro pins s σ H x y v u Q I rx ry h;obtain ⟨a,b,ys,rfl,rfl,ha,hb,q⟩:=h;cases rx;cases ry;obtain ⟨its,r1,p1,_⟩:=I.tuple ha;obtain ⟨its2,r2,p2,_⟩:=I.tuple hb;obtain ⟨⟨cls,dd,data,sl⟩,ho,hc,n,hd⟩:=id p1;obtain ⟨⟨cls2,dd2,data2,sl2⟩,ho2,hc2,n2,hd2⟩:=id p2;simp only at hc hd hc2 hd2;subst hc hd hc2 hd2;cases r1;exact concat_meets ⟨_,ho,rfl⟩ ⟨_,ho2,rfl⟩ noFill_tuple_add seq_tuple_add PySem.F.slot_tuple_add PySem.F.entry_tuple_add (PySem.F.args_tuple_add_2 _ _)
   (tuple_addW0 a b #[] its2.toArray n n2 dd dd2 sl sl2 rfl) ⟨ho,ho2,⟨.ref b,H,I,rfl,q⟩⟩
section
variable {X:Cx} {E:Ev} {F:Hp}
theorem XX (hK:E.K=X.K):OpR X (binaryOp .Add) (dS E F zZ):=by
 refine (aEa.or (EI.or ((WI.or SU).or aB4))).imp fun v u H Q h=>?_;obtain ⟨x,y,Z,G,Q',r1,r2,S,q,k⟩:=h;unfold zZ at q;split at q
 · exact .inl ⟨_,_,r1,r2,k.here S q bM⟩
 · exact .inr (.inl ⟨_,_,r1,r2,q.1,k.here S q.2 iC⟩)
 · rename_i xs ys;have r1':=r1;have r2':=r2;obtain ⟨a,vs,rfl,ha,ta⟩:=eE S r1;obtain ⟨b,us,rfl,hb,tb⟩:=eE S r2;obtain ⟨hz,q⟩:=q;by_cases ev:vs=[]
   · subst ev;have ex:xs=[]:=List.eq_nil_of_length_eq_zero ta.length;subst ex;exact .inr (.inr (.inl (.inr ⟨a,b,us,rfl,rfl,hK▸ha,hK▸hb,k.here S q r2'⟩)))
   · refine .inr (.inr (.inl (.inl ⟨a,b,vs,us,rfl,rfl,hK▸ha,hK▸hb,ev,by rw [←ta.length,←tb.length]; exact hz,fun e=>?_,fun _ p n=>k.newZ S n (kG (S.zn n) (ta.append tb)) q⟩)));subst e;have ey:ys=[]:=List.eq_nil_of_length_eq_zero tb.length;subst ey;rw [List.append_nil] at q;exact k.here S q r1'
 · obtain ⟨xs,ys,hx,hy,hz,q⟩:=q;exact .inr (.inr (.inr (ZK r1 r2 S hx hy hz q k)))
def aBw (_ j:Int):Prop:=0 < j
def aE6 (x y:PV) (G:Gh) (Q:PK1):Prop:=match x,y with
 | .int i,.int j=>AS i j∧Q (.int (i * j)) G
 | _,_=>False
noncomputable def AM:Operator→P2
 | .Add=>zZ
 | .Sub=>pI (fun _ _=>True) fun i j=>.int (i - j)
 | .Mult=>aE6
 | .FloorDiv=>pI xC fun i j=>.int (i / j)
 | .Mod=>pI aBw fun i j=>.int (i % j)
 | .Pow=>pI RV fun i j=>.int (i ^ j.toNat)
 | .LShift=>pI RV fun i j=>.int (i * 2 ^ j.toNat)
 | _=>fun _ _ _ _=>False
theorem uB {g:Int→Int→V} {v u:V} {H:Hp} {Q:VK} (h:rI (fun _ _=>True) g v u H Q):rI0 g v u H Q:=by
 obtain ⟨i,j,a,b,_,q⟩:=h;exact ⟨i,j,a,b,q⟩
theorem XF (hK:E.K=X.K):∀ (op:Operator),OpR X (binaryOp op) (dS E F (AM op))
 | .Add=>XX hK
 | .Sub=>aCt.imp fun _ _ _ _ h=>uB (iA (fun _ _ _=>bM) h)
 | .Mult=>aAl.imp fun v u H Q h=>by
   obtain ⟨x,y,Z,G,Q',r1,r2,S,q,k⟩:=h
   replace q:aE6 x y G Q':=q
   unfold aE6 at q;split at q
   · exact ⟨_,_,r1,r2,q.1,k.here S q.2 bM⟩
   · exact q.elim
 | .FloorDiv=>PZ.imp fun _ _ _ _ h=>iA (fun _ _ _=>bM) h
 | .Mod=>aDf.imp fun _ _ _ _ h=>iA (fun _ _ _=>bM) h
 | .Pow=>aCJ.imp fun _ _ _ _ h=>iA (fun _ _ _=>bM) h
 | .LShift=>aB9.imp fun _ _ _ _ h=>iA (fun _ _ _=>bM) h
 | .Div=>fun _ _ _ _ _ _ _ _ _ _ _ _ h=>(by obtain ⟨_,_,_,_,_,_,_,_,q,_⟩:=h; exact q.elim)
 | .RShift=>fun _ _ _ _ _ _ _ _ _ _ _ _ h=>(by obtain ⟨_,_,_,_,_,_,_,_,q,_⟩:=h; exact q.elim)
 | .BitOr=>fun _ _ _ _ _ _ _ _ _ _ _ _ h=>(by obtain ⟨_,_,_,_,_,_,_,_,q,_⟩:=h; exact q.elim)
 | .BitXor=>fun _ _ _ _ _ _ _ _ _ _ _ _ h=>(by obtain ⟨_,_,_,_,_,_,_,_,q,_⟩:=h; exact q.elim)
 | .BitAnd=>fun _ _ _ _ _ _ _ _ _ _ _ _ h=>(by obtain ⟨_,_,_,_,_,_,_,_,q,_⟩:=h; exact q.elim)
 | .MatMult=>fun _ _ _ _ _ _ _ _ _ _ _ _ h=>(by obtain ⟨_,_,_,_,_,_,_,_,q,_⟩:=h; exact q.elim)
end
mutual
noncomputable def peq:PV→PV→Bool
 | .non,y=>match y with | .non=>true | _=>false
 | .bl a,y=>match y with | .bl b=>a == b | .int j=>(if a then 1 else 0) == j | _=>false
 | .int i,y=>match y with | .int j=>i == j | .bl b=>i == (if b then 1 else 0) | _=>false
 | .str a,y=>match y with | .str b=>a == b | _=>false
 | .tup xs,y=>match y with | .tup ys=>mB xs ys | _=>false
 | .lst xs,y=>match y with | .lst ys=>mB xs ys | _=>false
 | _,_=>false
noncomputable def mB:List PV→List PV→Bool
 | [],ys=>match ys with | []=>true | _=>false
 | x :: xs,ys=>match ys with | y :: r=>peq x y && mB xs r | []=>false
end
mutual
noncomputable def dat:PV→Option PyData
 | .non=>some .none
 | .bl b=>some (.bool b)
 | .int i=>some (.int i)
 | .str x=>some (.str x)
 | .tup xs=>match lV xs with | some ds=>some (.tuple ds) | none=>none
 | .lst xs=>match lV xs with | some ds=>some (.list ds) | none=>none
 | _=>none
noncomputable def lV:List PV→Option (List PyData)
 | []=>some []
 | x :: xs=>match dat x,lV xs with | some d,some ds=>some (d :: ds) | _,_=>none
end
mutual
theorem EN:∀ {x y:PV} {d e:PyData},dat x=some d→dat y=some e→PyData.eqv d e=peq x y
 | .non,y,d,e,h,q=>by
   simp only [dat] at h; cases h;cases y <;> simp only [dat] at q <;> (try split at q) <;> cases q <;> simp only [PyData.eqv,peq]
 | .bl _,y,d,e,h,q=>by
   simp only [dat] at h; cases h;cases y <;> simp only [dat] at q <;> (try split at q) <;> cases q <;> simp only [PyData.eqv,peq]
 | .int _,y,d,e,h,q=>by
   simp only [dat] at h; cases h;cases y <;> simp only [dat] at q <;> (try split at q) <;> cases q <;> simp only [PyData.eqv,peq]
 | .str _,y,d,e,h,q=>by
   simp only [dat] at h; cases h;cases y <;> simp only [dat] at q <;> (try split at q) <;> cases q <;> simp only [PyData.eqv,peq]
 | .tup xs,y,d,e,h,q=>by
   simp only [dat] at h;split at h
   · rename_i ds hd;cases h;cases y with
     | tup ys =>
       simp only [dat] at q;split at q
       · rename_i es he;cases q;simp only [PyData.eqv,peq]; exact peqs_ok hd he
       · cases q
     | _=>simp only [dat] at q <;> (try split at q) <;> cases q <;> simp only [PyData.eqv,peq]
   · cases h
 | .lst xs,y,d,e,h,q=>by
   simp only [dat] at h;split at h
   · rename_i ds hd;cases h;cases y with
     | lst ys =>
       simp only [dat] at q;split at q
       · rename_i es he;cases q;simp only [PyData.eqv,peq]; exact peqs_ok hd he
       · cases q
     | _=>simp only [dat] at q <;> (try split at q) <;> cases q <;> simp only [PyData.eqv,peq]
   · cases h
 | .scr _,y,d,e,h,q=>by simp [dat] at h
 | .ob _ _ _,y,d,e,h,q=>by simp [dat] at h
 | .ref _,y,d,e,h,q=>by simp [dat] at h
 | .ty _,y,d,e,h,q=>by simp [dat] at h
 | .cl _,y,d,e,h,q=>by simp [dat] at h
 | .fn _,y,d,e,h,q=>by simp [dat] at h
 | .emp,y,d,e,h,q=>by simp [dat] at h
 | .dct _ _,y,d,e,h,q=>by simp [dat] at h
 | .exc _ _ _,y,d,e,h,q=>by simp [dat] at h
theorem peqs_ok:∀ {xs ys:List PV} {ds es:List PyData},lV xs=some ds→lV ys=some es→PyData.eqvAll ds es=mB xs ys
 | [],[],_,_,h,q=>by simp only [lV] at h q; cases h; cases q; simp only [PyData.eqvAll,mB]
 | [],y :: ys,_,_,h,q=>by
   simp only [lV] at h q; cases h;split at q <;> cases q
   simp only [PyData.eqvAll,mB]
 | x :: xs,[],_,_,h,q=>by
   simp only [lV] at h q; cases q;split at h <;> cases h
   simp only [PyData.eqvAll,mB]
 | x :: xs,y :: ys,_,_,h,q=>by
   simp only [lV] at h q;split at h <;> cases h
   rename_i hd hds;split at q <;> cases q
   rename_i he hes;simp only [PyData.eqvAll,mB];rw [EN hd he,peqs_ok hds hes]
end
section
variable {X:Cx} {E:Ev} {pins:List (Addr×Obj)} {σ:L2.St} {F H Z:Hp} {s:Shared}
mutual
theorem wW (I:Inv X pins σ H s) (hK:E.K=X.K) (hz:aN Z H):∀ {x:PV} {v:V} {u:Value} {d:PyData},RP E Z x v→aQ v u→dat x=some d→∃ as,Reads s.heap u d as
 | .non,v,u,d,r,rv,h=>by
   simp only [dat] at h; cases h;cases (show v= .non from r); cases rv; exact ⟨[],.none⟩
 | .bl b,v,u,d,r,rv,h=>by
   simp only [dat] at h; cases h;cases (show v= .bl b from r); cases rv; exact ⟨[],.bool b⟩
 | .int i,v,u,d,r,rv,h=>by
   simp only [dat] at h; cases h;cases (show v= .int i from r); obtain ⟨t,rfl⟩:=rv; exact ⟨[],.int i t⟩
 | .str x,v,u,d,r,rv,h=>by
   simp only [dat] at h; cases h;cases (show v= .str x from r); obtain ⟨t,rfl⟩:=rv; exact ⟨[],.str x t⟩
 | .tup xs,v,u,d,r,rv,h=>by
   simp only [dat] at h;split at h <;> cases h
   rename_i ds hd;obtain ⟨a,vs,rfl,q,t⟩:=r;cases rv;obtain ⟨its,rv,ht,_⟩:=I.tuple (hK▸cR hz q);obtain ⟨o,ho,hc,n,hd'⟩:=ht;obtain ⟨as,q'⟩:=dats_reads I hK hz t rv hd;exact ⟨as,.tuple ho hc hd' (by simpa using q')⟩
 | .lst xs,v,u,d,r,rv,h=>by
   simp only [dat] at h;split at h <;> cases h
   rename_i ds hd;obtain ⟨a,vs,rfl,q,t⟩:=r;cases rv;obtain ⟨_,its,n,rv,ho⟩:=I.hok _ _ (hz _ _ q);obtain ⟨as,q'⟩:=dats_reads I hK hz t rv hd;exact ⟨_ :: as,.list ho rfl rfl (by simpa using q')⟩
 | .scr _,v,u,d,r,rv,h=>by simp [dat] at h
 | .ob _ _ _,v,u,d,r,rv,h=>by simp [dat] at h
 | .ref _,v,u,d,r,rv,h=>by simp [dat] at h
 | .ty _,v,u,d,r,rv,h=>by simp [dat] at h
 | .cl _,v,u,d,r,rv,h=>by simp [dat] at h
 | .fn _,v,u,d,r,rv,h=>by simp [dat] at h
 | .emp,v,u,d,r,rv,h=>by simp [dat] at h
 | .dct _ _,v,u,d,r,rv,h=>by simp [dat] at h
 | .exc _ _ _,v,u,d,r,rv,h=>by simp [dat] at h
theorem dats_reads (I:Inv X pins σ H s) (hK:E.K=X.K) (hz:aN Z H):∀ {xs:List PV} {vs:List V} {us:List Value} {ds:List PyData},RPs E Z xs vs→aO vs us→lV xs=some ds→∃ as,ReadsAll s.heap us ds as
 | [],_,_,_,r,rv,h=>by
   simp only [lV] at h; cases h;cases r; cases rv; exact ⟨[],.nil⟩
 | x :: xs,_,_,_,r,rv,h=>by
   simp only [lV] at h;split at h <;> cases h
   rename_i hd hds;obtain ⟨v,r',rfl,r1,r2⟩:=r;cases rv with
   | cons q1 q2 =>
     obtain ⟨as,a⟩:=wW I hK hz r1 q1 hd;obtain ⟨bs,b⟩:=dats_reads I hK hz r2 q2 hds;exact ⟨as ++ bs,.cons a b⟩
end
mutual
noncomputable def dte:PV→Option PyData
 | .non=>some .none
 | .bl b=>some (.bool b)
 | .int i=>some (.int i)
 | .str x=>some (.str x)
 | .tup xs=>match QY xs with | some ds=>some (.tuple ds) | none=>none
 | .emp=>some (.dict [])
 | _=>none
noncomputable def QY:List PV→Option (List PyData)
 | []=>some []
 | x :: xs=>match dte x,QY xs with | some d,some ds=>some (d :: ds) | _,_=>none
end
mutual
theorem MD (I:Inv X pins σ H s) (hK:E.K=X.K) (hz:aN Z H):∀ {x:PV} {v:V} {u:Value} {d:PyData},RP E Z x v→aQ v u→dte x=some d→∃ as,Reads s.heap u d as∧sysModules∉ as
 | .non,v,u,d,r,rv,h=>by
   simp only [dte] at h; cases h;cases (show v= .non from r); cases rv; exact ⟨[],.none,by simp⟩
 | .bl b,v,u,d,r,rv,h=>by
   simp only [dte] at h; cases h;cases (show v= .bl b from r); cases rv; exact ⟨[],.bool b,by simp⟩
 | .int i,v,u,d,r,rv,h=>by
   simp only [dte] at h; cases h;cases (show v= .int i from r); obtain ⟨t,rfl⟩:=rv; exact ⟨[],.int i t,by simp⟩
 | .str x,v,u,d,r,rv,h=>by
   simp only [dte] at h; cases h;cases (show v= .str x from r); obtain ⟨t,rfl⟩:=rv; exact ⟨[],.str x t,by simp⟩
 | .tup xs,v,u,d,r,rv,h=>by
   simp only [dte] at h;split at h <;> cases h
   rename_i ds hd;obtain ⟨a,vs,rfl,q,t⟩:=r;cases rv;obtain ⟨its,rv,ht,_⟩:=I.tuple (hK▸cR hz q);obtain ⟨o,ho,hc,n,hd'⟩:=ht;obtain ⟨as,q',na⟩:=dtes_reads I hK hz t rv hd;exact ⟨as,.tuple ho hc hd' (by simpa using q'),na⟩
 | .emp,v,u,d,r,rv,h=>by
   simp only [dte] at h; cases h;obtain ⟨a,rfl,q⟩:=r;cases rv;obtain ⟨_,hs,vs,rel,o,es,ep,ho,⟨hc,hd⟩,hl⟩:=I.hok _ _ (hz _ _ q);have ev:vs=[]:=by cases vs with
     | nil=>rfl
     | cons _ _=>cases rel
   subst ev;obtain ⟨hd1,_,hp,_⟩:=hl;have ee:es.toList=[]:=by cases hh:es.toList with
     | nil=>rfl
     | cons _ _=>rw [hh] at hp; cases hp
   exact ⟨a :: [] ++ [],.dict ho hc hd1 (kvs:=[]) (by rw [ee]; exact .nil) (by rw [ee]; exact .nil),by
     simp only [List.append_nil,List.mem_singleton];intro z; subst z; rw [beq_self_eq_true] at hs; cases hs⟩
 | .lst _,v,u,d,r,rv,h=>by simp [dte] at h
 | .scr _,v,u,d,r,rv,h=>by simp [dte] at h
 | .ob _ _ _,v,u,d,r,rv,h=>by simp [dte] at h
 | .ref _,v,u,d,r,rv,h=>by simp [dte] at h
 | .ty _,v,u,d,r,rv,h=>by simp [dte] at h
 | .cl _,v,u,d,r,rv,h=>by simp [dte] at h
 | .fn _,v,u,d,r,rv,h=>by simp [dte] at h
 | .dct _ _,v,u,d,r,rv,h=>by simp [dte] at h
 | .exc _ _ _,v,u,d,r,rv,h=>by simp [dte] at h
theorem dtes_reads (I:Inv X pins σ H s) (hK:E.K=X.K) (hz:aN Z H):∀ {xs:List PV} {vs:List V} {us:List Value} {ds:List PyData},RPs E Z xs vs→aO vs us→QY xs=some ds→∃ as,ReadsAll s.heap us ds as∧sysModules∉ as
 | [],_,_,_,r,rv,h=>by
   simp only [QY] at h; cases h;cases r; cases rv; exact ⟨[],.nil,by simp⟩
 | x :: xs,_,_,_,r,rv,h=>by
   simp only [QY] at h;split at h <;> cases h
   rename_i hd hds;obtain ⟨v,r',rfl,r1,r2⟩:=r;cases rv with
   | cons q1 q2 =>
     obtain ⟨as,a,na⟩:=MD I hK hz r1 q1 hd;obtain ⟨bs,b,nb⟩:=dtes_reads I hK hz r2 q2 hds;exact ⟨as ++ bs,.cons a b,fun z=>(List.mem_append.mp z).elim na nb⟩
end
noncomputable def pur (G:Gh):PV→PV
 | .ref a=>match G a with
   | some (.lst xs)=>.lst xs
   | _=>.ref a
 | x=>x
noncomputable def shp (x:PV):Bool:=match dat x with | some d=>SeqAt.shaped d | none=>false
theorem kF {G:Gh} (I:Inv X pins σ H s) (hK:E.K=X.K) (S:Sim E F H Z G) {x:PV} {v:V} {u:Value} {d:PyData} (r:RP E Z x v) (rv:aQ v u) (h:dat (pur G x)=some d):∃ as,Reads s.heap u d as:=by
 by_cases hx:∃ a,x= .ref a
 · obtain ⟨a,rfl⟩:=hx;have e:v= .ref a:=r;subst e;cases rv;unfold pur at h;dsimp only at h;split at h
   · rename_i xs e;obtain ⟨_,o',q,vs,e',t⟩:=S.g _ _ e;subst e';simp only [dat] at h;split at h <;> cases h
     rename_i ds hd;obtain ⟨_,its,n,rv,ho⟩:=I.hok _ _ q;obtain ⟨as,q'⟩:=dats_reads I hK S.z t rv hd;exact ⟨_ :: as,.list ho rfl rfl (by simpa using q')⟩
   · simp [dat] at h
 · have e:pur G x=x:=by
     unfold pur;split
     · rename_i a; exact absurd ⟨a,rfl⟩ hx
     · rfl
   rw [e] at h;exact wW I hK S.z r rv h
def pEq (neg:Bool) (x y:PV) (G:Gh) (Q:PK1):Prop:=shp (pur G x)=true∧shp (pur G y)=true∧Q (.bl (if neg then !peq (pur G x) (pur G y) else peq (pur G x) (pur G y))) G
theorem yT {x:PV} (h:shp x=true):∃ d,dat x=some d∧SeqAt.shaped d=true:=by
 unfold shp at h;split at h
 · rename_i d e; exact ⟨d,e,h⟩
 · cases h
theorem UE {k:Nat} (hr:aU k X.A) (hK:E.K=X.K):OpR X (compareOp .Eq) (dS E F (pEq false)):=by
 rintro pins s σ H v w u u' Q I rx ry ⟨x,y,Z,G,Q',r1,r2,S,⟨hx,hy,q⟩,kq⟩;obtain ⟨d,e1,a1⟩:=yT hx;obtain ⟨e,e2,a2⟩:=yT hy;obtain ⟨as,q1⟩:=kF I hK S r1 rx e1;obtain ⟨bs,q2⟩:=kF I hK S r2 ry e2;refine eq_dataH q1 q2 a1 a2 hr.units ⟨.bl _,H,I,rfl, ?_⟩;rw [EN e1 e2];exact kq.here S q bO
theorem TK {k:Nat} (hr:aU k X.A) (hK:E.K=X.K):OpR X (compareOp .NotEq) (dS E F (pEq true)):=by
 rintro pins s σ H v w u u' Q I rx ry ⟨x,y,Z,G,Q',r1,r2,S,⟨hx,hy,q⟩,kq⟩;obtain ⟨d,e1,a1⟩:=yT hx;obtain ⟨e,e2,a2⟩:=yT hy;obtain ⟨as,q1⟩:=kF I hK S r1 rx e1;obtain ⟨bs,q2⟩:=kF I hK S r2 ry e2;refine ne_dataH q1 q2 a1 a2 hr.units ⟨.bl _,H,I,rfl, ?_⟩;rw [EN e1 e2];exact kq.here S q bO
end
section
variable {E:Ev} {F H Z:Hp} {G:Gh} {X:Cx}
theorem US {xs:List PV} {vs:List V} {i:Int} {x:PV} (r:RPs E Z xs vs) (h:atI xs i=some x):∃ v,atI vs i=some v∧RP E Z x v:=by
 unfold atI at *;rw [←r.length];cases e:ixN xs.length i with
 | none=>rw [e] at h; cases h
 | some j=>rw [e] at h; exact r.get h
noncomputable def xK:List Key→List PV→Key→Option PV
 | j :: ks,x :: xs,k=>if j=k then some x else xK ks xs k
 | _,_,_=>none
def oQ (x y:PV) (G:Gh) (Q:PK1):Prop:=match x,y with
 | .tup xs,.int i=>∃ v,atI xs i=some v∧Q v G
 | .scr ns,.int i=>∃ n,atI ns i=some n∧Q (.int n) G
 | .str z,.int i=>z.length≤sizeLine∧∃ c,atI z.cps.toList i=some c∧Q (.str ⟨#[c]⟩) G
 | .dct ks xs,.int i=>∃ v,xK ks xs (.inl i)=some v∧Q v G
 | .dct ks xs,.str z=>∃ v,xK ks xs (.inr z)=some v∧Q v G
 | x,.int i=>∃ xs v,bQ G x=some xs∧atI xs i=some v∧Q v G
 | _,_=>False
theorem sH {k:Key} {x:PV}:∀ {ks:List Key} {xs:List PV} {vs:List V},RPs E Z xs vs→xK ks xs k=some x→∃ v,valV (ks.zip vs) k=some v∧RP E Z x v
 | [],_,_,_,h=>by cases h
 | _ :: _,[],_,_,h=>by cases h
 | j :: ks,y :: ys,_,⟨v,r,e,r1,r2⟩,h=>by
   subst e;unfold xK at h;rw [List.zip_cons_cons];split at h
   · rename_i ej; cases h; exact ⟨v,sD ej,r1⟩
   · rename_i ej;rw [uN ej];exact sH (ks:=ks) r2 h
theorem ZR {α β:Type} {f:α→β} {xs:List α} {i:Int} {x:α} (h:atI xs i=some x):atI (xs.map f) i=some (f x):=by
 unfold atI at *;rw [List.length_map];cases e:ixN xs.length i with
 | none=>rw [e] at h; cases h
 | some j =>
   rw [e] at h;have h':xs[j]? =some x:=h;show (xs.map f)[j]? =some (f x);rw [List.getElem?_map,h']; rfl
theorem aE7 {k:Nat} (hr:aU k X.A) (hK:E.K=X.K):IxR X (dS E F oQ):=by
 refine (aB0.or (ZP hr)).imp fun v u H Q h=>?_;obtain ⟨x,y,Z,G,Q',r1,r2,S,q,k⟩:=h;unfold oQ at q;split at q
 · obtain ⟨y,e,q⟩:=q;obtain ⟨a,vs,rfl,ha,ta⟩:=eE S r1;obtain ⟨w,e',rw'⟩:=US ta e;exact .inl (.inr (.inl ⟨a,vs,_,w,rfl,r2,hK▸ha,e',k.here S q rw'⟩))
 · obtain ⟨n,e,q⟩:=q;obtain ⟨a,rfl,ha⟩:=r1;exact .inl (.inl ⟨a,_,_,_,rfl,r2,hK▸S.z.seq ha,ZR e,k.here S q bM⟩)
 · obtain ⟨hz,c,e,q⟩:=q;exact .inl (.inr (.inr ⟨_,_,c,r1,r2,hz,e,k.here S q iC⟩))
 · obtain ⟨y,e,q⟩:=q;obtain ⟨a,vs,rfl,ha,_,ta⟩:=r1;obtain ⟨w,e',rw'⟩:=sH ta e;have r2:u=kV (.inl _):=r2;rw [r2];refine .inr ⟨a,w,rfl, ?_,k.here S q rw'⟩;rw [←e']; exact .k (S.z _ _ ha)
 · obtain ⟨y,e,q⟩:=q;obtain ⟨a,vs,rfl,ha,_,ta⟩:=r1;obtain ⟨w,e',rw'⟩:=sH ta e;have r2:u=kV (.inr _):=r2;rw [r2];refine .inr ⟨a,w,rfl, ?_,k.here S q rw'⟩;rw [←e']; exact .k (S.z _ _ ha)
 · obtain ⟨xs,y,e0,e,q⟩:=q;obtain ⟨a,vs,rfl,ha,ta⟩:=dB S r1 e0;obtain ⟨w,e',rw'⟩:=US ta e;exact .inl (.inl ⟨a,vs,_,w,rfl,r2,SqL.of ha,e',k.here S q rw'⟩)
 · exact q.elim
def WY (o i v:PV) (G:Gh) (Q:Gh→Prop):Prop:= ∃ a xs k j,o= .ref a∧i= .int k∧G a=some (.lst xs)∧ixN xs.length k=some j∧Q (gup G a (.lst (xs.set j v)))
noncomputable def aD6 (E:Ev) (F:Hp) (p:PV→PV→PV→Gh→(Gh→Prop)→Prop):aAT:=fun o i v H Q=>∃ o' i' v' Z G Q',RP E Z o' o∧RP E Z i' i∧RP E Z v' v∧Sim E F H Z G∧p o' i' v' G Q'∧∀ G1 H1,Sim E F H1 Z G1→Q' G1→Q H1
theorem XV:aBV X (aD6 E F WY):=by
 rintro pins s σ H o i v ov iv u Q I ro ri rv ⟨o',i',v',Z,G,Q',r1,r2,r3,S,⟨a,xs,k,j,e1,e2,hG,ix,q⟩,kq⟩;subst e1 e2;have e1:o= .ref a:=r1;have e2:i= .int k:=r2;subst e1 e2;obtain ⟨_,o',hH,vs,e,t⟩:=S.g _ _ hG;subst e;exact VP pins s σ H (.ref a) (.int k) v ov iv u Q I ro ri rv ⟨a,vs,k,j,rfl,rfl,hH,by rw [←t.length]; exact ix,kq _ _ (S.set (go:=.lst (xs.set j v')) hG ⟨_,rfl,t.set r3 j⟩) q⟩
noncomputable def rH (xs:List PV) (lo hi:Option Int):List PV:=(xs.drop (HT.sIx xs.length 0 lo)).take (HT.sIx xs.length xs.length hi - HT.sIx xs.length 0 lo)
theorem FJ {xs:List PV} {vs:List V} {lo hi:Option Int} (r:RPs E Z xs vs):RPs E Z (rH xs lo hi) (CG vs lo hi):=by
 unfold rH CG;rw [r.length];exact (r.drop _).take _
def TY (x:PV) (lo hi:Option Int) (G:Gh) (Q:PK1):Prop:=match x with
 | .tup xs=>Q (.tup (rH xs lo hi)) G
 | .scr ns=>Q (.lst (rH (ns.map .int) lo hi)) G
 | x=>∃ xs,bQ G x=some xs∧Q (.lst (rH xs lo hi)) G
noncomputable def aG7 (E:Ev) (F:Hp) (p:PV→Option Int→Option Int→Gh→PK1→Prop):V→Option Int→Option Int→Hp→VK→Prop:=fun v lo hi H Q=>∃ x Z G Q',RP E Z x v∧Sim E F H Z G∧p x lo hi G Q'∧Kq E F Z Q' Q
theorem SlR.imp {r r':V→Option Int→Option Int→Hp→VK→Prop} (h:SlR X r) (f:∀ x l u H Q,r' x l u H Q→r x l u H Q):SlR X r':=fun pins s σ H x v vl vu lo hi sl Q I rx hs pl pu q=>h pins s σ H x v vl vu lo hi sl Q I rx hs pl pu (f _ _ _ _ _ q)
theorem aEG (hK:E.K=X.K):SlR X (aG7 E F TY):=by
 refine SlR.imp (SlR.or (SlR.or aDC aAj) XJ) fun v lo hi H Q h=>?_;obtain ⟨x,Z,G,Q',r1,S,q,k⟩:=h;unfold TY at q;split at q
 · rename_i xs;have r0:=r1;obtain ⟨a,vs,rfl,ha,ta⟩:=eE S r1;by_cases w:HT.sIx vs.length 0 lo=0∧HT.sIx vs.length vs.length hi=vs.length
   · refine .inl (.inr ⟨a,vs,rfl,hK▸ha,w, ?_⟩);have e:rH xs lo hi=xs:=by
       unfold rH;rw [ta.length,w.1,w.2,List.drop_zero,Nat.sub_zero,←ta.length,List.take_length]
     rw [e] at q;exact k _ _ _ _ _ (aN.refl _) S r0 q
   · exact .inl (.inl ⟨a,vs,rfl,hK▸ha,w,fun p n=>k.newZ S n (kG (S.zn n) (FJ ta)) q⟩)
 · obtain ⟨a,rfl,ha⟩:=r1;exact .inr ⟨a,_,rfl,hK▸S.z.seq ha,fun p n=>k.newZ S n (fH (S.zn n) (FJ (RPs.ofInts _))) q⟩
 · obtain ⟨xs,e0,q⟩:=q;obtain ⟨a,vs,rfl,ha,ta⟩:=dB S r1 e0;exact .inr ⟨a,vs,rfl,SqL.of ha,fun p n=>k.newZ S n (fH (S.zn n) (FJ ta)) q⟩
def vW (x:PV) (G:Gh) (Q:Bool→Gh→Prop):Prop:=match x with
 | .non=>Q false G
 | .bl b=>Q b G
 | .int i=>Q (i != 0) G
 | .str y=>y.length≤sizeLine∧Q ((y.length:Int) != 0) G
 | .tup xs=>Q (!xs.isEmpty) G
 | x=>∃ xs,bQ G x=some xs∧Q (!xs.isEmpty) G
theorem xL {xs:List PV} {vs:List V} (r:RPs E Z xs vs):xs.isEmpty=vs.isEmpty:=by
 cases xs with
 | nil=>cases r; rfl
 | cons x xs=>obtain ⟨_,_,e,_,_⟩:=r; subst e; rfl
theorem rT {x:PV} {v:V} {Q':Bool→Gh→Prop} (hK:E.K=X.K) (S:Sim E F H Z G) (r:RP E Z x v) (q:vW x G Q'):∃ b,OD X.K v H b∧Q' b G:=by
 unfold vW at q;split at q
 · cases (show v= .non from r); exact ⟨_,rfl,q⟩
 · cases (show v= .bl _ from r); exact ⟨_,rfl,q⟩
 · cases (show v= .int _ from r); exact ⟨_,rfl,q⟩
 · cases (show v= .str _ from r); exact ⟨_,⟨q.1,rfl⟩,q.2⟩
 · obtain ⟨a,vs,rfl,ha,ta⟩:=eE S r;exact ⟨_,.inr (.inl ⟨vs,hK▸ha,by rw [xL ta]⟩),q⟩
 · obtain ⟨xs,e0,q⟩:=q;obtain ⟨a,vs,rfl,ha,ta⟩:=dB S r e0;exact ⟨_,.inl ⟨vs,SqL.of ha,by rw [xL ta]⟩,q⟩
inductive Bn where
 | len | abs | max | min | int | str | isi | tuple | list | all | any | sum | bool | repr | divmod
 deriving DecidableEq
noncomputable abbrev Sp3:=List PV→Gh→PK1→Prop
noncomputable def TF (E:Ev) (F:Hp) (p:List PV→Gh→PK1→Prop):List V→Hp→VK→Prop:=fun vs H Q=>∃ xs Z G Q',RPs E Z xs vs∧Sim E F H Z G∧p xs G Q'∧Kq E F Z Q' Q
noncomputable def pD:PV→Gh→Option String
 | .non,_=>some "NoneType"
 | .bl _,_=>some "bool"
 | .int _,_=>some "int"
 | .str _,_=>some "str"
 | .tup _,_=>some "tuple"
 | .lst _,_=>some "list"
 | .emp,_=>some "dict"
 | .dct _ _,_=>some "dict"
 | .ref a,G=>match G a with
   | some (.lst _)=>some "list"
   | _=>none
 | _,_=>none
noncomputable def KJ:PV→Gh→Option String
 | .ob c _ _,_=>some c
 | .ref a,G=>match G a with
   | some (.ins c _ _)=>some c
   | _=>none
 | _,_=>none
structure UL (E:Ev) (cs:List String):Prop where
 own:∀ c∈cs,LF E.K (E.cls c)
 plain:∀ c∈cs,∀ n∈GE,W.kitOne E.K (.type n) (.ref (E.cls c))=some false
 other:∀ c∈cs,∀ T∈kR,W.kitOne E.K (.ref (E.cls c)) (.type T)=some false
 apart:∀ c∈cs,∀ c'∈cs,c≠c'→W.kitOne E.K (.ref (E.cls c)) (.ref (E.cls c'))=some false
noncomputable def KC:List PV→Option Bool
 | []=>some true
 | .bl b :: r=>(KC r).map (b && ·)
 | _ :: _=>none
theorem HM:∀ {xs:List PV} {b:Bool},KC xs=some b→∃ bs:List Bool,xs=bs.map PV.bl∧b=bs.all id
 | [],b,h=>by cases h; exact ⟨[],rfl,rfl⟩
 | x :: r,b,h=>by
   cases x with
   | bl c =>
     unfold KC at h;cases e:KC r with
     | none=>rw [e] at h; cases h
     | some d =>
       rw [e] at h; cases h;obtain ⟨bs,e1,e2⟩:=HM e;exact ⟨c :: bs,by rw [e1]; rfl,by rw [e2]; rfl⟩
   | _=>cases h
theorem RPs.bools:∀ {bs:List Bool} {vs:List V},RPs E Z (bs.map PV.bl) vs→vs=bs.map V.bl
 | [],_,h=>h
 | _ :: _,_,⟨v,r,e1,h,t⟩=>by
   have h':v=V.bl _:=h;subst e1 h'; rw [RPs.bools t]; rfl
noncomputable def dU (cs:List String):Bn→List PV→Gh→PK1→Prop
 | .len,[x],G,Q=>(∃ xs,x= .tup xs∧Q (.int xs.length) G)∨(∃ ns,x= .scr ns∧Q (.int ns.length) G)∨(∃ z,x= .str z∧z.length≤sizeLine∧Q (.int z.length) G)∨∃ xs,bQ G x=some xs∧Q (.int xs.length) G
 | .abs,[.int i],G,Q=>Q (.int (i.natAbs:Int)) G
 | .max,[.int i,.int j],G,Q=>Q (.int (max i j)) G
 | .min,[.int i,.int j],G,Q=>Q (.int (min i j)) G
 | .int,[.int i],G,Q=>Q (.int i) G
 | .int,[.bl b],G,Q=>Q (.int (if b then 1 else 0)) G
 | .str,[.int i],G,Q=>i.natAbs.log2 < 1920∧Q (.str (toString i)) G
 | .isi,[x,.ty T],G,Q=>T∈kR∧((∃ n,pD x G=some n∧Q (.bl (vK n T)) G)∨∃ c,KJ x G=some c∧c∈cs∧Q (.bl false) G)
 | .isi,[x,.cl c],G,Q=>c∈cs∧((∃ n,pD x G=some n∧Q (.bl false) G)∨∃ c',KJ x G=some c'∧c'∈cs∧Q (.bl (decide (c'=c))) G)
 | .tuple,[x],G,Q=>(∃ xs,x= .tup xs∧Q x G)∨∃ xs,bQ G x=some xs∧Q (.tup xs) G
 | .list,[x],G,Q=>(∃ xs,x= .tup xs∧Q (.lst xs) G)∨∃ xs,bQ G x=some xs∧Q (.lst xs) G
 | .all,[x],G,Q=>∃ xs b,bQ G x=some xs∧KC xs=some b∧Q (.bl b) G
 | _,_,_,_=>False
noncomputable def SK:Bn→Value
 | .len=>.builtin "len"
 | .abs=>.builtin "abs"
 | .max=>.builtin "max"
 | .min=>.builtin "min"
 | .int=>.type "int"
 | .str=>.type "str"
 | .isi=>.builtin "isinstance"
 | .tuple=>.type "tuple"
 | .list=>.type "list"
 | .all=>.builtin "all"
 | .any=>.builtin "any"
 | .sum=>.builtin "sum"
 | .bool=>.type "bool"
 | .repr=>.builtin "repr"
 | .divmod=>.builtin "divmod"
theorem yN {x:PV} {vs:List V} (r:RPs E Z [x] vs):∃ v,vs=[v]∧RP E Z x v:=by
 obtain ⟨v,t,e,r1,r2⟩:=r;have e2:t=[]:=r2;subst e2;exact ⟨v,e,r1⟩
theorem aAL {x y:PV} {vs:List V} (r:RPs E Z [x,y] vs):∃ v u,vs=[v,u]∧RP E Z x v∧RP E Z y u:=by
 obtain ⟨v,t,e,r1,u,t',e',r2,r3⟩:=r;have e2:t'=[]:=r3;subst e2 e';exact ⟨v,u,e,r1,r2⟩
theorem yD {x:PV} {v:V} {n:String} (S:Sim E F H Z G) (r:RP E Z x v) (h:pD x G=some n):n∈GE∧(tyN H v=some n∨(n="tuple"∧∃ a vs,v= .ref a∧SqT E.K H a vs)):=by
 cases x with
 | non=>cases h; cases (show v= .non from r); exact ⟨by decide,.inl rfl⟩
 | bl b=>cases h; cases (show v= .bl b from r); exact ⟨by decide,.inl rfl⟩
 | int b=>cases h; cases (show v= .int b from r); exact ⟨by decide,.inl rfl⟩
 | str b=>cases h; cases (show v= .str b from r); exact ⟨by decide,.inl rfl⟩
 | tup xs =>
   cases h;obtain ⟨a,vs,rfl,ha,_⟩:=eE S r;exact ⟨by decide,.inr ⟨rfl,a,vs,rfl,ha⟩⟩
 | lst xs =>
   cases h;obtain ⟨a,vs,rfl,ha,_⟩:=dB (xs:=xs) S r rfl;exact ⟨by decide,.inl (by simp only [tyN,ha])⟩
 | emp =>
   cases h;obtain ⟨a,rfl,ha⟩:=r;exact ⟨by decide,.inl (by simp only [tyN,S.z _ _ ha])⟩
 | dct ks xs =>
   cases h;obtain ⟨a,vs,rfl,ha,_,_⟩:=r;exact ⟨by decide,.inl (by simp only [tyN,S.z _ _ ha])⟩
 | ref a =>
   unfold pD at h;dsimp only at h;split at h
   · rename_i xs e;cases h;obtain ⟨a',vs,rfl,ha,_⟩:=dB (xs:=xs) S r (by unfold bQ; dsimp only; rw [e]);exact ⟨by decide,.inl (by simp only [tyN,ha])⟩
   · cases h
 | _=>cases h
theorem IM {pins:List (Addr×Obj)} {σ:L2.St} {s:Shared} {x:PV} {v:V} {u c:Value} {n:String} {b:Bool} {Q:VK} (hK:E.K=X.K) (I:Inv X pins σ H s) (S:Sim E F H Z G) (r:RP E Z x v) (rv:aQ v u) (h:pD x G=some n)
   (e:W.kitOne X.K (.type n) c=some b) (q:Q (.bl b) H):wpAny (model X.prog X.w) X.A (call (.builtin "isinstance") [u,c]) (EP X pins σ Q) X.xe s:=by
 obtain ⟨_,t | ⟨hn,a,vs,hv,ha⟩⟩:=yD S r h
 · exact xJ I rv (aCk t) e fun tk=>⟨.bl b,H,I.tok tk,rfl,q⟩
 · subst hn hv;cases rv;obtain ⟨its,_,⟨o,h1,h2,_⟩,_⟩:=I.tuple (hK▸ha);exact W.kia_one W.kitx_tuple I.kIn ⟨o,h1,h2⟩ e (fun z=>nomatch z) fun tk=>⟨.bl b,H,I.tok tk,rfl,q⟩
theorem ZB {x:PV} {v:V} {c:String} (S:Sim E F H Z G) (r:RP E Z x v) (h:KJ x G=some c):∃ a dx fs,v= .ref a∧H a=some (.ins (E.cls c) dx fs):=by
 cases x with
 | ob c' ns xs =>
   cases h;obtain ⟨a,dx,vs,rfl,q,_,_⟩:=r;exact ⟨a,dx,_,rfl,S.z _ _ q⟩
 | ref a =>
   unfold KJ at h;dsimp only at h;split at h
   · rename_i c' ns xs e;cases h;have e1:v= .ref a:=r;subst e1;obtain ⟨_,o',q,dx,vs,e',_,_⟩:=S.g _ _ e;subst e';exact ⟨a,dx,_,rfl,q⟩
   · cases h
 | _=>cases h
theorem zI {pins:List (Addr×Obj)} {σ:L2.St} {s:Shared} {x:PV} {v:V} {u t:Value} {c:String} {b:Bool} {Q:VK} (hK:E.K=X.K) (I:Inv X pins σ H s) (S:Sim E F H Z G) (r:RP E Z x v) (rv:aQ v u) (h:KJ x G=some c) (O:LF E.K (E.cls c))
   (e:W.kitOne X.K (.ref (E.cls c)) t=some b) (q:Q (.bl b) H):wpAny (model X.prog X.w) X.A (call (.builtin "isinstance") [u,t]) (EP X pins σ Q) X.xe s:=by
 obtain ⟨a,dx,fs,rfl,ha⟩:=ZB S r h;have O:LF X.K (E.cls c):=hK▸O;exact xJ I rv (.ins ha O.cl O.ha O.hn O.htk O.hm) e fun tk=>⟨.bl b,H,I.tok tk,rfl,q⟩
theorem bK.or {f:Value} {r r':List V→Hp→VK→Prop} (h:bK X f r) (h':bK X f r'):bK X f (fun xs H Q=>r xs H Q∨r' xs H Q):=by
 intro pins s σ H xs us Q I rs q;rcases q with q | q
 · exact h pins s σ H xs us Q I rs q
 · exact h' pins s σ H xs us Q I rs q
theorem noC {f:Value} {p:List PV→Gh→PK1→Prop} (h:∀ xs G Q,¬p xs G Q):bK X f (TF E F p):=by rintro _ _ _ _ _ _ _ _ _ ⟨_,_,_,_,_,_,q,_⟩;exact absurd q (h _ _ _)
noncomputable def MB:Bn→Bool
 | .max=>true
 | .min=>true
 | .all=>true
 | .any=>true
 | .sum=>true
 | .len=>false
 | .abs=>false
 | .int=>false
 | .str=>false
 | .isi=>false
 | .tuple=>false
 | .list=>false
 | .bool=>false
 | .repr=>false
 | .divmod=>false
theorem IW {cs:List String} (hK:E.K=X.K) (C:UL E cs):∀ b,(MB b=true→X.calm=true)→bK X (SK b) (TF E F (dU cs b))
 | .len,hc=>by
   refine (bK.or xO yX).imp fun vs H Q h=>?_;obtain ⟨xs,Z,G,Q',r,S,q,k⟩:=h
   match xs,q with
   | [x],q =>
     obtain ⟨v,rfl,rr⟩:=yN r;rcases q with ⟨ys,rfl,q⟩ | ⟨ns,rfl,q⟩ | ⟨z,rfl,hz,q⟩ | ⟨ys,e,q⟩
     · obtain ⟨a,vs,rfl,ha,ta⟩:=eE S rr;exact .inl ⟨a,vs,rfl,.inr (hK▸ha),k.here S q (by rw [ta.length]; exact bM)⟩
     · obtain ⟨a,rfl,ha⟩:=rr;exact .inl ⟨a,_,rfl,.inl (hK▸S.z.seq ha),k.here S q (by rw [List.length_map]; exact bM)⟩
     · exact .inr ⟨z,by rw [show v= .str z from rr],hz,k.here S q bM⟩
     · obtain ⟨a,vs,rfl,ha,ta⟩:=dB S rr e;exact .inl ⟨a,vs,rfl,.inl (SqL.of ha),k.here S q (by rw [ta.length]; exact bM)⟩
 | .abs,hc=>by
   refine MA.imp fun vs H Q h=>?_;obtain ⟨xs,Z,G,Q',r,S,q,k⟩:=h
   match xs,q with
   | [.int i],q =>
     obtain ⟨v,rfl,rr⟩:=yN r;exact ⟨i,by rw [show v= .int i from rr],k.here S q bM⟩
 | .max,hc=>by
   refine (JP (hc rfl)).imp fun vs H Q h=>?_;obtain ⟨xs,Z,G,Q',r,S,q,k⟩:=h
   match xs,q with
   | [.int i,.int j],q =>
     obtain ⟨v,u,rfl,r1,r2⟩:=aAL r;have e:max i j=if j > i then j else i:=by split <;> omega
     exact ⟨i,j,by rw [show v= .int i from r1,show u= .int j from r2],k.here S q (by rw [e]; exact bM)⟩
 | .min,hc=>by
   refine (NA (hc rfl)).imp fun vs H Q h=>?_;obtain ⟨xs,Z,G,Q',r,S,q,k⟩:=h
   match xs,q with
   | [.int i,.int j],q =>
     obtain ⟨v,u,rfl,r1,r2⟩:=aAL r;have e:min i j=if j < i then j else i:=by split <;> omega
     exact ⟨i,j,by rw [show v= .int i from r1,show u= .int j from r2],k.here S q (by rw [e]; exact bM)⟩
 | .int,hc=>by
   refine KG.imp fun vs H Q h=>?_;obtain ⟨xs,Z,G,Q',r,S,q,k⟩:=h
   match xs,q with
   | [.int i],q =>
     obtain ⟨v,rfl,rr⟩:=yN r;exact .inl ⟨i,by rw [show v= .int i from rr],k.here S q bM⟩
   | [.bl i],q =>
     obtain ⟨v,rfl,rr⟩:=yN r;exact .inr ⟨i,by rw [show v= .bl i from rr],k.here S q bM⟩
 | .str,hc=>by
   refine zJ.imp fun vs H Q h=>?_;obtain ⟨xs,Z,G,Q',r,S,q,k⟩:=h
   match xs,q with
   | [.int i],q =>
     obtain ⟨v,rfl,rr⟩:=yN r;exact ⟨i,by rw [show v= .int i from rr],q.1,k.here S q.2 iC⟩
 | .isi, hc=>by
   intro pins s σ H vs us Q I rv h;obtain ⟨xs,Z,G,Q',r,S,q,k⟩:=h
   match xs,q with
   | [x,.ty T],q =>
     obtain ⟨v,w',rfl,r1,r2⟩:=aAL r;obtain ⟨u,u',rfl,rv1,rv2⟩:=HV rv;have e:w'= .ty T:=r2;subst e;have e2:u'= .type T:=rv2;subst e2;obtain ⟨hT,⟨n,hn,q⟩ | ⟨c,hcn,hcs,q⟩⟩:=q
     · exact IM hK I S r1 rv1 hn (aDb X.K n (yD S r1 hn).1 T hT) (k.here S q bO)
     · exact zI hK I S r1 rv1 hcn (C.own c hcs) (hK▸C.other c hcs T hT) (k.here S q bO)
   | [x, .cl c],q =>
     obtain ⟨v,w',rfl,r1,r2⟩:=aAL r;obtain ⟨u,u',rfl,rv1,rv2⟩:=HV rv;have e:w'= .ref (E.cls c):=r2;subst e;have e2:u'= .ref (E.cls c):=rv2;subst e2;obtain ⟨hcs,⟨n,hn,q⟩ | ⟨c',hcn,hcs',q⟩⟩:=q
     · exact IM hK I S r1 rv1 hn (hK▸C.plain c hcs n (yD S r1 hn).1) (k.here S q bO)
     · by_cases e:c'=c
       · subst e;rw [decide_eq_true rfl] at q;exact zI hK I S r1 rv1 hcn (C.own _ hcs') (by unfold W.kitOne; rw [if_pos (beq_self_eq_true _)]) (k.here S q bO)
       · rw [decide_eq_false e] at q;exact zI hK I S r1 rv1 hcn (C.own _ hcs') (hK▸C.apart c' hcs' c hcs e) (k.here S q bO)
 | .tuple,hc=>by
   refine vS.imp fun vs H Q h=>?_;obtain ⟨xs,Z,G,Q',r,S,q,k⟩:=h
   match xs,q with
   | [x],q =>
     obtain ⟨v,rfl,rr⟩:=yN r;rcases q with ⟨ys,rfl,q⟩ | ⟨ys,e,q⟩
     · obtain ⟨a,vs,e,ha,ta⟩:=eE S rr;subst e;exact ⟨a,vs,rfl,.inr ⟨hK▸ha,k.here S q rr⟩⟩
     · obtain ⟨a,vs,rfl,ha,ta⟩:=dB S rr e;exact ⟨a,vs,rfl,.inl ⟨SqL.of ha,fun l n=>k.newZ S n (kG (S.zn n) ta) q⟩⟩
 | .list,hc=>by
   refine yG.imp fun vs H Q h=>?_;obtain ⟨xs,Z,G,Q',r,S,q,k⟩:=h
   match xs,q with
   | [x],q =>
     obtain ⟨v,rfl,rr⟩:=yN r;rcases q with ⟨ys,rfl,q⟩ | ⟨ys,e,q⟩
     · obtain ⟨a,vs,rfl,ha,ta⟩:=eE S rr;exact ⟨a,vs,rfl,.inr (hK▸ha),fun l n=>k.newZ S n (fH (S.zn n) ta) q⟩
     · obtain ⟨a,vs,rfl,ha,ta⟩:=dB S rr e;exact ⟨a,vs,rfl,.inl (SqL.of ha),fun l n=>k.newZ S n (fH (S.zn n) ta) q⟩
 | .divmod,hc=>noC fun xs G Q q=>by unfold dU at q; exact q
 | .all,hc=>by
   refine (MR (hc rfl)).imp fun vs H Q h=>?_;obtain ⟨xs,Z,G,Q',r,S,q,k⟩:=h
   match xs,q with
   | [x],q =>
     obtain ⟨v,rfl,rr⟩:=yN r;obtain ⟨ys,b,e,eb,q⟩:=q;obtain ⟨bs,e1,e2⟩:=HM eb;subst e1 e2;obtain ⟨a,vs,rfl,ha,ta⟩:=dB S rr e;exact ⟨a,bs,rfl,by rw [←ta.bools]; exact ha,k.here S q bO⟩
 | .any,hc=>noC fun xs G Q q=>by unfold dU at q; exact q
 | .sum,hc=>noC fun xs G Q q=>by unfold dU at q; exact q
 | .bool,hc=>noC fun xs G Q q=>by unfold dU at q; exact q
 | .repr,hc=>noC fun xs G Q q=>by unfold dU at q; exact q
end
inductive Ar where
 | arg (i:Nat) | non | bl (b:Bool) | int (i:Int) | str (x:Str)
 deriving DecidableEq
noncomputable def Ar.val (xs:List PV):Ar→PV
 | .arg i=>xs.getD i .non
 | .non=>.non
 | .bl b=>.bl b
 | .int i=>.int i
 | .str x=>.str x
inductive CE where
 | var (i:Nat) | int (i:Int) | bl (b:Bool) | non | str (x:Str) | glo (x:Str)
 | bin (op:Operator) (a b:CE) | neg (a:CE) | no (a:CE)
 | cmp (op:CmpOp) (a b:CE) | chn (op op':CmpOp) (a b c:CE)
 | an (a b:CE) | oo (a b:CE) | tst (a:CE) | tsb (a:CE)
 | tup (es:CE) | lst (m:Bool) (es:CE) | nil | cons (a b:CE)
 | idx (a i:CE) | sli (a lo hi:CE) | rev (a:CE) | att (a:CE) (f:Str)
 | cal (f:Str) (es:CE) | cak (f:Str) (es ks:CE) (ar:List Ar) | blt (b:Bn) (es:CE) | app (a e:CE)
 | cmpr (m:Bool) (tg it ts el:CE) (js:List (Option Nat))
 | isq (e:CE) | irg (es:CE) | ien (e:CE) | izp (es:CE)
 | gn (i:Nat) | gt (n:Nat) (gs:CE)
 | ceq (eqs:List (String×Str)) (a b:CE) | emp | dct (es:CE) | bow (b:Bn) (ls:List (String×Str)) (es:CE) | joi (a e:CE) | fst (es:CE) | gl (n:Nat) (gs:CE) | rpr (e:CE) | cex (op:CmpOp) (eqs:List (String×Str)) (a b:CE) | gix (ks:List (Str×Str)) (e:CE) | gin (neg:Bool) (ks:List (Str×Str)) (e:CE) | cav (fs:List (Str×Nat×List Ar)) (i:Nat) (es:CE) | isx (a:CE) (n:Str) | atx (a:CE) (f:Str) | cnt (a e:CE) | bln (a:CE) | met (m:Str) (ls:List (String×Str×List Ar)) (a es:CE)
inductive CS where
 | nil | seq (a b:CS) | ex (e:CE) | asg (g e:CE) | par (i j:Nat) (a b:CE) | par3 (i j l:Nat) (a b c:CE) | sub (o i e:CE) | fld (o:CE) (f:Str) (e:CE)
 | iff (c:CE) (a b:CS) | wh (c:CE) (b:CS) | fr (g it:CE) (b:CS) | ret (e:CE) | retN | nev
 | tri (b:CS) (i:Nat) (cs:List String) | trh (b:CS) (j:Nat) (h:CS) (cs:List String)
structure Tb where
 S:Str→Sp3
 gv:Str→PV
 cs:List String
 fl:List (String×Str)
 fam:PX→Str→Sp3:=fun _ _ _ _ _=>False
 xp:PX:=fun _ _ _ _=>False
 xi:List (String×Str×Bool):=[]
 fx:List (String×Str):=[]
noncomputable abbrev Tb.at (T:Tb) (x:PX):Tb:={ T with S:=T.fam x,xp:=x }
def aB7 (x:PV) (G:Gh) (Q:PK1):Prop:=match x with
 | .int i=>Q (.int (-i)) G
 | _=>False
def pIs (neg:Bool) (x y:PV) (G:Gh) (Q:PK1):Prop:=match y with
 | .non=>(x= .non∧Q (.bl (!neg)) G)∨(x≠.non∧Q (.bl neg) G)
 | .bl b=>∃ c,x= .bl c∧Q (.bl (if neg then !(c == b) else c == b)) G
 | _=>False
noncomputable def flP:PV→Bool
 | .non=>true
 | .bl _=>true
 | .int _=>true
 | .str _=>true
 | _=>false
def pIn (neg:Bool) (x y:PV) (G:Gh) (Q:PK1):Prop:= ∃ xs,(y= .tup xs∨bQ G y=some xs)∧flP x=true∧xs.all flP=true∧Q (.bl (if neg=true then !(xs.any fun z=>peq z x) else xs.any fun z=>peq z x)) G
noncomputable def nH:CmpOp→P2
 | .Lt=>pI (fun _ _=>True) fun i j=>.bl (decide (i < j))
 | .LtE=>pI (fun _ _=>True) fun i j=>.bl (decide (i≤j))
 | .Gt=>pI (fun _ _=>True) fun i j=>.bl (decide (j < i))
 | .GtE=>pI (fun _ _=>True) fun i j=>.bl (decide (j≤i))
 | .Eq=>pEq false
 | .NotEq=>pEq true
 | .Is=>pIs false
 | .IsNot=>pIs true
 | .In=>pIn false
 | .NotIn=>pIn true
def UW (T:Tb) (x:PV) (f:Str) (G:Gh) (Q:PK1):Prop:= ∃ c ns xs v,(x= .ob c ns xs∨∃ a,x= .ref a∧G a=some (.ins c ns xs))∧(c,f)∈T.fl∧(ns.zip xs).lookup f=some v∧Q v G
noncomputable abbrev PTG:=PV→PSt→Gh→(PSt→Gh→Prop)→Prop
noncomputable abbrev PTI:=PSt→Gh→((Gh→Prop)→List PV→Gh→Prop)→Prop
noncomputable def DZ (js:List (Option Nat)) (σ:PSt):PSt:=js.map fun o=>match o with | none=>none | some j=>(σ[j]?).getD none
noncomputable def gI (chk:Gh→Prop) (g:PTG) (ts:PTT) (te:PTE):List PV→List PV→PSt→Gh→(List PV→Gh→Prop)→Prop
 | [],acc,_,G,Q=>chk G∧Q acc G
 | x :: r,acc,σ,G,Q=>chk G∧g x σ G fun σ2 G2=>ts σ2 G2 fun ok G3=>if ok=true then te σ2 G3 fun y G4=>gI chk g ts te r (acc ++ [y]) σ2 G4 Q else gI chk g ts te r acc σ2 G3 Q
noncomputable def pY (chk:Gh→Prop) (g:PTG) (tb:PTS) (D:jH):List PV→PSt→Gh→Prop
 | [],σ,G=>chk G∧D.nx σ G
 | x :: r,σ,G=>chk G∧g x σ G fun σ2 G2=>tb { D with nx:=pY chk g tb D r,ct:=pY chk g tb D r,bk:=D.nx } σ2 G2
def vD (m:Bool) (G:Gh) (xs:List PV) (Q:PK1):Prop:=if m=true then ∀ p,G p=none→Q (.ref p) (gup G p (.lst xs)) else Q (.lst xs) G
noncomputable def zK (lo:Int) (n:Nat):List PV:=(List.range n).map fun (k:Nat)=>PV.int (lo + (k:Int))
noncomputable def DV (xs:List PV):List PV:=xs.zipIdx.map fun p=>PV.tup [.int (p.2:Int),p.1]
noncomputable def aGy:PV→Option (List PV)
 | .tup ys=>some ys
 | .lst ys=>some ys
 | _=>none
noncomputable def aJp (n:Nat) (yss:List (List PV)):List PV:=(List.range n).map fun i=>PV.tup (yss.map fun ys=>ys.getD i .non)
def OM (x:PV) (G:Gh) (R:(Gh→Prop)→List PV→Gh→Prop):Prop:=match x with
 | .tup xs=>R (fun _=>True) xs G
 | .lst xs=>R (fun _=>True) xs G
 | .scr ns=>R (fun _=>True) (ns.map .int) G
 | .ref a=>∃ xs,G a=some (.lst xs)∧R (fun G'=>G' a=some (.lst xs)) xs G
 | _=>False
noncomputable def aBK (T:Tb) (eqs:List (String×Str)) (x y:PV) (G:Gh) (Q:PK1):Prop :=
 (∃ c m ns xs ns' ys,(c,m)∈eqs∧x= .ob c ns xs∧y= .ob c ns' ys∧T.S m [x,y] G fun v G'=>∃ b,v= .bl b∧Q (.bl b) G')∨pEq false x y G Q
noncomputable def aHg (T:Tb) (eqs:List (String×Str)) (x y:PV) (G:Gh) (Q:PK1):Prop :=
 (∃ c m ns xs ns' ys,(c,m)∈eqs∧x= .ob c ns xs∧y= .ob c ns' ys∧T.S m [x,y] G fun v G'=>∃ b,v= .bl b∧Q (.bl (!b)) G')∨pEq true x y G Q
def aHC (b:Bn) (v:PV) (G:Gh) (Q:PK1):Prop:=match b with
 | .len=>∃ n:Int,v= .int n∧0≤n∧n < 2 ^ 63∧Q (.int n) G
 | .bool=>∃ n:Int,v= .int n∧0≤n∧n < 2 ^ 63∧Q (.bl (n != 0)) G
 | .str=>∃ x,v= .str x∧Q (.str x) G
 | .repr=>∃ x,v= .str x∧Q (.str x) G
 | _=>False
noncomputable def XH (T:Tb) (b:Bn) (ls:List (String×Str)) (xs:List PV) (G:Gh) (Q:PK1):Prop :=
 (∃ c m ns ys,(c,m)∈ls∧xs=[.ob c ns ys]∧T.S m xs G fun v G'=>aHC b v G' Q)∨dU T.cs b xs G Q
def aKg (x:PV) (G:Gh) (Q:PK1):Prop:= ∃ d,(dat x=some d∨dte x=some d)∧d.showable=true∧d.depth≤64∧d.shown.length≤sizeLine∧(∀ i:Int,x= .int i→i.natAbs.log2 < 1920)∧Q (.str d.shown) G
noncomputable def buP:PV→Gh→Prop
 | .non,_=>True
 | .bl _,_=>True
 | .int _,_=>True
 | .str _,_=>True
 | .tup _,_=>True
 | .lst _,_=>True
 | .scr _,_=>True
 | .emp,_=>True
 | .dct _ _,_=>True
 | .ref p,G=>∃ xs,bQ G (.ref p)=some xs
 | _,_=>False
def anP (T:Tb) (c:String) (y:PV) (G:Gh):Prop:=buP y G∨∃ d ns ys,y= .ob d ns ys∧d∈T.cs∧d≠c
def aIp (T:Tb) (eqs:List (String×Str)) (x y:PV) (G:Gh) (Q:PK1):Prop:= ∃ c m ns xs,(c,m)∈eqs∧x= .ob c ns xs∧anP T c y G∧T.S m [x,y] G fun v G'=>∃ b,v= .bl b∧Q (.bl b) G'
def aFl (T:Tb) (eqs:List (String×Str)) (x y:PV) (G:Gh) (Q:PK1):Prop:= ∃ c m ns ys,(c,m)∈eqs∧y= .ob c ns ys∧buP x G∧T.S m [y,x] G fun v G'=>∃ b,v= .bl b∧Q (.bl b) G'
def aFE (T:Tb) (eqs:List (String×Str)) (x y:PV) (G:Gh) (Q:PK1):Prop:= ∃ c m ns xs,(c,m)∈eqs∧x= .ob c ns xs∧anP T c y G∧T.S m [x,y] G fun v G'=>∃ b,v= .bl b∧Q (.bl (!b)) G'
mutual
noncomputable def pln:PV→Bool
 | .non=>true
 | .bl _=>true
 | .int _=>true
 | .str _=>true
 | .tup xs=>FL xs
 | _=>false
noncomputable def FL:List PV→Bool
 | []=>true
 | x :: r=>pln x && FL r
end
noncomputable def plO:PV→Bool
 | .ob _ _ xs=>FL xs
 | _=>false
noncomputable def inP (T:Tb) (eqs:List (String×Str)) (c:String) (m:Str) (x:PV) (Q:Bool→Gh→Prop):List PV→Gh→Prop
 | [],G=>Q false G
 | y :: r,G=>((∃ ns ys,y= .ob c ns ys)∧((plO x=true→plO y=true→y=x)→Q true G)∧T.S m [y,x] G fun v G'=>∃ b,v= .bl b∧if b=true then Q true G' else inP T eqs c m x Q r G')∨
     (buP y G∧T.S m [x,y] G fun v G'=>∃ b,v= .bl b∧if b=true then Q true G' else inP T eqs c m x Q r G')∨
     (∃ d m' ns ys,(d,m')∈eqs∧d∈T.cs∧d≠c∧y= .ob d ns ys∧T.S m' [y,x] G fun v G'=>∃ b,v= .bl b∧if b=true then Q true G' else inP T eqs c m x Q r G')
noncomputable def aDw (T:Tb) (eqs:List (String×Str)) (neg:Bool) (x y:PV) (G:Gh) (Q:PK1):Prop :=
 ∃ c m ns xs ys,(c,m)∈eqs∧c∈T.cs∧x= .ob c ns xs∧(y= .lst ys∨(neg=false∧y= .tup ys))∧inP T eqs c m x (fun b G'=>Q (.bl (if neg=true then !b else b)) G') ys G
def pX (T:Tb) (op:CmpOp) (eqs:List (String×Str)) (x y:PV) (G:Gh) (Q:PK1):Prop:=match op with
 | .Eq=>aBK T eqs x y G Q∨aIp T eqs x y G Q∨aFl T eqs x y G Q
 | .NotEq=>aHg T eqs x y G Q∨aFE T eqs x y G Q
 | .In=>aDw T eqs false x y G Q
 | .NotIn=>aDw T eqs true x y G Q
 | _=>False
noncomputable def kP:Key→PV
 | .inl i=>.int i
 | .inr x=>.str x
noncomputable def flK:List (Key×PV)→List PV
 | []=>[]
 | p :: r=>kP p.1 :: p.2 :: flK r
mutual
noncomputable def wpE (T:Tb):CE→PTE
 | .var i=>fun σ G Q=>∃ v,σ[i]? =some (some v)∧Q v G
 | .int i=>fun _ G Q=>Q (.int i) G
 | .bl b=>fun _ G Q=>Q (.bl b) G
 | .non=>fun _ G Q=>Q .non G
 | .str x=>fun _ G Q=>Q (.str x) G
 | .glo x=>fun _ G Q=>Q (T.gv x) G
 | .bin op a b=>fun σ G Q=>wpE T a σ G fun x G1=>wpE T b σ G1 fun y G2=>AM op x y G2 Q
 | .neg a=>fun σ G Q=>wpE T a σ G fun x G1=>aB7 x G1 Q
 | .no a=>fun σ G Q=>wpE T a σ G fun x G1=>vW x G1 fun b G2=>Q (.bl (!b)) G2
 | .cmp op a b=>fun σ G Q=>wpE T a σ G fun x G1=>wpE T b σ G1 fun y G2=>nH op x y G2 Q
 | .chn op op' a b c=>fun σ G Q=>wpE T a σ G fun x G1=>wpE T b σ G1 fun y G2=>nH op x y G2 fun z G3=>∃ k,z= .bl k∧if k=true then wpE T c σ G3 fun w G4=>nH op' y w G4 Q else Q (.bl false) G3
 | .emp=>fun _ G Q=>Q .emp G
 | .dct es=>fun σ G Q=>wpL T es σ G fun xs G1=>∃ kvs:List (Key×PV),xs=flK kvs∧(kvs.map (·.1)).Nodup∧kvs.length≤15∧Q (.dct (kvs.map (·.1)) (kvs.map (·.2))) G1
 | .cnt a b=>fun σ G Q=>wpE T a σ G fun x G1=>(∃ xs,bQ G1 x=some xs)∧wpE T b σ G1 fun y G2=>∃ (bs:List Bool) (b:Bool),bQ G2 x=some (bs.map PV.bl)∧y= .bl b∧Q (.int (bs.count b)) G2
 | .bow b ls es=>fun σ G Q=>wpL T es σ G fun xs G1=>XH T b ls xs G1 Q
 | .joi a b=>fun σ G Q=>wpE T a σ G fun x G1=>∃ sep,x= .str sep∧wpE T b σ G1 fun y G2=>∃ ys:List Str,bQ G2 y=some (ys.map PV.str)∧(ys.map (·.length)).sum + ys.length * sep.length≤16777216∧Q (.str (Txt.join sep ys)) G2
 | .fst es=>fun σ G Q=>wpJ T es Str.empty σ G Q
 | .ceq eqs a b=>fun σ G Q=>wpE T a σ G fun x G1=>wpE T b σ G1 fun y G2=>aBK T eqs x y G2 Q
 | .an a b=>fun σ G Q=>wpE T a σ G fun x G1=>vW x G1 fun c G2=>if c=true then wpE T b σ G2 Q else Q x G2
 | .oo a b=>fun σ G Q=>wpE T a σ G fun x G1=>vW x G1 fun c G2=>if c=true then Q x G2 else wpE T b σ G2 Q
 | .tup es=>fun σ G Q=>wpL T es σ G fun xs G1=>xs.length≤sizeLine∧Q (.tup xs) G1
 | .lst m es=>fun σ G Q=>wpL T es σ G fun xs G1=>xs.length≤sizeLine∧vD m G1 xs Q
 | .idx a i=>fun σ G Q=>wpE T a σ G fun x G1=>wpE T i σ G1 fun y G2=>oQ x y G2 Q
 | .sli a lo hi=>fun σ G Q=>wpE T a σ G fun x G1=>wpO T lo σ G1 fun l G2=>wpO T hi σ G2 fun h G3=>TY x l h G3 Q
 | .rev a=>fun σ G Q=>wpE T a σ G fun x G1=>(∃ xs,bQ G1 x=some xs∧Q (.lst xs.reverse) G1)∨∃ xs,x= .tup xs∧Q (.tup xs.reverse) G1
 | .att a f=>fun σ G Q=>wpE T a σ G fun x G1=>UW T x f G1 Q
 | .cal f es=>fun σ G Q=>wpL T es σ G fun xs G1=>T.S f xs G1 Q
 | .cak f es ks ar=>fun σ G Q=>wpL T es σ G fun xs G1=>wpL T ks σ G1 fun zs G2=>T.S f (ar.map (Ar.val (xs ++ zs))) G2 Q
 | .blt b es=>fun σ G Q=>wpL T es σ G fun xs G1=>dU T.cs b xs G1 Q
 | .app a e=>fun σ G Q=>wpE T a σ G fun x G1=>(∃ ys,bQ G1 x=some ys)∧wpE T e σ G1 fun y G2=>∃ p xs,x= .ref p∧G2 p=some (.lst xs)∧xs.length < sizeLine∧Q .non (gup G2 p (.lst (xs ++ [y])))
 | .cmpr m tg it ts el js=>fun σ G Q=>wpI T it σ G fun chk xs G1=>xs.length≤sizeLine∧gI chk (wpG T tg) (wpT T ts) (wpE T el) xs [] (DZ js σ) G1 fun ys G2=>vD m G2 ys Q
 | .cex op eqs a b=>fun σ G Q=>wpE T a σ G fun x G1=>wpE T b σ G1 fun y G2=>pX T op eqs x y G2 Q
 | .rpr e=>fun σ G Q=>wpE T e σ G fun x G1=>aKg x G1 Q
 | .gix ks e=>fun σ G Q=>wpE T e σ G fun y G1=>∃ z f,y= .str z∧ks.lookup z=some f∧Q (.fn f) G1
 | .gin neg ks e=>fun σ G Q=>wpE T e σ G fun y G1=>∃ z,y= .str z∧Q (.bl (if neg=true then !(ks.lookup z).isSome else (ks.lookup z).isSome)) G1
 | .cav fs i es=>fun σ G Q=>∃ f n ar,σ[i]? =some (some (.fn f))∧(f,n,ar)∈fs∧wpL T es σ G fun xs G1=>T.S f (ar.map (Ar.val xs)) G1 Q
 | .isx a n=>fun σ G Q=>wpE T a σ G fun x G1=>∃ c ns xs r,x= .exc c ns xs∧(c,n,r)∈T.xi∧Q (.bl r) G1
 | .atx a f=>fun σ G Q=>wpE T a σ G fun x G1=>∃ c ns xs v,x= .exc c ns xs∧(c,f)∈T.fx∧(ns.zip xs).lookup f=some v∧Q v G1
 | .bln a=>fun σ G Q=>wpE T a σ G fun x G1=>∃ i:Int,x= .int i∧Q (.int ((Builtin.Int.intBits i:Nat):Int)) G1
 | .met m ls a es=>fun σ G Q=>wpE T a σ G fun x G1=>∃ c ky ar ns xs,(c,ky,ar)∈ls∧(x= .ob c ns xs∨∃ p,x= .ref p∧G1 p=some (.ins c ns xs))∧m∉ ns∧wpL T es σ G1 fun ys G2=>T.S ky (x :: ar.map (Ar.val ys)) G2 Q
 | .tst _=>fun _ _ _=>False
 | .tsb _=>fun _ _ _=>False
 | .nil=>fun _ _ _=>False
 | .cons _ _=>fun _ _ _=>False
 | .isq _=>fun _ _ _=>False
 | .irg _=>fun _ _ _=>False
 | .ien _=>fun _ _ _=>False
 | .izp _=>fun _ _ _=>False
 | .gn _=>fun _ _ _=>False
 | .gt _ _=>fun _ _ _=>False
 | .gl _ _=>fun _ _ _=>False
noncomputable def wpJ (T:Tb):CE→Str→PTE
 | .nil=>fun out _ G Q=>out.length≤sizeLine∧Q (.str out) G
 | .cons a b=>fun out σ G Q=>wpE T a σ G fun x G1=>∃ y,x= .str y∧y.length≤sizeLine∧(out ++ y).length≤sizeLine∧wpJ T b (out ++ y) σ G1 Q
 | _=>fun _ _ _ _=>False
noncomputable def wpL (T:Tb):CE→PTA
 | .nil=>fun _ G Q=>Q [] G
 | .cons a b=>fun σ G Q=>wpE T a σ G fun x G1=>wpL T b σ G1 fun xs G2=>Q (x :: xs) G2
 | _=>fun _ _ _=>False
noncomputable def wpT (T:Tb):CE→PTT
 | .an a b=>fun σ G Q=>wpT T a σ G fun c G1=>if c=true then wpT T b σ G1 Q else Q false G1
 | .oo a b=>fun σ G Q=>wpT T a σ G fun c G1=>if c=true then Q true G1 else wpT T b σ G1 Q
 | .no a=>fun σ G Q=>wpT T a σ G fun c G1=>Q (!c) G1
 | .tst a=>fun σ G Q=>wpE T a σ G fun x G1=>vW x G1 Q
 | .tsb a=>fun σ G Q=>wpE T a σ G fun x G1=>∃ k,x= .bl k∧Q k G1
 | .nil=>fun _ G Q=>Q true G
 | _=>fun _ _ _=>False
noncomputable def wpO (T:Tb):CE→PSt→Gh→(Option Int→Gh→Prop)→Prop
 | .nil=>fun _ G Q=>Q none G
 | .tst e=>fun σ G Q=>wpE T e σ G fun x G1=>∃ i,x= .int i∧Q (some i) G1
 | _=>fun _ _ _=>False
noncomputable def wpI (T:Tb):CE→PTI
 | .isq e=>fun σ G R=>wpE T e σ G fun x G1=>OM x G1 R
 | .irg es=>fun σ G R=>wpL T es σ G fun xs G1=>(∃ j,xs=[.int j]∧ -(2 ^ 62)≤j∧j < 2 ^ 62∧R (fun _=>True) (zK 0 j.toNat) G1)∨(∃ i j,xs=[.int i,.int j]∧(-(2 ^ 62)≤i∧i < 2 ^ 62∧ -(2 ^ 62)≤j∧j < 2 ^ 62)∧R (fun _=>True) (zK i (j - i).toNat) G1)
 | .ien e=>fun σ G R=>wpE T e σ G fun x G1=>∃ xs,x= .tup xs∧R (fun _=>True) (DV xs) G1
 | .izp es=>fun σ G R=>wpL T es σ G fun xs G1=>(xs.length=2∨xs.length=3)∧∃ n yss,xs.map aGy=yss.map some∧((∀ ys∈yss,ys.length=n)∨∃ a b,yss=[a,b]∧b.length=n∧n < a.length)∧R (fun _=>True) (aJp n yss) G1
 | _=>fun _ _ _=>False
noncomputable def wpG (T:Tb):CE→PTG
 | .gn i=>fun x σ G Q=>Q (σ.set i (some x)) G
 | .gt n gs=>fun x σ G Q=>(∃ xs,x= .tup xs∧xs.length=n∧gR T gs xs σ G Q)
 | .gl n gs=>fun x σ G Q=>(∃ xs,bQ G x=some xs∧xs.length=n∧gR T gs xs σ G Q)
 | _=>fun _ _ _ _=>False
noncomputable def gR (T:Tb):CE→List PV→PSt→Gh→(PSt→Gh→Prop)→Prop
 | .nil=>fun xs σ G Q=>xs=[]∧Q σ G
 | .cons a b=>fun xs σ G Q=>∃ x r,xs=x :: r∧wpG T a x σ G fun σ1 G1=>gR T b r σ1 G1 Q
 | _=>fun _ _ _ _=>False
end
noncomputable def NZ (f:Str):List Str→List Str
 | []=>[f]
 | n :: r=>if n=f then n :: r else n :: NZ f r
noncomputable def uV {α:Type} (f:Str) (v:α):List Str→List α→List α
 | [],_=>[v]
 | n :: r,x :: xs=>if n=f then v :: xs else x :: uV f v r xs
 | _ :: _,[]=>[]
noncomputable def wpS:Tb→CS→PTS
 | T,.nil=>fun D σ G=>D.nx σ G
 | T,.seq a b=>fun D σ G=>wpS T a { D with nx:=wpS T b D } σ G
 | T,.ex e=>fun D σ G=>wpE T e σ G fun _ G1=>D.nx σ G1
 | T,.asg g e=>fun D σ G=>wpE T e σ G fun x G1=>wpG T g x σ G1 D.nx
 | T,.par i j a b=>fun D σ G=>wpE T a σ G fun x G1=>wpE T b σ G1 fun y G2=>D.nx ((σ.set i (some x)).set j (some y)) G2
 | T,.par3 i j l a b c=>fun D σ G=>wpE T a σ G fun x G1=>wpE T b σ G1 fun y G2=>wpE T c σ G2 fun z G3=>D.nx (((σ.set i (some x)).set j (some y)).set l (some z)) G3
 | T,.sub o i e=>fun D σ G=>wpE T e σ G fun v G1=>wpE T o σ G1 fun x G2=>wpE T i σ G2 fun y G3=>WY x y v G3 fun G4=>D.nx σ G4
 | T,.fld o f e=>fun D σ G=>wpE T e σ G fun v G1=>wpE T o σ G1 fun x G2=>∃ p c ns xs,x= .ref p∧G2 p=some (.ins c ns xs)∧(c,f)∈T.fl∧ns.length < 1000∧D.nx σ (gup G2 p (.ins c (NZ f ns) (uV f v ns xs)))
 | T,.iff c a b=>fun D σ G=>wpT T c σ G fun k G1=>if k=true then wpS T a D σ G1 else wpS T b D σ G1
 | T,.wh c b=>fun D σ G=>∃ W:Nat→PSt→Gh→Prop,(∃ m,W m σ G)∧∀ m σ G,W m σ G→wpT T c σ G fun k G1=>if k=true then wpS T b { D with nx:=fun σ' G'=>∃ m',m' < m∧W m' σ' G',ct:=fun σ' G'=>∃ m',m' < m∧W m' σ' G',bk:=D.nx } σ G1 else D.nx σ G1
 | T,.fr g it b=>fun D σ G=>wpI T it σ G fun chk xs G1=>pY chk (wpG T g) (wpS T b) D xs σ G1
 | T,.ret e=>fun D σ G=>wpE T e σ G D.rt
 | T,.retN=>fun D _ G=>D.rt .non G
 | T,.nev=>fun _ _ _=>False
 | T,.tri b i cs=>fun D σ G=>wpS (T.at (WkX fun c ns xs G1=>c∈cs∧D.nx ((List.replicate σ.length none).set i (some (.exc c ns xs))) G1)) b D σ G
 | T,.trh b j h cs=>fun D σ G=>wpS (T.at (WkX fun c ns xs G1=>c∈cs∧wpS T h ⟨fun σ2 G2=>D.nx (σ2.set j none) G2,D.rt,fun σ2 G2=>D.bk (σ2.set j none) G2,fun σ2 G2=>D.ct (σ2.set j none) G2⟩ ((List.replicate σ.length none).set j (some (.exc c ns xs))) G1)) b D σ G
def JE (X:Cx) (E:Ev) (e:Expr) (t:PTE):Prop:= ∀ F,PE X e (low E F t)
def JT (X:Cx) (E:Ev) (e:Expr) (t:PTT):Prop:= ∀ F,PT X e (xZ E F t)
def JW (X:Cx) (E:Ev) (e:Expr) (t:PTT):Prop:= ∀ F,PW X e (xZ E F t)
def JA (X:Cx) (E:Ev) (es:List Expr) (t:PTA):Prop:= ∀ F,PA X es (vX E F es.length t)
def JS (X:Cx) (E:Ev) (s:Stmt) (t:PTS):Prop:= ∀ F,PS X s (aD8 E F t)
def JSs (X:Cx) (E:Ev) (s:List Stmt) (t:PTS):Prop:= ∀ F,PSs X s (aD8 E F t)
def aCW (E:Ev) (F:Hp) (t:PTG):TG:=fun v σ H Q=>∃ x σ' Z G Q',RP E Z x v∧RSt E Z σ' σ∧Sim E F H Z G∧t x σ' G Q'∧KSt E F Z Q' Q
def JG (X:Cx) (E:Ev) (e:Expr) (t:PTG):Prop:= ∀ F,PG X e (aCW E F t)
noncomputable def aFK (E:Ev) (F:Hp) (t:List PV→PSt→Gh→(PSt→Gh→Prop)→Prop):TGs:=fun vs σ H Q=>∃ xs σ' Z G Q',RPs E Z xs vs∧RSt E Z σ' σ∧Sim E F H Z G∧t xs σ' G Q'∧KSt E F Z Q' Q
def JGs (X:Cx) (E:Ev) (es:List Expr) (t:List PV→PSt→Gh→(PSt→Gh→Prop)→Prop):Prop:= ∀ F,PGs X es (aFK E F t)
theorem PT.imp {X:Cx} {e:Expr} {t t':TT} (h:PT X e t) (g:∀ σ H Q,t' σ H Q→t σ H Q):PT X e t':=fun pins s σ H Q I q=>h pins s σ H Q I (g _ _ _ q)
theorem PW.imp {X:Cx} {e:Expr} {t t':TT} (h:PW X e t) (g:∀ σ H Q,t' σ H Q→t σ H Q):PW X e t':=fun wh pins s σ H Q I q=>h wh pins s σ H Q I (g _ _ _ q)
theorem PA.imp {X:Cx} {es:List Expr} {t t':TA} (h:PA X es t) (g:∀ σ H Q,t' σ H Q→t σ H Q):PA X es t':=fun pos pins s σ H Q I q=>h pos pins s σ H Q I (g _ _ _ q)
theorem PSs.imp {X:Cx} {st:List Stmt} {t t':TS} (h:PSs X st t) (g:∀ D σ H,t' D σ H→t D σ H):PSs X st t':=fun pins s σ H D I q=>h pins s σ H D I (g _ _ _ q)
theorem PGs.imp {X:Cx} {es:List Expr} {t t':TGs} (h:PGs X es t) (g:∀ vs σ H Q,t' vs σ H Q→t vs σ H Q):PGs X es t':=fun pins s σ H v u Q I r q=>h pins s σ H v u Q I r (g _ _ _ _ q)
section
variable {X:Cx} {E:Ev} {T:Tb} {k:Nat} {pos:Pos} {a b c:Expr} {ta tb tc:PTE}
structure Pl (X:Cx) (E:Ev) (T:Tb) (k:Nat):Prop where
 hK:E.K=X.K
 calm:40≤k→X.calm=true
 room:aU k X.A
 cls:UL E T.cs
 fld:∀ c f,(c,f)∈T.fl→Cls X.K (E.cls c)∧cA X.K (E.cls c) f
theorem Kq.go {F Z Z1 H1:Hp} {G1:Gh} {Q':PK1} {Q:VK} (k:Kq E F Z Q' Q) {x:PV} {v:V} (s:aN Z Z1) (S:Sim E F H1 Z1 G1) (r:RP E Z1 x v) (q:Q' x G1):Q v H1:=k x v Z1 G1 H1 s S r q
theorem aCd {i:Nat} {x:Str} (hN:X.N[i]? =some x) (hv:Vis X.env.scope x) (hd:(x == ("__debug__":Str))=false) (hcd:(x == ("__classdict__":Str))=false):JE X E (.Name x pos) (wpE T (.var i)):=fun F =>
 (UU hN hv hd hcd).imp <|by
   rintro σ H Q ⟨σ',Z,G,Q',rs,S,h,kq⟩;rw [wpE] at h;obtain ⟨x,e,q⟩:=h;obtain ⟨v,e',r⟩:=rs.get e;exact ⟨v,e',kq.here S q r⟩
theorem aEI {i:Int} {j:Nat}:JE X E (.Constant (.int i) j pos) (wpE T (.int i)):=fun F=>RS.imp <|by rintro σ H Q ⟨σ',Z,G,Q',rs,S,h,kq⟩;rw [wpE] at h; exact kq.here S h bM
theorem aHH {i:Bool} {j:Nat}:JE X E (.Constant (.bool i) j pos) (wpE T (.bl i)):=fun F=>aIA.imp <|by rintro σ H Q ⟨σ',Z,G,Q',rs,S,h,kq⟩;rw [wpE] at h; exact kq.here S h bO
theorem aCN {j:Nat}:JE X E (.Constant .none j pos) (wpE T .non):=fun F=>aC2.imp <|by rintro σ H Q ⟨σ',Z,G,Q',rs,S,h,kq⟩;rw [wpE] at h; exact kq.here S h oE
theorem OO {i:Str} {j:Nat}:JE X E (.Constant (.str i) j pos) (wpE T (.str i)):=fun F=>aBW.imp <|by rintro σ H Q ⟨σ',Z,G,Q',rs,S,h,kq⟩;rw [wpE] at h; exact kq.here S h iC
theorem aDm {x:Str} {u:Value} {v:V} (hg:Gl X x) (hm:X.mg x=some u) (r:aQ v u) (hr:RP E (fun _=>none) (T.gv x) v) (hd:(x == ("__debug__":Str))=false):JE X E (.Name x pos) (wpE T (.glo x)):=fun F =>
 (aAc hg hm r hd).imp <|by rintro σ H Q ⟨σ',Z,G,Q',rs,S,h,kq⟩;rw [wpE] at h; exact kq.here S h (hr.mono fun _ _ z=>by cases z)
theorem aGF {x:Str} {n:String} (hg:Gl X x) (hm:X.mg x=none) (hv:bootBuiltins x=some (.type n)) (hgv:T.gv x= .ty n) (hn:x≠"__name__") (hd:(x == ("__debug__":Str))=false):JE X E (.Name x pos) (wpE T (.glo x)):=fun F =>
 (aAh (v:=.ty n) hg hm hv rfl hn hd).imp <|by rintro σ H Q ⟨σ',Z,G,Q',rs,S,h,kq⟩;rw [wpE] at h; rw [hgv] at h; exact kq.here S h rfl
theorem QI {F:Hp} {p:P2} {σ:L2.St} {H:Hp} {Q:VK} (h:low E F (fun σ G Q=>ta σ G fun x G1=>tb σ G1 fun y G2=>p x y G2 Q) σ H Q):tOp (dS E F p) (low E F ta) (low E F tb) σ H Q:=by
 obtain ⟨σ',Z,G,Q',rs,S,h,kq⟩:=h;refine ⟨σ',Z,G,_,rs,S,h,fun x v Z1 G1 H1 s1 S1 r1 q1=>⟨σ',Z1,G1,_,rs.mono s1,S1,q1,fun y u Z2 G2 H2 s2 S2 r2 q2=>?_⟩⟩;exact ⟨x,y,Z2,G2,Q',r1.mono s2,r2,S2,q2,kq.mono (s1.trans s2)⟩
theorem aE8 {op:Operator} {a' b':CE} (P:Pl X E T k) (ha:JE X E a (wpE T a')) (hb:JE X E b (wpE T b')):JE X E (.BinOp a op b pos) (wpE T (.bin op a' b')):=fun F =>
 (aIq (XF P.hK op) (ha F) (hb F)).imp fun σ H Q h=>QI (by rw [wpE] at h; exact h)
theorem aCC {a':CE} (ha:JE X E a (wpE T a')):JE X E (.UnaryOp .USub a pos) (wpE T (.neg a')):=fun F =>
 (aBz SN (ha F)).imp <|by
   rintro σ H Q ⟨σ',Z,G,Q',rs,S,h,kq⟩;rw [wpE] at h;refine ⟨σ',Z,G,_,rs,S,h,fun x v Z1 G1 H1 s1 S1 r1 q1=>?_⟩;unfold aB7 at q1;split at q1
   · exact ⟨_,r1,kq.go s1 S1 bM q1⟩
   · exact q1.elim
theorem aAH {te:TE} (he:PE X a te):PE X (.UnaryOp .Not a pos) (fun σ H Q=>te σ H fun x H1=>∃ b,OD X.K x H1 b∧Q (.bl (!b)) H1):=by
 intro pins s σ H Q I h;refine UnaryOp_ (thn (he pins s σ H _ I h) fun v s1 zz=>?_);obtain ⟨x,H1,I1,r1,b,tv,q⟩:=zz;exact not_of (thn (zD pins s1 σ H1 x v (fun c H2=>Q (.bl (!c)) H2) I1 r1 ⟨b,tv,q⟩) <|by rintro c s2 ⟨H2,I2,q2⟩;exact ⟨.bl (!c),H2,I2,rfl,q2⟩)
theorem aIz {a':CE} (P:Pl X E T k) (ha:JE X E a (wpE T a')):JE X E (.UnaryOp .Not a pos) (wpE T (.no a')):=fun F =>
 (aAH (ha F)).imp <|by
   rintro σ H Q ⟨σ',Z,G,Q',rs,S,h,kq⟩;rw [wpE] at h;refine ⟨σ',Z,G,_,rs,S,h,fun x v Z1 G1 H1 s1 S1 r1 q1=>?_⟩;obtain ⟨c,tv,q⟩:=rT P.hK S1 r1 q1;exact ⟨c,tv,kq.go s1 S1 bO q⟩
theorem aAW {aV:List Expr} {te tf:TE} (ha:PE X a te) (hb:PE X (.BoolOp .And (b :: aV) pos) tf):PE X (.BoolOp .And (a :: b :: aV) pos) (fun σ H Q=>te σ H fun x H1=>∃ c,OD X.K x H1 c∧if c=true then tf σ H1 Q else Q x H1):=by
 intro pins s σ H Q I h;refine BoolOp_and (thn (ha pins s σ H _ I h) fun v s1 zz=>?_);obtain ⟨x,H1,I1,r1,c,tv,q1⟩:=zz;refine thn (zD pins s1 σ H1 x v (fun d H2=>d=c∧H2=H1) I1 r1 ⟨c,tv,rfl,rfl⟩) fun d s2 zz=>?_;obtain ⟨H2,I2,e1,e2⟩:=zz;subst e1 e2;cases d with
 | true=>exact hb pins s2 σ H2 Q I2 q1
 | false=>exact ⟨x,H2,I2,r1,q1⟩
theorem aBX {aV:List Expr} {te tf:TE} (ha:PE X a te) (hb:PE X (.BoolOp .Or (b :: aV) pos) tf):PE X (.BoolOp .Or (a :: b :: aV) pos) (fun σ H Q=>te σ H fun x H1=>∃ c,OD X.K x H1 c∧if c=true then Q x H1 else tf σ H1 Q):=by
 intro pins s σ H Q I h;refine BoolOp_or (thn (ha pins s σ H _ I h) fun v s1 zz=>?_);obtain ⟨x,H1,I1,r1,c,tv,q1⟩:=zz;refine thn (zD pins s1 σ H1 x v (fun d H2=>d=c∧H2=H1) I1 r1 ⟨c,tv,rfl,rfl⟩) fun d s2 zz=>?_;obtain ⟨H2,I2,e1,e2⟩:=zz;subst e1 e2;cases d with
 | false=>exact hb pins s2 σ H2 Q I2 q1
 | true=>exact ⟨x,H2,I2,r1,q1⟩
theorem aGR {aV:List Expr} {a' b':CE} (P:Pl X E T k) (ha:JE X E a (wpE T a')) (hb:JE X E (.BoolOp .And (b :: aV) pos) (wpE T b')):JE X E (.BoolOp .And (a :: b :: aV) pos) (wpE T (.an a' b')):=fun F =>
 (aAW (ha F) (hb F)).imp <|by
   rintro σ H Q ⟨σ',Z,G,Q',rs,S,h,kq⟩;rw [wpE] at h;refine ⟨σ',Z,G,_,rs,S,h,fun x v Z1 G1 H1 s1 S1 r1 q1=>?_⟩;obtain ⟨c,tv,q⟩:=rT P.hK S1 r1 q1;refine ⟨c,tv, ?_⟩;cases c with
   | true=>rw [if_pos rfl] at q ⊢; exact ⟨σ',Z1,G1,Q',rs.mono s1,S1,q,kq.mono s1⟩
   | false=>rw [if_neg Bool.false_ne_true] at q ⊢; exact kq.go s1 S1 r1 q
theorem aHA {aV:List Expr} {a' b':CE} (P:Pl X E T k) (ha:JE X E a (wpE T a')) (hb:JE X E (.BoolOp .Or (b :: aV) pos) (wpE T b')):JE X E (.BoolOp .Or (a :: b :: aV) pos) (wpE T (.oo a' b')):=fun F =>
 (aBX (ha F) (hb F)).imp <|by
   rintro σ H Q ⟨σ',Z,G,Q',rs,S,h,kq⟩;rw [wpE] at h;refine ⟨σ',Z,G,_,rs,S,h,fun x v Z1 G1 H1 s1 S1 r1 q1=>?_⟩;obtain ⟨c,tv,q⟩:=rT P.hK S1 r1 q1;refine ⟨c,tv, ?_⟩;cases c with
   | false=>rw [if_neg Bool.false_ne_true] at q ⊢; exact ⟨σ',Z1,G1,Q',rs.mono s1,S1,q,kq.mono s1⟩
   | true=>rw [if_pos rfl] at q ⊢; exact kq.go s1 S1 r1 q
theorem aDD {op:BoolOp} {t:PTE} (ha:JE X E a t):JE X E (.BoolOp op [a] pos) t:=fun F=>aDB (ha F)
theorem iK {Z:Hp} {x:PV} {v:V} (r:RP E Z x v):(v= .non)↔x= .non:=by
 cases x with
 | non=>exact ⟨fun _=>rfl,fun _=>r⟩
 | bl b=>rw [show v= .bl b from r]; exact ⟨(fun z=>nomatch z),(fun z=>nomatch z)⟩
 | int b=>rw [show v= .int b from r]; exact ⟨(fun z=>nomatch z),(fun z=>nomatch z)⟩
 | str b=>rw [show v= .str b from r]; exact ⟨(fun z=>nomatch z),(fun z=>nomatch z)⟩
 | ty b=>rw [show v= .ty b from r]; exact ⟨(fun z=>nomatch z),(fun z=>nomatch z)⟩
 | ref b=>rw [show v= .ref b from r]; exact ⟨(fun z=>nomatch z),(fun z=>nomatch z)⟩
 | cl b=>rw [show v= .ref _ from r]; exact ⟨(fun z=>nomatch z),(fun z=>nomatch z)⟩
 | fn b=>rw [show v= .ref _ from r]; exact ⟨(fun z=>nomatch z),(fun z=>nomatch z)⟩
 | emp=>obtain ⟨a,rfl,_⟩:=r; exact ⟨(fun z=>nomatch z),(fun z=>nomatch z)⟩
 | dct ks xs=>obtain ⟨_,_,rfl,_⟩:=r; exact ⟨(fun z=>nomatch z),(fun z=>nomatch z)⟩
 | tup xs=>obtain ⟨_,_,rfl,_⟩:=r; exact ⟨(fun z=>nomatch z),(fun z=>nomatch z)⟩
 | lst xs=>obtain ⟨_,_,rfl,_⟩:=r; exact ⟨(fun z=>nomatch z),(fun z=>nomatch z)⟩
 | scr xs=>obtain ⟨_,rfl,_⟩:=r; exact ⟨(fun z=>nomatch z),(fun z=>nomatch z)⟩
 | ob _ _ xs=>obtain ⟨_,_,_,rfl,_⟩:=r; exact ⟨(fun z=>nomatch z),(fun z=>nomatch z)⟩
 | exc _ _ xs=>obtain ⟨_,_,_,rfl,_⟩:=r; exact ⟨(fun z=>nomatch z),(fun z=>nomatch z)⟩
theorem aC8:OpR X (compareOp .Is) (fun x y H Q=>∃ i j,x= .bl i∧y= .bl j∧Q (.bl (i == j)) H):=by
 rintro pins s σ H x y v u Q I rx ry ⟨i,j,e1,e2,q⟩;subst e1 e2; cases rx; cases ry;exact is_bool ⟨.bl _,H,I,rfl,q⟩
theorem aAM:OpR X (compareOp .IsNot) (fun x y H Q=>∃ i j,x= .bl i∧y= .bl j∧Q (.bl (!(i == j))) H):=by
 rintro pins s σ H x y v u Q I rx ry ⟨i,j,e1,e2,q⟩;subst e1 e2; cases rx; cases ry;exact isnot_bool ⟨.bl _,H,I,rfl,q⟩
theorem aES {F:Hp}:OpR X (compareOp .Is) (dS E F (pIs false)):=by
 refine (aEm.or aC8).imp fun v u H Q h=>?_;obtain ⟨x,y,Z,G,Q',r1,r2,S,q,k⟩:=h;unfold pIs at q;split at q
 · refine .inl ⟨r2, ?_⟩;rcases q with ⟨e,q⟩ | ⟨e,q⟩
   · rw [decide_eq_true ((iK r1).mpr e)]; exact k.here S q bO
   · rw [decide_eq_false fun z=>e ((iK r1).mp z)]; exact k.here S q bO
 · obtain ⟨c,e,q⟩:=q;subst e;exact .inr ⟨_,_,r1,r2,k.here S q bO⟩
 · exact q.elim
theorem XB {F:Hp}:OpR X (compareOp .IsNot) (dS E F (pIs true)):=by
 refine (aAr.or aAM).imp fun v u H Q h=>?_;obtain ⟨x,y,Z,G,Q',r1,r2,S,q,k⟩:=h;unfold pIs at q;split at q
 · refine .inl ⟨r2, ?_⟩;rcases q with ⟨e,q⟩ | ⟨e,q⟩
   · rw [decide_eq_true ((iK r1).mpr e)]; exact k.here S q bO
   · rw [decide_eq_false fun z=>e ((iK r1).mp z)]; exact k.here S q bO
 · obtain ⟨c,e,q⟩:=q;subst e;exact .inr ⟨_,_,r1,r2,k.here S q bO⟩
 · exact q.elim
theorem aBF {Z:Hp} {x:PV} {v:V} (r:RP E Z x v) (h:flP x=true):lF v=true:=by
 cases x <;> first | (cases h; done) | skip
 · rw [show v= .non from r]; rfl
 · rw [show v= .bl _ from r]; rfl
 · rw [show v= .int _ from r]; rfl
 · rw [show v= .str _ from r]; rfl
theorem aFZ {Z:Hp} {x y:PV} {v u:V} (r:RP E Z x v) (ry:RP E Z y u) (h:flP x=true) (hy:flP y=true):eqV v u=peq x y:=by
 cases x <;> first | (cases h; done) | skip
 all_goals (cases y <;> first | (cases hy; done) | skip)
 all_goals
   first
   | rw [show v= .non from r]
   | rw [show v= .bl _ from r]
   | rw [show v= .int _ from r]
   | rw [show v= .str _ from r]
 all_goals
   first
   | rw [show u= .non from ry]
   | rw [show u= .bl _ from ry]
   | rw [show u= .int _ from ry]
   | rw [show u= .str _ from ry]
 all_goals simp only [eqV,peq]
theorem aBb {Z:Hp} {x:PV} {v:V} (r:RP E Z x v) (h:flP x=true):∀ {xs:List PV} {vs:List V},RPs E Z xs vs→xs.all flP=true→vs.all lF=true∧inV v vs=xs.any fun z=>peq z x
 | [],_,hr,_=>by cases hr; exact ⟨rfl,rfl⟩
 | y :: ys,_,⟨u,us,e,r1,r2⟩,ha=>by
   subst e;rw [List.all_cons,Bool.and_eq_true] at ha;obtain ⟨a,b⟩:=aBb r h r2 ha.2;refine ⟨by rw [List.all_cons,aBF r1 ha.1,a]; rfl, ?_⟩;unfold inV at b ⊢;rw [List.any_cons,List.any_cons,b,aFZ r1 r ha.1 h]
theorem VC {F:Hp} {neg:Bool} (hK:E.K=X.K) {v u:V} {H:Hp} {Q:VK} (h:dS E F (pIn neg) v u H Q):rIn X.K neg v u H Q:=by
 obtain ⟨x,y,Z,G,Q',r1,r2,S,⟨xs,hx,h1,h2,q⟩,k⟩:=h;have key:∀ {a:Addr} {vs:List V},RPs E Z xs vs→(SqL X.K H a vs∨SqT X.K H a vs)→u= .ref a→rIn X.K neg v u H Q:=fun {a vs} t hs e=>by
   obtain ⟨a1,a2⟩:=aBb r1 h1 t h2;refine ⟨a,vs,e,hs,aBF r1 h1,a1, ?_⟩;rw [a2];exact k.here S q bO
 rcases hx with rfl | hx
 · obtain ⟨a,vs,rfl,ha,ta⟩:=eE S r2;exact key ta (.inr (hK▸ha)) rfl
 · obtain ⟨a,vs,rfl,ha,ta⟩:=dB S r2 hx;exact key ta (.inl (SqL.of ha)) rfl
theorem kH {F:Hp} (P:Pl X E T k):∀ op,OpR X (compareOp op) (dS E F (nH op))
 | .Lt=>aHW.imp fun _ _ _ _ h=>uB (iA (fun _ _ _=>bO) h)
 | .LtE=>aGL.imp fun _ _ _ _ h=>uB (iA (fun _ _ _=>bO) h)
 | .Gt=>aHe.imp fun _ _ _ _ h=>uB (iA (fun _ _ _=>bO) h)
 | .GtE=>aGs.imp fun _ _ _ _ h=>uB (iA (fun _ _ _=>bO) h)
 | .Eq=>UE P.room P.hK
 | .NotEq=>TK P.room P.hK
 | .Is=>aES
 | .IsNot=>XB
 | .In=>MH.imp fun _ _ _ _ h=>VC P.hK h
 | .NotIn=>yP.imp fun _ _ _ _ h=>VC P.hK h
theorem aE2 {op:CmpOp} {a' b':CE} (P:Pl X E T k) (hm:behindInMarks op b=false) (ha:JE X E a (wpE T a')) (hb:JE X E b (wpE T b')):JE X E (.Compare a [op] [b] pos) (wpE T (.cmp op a' b')):=fun F =>
 (HB (kH P op) (ha F) (hb F) hm).imp fun σ H Q h=>QI (by rw [wpE] at h; exact h)
theorem aEj {op:CmpOp} {a' b':CE} (P:Pl X E T k) (hm:behindInMarks op b=false) (ha:JE X E a (wpE T a')) (hb:JE X E b (wpE T b')):JT X E (.Compare a [op] [b] pos) (wpT T (.tsb (.cmp op a' b'))):=fun F =>
 PT.imp (aAv (kH P op) (ha F) (hb F) hm) fun σ H Q h=>QI (by
   obtain ⟨σ',Z,G,Q',rs,S,h,kq⟩:=h;rw [wpT,wpE] at h;exact ⟨σ',Z,G,_,rs,S,h,by rintro x v Z1 G1 H1 s1 S1 r1 ⟨kk,e,q⟩;subst e; exact ⟨kk,r1,kq _ Z1 G1 H1 s1 S1 q⟩⟩)
theorem HU {F:Hp} {op op':CmpOp} {a' b' c':CE} {σ:L2.St} {H:Hp} {Q:VK} (h:low E F (wpE T (.chn op op' a' b' c')) σ H Q):GR (dS E F (nH op)) (dS E F (nH op')) (low E F (wpE T a')) (low E F (wpE T b')) (low E F (wpE T c')) σ H Q:=by
 obtain ⟨σ',Z,G,Q',rs,S,h,kq⟩:=h;rw [wpE] at h;refine ⟨σ',Z,G,_,rs,S,h,fun x v Z1 G1 H1 s1 S1 r1 q1=>⟨σ',Z1,G1,_,rs.mono s1,S1,q1,fun y u Z2 G2 H2 s2 S2 r2 q2=>⟨x,y,Z2,G2,_,r1.mono s2,r2,S2,q2, ?_⟩⟩⟩;rintro z w Z3 G3 H3 s3 S3 r3 ⟨kk,e,q3⟩;subst e;refine ⟨kk,r3, ?_⟩;have sz:=(s1.trans s2).trans s3;cases kk with
 | true =>
   rw [if_pos rfl] at q3 ⊢;exact ⟨σ',Z3,G3,_,rs.mono sz,S3,q3,fun z' w' Z4 G4 H4 s4 S4 r4 q4=>⟨y,z',Z4,G4,Q',(r2.mono s3).mono s4,r4,S4,q4,kq.mono (sz.trans s4)⟩⟩
 | false =>
   rw [if_neg Bool.false_ne_true] at q3 ⊢;exact kq.go sz S3 bO q3
theorem aDu {op op':CmpOp} {a' b' c':CE} (P:Pl X E T k) (hm:lastMarks [op,op'] [b,c]=false) (ha:JE X E a (wpE T a')) (hb:JE X E b (wpE T b')) (hc:JE X E c (wpE T c')):JE X E (.Compare a [op,op'] [b,c] pos) (wpE T (.chn op op' a' b' c')):=fun F =>
 (OK (kH P op) (kH P op') (ha F) (hb F) (hc F) hm).imp fun σ H Q h=>HU h
theorem aCH {op op':CmpOp} {a' b' c':CE} (P:Pl X E T k) (hm:lastMarks [op,op'] [b,c]=false) (ha:JE X E a (wpE T a')) (hb:JE X E b (wpE T b')) (hc:JE X E c (wpE T c')):JT X E (.Compare a [op,op'] [b,c] pos) (wpT T (.tsb (.chn op op' a' b' c'))):=fun F =>
 PT.imp (SQ (kH P op) (kH P op') (ha F) (hb F) (hc F) hm) fun σ H Q h=>HU (by
   obtain ⟨σ',Z,G,Q',rs,S,h,kq⟩:=h;rw [wpT] at h;exact ⟨σ',Z,G,_,rs,S,h,by rintro x v Z1 G1 H1 s1 S1 r1 ⟨kk,e,q⟩;subst e; exact ⟨kk,r1,kq _ Z1 G1 H1 s1 S1 q⟩⟩)
theorem yI {a':CE} (P:Pl X E T k) (ha:JE X E a (wpE T a')) (he:∀ whole,isTrue a X.env whole=(do let v ←whole; standAt a.pos; holding [v] (truthy v))):JT X E a (wpT T (.tst a')):=fun F =>
 PT.imp (RW (ha F) he) <|by
   rintro σ H Q ⟨σ',Z,G,Q',rs,S,h,kq⟩;rw [wpT] at h;refine ⟨σ',Z,G,_,rs,S,h,fun x v Z1 G1 H1 s1 S1 r1 q1=>?_⟩;obtain ⟨c,tv,q⟩:=rT P.hK S1 r1 q1;exact ⟨c,tv,kq _ Z1 G1 H1 s1 S1 q⟩
theorem aC4 {a':CE} (ha:JT X E a (wpT T a')):JW X E (.BoolOp .And [a] pos) (wpT T a'):=fun F=>ZX (ha F)
theorem aB8 {a':CE} (ha:JT X E a (wpT T a')):JW X E (.BoolOp .Or [a] pos) (wpT T a'):=fun F=>aBR (ha F)
theorem aIm {F:Hp} {a' b':CE} {σ:L2.St} {H:Hp} {Q:Bool→Hp→Prop} (h:xZ E F (wpT T (.an a' b')) σ H Q):aGd (xZ E F (wpT T a')) (xZ E F (wpT T b')) σ H Q:=by
 obtain ⟨σ',Z,G,Q',rs,S,h,kq⟩:=h;rw [wpT] at h;refine ⟨σ',Z,G,_,rs,S,h,fun d Z1 G1 H1 s1 S1 q=>?_⟩;cases d with
 | true=>rw [if_pos rfl] at q ⊢; exact ⟨σ',Z1,G1,Q',rs.mono s1,S1,q,kq.mono s1⟩
 | false=>rw [if_neg Bool.false_ne_true] at q ⊢; exact kq _ _ _ _ s1 S1 q
theorem aGo {F:Hp} {a' b':CE} {σ:L2.St} {H:Hp} {Q:Bool→Hp→Prop} (h:xZ E F (wpT T (.oo a' b')) σ H Q):tOr (xZ E F (wpT T a')) (xZ E F (wpT T b')) σ H Q:=by
 obtain ⟨σ',Z,G,Q',rs,S,h,kq⟩:=h;rw [wpT] at h;refine ⟨σ',Z,G,_,rs,S,h,fun d Z1 G1 H1 s1 S1 q=>?_⟩;cases d with
 | false=>rw [if_neg Bool.false_ne_true] at q ⊢; exact ⟨σ',Z1,G1,Q',rs.mono s1,S1,q,kq.mono s1⟩
 | true=>rw [if_pos rfl] at q ⊢; exact kq _ _ _ _ s1 S1 q
theorem aHo {aV:List Expr} {a' b':CE} (ha:JT X E a (wpT T a')) (hb:JW X E (.BoolOp .And (b :: aV) pos) (wpT T b')):JW X E (.BoolOp .And (a :: b :: aV) pos) (wpT T (.an a' b')):=fun F=>PW.imp (aDg (ha F) (hb F)) fun _ _ _ h=>aIm h
theorem aGh {aV:List Expr} {a' b':CE} (ha:JT X E a (wpT T a')) (hb:JW X E (.BoolOp .Or (b :: aV) pos) (wpT T b')):JW X E (.BoolOp .Or (a :: b :: aV) pos) (wpT T (.oo a' b')):=fun F=>PW.imp (aGp (ha F) (hb F)) fun _ _ _ h=>aGo h
theorem JW.jt {e:Expr} {t:PTT} (h:JW X E e t):JT X E e t:=fun F=>(h F).pt
theorem aHV {a':CE} (ha:JT X E a (wpT T a')):JT X E (.UnaryOp .Not a pos) (wpT T (.no a')):=fun F =>
 PT.imp (aEs (ha F)) <|by
   rintro σ H Q ⟨σ',Z,G,Q',rs,S,h,kq⟩;rw [wpT] at h;exact ⟨σ',Z,G,_,rs,S,h,fun d Z1 G1 H1 s1 S1 q=>kq _ _ _ _ s1 S1 q⟩
theorem aFc:JA X E [] (wpL T .nil):=fun F=>PA.imp gL <|by rintro σ H Q ⟨σ',Z,G,Q',rs,S,h,kq⟩;rw [wpL] at h; exact kq [] [] Z G H rfl (aN.refl Z) S rfl h
theorem WP {e:Expr} {es:List Expr} {a' b':CE} (ha:JE X E e (wpE T a')) (hr:JA X E es (wpL T b')) (hs:starEach (e :: es) X.env=(false,eval e X.env) :: starEach es X.env):JA X E (e :: es) (wpL T (.cons a' b')):=fun F =>
 PA.imp (cZ (ha F) (hr F) hs) <|by
   rintro σ H Q ⟨σ',Z,G,Q',rs,S,h,kq⟩;rw [wpL] at h;exact ⟨σ',Z,G,_,rs,S,h,fun x v Z1 G1 H1 s1 S1 r1 q1=>⟨σ',Z1,G1,_,rs.mono s1,S1,q1,fun xs vs Z2 G2 H2 l2 s2 S2 r2 q2=>kq (x :: xs) (v :: vs) _ _ _ (by rw [List.length_cons,l2]; rfl) (s1.trans s2) S2 ⟨v,vs,rfl,r1.mono s2,r2⟩ q2⟩⟩
theorem aCj {es:List Expr} {x1:Nat} {es':CE} (h:JA X E es (wpL T es')):JE X E (.Tuple es x1 pos) (wpE T (.tup es')):=fun F =>
 (aCK (h F)).imp <|by
   rintro σ H Q ⟨σ',Z,G,Q',rs,S,h,kq⟩;rw [wpE] at h;refine ⟨σ',Z,G,_,rs,S,h,fun xs vs Z1 G1 H1 l1 s1 S1 r1 q1=>⟨by rw [←r1.length]; exact q1.1,fun p n=>(kq.mono s1).newZ S1 n (kG (S1.zn n) r1) q1.2⟩⟩
theorem SL {F Z H:Hp} {G:Gh} {m:Bool} {xs:List PV} {vs:List V} {Q':PK1} {Q:VK} {p:Addr} (S:Sim E F H Z G) (n:H p=none) (r:RPs E Z xs vs) (q:vD m G xs Q') (kq:Kq E F Z Q' Q):Q (.ref p) (upd H p (.lst vs)):=by
 unfold vD at q;cases m with
 | true =>
   rw [if_pos rfl] at q;exact kq (.ref p) _ _ _ _ (aN.refl Z) (S.new (go:=.lst xs) n ⟨vs,rfl,r⟩) rfl (q p (S.gn n))
 | false =>
   rw [if_neg Bool.false_ne_true] at q;exact kq.newZ S n (fH (S.zn n) r) q
theorem aFe {es:List Expr} {es':CE} {m:Bool} (h:JA X E es (wpL T es')):JE X E (.List es pos) (wpE T (.lst m es')):=fun F =>
 (aFf (h F)).imp <|by
   rintro σ H Q ⟨σ',Z,G,Q',rs,S,h,kq⟩;rw [wpE] at h;refine ⟨σ',Z,G,_,rs,S,h,fun xs vs Z1 G1 H1 l1 s1 S1 r1 q1=>⟨by rw [←r1.length]; exact q1.1,fun p n=>SL S1 n r1 q1.2 (kq.mono s1)⟩⟩
theorem aEd {a' b':CE} (P:Pl X E T k) (ha:JE X E a (wpE T a')) (hb:JE X E b (wpE T b')) (hs:xV b):JE X E (.Subscript a b pos) (wpE T (.idx a' b')):=fun F =>
 (aIk (aE7 P.room P.hK) (ha F) (hb F) hs).imp fun σ H Q h=>QI (by rw [wpE] at h; exact h)
noncomputable def aJo (E:Ev) (F:Hp) (t:PSt→Gh→(Option Int→Gh→Prop)→Prop):TO:=fun σ H Q=>∃ σ' Z G Q',RSt E Z σ' σ∧Sim E F H Z G∧t σ' G Q'∧∀ o Z1 G1 H1,aN Z Z1→Sim E F H1 Z1 G1→Q' o G1→Q o H1
def JO (X:Cx) (E:Ev) (e:Option Expr) (t:PSt→Gh→(Option Int→Gh→Prop)→Prop):Prop:= ∀ F,PO X e (aJo E F t)
theorem PO.imp {e:Option Expr} {t t':TO} (h:PO X e t) (g:∀ σ H Q,t' σ H Q→t σ H Q):PO X e t':=fun pins s σ H Q I q=>h pins s σ H Q I (g _ _ _ q)
theorem aDZ:JO X E none (wpO T .nil):=fun F=>PO.imp ZG <|by rintro σ H Q ⟨σ',Z,G,Q',rs,S,h,kq⟩;rw [wpO] at h; exact kq _ _ _ _ (aN.refl Z) S h
theorem XI {a':CE} (ha:JE X E a (wpE T a')):JO X E (some a) (wpO T (.tst a')):=fun F=>PO.imp (HK (ha F)) <|by
 rintro σ H Q ⟨σ',Z,G,Q',rs,S,h,kq⟩;rw [wpO] at h;exact ⟨σ',Z,G,_,rs,S,h,by rintro x v Z1 G1 H1 s1 S1 r1 ⟨i,e,q⟩;subst e; exact ⟨i,r1,kq _ _ _ _ s1 S1 q⟩⟩
theorem aCY {lo hi:Option Expr} {p2:Pos} {a' l' h':CE} (P:Pl X E T k) (ha:JE X E a (wpE T a')) (hl:JO X E lo (wpO T l')) (hu:JO X E hi (wpO T h')):JE X E (.Subscript a (.Slice lo hi none p2) pos) (wpE T (.sli a' l' h')):=fun F =>
 (RQ (aEG P.hK) (ha F) (hl F) (hu F)).imp <|by
   rintro σ H Q ⟨σ',Z,G,Q',rs,S,h,kq⟩;rw [wpE] at h;refine ⟨σ',Z,G,_,rs,S,h,fun x v Z1 G1 H1 s1 S1 r1 q1=>⟨σ',Z1,G1,_,rs.mono s1,S1,q1,fun o Z2 G2 H2 s2 S2 q2=>⟨σ',Z2,G2,_,(rs.mono s1).mono s2,S2,q2,fun o' Z3 G3 H3 s3 S3 q3=>?_⟩⟩⟩;exact ⟨x,Z3,G3,Q',(r1.mono s2).mono s3,S3,q3,kq.mono ((s1.trans s2).trans s3)⟩
theorem aB6 {p1 p2 p3:Pos} {k1:Nat} {a':CE} (P:Pl X E T k) (ha:JE X E a (wpE T a')):JE X E (.Subscript a (.Slice none none (some (.UnaryOp .USub (.Constant (.int 1) k1 p1) p2)) p3) pos) (wpE T (.rev a')):=fun F =>
 (WX (ha F)).imp <|by
   rintro σ H Q ⟨σ',Z,G,Q',rs,S,h,kq⟩;rw [wpE] at h;refine ⟨σ',Z,G,_,rs,S,h,fun x v Z1 G1 H1 s1 S1 r1 hq=>?_⟩;rcases hq with ⟨xs,e,q1⟩ | ⟨xs,e,q1⟩
   · obtain ⟨a,vs,rfl,ha,ta⟩:=dB S1 r1 e;exact ⟨a,vs,rfl,.inl ⟨ha,fun p n=>(kq.mono s1).newZ S1 n (fH (S1.zn n) ta.reverse) q1⟩⟩
   · subst e;obtain ⟨a,vs,rfl,ha,ta⟩:=eE S1 r1;exact ⟨a,vs,rfl,.inr ⟨P.hK▸ha,fun p n=>(kq.mono s1).newZ S1 n (kG (S1.zn n) ta.reverse) q1⟩⟩
theorem lS {ns:List Str} {f:Str} {x:PV} {Z:Hp}:∀ {ns:List Str} {xs:List PV} {vs:List V},RPs E Z xs vs→(ns.zip xs).lookup f=some x→∃ v,(ns.zip vs).lookup f=some v∧RP E Z x v
 | [],_,_,_,h=>by cases h
 | _ :: _,[],_,_,h=>by cases h
 | n :: ns,y :: ys,_,⟨v,r,e,r1,r2⟩,h=>by
   subst e;rw [List.zip_cons_cons,List.lookup_cons] at h;rw [List.zip_cons_cons,List.lookup_cons];cases hb:f == n with
   | true=>rw [hb] at h; cases h; exact ⟨v,rfl,r1⟩
   | false=>rw [hb] at h; exact lS (ns:=ns) r2 h
theorem aDz {f:Str} {a':CE} (P:Pl X E T k) (ha:JE X E a (wpE T a')) (hb:attributeBase a f X.env (eval a X.env)=eval a X.env):JE X E (.Attribute a f pos) (wpE T (.att a' f)):=fun F =>
 (aCG (ha F) hb).imp <|by
   rintro σ H Q ⟨σ',Z,G,Q',rs,S,h,kq⟩;rw [wpE] at h;refine ⟨σ',Z,G,_,rs,S,h,fun x v Z1 G1 H1 s1 S1 r1 zz=>?_⟩;obtain ⟨c,ns,xs,y,hx,hf,hl,q⟩:=zz;obtain ⟨h1,h2⟩:=P.fld c f hf;rcases hx with e | ⟨a,e,hG⟩
   · subst e;obtain ⟨p,dx,vs,e,hp,_,t⟩:=r1;obtain ⟨w,e1,e2⟩:=lS (ns:=ns) t hl;exact ⟨p,_,dx,_,w,e,S1.z _ _ hp,h1,h2,e1,kq.go s1 S1 e2 q⟩
   · subst e;obtain ⟨_,o',hp,dx,vs,e',_,t⟩:=S1.g _ _ hG;subst e';obtain ⟨w,e1,e2⟩:=lS (ns:=ns) t hl;exact ⟨a,_,dx,_,w,r1,hp,h1,h2,e1,kq.go s1 S1 e2 q⟩
theorem aCr {x:Str} {p:Pos} {e:Expr} {es:List Expr} {bb:Bn} {es':CE} (P:Pl X E T k) (h40:MB bb=true→40≤k) (hg:Gl X x) (hm:X.mg x=none) (hv:bootBuiltins x=some (SK bb)) (hn:x≠"__name__") (hd:(x == ("__debug__":Str))=false)
   (ha:JA X E (e :: es) (wpL T es')) (he:starEach (e :: es) X.env=(false,eval e X.env) :: starEach es X.env) (hpl:(backTo pos (starEach es X.env)).any (·.1)=false):JE X E (.Call (.Name x p) (e :: es) [] pos) (wpE T (.blt bb es')):=fun F=>by
 have main:PE X (.Call (.Name x p) (e :: es) [] pos) (tCB (TF E F (dU T.cs bb)) (vX E F (e :: es).length (wpL T es'))):=by
   have hc:=IW (F:=F) (cs:=T.cs) P.hK P.cls bb fun z=>P.calm (h40 z);cases bb <;> first
     | exact BZ hc hg hm hv (ha F) hn hd he hpl
     | exact wI hc hg hm hv (ha F) hn hd he hpl
 exact main.imp <|by
   rintro σ H Q ⟨σ',Z,G,Q',rs,S,h,kq⟩;rw [wpE] at h;exact ⟨σ',Z,G,_,rs,S,h,fun xs vs Z1 G1 H1 l1 s1 S1 r1 q1=>⟨xs,Z1,G1,Q',r1,S1,q1,kq.mono s1⟩⟩
noncomputable def gO (E:Ev) (sp:Sp3):Sp:=fun vs H Q _=>∃ xs Z G F Q',RPs E Z xs vs∧Sim E F H Z G∧sp xs G Q'∧Kq E F Z Q' Q
noncomputable abbrev SpX:=List PV→Gh→PX→Prop
noncomputable def CV (E:Ev) (sp:Sp3) (spx:SpX):Sp:=fun vs H Q EX=>∃ xs Z G F,RPs E Z xs vs∧Sim E F H Z G∧((∃ Q',sp xs G Q'∧Kq E F Z Q' Q)∨∃ x,spx xs G x∧KX E F Z x EX)
theorem aHG {X:Cx} {EX:XK} (h:∀ e s',xeO X EX e s'→X.xe e s'):iB (CXo X.prog X.w) X EX:=by
 rintro pins σ H s e s' I ⟨a,C,d,H',ee,ho,hb,un,hok,x,q⟩;have J:=I.call' ho un hok hb fun b z=>nomatch z;exact h _ _ ⟨a,C,d,σ,H',ee,J.nopins,.inr (x.mono I.lo_le),q⟩
def Co (X:Cx) (E:Ev) (sp3:Sp3) (k:Nat) (ad:Addr) (fd:FuncData) (ps:List Str):Prop:= ∃ (CX:CXT) (sp:Sp) (EX:XK),bC X.prog X.w X.K X.mg X.base CX k ad fd ps sp∧iB CX X EX∧∀ vs H Q,gO E sp3 vs H Q E0→sp vs H Q EX
theorem Co.of {sp3:Sp3} {ad:Addr} {fd:FuncData} {ps:List Str} (K:bC X.prog X.w X.K X.mg X.base CX0 k ad fd ps (gO E sp3)):Co X E sp3 k ad fd ps:=⟨CX0,_,E0,K,iR,fun _ _ _ h=>h⟩
theorem Co.ofX {sp3 sp:Sp3} {spx:SpX} {ad:Addr} {fd:FuncData} {ps:List Str} {x:PX} {EX:XK} (K:bC X.prog X.w X.K X.mg X.base (CXo X.prog X.w) k ad fd ps (CV E sp spx)) (h:∀ xs G Q,sp3 xs G Q→sp xs G Q∨spx xs G x)
   (hx:∀ e s',xeO X EX e s'→X.xe e s') (kx:KX E E.f0 E.z0 x EX):Co X E sp3 k ad fd ps:=by
 refine ⟨_,_,EX,K,aHG hx,fun vs H Q ⟨xs,Z,G,F,Q',r,S,q,kq⟩=>⟨xs,Z,G,F,r,S, ?_⟩⟩;rcases h _ _ _ q with q | q
 · exact .inl ⟨Q',q,kq⟩
 · exact .inr ⟨x,q,fun c ns ys d vs Z1 G1 H1 s1 S1 l r hd hn q=>kx c ns ys d vs Z1 G1 H1 S1.z0 S1.weakF l r hd hn q⟩
theorem RT {f:Str} {x:Str} {p:Pos} {e:Expr} {es:List Expr} {es':CE} {ad:Addr} {fd:FuncData} {ps:List Str} (K:Co X E (T.S f) k ad fd ps) (hr:aU k X.A) (hg:Gl X x) (hm:X.mg x=some (.ref ad)) (hk:W.keepIn X.K (.ref ad)=true)
   (hb:aL X.K fd ps []) (hd:(x == ("__debug__":Str))=false) (ha:JA X E (e :: es) (wpL T es')) (he:starEach (e :: es) X.env=(false,eval e X.env) :: starEach es X.env) (hpl:(backTo pos (starEach es X.env)).any (·.1)=false) :
   JE X E (.Call (.Name x p) (e :: es) [] pos) (wpE T (.cal f es')):=fun F=>by
 obtain ⟨CX,sp,EX,K,hp,hl⟩:=K;exact (WW K hr hg hm hk hb .nil hp (ha F) hd he hpl).imp <|by
   rintro σ H Q ⟨σ',Z,G,Q',rs,S,h,kq⟩;rw [wpE] at h;exact ⟨σ',Z,G,_,rs,S,h,fun xs vs Z1 G1 H1 l1 s1 S1 r1 q1=>by
     show sp (vs ++ []) H1 Q EX;rw [List.append_nil];exact hl _ _ _ ⟨xs,Z1,G1,F,Q',r1,S1,q1,kq.mono s1⟩⟩
structure aKt (X:Cx) (E:Ev) (T:Tb):Prop where
 xi:∀ c n r,(c,n,r)∈T.xi→XAt X.K (E.cls c)∧((∃ a,X.mg n=some (.ref a)∧W.kitOne X.K (.ref (E.cls c)) (.ref a)=some r)∨∃ t,X.mg n=none∧bootBuiltins n=some (.type t)∧n≠"__name__"∧W.kitOne X.K (.ref (E.cls c)) (.type t)=some r)
 fx:∀ c f,(c,f)∈T.fx→XAt X.K (E.cls c)∧W.findIn X.K (.ref (E.cls c)) f=some none
structure EqM (X:Cx) (E:Ev) (T:Tb) (k:Nat) (c:String) (m:Str):Prop where
 ex:∃ ad fd,dZ X.K (E.cls c) "__eq__" ad∧bC X.prog X.w X.K X.mg X.base CX0 k ad fd ["self","other"] (gO E (T.S m))∧aL X.K fd ["self","other"] []
theorem WR {F:Hp} {eqs:List (String×Str)} (P:Pl X E T (k + 1)) (he:∀ y∈eqs,EqM X E T k y.1 y.2):OpR X (compareOp .Eq) (dS E F (aBK T eqs)):=by
 rintro pins s σ H v w u1 u2 Q I rv rw' ⟨x,y,Z,G,Q',r1,r2,S,q,kq⟩;rcases q with ⟨c,m,ns,xs,ns',ys,hm,e1,e2,q⟩ | q
 · subst e1 e2;obtain ⟨ad,fd,M,Fn,hb⟩:=(he _ hm).ex;have r1':=r1;have r2':=r2;obtain ⟨a,dx,vs,ea,hz,_,_⟩:=r1';obtain ⟨a2,dx2,vs2,ea2,hz2,_,_⟩:=r2';subst ea ea2;refine aCf M Fn (P.room.mono (Nat.le_succ k)) hb pins s σ H _ _ u1 u2 Q I rv rw' ⟨a,dx,_,a2,dx2,_,rfl,rfl,S.z _ _ hz,S.z _ _ hz2, ?_⟩;exact ⟨[.ob c ns xs,.ob c ns' ys],Z,G,F,_,⟨_,_,rfl,r1,_,_,rfl,r2,rfl⟩,S,q,by rintro x v Z1 G1 H1 s1 S1 r3 ⟨b,e,q3⟩;subst e; have e:v= .bl b:=r3; exact ⟨b,e,kq _ _ Z1 G1 H1 s1 S1 bO q3⟩⟩
 · exact UE P.room P.hK pins s σ H v w u1 u2 Q I rv rw' ⟨x,y,Z,G,Q',r1,r2,S,q,kq⟩
noncomputable def aJ8 (neg:Bool):CmpOp:=if neg=true then .NotIn else .In
structure NeM (X:Cx) (E:Ev) (T:Tb) (k:Nat) (c:String) (m:Str):Prop where
 ex:∃ ad fd,NeC X.K (E.cls c)∧dZ X.K (E.cls c) "__eq__" ad∧bC X.prog X.w X.K X.mg X.base CX0 k ad fd ["self","other"] (gO E (T.S m))∧aL X.K fd ["self","other"] []
theorem YY {F:Hp} {eqs:List (String×Str)} (P:Pl X E T (k + 1)) (he:∀ y∈eqs,NeM X E T k y.1 y.2):OpR X (compareOp .NotEq) (dS E F (aHg T eqs)):=by
 rintro pins s σ H v w u1 u2 Q I rv rw' ⟨x,y,Z,G,Q',r1,r2,S,q,kq⟩;rcases q with ⟨c,m,ns,xs,ns',ys,hm,e1,e2,q⟩ | q
 · subst e1 e2;obtain ⟨ad,fd,N,M,Fn,hb⟩:=(he _ hm).ex;have r1':=r1;have r2':=r2;obtain ⟨a,dx,vs,ea,hz,_,_⟩:=r1';obtain ⟨a2,dx2,vs2,ea2,hz2,_,_⟩:=r2';subst ea ea2;refine aDY N M Fn P.room hb pins s σ H _ _ u1 u2 Q I rv rw' ⟨a,dx,_,a2,dx2,_,rfl,rfl,S.z _ _ hz,S.z _ _ hz2, ?_⟩;exact ⟨[.ob c ns xs,.ob c ns' ys],Z,G,F,_,⟨_,_,rfl,r1,_,_,rfl,r2,rfl⟩,S,q,by rintro x v Z1 G1 H1 s1 S1 r3 ⟨b,e,q3⟩;subst e; have e:v= .bl b:=r3; exact ⟨b,e,kq _ _ Z1 G1 H1 s1 S1 bO q3⟩⟩
 · exact TK P.room P.hK pins s σ H v w u1 u2 Q I rv rw' ⟨x,y,Z,G,Q',r1,r2,S,q,kq⟩
theorem aEo:JE X E (.Dict [] [] pos) (wpE T .emp):=fun F=>aDs.imp <|by
 rintro σ H Q ⟨σ',Z,G,Q',rs,S,h,kq⟩;rw [wpE] at h;exact fun p n=>kq.newZ (x:=.emp) S n ⟨p,rfl,aI⟩ h
noncomputable def flV:List (V×V)→List V
 | []=>[]
 | p :: r=>p.1 :: p.2 :: flV r
def KDD (E:Ev) (F:Hp) (n:Nat) (Z:Hp) (Q':List PV→Gh→Prop) (Q:List (V×V)→Hp→Prop):Prop:= ∀ xs ps Z1 G1 H1,ps.length=n→aN Z Z1→Sim E F H1 Z1 G1→RPs E Z1 xs (flV ps)→Q' xs G1→Q ps H1
noncomputable def aG3 (E:Ev) (F:Hp) (n:Nat) (t:PTA):TD:=fun σ H Q=>∃ σ' Z G Q',RSt E Z σ' σ∧Sim E F H Z G∧t σ' G Q'∧KDD E F n Z Q' Q
def JD (X:Cx) (E:Ev) (pos:Pos) (ks:List (Option Expr)) (vs:List Expr) (t:PTA):Prop:= ∀ F,PD X pos ks vs (aG3 E F ks.length t)
theorem aDy:JD X E pos [] [] (wpL T .nil):=fun F=>aBZ.imp <|by
 rintro σ H Q ⟨σ',Z,G,Q',rs,S,h,kq⟩;rw [wpL] at h;exact kq [] [] Z G H rfl (aN.refl Z) S rfl h
theorem aAm {e v:Expr} {ks:List (Option Expr)} {vs:List Expr} {k' v' r':CE} (hk:JE X E e (wpE T k')) (hv:JE X E v (wpE T v')) (hr:JD X E pos ks vs (wpL T r')):JD X E pos (some e :: ks) (v :: vs) (wpL T (.cons k' (.cons v' r'))):=fun F =>
 (XU (hk F) (hv F) (hr F)).imp <|by
   rintro σ H Q ⟨σ',Z,G,Q',rs,S,h,kq⟩;rw [wpL] at h;refine ⟨σ',Z,G,_,rs,S,h,fun x u Z1 G1 H1 s1 S1 r1 q1=>?_⟩;unfold wpL at q1;refine ⟨σ',Z1,G1,_,rs.mono s1,S1,q1,fun y w Z2 G2 H2 s2 S2 r2 q2=>⟨σ',Z2,G2,_,(rs.mono s1).mono s2,S2,q2,fun xs ps Z3 G3 H3 l3 s3 S3 r3 q3=>?_⟩⟩;exact kq (x :: y :: xs) ((u,w) :: ps) Z3 G3 H3 (by rw [List.length_cons,l3]; rfl) ((s1.trans s2).trans s3) S3 ⟨u,_,rfl,(r1.mono s2).mono s3,w,_,rfl,r2.mono s3,r3⟩ q3
theorem aGz {Z:Hp} {k:Key} {v:V} (r:RP E Z (kP k) v):v=kV k:=by
 cases k <;> exact r
theorem SO {Z:Hp}:∀ {kvs:List (Key×PV)} {ps:List (V×V)},RPs E Z (flK kvs) (flV ps)→∃ vs:List V,ps=((kvs.map (·.1)).zip vs).map (fun kv=>(kV kv.1,kv.2))∧(kvs.map (·.1)).length=vs.length∧RPs E Z (kvs.map (·.2)) vs
 | [],[],_=>⟨[],rfl,rfl,rfl⟩
 | [],p :: ps,h=>by cases (show flV (p :: ps)=[] from h)
 | kv :: kvs,[],h=>by obtain ⟨_,_,e,_⟩:=h; cases e
 | kv :: kvs,p :: ps,h=>by
   obtain ⟨a,r,e,r1,b,r',e',r2,r3⟩:=h;subst e';have e:p.1 :: p.2 :: flV ps=a :: b :: r':=e;injection e with e1 e;injection e with e2 e3;subst e1 e2 e3;obtain ⟨vs,h1,h2,h3⟩:=SO r3;refine ⟨p.2 :: vs, ?_,by simp [h2],p.2,vs,rfl,r2,h3⟩;rw [List.map_cons,List.zip_cons_cons,List.map_cons,←h1,←aGz r1]
theorem aCl {keys:List (Option Expr)} {values:List Expr} {es':CE} (h:JD X E pos keys values (wpL T es')) (hall:keys.all (·.isSome)=true) (hl:keys.length=values.length) (h0:keys≠ []) (h15:keys.length≤15) :
   JE X E (.Dict keys values pos) (wpE T (.dct es')):=fun F pins s σ H Q I q=>by
 obtain ⟨σ',Z,G,Q',rs,S,hq,kq⟩:=q;unfold wpE at hq;have main:PE X (.Dict keys values pos) (aGk fun σ H Q=>∃ F,aG3 E F keys.length (wpL T es') σ H Q):=aDW (by rintro pins s σ H Q I ⟨F,q⟩;exact h F pins s σ H Q I q) hall hl h0 h15;refine main pins s σ H Q I fun p n=>⟨upd F p (.dK []),σ',Z,G,_,rs,S.mine n,hq,fun xs ps Z1 G1 H1 l1 s1 S1 r1 zz=>?_⟩;obtain ⟨kvs,ex,nd,k15,q1⟩:=zz;subst ex;obtain ⟨vs,e1,e2,e3⟩:=SO r1;have fD:F p=none:=S.fn n;refine ⟨(S1.f p _ aI).1,(kvs.map (·.1)).zip vs,e1,by rw [List.length_zip,List.length_map]; omega, ?_⟩;have hm:jO [] ((kvs.map (·.1)).zip vs)=(kvs.map (·.1)).zip vs:=uP (by rw [List.nil_append,List.map_fst_zip (by omega)]; exact nd);rw [hm];have zn:=(S1.f p _ aI).2.1;exact kq (.dct (kvs.map (·.1)) (kvs.map (·.2))) _ (upd Z1 p (.dK ((kvs.map (·.1)).zip vs))) _ _ (s1.trans (aW zn _)) ((S1.turn (S.f0n n)).mineZ fD (S.f0n n)) ⟨p,vs,rfl,aI,e2,e3.mono (aW zn _)⟩ q1
theorem aDx {e:Expr} {apos:Pos} {a' b':CE} (ha:JE X E a (wpE T a')) (hb:JE X E e (wpE T b')) (hbase:attributeBase a "append" X.env (eval a X.env)=eval a X.env)
   (hs:starEach [e] X.env=[(false,eval e X.env)]) (hline:(apos.endLine == pos.line)=true):JE X E (.Call (.Attribute a "append" apos) [e] [] pos) (wpE T (.app a' b')):=fun F=>by
 refine (aBi PySem.F.plainAttrs_list PySem.F.slot_list_append PySem.F.type_list_append wE (ha F) (cZ (hb F) gL hs) hbase (by rw [hs]; rfl) hline hs rfl).imp fun σ H Q ⟨σ',Z,G,Q',rs,S,h,kq⟩=>?_;rw [wpE] at h;refine ⟨σ',Z,G,_,rs,S,h,fun x v Z1 G1 H1 s1 S1 r1 zz=>?_⟩;obtain ⟨⟨ys,hy⟩,q1⟩:=zz;obtain ⟨a1,vs,rfl,hH,ta⟩:=dB S1 r1 hy;refine ⟨.inl ⟨rfl,vs,SqL.of hH⟩,σ',Z1,G1,_,rs.mono s1,S1,q1,fun y u Z2 G2 H2 s2 S2 r2 zz=>?_⟩;obtain ⟨p,xs,ex,hG,hz,q⟩:=zz;subst ex;have e1:V.ref a1= .ref p:=r1;cases e1;obtain ⟨_,o',hp,us,e',t⟩:=S2.g _ _ hG;subst e';refine ⟨a1,us,u,rfl,rfl,hp,by rw [←t.length]; exact hz,kq.go (s1.trans s2) (S2.set (go:=.lst (xs ++ [y])) hG ⟨us ++ [u],rfl,t.append ⟨u,[],rfl,r2,rfl⟩⟩) oE q⟩
theorem RPs.strs {Z:Hp}:∀ {ns:List Str} {vs:List V},RPs E Z (ns.map PV.str) vs→vs=ns.map V.str
 | [],_,h=>h
 | _ :: _,_,⟨v,r,e1,h,t⟩=>by
   have h':v=V.str _:=h;subst e1 h'; rw [RPs.strs t]; rfl
theorem aCc {e:Expr} {apos:Pos} {a' b':CE} (ha:JE X E a (wpE T a')) (hb:JE X E e (wpE T b')) (hbase:attributeBase a "join" X.env (eval a X.env)=eval a X.env)
   (hs:starEach [e] X.env=[(false,eval e X.env)]) (hline:(apos.endLine == pos.line)=true):JE X E (.Call (.Attribute a "join" apos) [e] [] pos) (wpE T (.joi a' b')):=fun F=>by
 refine (aBi PySem.F.plainAttrs_str PySem.F.slot_str_join PySem.F.type_str_join YW (ha F) (cZ (hb F) gL hs) hbase (by rw [hs]; rfl) hline hs rfl).imp fun σ H Q ⟨σ',Z,G,Q',rs,S,h,kq⟩=>?_;rw [wpE] at h;refine ⟨σ',Z,G,_,rs,S,h,fun x v Z1 G1 H1 s1 S1 r1 zz=>?_⟩;obtain ⟨sep,ex,q1⟩:=zz;subst ex;have ev:v= .str sep:=r1;subst ev;refine ⟨rfl,σ',Z1,G1,_,rs.mono s1,S1,q1,fun y u Z2 G2 H2 s2 S2 r2 zz=>?_⟩;obtain ⟨ys,hy,hz,q⟩:=zz;obtain ⟨a1,vs,rfl,hH,ta⟩:=dB S2 r2 hy;have:=ta.strs;subst this;exact ⟨sep,a1,ys,rfl,rfl,hH,hz,(kq.mono (s1.trans s2)).here S2 q iC⟩
def JJ (X:Cx) (E:Ev) (parts:List Expr) (t:Str→PTE):Prop:= ∀ F,PJ X parts (fun out=>low E F (t out))
theorem aDU:JJ X E [] (wpJ T .nil):=by
 rintro F out pins s σ H Q I ⟨σ',Z,G,Q',rs,S,h,kq⟩;rw [wpJ] at h;exact aEJ out pins s σ H Q I ⟨h.1,kq.here S h.2 iC⟩
theorem aEl {e:Expr} {es:List Expr} {a' b':CE} (ha:JE X E e (wpE T a')) (hb:JJ X E es (wpJ T b')) (he:evalEach (e :: es) X.env=eval e X.env :: evalEach es X.env):JJ X E (e :: es) (wpJ T (.cons a' b')):=by
 rintro F out pins s σ H Q I ⟨σ',Z,G,Q',rs,S,h,kq⟩;rw [wpJ] at h;refine HD (ha F) (hb F) he out pins s σ H Q I ⟨σ',Z,G,_,rs,S,h,fun x v Z1 G1 H1 s1 S1 r1 zz=>?_⟩;obtain ⟨y,ex,_,hz,q⟩:=zz;subst ex;exact ⟨y,r1,hz,σ',Z1,G1,Q',rs.mono s1,S1,q,kq.mono s1⟩
theorem aHc {e:Expr} {es:List Expr} {p:Pos} {a' b':CE} (ha:JE X E e (wpE T a')) (hb:JJ X E es (wpJ T b')) (he:evalEach (.FormattedValue e (-1) none p :: es) X.env=eval (.FormattedValue e (-1) none p) X.env :: evalEach es X.env):JJ X E (.FormattedValue e (-1) none p :: es) (wpJ T (.cons a' b')):=by
 rintro F out pins s σ H Q I ⟨σ',Z,G,Q',rs,S,h,kq⟩;rw [wpJ] at h;refine HD (aFz (ha F)) (hb F) he out pins s σ H Q I ⟨σ',Z,G,_,rs,S,h,fun x v Z1 G1 H1 s1 S1 r1 zz=>?_⟩;obtain ⟨y,ex,hy,hz,q⟩:=zz;subst ex;exact ⟨y,r1,hy,y,rfl,hz,σ',Z1,G1,Q',rs.mono s1,S1,q,kq.mono s1⟩
theorem aEH {v1 v2:Expr} {aV:List Expr} {c':CE} (h:JJ X E (v1 :: v2 :: aV) (wpJ T c')):JE X E (.JoinedStr (v1 :: v2 :: aV) pos) (wpE T (.fst c')):=fun F=>(YR (h F)).imp <|by
 rintro σ H Q ⟨σ',Z,G,Q',rs,S,h,kq⟩;rw [wpE] at h;exact ⟨σ',Z,G,Q',rs,S,h,kq⟩
noncomputable def bwN:Bn→Option Str
 | .len=>some "__len__"
 | .bool=>some "__len__"
 | .str=>some "__str__"
 | .repr=>some "__repr__"
 | _=>none
structure OwM (X:Cx) (E:Ev) (T:Tb) (k:Nat) (b:Bn) (c:String) (m:Str):Prop where
 ex:∃ ad fd k0 nm,k0 + 2≤k∧bwN b=some nm∧NeC X.K (E.cls c)∧dZ X.K (E.cls c) nm ad∧bC X.prog X.w X.K X.mg X.base CX0 k0 ad fd ["self"] (gO E (T.S m))∧aL X.K fd ["self"] []
theorem ZS {F:Hp} {b:Bn} {ls:List (String×Str)} (P:Pl X E T (k + 1)) (h40:MB b=true→40≤k) (he:∀ y∈ls,OwM X E T k b y.1 y.2):bK X (SK b) (TF E F (XH T b ls)):=by
 rintro pins s σ H vs us Q I rv ⟨xs,Z,G,Q',r,S,q,kq⟩;rcases q with ⟨c,m,ns,ys,hm,ex,q⟩ | q
 · subst ex;obtain ⟨ad,fd,k0,nm,hk,en,N,M,Fn,hb⟩:=(he _ hm).ex;obtain ⟨v,rfl,rp⟩:=yN r;have rp':=rp;obtain ⟨p,dx,ws,ea,hz,_,_⟩:=rp';subst ea;cases b <;> simp only [bwN,Option.some.injEq,reduceCtorEq] at en
   case len =>
     subst en;exact LS M Fn (P.room.mono (by omega)) hb pins s σ H _ us Q I rv ⟨p,dx,_,rfl,S.z _ _ hz,[.ob c ns ys],Z,G,F,_,⟨_,_,rfl,rp,rfl⟩,S,q,by rintro x v Z2 G2 H2 s2 S2 r3 ⟨n,e,h0,h1,q3⟩;subst e; have e:v= .int n:=r3; exact ⟨n,e,h0,h1,kq _ _ Z2 G2 H2 s2 S2 bM q3⟩⟩
   case str =>
     subst en;exact NE M Fn (P.room.mono (by omega)) hb pins s σ H _ us Q I rv ⟨p,dx,_,rfl,S.z _ _ hz,[.ob c ns ys],Z,G,F,_,⟨_,_,rfl,rp,rfl⟩,S,q,by rintro x v Z2 G2 H2 s2 S2 r3 ⟨n,e,q3⟩;subst e; have e:v= .str n:=r3; exact ⟨n,e,kq _ _ Z2 G2 H2 s2 S2 iC q3⟩⟩
   case bool =>
     subst en;exact EB N.bo M Fn (P.room.mono (by omega)) hb pins s σ H _ us Q I rv ⟨p,dx,_,rfl,S.z _ _ hz,[.ob c ns ys],Z,G,F,_,⟨_,_,rfl,rp,rfl⟩,S,q,by rintro x v Z2 G2 H2 s2 S2 r3 ⟨n,e,h0,h1,q3⟩;subst e; have e:v= .int n:=r3; exact ⟨n,e,h0,h1,kq _ _ Z2 G2 H2 s2 S2 bO q3⟩⟩
   case repr =>
     subst en;exact GI M Fn (P.room.mono (by omega)) hb pins s σ H _ us Q I rv ⟨p,dx,_,rfl,S.z _ _ hz,[.ob c ns ys],Z,G,F,_,⟨_,_,rfl,rp,rfl⟩,S,q,by rintro x v Z2 G2 H2 s2 S2 r3 ⟨n,e,q3⟩;subst e; have e:v= .str n:=r3; exact ⟨n,e,kq _ _ Z2 G2 H2 s2 S2 iC q3⟩⟩
 · exact IW (F:=F) (cs:=T.cs) P.hK P.cls b (fun z=>P.calm (Nat.le_succ_of_le (h40 z))) pins s σ H vs us Q I rv ⟨xs,Z,G,Q',r,S,q,kq⟩
theorem aDO {x:Str} {p:Pos} {e:Expr} {es:List Expr} {bb:Bn} {ls:List (String×Str)} {es':CE} (P:Pl X E T (k + 1)) (h40:MB bb=true→40≤k) (ho:∀ y∈ls,OwM X E T k bb y.1 y.2) (hg:Gl X x) (hm:X.mg x=none) (hv:bootBuiltins x=some (SK bb)) (hn:x≠"__name__") (hd:(x == ("__debug__":Str))=false)
   (ha:JA X E (e :: es) (wpL T es')) (he:starEach (e :: es) X.env=(false,eval e X.env) :: starEach es X.env) (hpl:(backTo pos (starEach es X.env)).any (·.1)=false):JE X E (.Call (.Name x p) (e :: es) [] pos) (wpE T (.bow bb ls es')):=fun F=>by
 have main:PE X (.Call (.Name x p) (e :: es) [] pos) (tCB (TF E F (XH T bb ls)) (vX E F (e :: es).length (wpL T es'))):=by
   have hc:=ZS (F:=F) P h40 ho;cases bb <;> first
     | exact BZ hc hg hm hv (ha F) hn hd he hpl
     | exact wI hc hg hm hv (ha F) hn hd he hpl
 exact main.imp <|by
   rintro σ H Q ⟨σ',Z,G,Q',rs,S,h,kq⟩;rw [wpE] at h;exact ⟨σ',Z,G,_,rs,S,h,fun xs vs Z1 G1 H1 l1 s1 S1 r1 q1=>⟨xs,Z1,G1,Q',r1,S1,q1,kq.mono s1⟩⟩
mutual
theorem aE5:∀ {x:PV} {d:PyData},dat x=some d→d.hasDict=false
 | .non,d,h=>by simp only [dat] at h; cases h; rfl
 | .bl _,d,h=>by simp only [dat] at h; cases h; rfl
 | .int _,d,h=>by simp only [dat] at h; cases h; rfl
 | .str _,d,h=>by simp only [dat] at h; cases h; rfl
 | .tup xs,d,h=>by
   simp only [dat] at h;split at h
   · rename_i ds e; cases h; unfold PyData.hasDict; exact dats_nd e
   · cases h
 | .lst xs,d,h=>by
   simp only [dat] at h;split at h
   · rename_i ds e; cases h; unfold PyData.hasDict; exact dats_nd e
   · cases h
 | .scr _,d,h=>by simp [dat] at h
 | .ob _ _ _,d,h=>by simp [dat] at h
 | .ref _,d,h=>by simp [dat] at h
 | .ty _,d,h=>by simp [dat] at h
 | .cl _,d,h=>by simp [dat] at h
 | .fn _,d,h=>by simp [dat] at h
 | .emp,d,h=>by simp [dat] at h
 | .dct _ _,d,h=>by simp [dat] at h
theorem dats_nd:∀ {xs:List PV} {ds:List PyData},lV xs=some ds→PyData.hasDictAll ds=false
 | [],ds,h=>by simp only [lV] at h; cases h; rfl
 | x :: xs,ds,h=>by
   simp only [lV] at h;split at h
   · rename_i d ds' e1 e2;cases h;unfold PyData.hasDictAll;rw [aE5 e1,dats_nd e2]; rfl
   · cases h
end
end
section
variable {X:Cx} {E:Ev} {T:Tb} {k:Nat} {F H Z:Hp} {G:Gh}
theorem GZ {x:PV} {v:V} (hK:E.K=X.K) (S:Sim E F H Z G) (r:RP E Z x v) (h:buP x G):BuV X.K H v:=by
 cases x with
 | non=>cases (show v= .non from r); exact .non
 | bl b=>cases (show v= .bl b from r); exact .bl b
 | int i=>cases (show v= .int i from r); exact .int i
 | str z=>cases (show v= .str z from r); exact .str z
 | tup xs =>
   obtain ⟨a,vs,rfl,q,_⟩:=eE S r;exact .tup (hK▸q)
 | lst xs =>
   obtain ⟨a,vs,rfl,q,_⟩:=dB S r rfl;exact .lst (SqL.of q)
 | scr ns =>
   obtain ⟨a,rfl,q⟩:=r;exact .lst (hK▸S.z.seq q)
 | emp =>
   obtain ⟨a,rfl,q⟩:=r;exact .dK (S.z _ _ q)
 | dct ks xs =>
   obtain ⟨a,vs,rfl,q,_⟩:=r;exact .dK (S.z _ _ q)
 | ref p =>
   obtain ⟨xs,e⟩:=h;obtain ⟨a,vs,rfl,q,_⟩:=dB S r e;exact .lst (SqL.of q)
 | _=>exact h.elim
structure EqX (X:Cx) (E:Ev) (T:Tb) (k:Nat) (c:String) (m:Str):Prop where
 m:EqM X E T k c m
 l:EqL X.K (E.cls c)
 d:∀ d∈T.cs,d≠c→EqD X.K (E.cls c) (E.cls d)
theorem aBp {c:String} {m:Str} {y:PV} {v:V} (hK:E.K=X.K) (D:EqX X E T k c m) (S:Sim E F H Z G) (r:RP E Z y v) (h:anP T c y G):AnV X.K (E.cls c) H v:=by
 rcases h with h | ⟨d,ns,ys,rfl,hd,ne⟩
 · exact .inl (GZ hK S r h)
 · obtain ⟨a,dx,vs,rfl,hz,_,_⟩:=r;exact .inr ⟨a,_,dx,_,rfl,S.z _ _ hz,(D.d d hd ne).dc⟩
theorem YL {eqs:List (String×Str)} (P:Pl X E T (k + 1)) (he:∀ y∈eqs,EqX X E T k y.1 y.2):OpR X (compareOp .Eq) (dS E F (aIp T eqs)):=by
 rintro pins s σ H v w u1 u2 Q I rv rw' ⟨x,y,Z,G,Q',r1,r2,S,⟨c,m,ns,xs,hm,e1,an,q⟩,kq⟩;subst e1;have D:=he _ hm;obtain ⟨ad,fd,M,Fn,hb⟩:=D.m.ex;have av:=aBp P.hK D S r2 an;have r1':=r1;obtain ⟨a,dx,vs,ea,hz,_,_⟩:=r1';subst ea;refine aDd D.l M Fn (P.room.mono (Nat.le_succ k)) hb pins s σ H _ _ u1 u2 Q I rv rw' ⟨a,dx,_,rfl,S.z _ _ hz,av, ?_⟩;exact ⟨[.ob c ns xs,y],Z,G,F,_,⟨_,_,rfl,r1,_,_,rfl,r2,rfl⟩,S,q,by rintro x v Z1 G1 H1 s1 S1 r3 ⟨b,e,q3⟩;subst e; have e:v= .bl b:=r3; exact ⟨b,e,kq _ _ Z1 G1 H1 s1 S1 bO q3⟩⟩
theorem ZH {eqs:List (String×Str)} (P:Pl X E T (k + 1)) (he:∀ y∈eqs,EqX X E T k y.1 y.2):OpR X (compareOp .Eq) (dS E F (aFl T eqs)):=by
 rintro pins s σ H v w u1 u2 Q I rv rw' ⟨x,y,Z,G,Q',r1,r2,S,⟨c,m,ns,ys,hm,e1,an,q⟩,kq⟩;subst e1;have D:=he _ hm;obtain ⟨ad,fd,M,Fn,hb⟩:=D.m.ex;have r2':=r2;obtain ⟨a,dx,vs,ea,hz,_,_⟩:=r2';subst ea;have fin:gO E (T.S m) [.ref a,v] H (fun v H'=>∃ b,v= .bl b∧Q (.bl b) H') E0 :=
   ⟨[.ob c ns ys,x],Z,G,F,_,⟨_,_,rfl,r2,_,_,rfl,r1,rfl⟩,S,q,by rintro x v Z1 G1 H1 s1 S1 r3 ⟨b,e,q3⟩;subst e; have e:v= .bl b:=r3; exact ⟨b,e,kq _ _ Z1 G1 H1 s1 S1 bO q3⟩⟩
 exact aDr D.l M Fn (P.room.mono (Nat.le_succ k)) hb pins s σ H _ _ u1 u2 Q I rv rw' ⟨a,dx,_,rfl,S.z _ _ hz,GZ P.hK S r1 an,fin⟩
structure NeX (X:Cx) (E:Ev) (T:Tb) (k:Nat) (c:String) (m:Str):Prop where
 e:EqX X E T k c m
 n:NeC X.K (E.cls c)
theorem aAU {eqs:List (String×Str)} (P:Pl X E T (k + 1)) (he:∀ y∈eqs,NeX X E T k y.1 y.2):OpR X (compareOp .NotEq) (dS E F (aFE T eqs)):=by
 rintro pins s σ H v w u1 u2 Q I rv rw' ⟨x,y,Z,G,Q',r1,r2,S,⟨c,m,ns,xs,hm,e1,an,q⟩,kq⟩;subst e1;have D:=(he _ hm).e;obtain ⟨ad,fd,M,Fn,hb⟩:=D.m.ex;have av:=aBp P.hK D S r2 an;have r1':=r1;obtain ⟨a,dx,vs,ea,hz,_,_⟩:=r1';subst ea;refine aCv D.l (he _ hm).n M Fn P.room hb pins s σ H _ _ u1 u2 Q I rv rw' ⟨a,dx,_,rfl,S.z _ _ hz,av, ?_⟩;exact ⟨[.ob c ns xs,y],Z,G,F,_,⟨_,_,rfl,r1,_,_,rfl,r2,rfl⟩,S,q,by rintro x v Z1 G1 H1 s1 S1 r3 ⟨b,e,q3⟩;subst e; have e:v= .bl b:=r3; exact ⟨b,e,kq _ _ Z1 G1 H1 s1 S1 bO q3⟩⟩
mutual
theorem aEL {pins:List (Addr×Obj)} {σ:L2.St} {s:Shared} (hK:E.K=X.K) (I:Inv X pins σ H s) (S:Sim E F H Z G):∀ {x y:PV} {v:V},pln x=true→pln y=true→RP E Z x v→RP E Z y v→x=y
 | x, y,v,hx,hy,rx,ry=>by
   cases x with
   | tup xs =>
     obtain ⟨a,vs,e,q,t⟩:=rx;subst e;cases y with
     | tup ys =>
       obtain ⟨a',vs',e',q',t'⟩:=ry;cases e';have e:=I.tuple_inj (hK▸cR S.z q) (hK▸cR S.z q');subst e;rw [rps_inj hK I S (by unfold pln at hx; exact hx) (by unfold pln at hy; exact hy) t t']
     | _=>first | (cases ry; done) | (unfold pln at hy; cases hy)
   | _ =>first
     | (unfold pln at hx; cases hx; done)
     | (cases y with
       | tup ys=>obtain ⟨a',vs',e',q',t'⟩:=ry; rw [e'] at rx; cases rx
       | _=>first | (unfold pln at hy; cases hy; done) | (have h1:=(show v=_ from rx).symm.trans (show v=_ from ry); cases h1; rfl) | (have h1:=(show v=_ from rx).symm.trans (show v=_ from ry); cases h1))
theorem rps_inj {pins:List (Addr×Obj)} {σ:L2.St} {s:Shared} (hK:E.K=X.K) (I:Inv X pins σ H s) (S:Sim E F H Z G):∀ {xs ys:List PV} {vs:List V},FL xs=true→FL ys=true→RPs E Z xs vs→RPs E Z ys vs→xs=ys
 | [],[],_,_,_,_,_=>rfl
 | [],y :: ys,vs,_,_,rx,ry=>by
   obtain ⟨v,r,e,_⟩:=ry;rw [e] at rx; cases rx
 | x :: xs,[],vs,_,_,rx,ry=>by
   obtain ⟨v,r,e,_⟩:=rx;rw [e] at ry; cases ry
 | x :: xs,y :: ys,vs,hx,hy,rx,ry=>by
   obtain ⟨v,r,e,r1,r2⟩:=rx;obtain ⟨v',r',e',r1',r2'⟩:=ry;subst e;cases e';unfold FL at hx hy;rw [Bool.and_eq_true] at hx hy;rw [aEL hK I S hx.1 hy.1 r1 r1',rps_inj hK I S hx.2 hy.2 r2 r2']
end
noncomputable def Idn (p:Addr) (c:String) (x:PV):List PV→List V→Prop
 | y :: ys,v :: vs=>((∃ ns' ys',y= .ob c ns' ys')→v= .ref p→plO x=true→plO y=true→y=x)∧Idn p c x ys vs
 | _,_=>True
theorem ES {pins:List (Addr×Obj)} {σ:L2.St} {s:Shared} {p:Addr} {c:String} {ns:List Str} {xs:List PV} (hK:E.K=X.K) (I:Inv X pins σ H s) (S:Sim E F H Z G) (rx:RP E Z (.ob c ns xs) (.ref p)):∀ {ys:List PV} {vs:List V},RPs E Z ys vs→Idn p c (.ob c ns xs) ys vs
 | [],_,_=>by unfold Idn; trivial
 | y :: ys,vs,r=>by
   obtain ⟨v,r',rfl,ry,rr⟩:=r;refine ⟨?_,ES hK I S rx rr⟩;rintro ⟨ns',ys',rfl⟩ rfl h1 h2;obtain ⟨a,dx,ws,ea,hz,hl,t⟩:=rx;obtain ⟨a',dx',ws',ea',hz',hl',t'⟩:=ry;cases ea;cases ea';rw [hz] at hz';have z:=Option.some.inj hz';injection z with _ _ z3;have e1:ns=ns':=by
     have:=congrArg (List.map Prod.fst) z3;rw [List.map_fst_zip (by omega),List.map_fst_zip (by omega)] at this;exact this
   have e2:ws=ws':=by
     have:=congrArg (List.map Prod.snd) z3;rw [List.map_snd_zip (by omega),List.map_snd_zip (by omega)] at this;exact this
   subst e1 e2;rw [rps_inj hK I S (by unfold plO at h1; exact h1) (by unfold plO at h2; exact h2) t t']
theorem VR {c:String} {m:Str} {p:Addr} {ns:List Str} {xs:List PV} {Q':Bool→Gh→Prop} {Q:Bool→Hp→Prop} (hK:E.K=X.K) {eqs:List (String×Str)} (he:∀ y∈eqs,EqX X E T k y.1 y.2) (hm:(c,m)∈eqs) (hc:c∈T.cs) :
   ∀ {ys:List PV} {vs:List V} {Z H:Hp} {G:Gh},Idn p c (.ob c ns xs) ys vs→RPs E Z ys vs→Sim E F H Z G→RP E Z (.ob c ns xs) (.ref p)→inP T eqs c m (.ob c ns xs) Q' ys G→(∀ b Z1 G1 H1,aN Z Z1→Sim E F H1 Z1 G1→Q' b G1→Q b H1)→
     inT X k (E.cls c) p Q vs H
 | [],vs,Z,H,G,hid,r,S,rx,h,kq=>by
   cases (show vs=[] from r);exact kq false Z G H (aN.refl Z) S h
 | y :: ys,vs,Z,H,G,hid,r,S,rx,h,kq=>by
   obtain ⟨v,r',rfl,ry,rr⟩:=r;have rx':=rx;obtain ⟨a,dx,ws,ea,hz,_,_⟩:=rx';cases ea;refine ⟨⟨dx,_,S.z _ _ hz⟩, ?_⟩;have nxt:∀ {b:Bool} {Z1 H1:Hp} {G1:Gh},aN Z Z1→Sim E F H1 Z1 G1→(if b=true then Q' true G1 else inP T eqs c m (.ob c ns xs) Q' ys G1)→if b=true then Q true H1 else inT X k (E.cls c) p Q r' H1:=fun {b Z1 H1 G1} s1 S1 q=>by
     cases b with
     | true=>rw [if_pos rfl] at q ⊢; exact kq true Z1 G1 H1 s1 S1 q
     | false =>
       rw [if_neg Bool.false_ne_true] at q ⊢;exact VR hK he hm hc hid.2 (rr.mono s1) S1 (rx.mono s1) q fun b Z2 G2 H2 s2 S2 q2=>kq b Z2 G2 H2 (s1.trans s2) S2 q2
   have D:=he _ hm;rcases h with ⟨⟨ns',ys',rfl⟩,q0,q⟩ | ⟨an,q⟩ | ⟨d,m',ns',ys',hd,hdc,hne,rfl,q⟩
   · have ry':=ry;obtain ⟨a2,dx2,ws2,ea2,hz2,_,_⟩:=ry';subst ea2;by_cases e:a2=p
     · exact .inl ⟨by rw [e],kq true Z G H (aN.refl Z) S (q0 (hid.1 ⟨_,_,rfl⟩ (by rw [e])))⟩
     · obtain ⟨ad,fd,M,Fn,hb⟩:=D.m.ex;refine .inr ⟨_,_,.own e (S.z _ _ hz2) (.inl rfl) M Fn hb, ?_⟩;exact ⟨[.ob c ns' ys',.ob c ns xs],Z,G,F,_,⟨_,_,rfl,ry,_,_,rfl,rx,rfl⟩,S,q,by rintro x v Z1 G1 H1 s1 S1 r3 ⟨b,e,q3⟩;subst e; have e:v= .bl b:=r3; exact ⟨b,e,nxt s1 S1 q3⟩⟩
   · obtain ⟨ad,fd,M,Fn,hb⟩:=D.m.ex;refine .inr ⟨_,_,.bu (GZ hK S ry an) D.l M Fn hb, ?_⟩;exact ⟨[.ob c ns xs,y],Z,G,F,_,⟨_,_,rfl,rx,_,_,rfl,ry,rfl⟩,S,q,by rintro x v Z1 G1 H1 s1 S1 r3 ⟨b,e,q3⟩;subst e; have e:v= .bl b:=r3; exact ⟨b,e,nxt s1 S1 q3⟩⟩
   · have ry':=ry;obtain ⟨a2,dx2,ws2,ea2,hz2,_,_⟩:=ry';subst ea2;have D2:=he _ hd;have dd:=D.d d hdc hne;have e:a2≠p:=fun e=>by
       subst e;rw [hz] at hz2;have z:=Option.some.inj hz2;injection z with z1;exact dd.ne z1.symm
     obtain ⟨ad,fd,M,Fn,hb⟩:=D2.m.ex;refine .inr ⟨_,_,.own e (S.z _ _ hz2) (.inr dd.cd) M Fn hb, ?_⟩;exact ⟨[.ob d ns' ys',.ob c ns xs],Z,G,F,_,⟨_,_,rfl,ry,_,_,rfl,rx,rfl⟩,S,q,by rintro x v Z1 G1 H1 s1 S1 r3 ⟨b,e,q3⟩;subst e; have e:v= .bl b:=r3; exact ⟨b,e,nxt s1 S1 q3⟩⟩
theorem SG {c:String} {m:Str} {p l:Addr} {ns:List Str} {xs:List PV} {all:List V} {Q':Bool→Gh→Prop} {Q:Bool→Hp→Prop} (hK:E.K=X.K) {eqs:List (String×Str)} (he:∀ y∈eqs,EqX X E T k y.1 y.2) (hm:(c,m)∈eqs) (hc:c∈T.cs) :
   ∀ {ys:List PV} {vs:List V} {Z H:Hp} {G:Gh},Idn p c (.ob c ns xs) ys vs→RPs E Z ys vs→Sim E F H Z G→Z l=some (.lst all)→RP E Z (.ob c ns xs) (.ref p)→inP T eqs c m (.ob c ns xs) Q' ys G→(∀ b Z1 G1 H1,aN Z Z1→Sim E F H1 Z1 G1→Q' b G1→Q b H1)→
     inW X k (E.cls c) l p all Q vs H
 | [],vs,Z,H,G,hid,r,S,hl,rx,h,kq=>by
   cases (show vs=[] from r);exact ⟨S.z _ _ hl,kq false Z G H (aN.refl Z) S h⟩
 | y :: ys,vs,Z,H,G,hid,r,S,hl,rx,h,kq=>by
   obtain ⟨v,r',rfl,ry,rr⟩:=r;have rx':=rx;obtain ⟨a,dx,ws,ea,hz,_,_⟩:=rx';cases ea;refine ⟨S.z _ _ hl,⟨dx,_,S.z _ _ hz⟩, ?_⟩;have nxt:∀ {b:Bool} {Z1 H1:Hp} {G1:Gh},aN Z Z1→Sim E F H1 Z1 G1→(if b=true then Q' true G1 else inP T eqs c m (.ob c ns xs) Q' ys G1)→if b=true then Q true H1 else inW X k (E.cls c) l p all Q r' H1:=fun {b Z1 H1 G1} s1 S1 q=>by
     cases b with
     | true=>rw [if_pos rfl] at q ⊢; exact kq true Z1 G1 H1 s1 S1 q
     | false =>
       rw [if_neg Bool.false_ne_true] at q ⊢;exact SG hK he hm hc hid.2 (rr.mono s1) S1 (s1 _ _ hl) (rx.mono s1) q fun b Z2 G2 H2 s2 S2 q2=>kq b Z2 G2 H2 (s1.trans s2) S2 q2
   have D:=he _ hm;rcases h with ⟨⟨ns',ys',rfl⟩,q0,q⟩ | ⟨an,q⟩ | ⟨d,m',ns',ys',hd,hdc,hne,rfl,q⟩
   · have ry':=ry;obtain ⟨a2,dx2,ws2,ea2,hz2,_,_⟩:=ry';subst ea2;by_cases e:a2=p
     · exact .inl ⟨by rw [e],kq true Z G H (aN.refl Z) S (q0 (hid.1 ⟨_,_,rfl⟩ (by rw [e])))⟩
     · obtain ⟨ad,fd,M,Fn,hb⟩:=D.m.ex;refine .inr ⟨_,_,.own e (S.z _ _ hz2) (.inl rfl) M Fn hb, ?_⟩;exact ⟨[.ob c ns' ys',.ob c ns xs],Z,G,F,_,⟨_,_,rfl,ry,_,_,rfl,rx,rfl⟩,S,q,by rintro x v Z1 G1 H1 s1 S1 r3 ⟨b,e,q3⟩;subst e; have e:v= .bl b:=r3; exact ⟨b,e,nxt s1 S1 q3⟩⟩
   · obtain ⟨ad,fd,M,Fn,hb⟩:=D.m.ex;refine .inr ⟨_,_,.bu (GZ hK S ry an) D.l M Fn hb, ?_⟩;exact ⟨[.ob c ns xs,y],Z,G,F,_,⟨_,_,rfl,rx,_,_,rfl,ry,rfl⟩,S,q,by rintro x v Z1 G1 H1 s1 S1 r3 ⟨b,e,q3⟩;subst e; have e:v= .bl b:=r3; exact ⟨b,e,nxt s1 S1 q3⟩⟩
   · have ry':=ry;obtain ⟨a2,dx2,ws2,ea2,hz2,_,_⟩:=ry';subst ea2;have D2:=he _ hd;have dd:=D.d d hdc hne;have e:a2≠p:=fun e=>by
       subst e;rw [hz] at hz2;have z:=Option.some.inj hz2;injection z with z1;exact dd.ne z1.symm
     obtain ⟨ad,fd,M,Fn,hb⟩:=D2.m.ex;refine .inr ⟨_,_,.own e (S.z _ _ hz2) (.inr dd.cd) M Fn hb, ?_⟩;exact ⟨[.ob d ns' ys',.ob c ns xs],Z,G,F,_,⟨_,_,rfl,ry,_,_,rfl,rx,rfl⟩,S,q,by rintro x v Z1 G1 H1 s1 S1 r3 ⟨b,e,q3⟩;subst e; have e:v= .bl b:=r3; exact ⟨b,e,nxt s1 S1 q3⟩⟩
theorem HR {eqs:List (String×Str)} {neg:Bool} (P:Pl X E T (k + 1)) (he:∀ y∈eqs,EqX X E T k y.1 y.2):OpR X (compareOp (aJ8 neg)) (dS E F (aDw T eqs neg)):=by
 rintro pins s σ H v w u1 u2 Q I rv rw' ⟨x,y,Z,G,Q',r1,r2,S,⟨c,m,ns,xs,ys,hm,hc,e1,e2,q⟩,kq⟩;subst e1;have r1':=r1;obtain ⟨a,dx,vs,ea,hz,_,_⟩:=r1';subst ea;have kq':∀ b Z1 G1 H1,aN Z Z1→Sim E F H1 Z1 G1→Q' (.bl (if neg=true then !b else b)) G1→Q (.bl (if neg=true then !b else b)) H1:=fun b Z1 G1 H1 s1 S1 q=>kq _ _ Z1 G1 H1 s1 S1 bO q;rcases e2 with rfl | ⟨hn,rfl⟩
 · obtain ⟨l,ws,el,hl,t⟩:=r2;subst el;have h0:=SG (F:=F) (l:=l) (all:=ws) P.hK he hm hc (ES P.hK I S r1 t) t S hl r1 q kq';cases neg with
   | true=>exact LY P.room pins s σ H _ _ u1 u2 Q I rv rw' ⟨a,l,ws,rfl,rfl,h0⟩
   | false=>exact aEw P.room pins s σ H _ _ u1 u2 Q I rv rw' ⟨a,l,ws,rfl,rfl,h0⟩
 · subst hn;have r2':=r2;obtain ⟨l,ws,el,hl,t⟩:=eE S r2';subst el;exact aCg P.room pins s σ H _ _ u1 u2 Q I rv rw' ⟨a,l,ws,rfl,rfl,P.hK▸hl,VR (F:=F) P.hK he hm hc (ES P.hK I S r1 t) t S r1 q kq'⟩
noncomputable def exB:CmpOp→Bool
 | .Eq=>true
 | .NotEq=>true
 | .In=>true
 | .NotIn=>true
 | _=>false
theorem aAP {eqs:List (String×Str)} (P:Pl X E T (k + 1)) (he:∀ y∈eqs,NeX X E T k y.1 y.2) {op:CmpOp} (ho:exB op=true):OpR X (compareOp op) (dS E F (pX T op eqs)):=by
 have hq:∀ y∈eqs,EqX X E T k y.1 y.2:=fun y hy=>(he y hy).e;have hm:∀ y∈eqs,EqM X E T k y.1 y.2:=fun y hy=>(he y hy).e.m;have hn:∀ y∈eqs,NeM X E T k y.1 y.2:=fun y hy=>by
   obtain ⟨ad,fd,a,b,c⟩:=(he y hy).e.m.ex;exact ⟨ad,fd,(he y hy).n,a,b,c⟩
 cases op with
 | Eq =>
   refine OpR.imp (OpR.or (WR (F:=F) P hm) (OpR.or (YL (F:=F) P hq) (ZH (F:=F) P hq))) fun x y H Q zz=>?_;obtain ⟨a,b,Z,G,Q',r1,r2,S,q,kq⟩:=zz;rcases q with q | q | q
   · exact .inl ⟨a,b,Z,G,Q',r1,r2,S,q,kq⟩
   · exact .inr (.inl ⟨a,b,Z,G,Q',r1,r2,S,q,kq⟩)
   · exact .inr (.inr ⟨a,b,Z,G,Q',r1,r2,S,q,kq⟩)
 | NotEq =>
   refine OpR.imp (OpR.or (YY (F:=F) P hn) (aAU (F:=F) P he)) fun x y H Q zz=>?_;obtain ⟨a,b,Z,G,Q',r1,r2,S,q,kq⟩:=zz;rcases q with q | q
   · exact .inl ⟨a,b,Z,G,Q',r1,r2,S,q,kq⟩
   · exact .inr ⟨a,b,Z,G,Q',r1,r2,S,q,kq⟩
 | In=>exact HR (F:=F) (neg:=false) P hq
 | NotIn=>exact HR (F:=F) (neg:=true) P hq
 | _=>cases ho
variable {a b:Expr} {pos:Pos}
theorem aDk {op:CmpOp} {eqs:List (String×Str)} {a' b':CE} (P:Pl X E T (k + 1)) (he:∀ y∈eqs,NeX X E T k y.1 y.2) (ho:exB op=true) (hm:behindInMarks op b=false) (ha:JE X E a (wpE T a')) (hb:JE X E b (wpE T b')):JE X E (.Compare a [op] [b] pos) (wpE T (.cex op eqs a' b')):=fun F =>
 (HB (aAP P he ho) (ha F) (hb F) hm).imp fun σ H Q h=>QI (by rw [wpE] at h; exact h)
end
section
variable {X:Cx} {E:Ev} {T:Tb} {k:Nat} {pos:Pos} {a b c e:Expr}
theorem yB {i:Nat} {x:Str} (hN:X.N.Nodup) (hi:X.N[i]? =some x) (hx:Loc X.env.scope x) (hf:X.fn x=true∨X.env.scope.names.lookup x=some .local):JG X E (.Name x pos) (wpG T (.gn i)):=fun F =>
 (IP hN hi hx hf).imp <|by
   rintro v σ H Q ⟨x,σ',Z,G,Q',r,rs,S,h,kq⟩;rw [wpG] at h;exact kq _ _ _ _ _ (aN.refl Z) S (rs.set r i) h
theorem ZZ:JGs X E [] (gR T .nil):=fun F=>PGs.imp YC <|by
 rintro vs σ H Q ⟨xs,σ',Z,G,Q',r,rs,S,h,kq⟩;rw [gR] at h;obtain ⟨e,h⟩:=h;subst e;exact ⟨r,kq _ _ _ _ _ (aN.refl Z) S rs h⟩
theorem WB {e:Expr} {es:List Expr} {a' b':CE} (h1:JG X E e (wpG T a')) (h2:JGs X E es (gR T b')) (hs:(assignEach (e :: es) X.env).map (·.2)=assign e X.env :: (assignEach es X.env).map (·.2)):JGs X E (e :: es) (gR T (.cons a' b')):=fun F =>
 PGs.imp (OR (h1 F) (h2 F) hs) <|by
   rintro vs σ H Q ⟨xs,σ',Z,G,Q',r,rs,S,h,kq⟩;rw [gR] at h;obtain ⟨x,t,e,h⟩:=h;subst e;obtain ⟨v,u,e,r1,r2⟩:=r;exact ⟨v,u,e,x,σ',Z,G,_,r1,rs,S,h,fun σ1 σ2 Z1 G1 H1 s1 S1 rs1 q1=>⟨t,σ1,Z1,G1,Q',r2.mono s1,rs1,S1,q1,kq.mono s1⟩⟩
theorem aEn {es:List Expr} {x1 n:Nat} {gs:CE} (P:Pl X E T k) (h40:40≤k) (h:JGs X E es (gR T gs)) (hn:(assignEach es X.env).length=n) (hst:(assignEach es X.env).findIdx? (·.1)=none):JG X E (.Tuple es x1 pos) (wpG T (.gt n gs)):=fun F =>
 (aDv (P.calm h40) (h F) hn hst).imp <|by
   rintro v σ H Q ⟨x,σ',Z,G,Q',r,rs,S,h,kq⟩;rw [wpG] at h;obtain ⟨xs,e,hl,h⟩:=h;subst e;obtain ⟨a,vs,e,ha,t⟩:=eE S r;exact ⟨a,vs,e,P.hK▸ha,by rw [←t.length]; exact hl,xs,σ',Z,G,Q',t,rs,S,h,kq⟩
def uU (E:Ev) (J:It) (Z:Hp) (chk:Gh→Prop) (xs:List PV):Prop:= ∀ F (i:Nat) Z1 G1 H1,aN Z Z1→Sim E F H1 Z1 G1→chk G1→
 (∀ x,xs[i]? =some x→J.go i H1∧∀ v H2,J.yld i H1 v H2→∃ Z2,aN Z1 Z2∧Sim E F H2 Z2 G1∧RP E Z2 x v)∧(i=xs.length→J.stop i H1)
def aHv (E:Ev) (F:Hp) (t:PTI):TI:=fun σ H R=>∃ σ' Z G R',RSt E Z σ' σ∧Sim E F H Z G∧t σ' G R'∧∀ J chk xs Z1 G1 H1,aN Z Z1→Sim E F H1 Z1 G1→uU E J Z1 chk xs→R' chk xs G1→R J H1
def JI (X:Cx) (E:Ev) (tg iter:Expr) (t:PTI):Prop:= ∀ F,PI X tg iter (aHv E F t)
theorem aCw {tg l:Expr} {tl:TE} (hl:PE X l tl):PI X tg l (fun σ H R=>tl σ H fun x H1=>∃ a,x= .ref a∧(((∃ xs,SqL X.K H1 a xs)∧R (Itl X.K a) H1)∨((∃ xs,SqT X.K H1 a xs)∧R (Itt X.K a) H1))):=by
 intro pins s σ H R I h;have hw:=hl pins s σ H _ I h;refine thn hw fun v s1 zz=>?_;obtain ⟨x,H1,I1,r1,a,e,q1⟩:=zz;subst e;have r1':v= .ref a:=r1;subst r1';rcases q1 with ⟨⟨xs,hq⟩,q⟩ | ⟨⟨xs,hq⟩,q⟩
 · obtain ⟨its,rv,p,hz⟩:=I1.list hq;refine wpAny_pyIter_list p.isList ?_;refine ⟨s1.heap.objs.size,[s1.heap.objs.size],_,_,H1,rfl,I1.kept (t':=s1.toks) fun b o e=>wEq _ e,MO a _,⟨_,wGq _ rfl,rfl,rfl⟩,fun b hb=>?_,q⟩;have e:b=s1.heap.objs.size:=by simpa using hb
   subst e;exact I1.fpOk (Nat.le_refl _) (I1.hok.fresh (Nat.le_refl _))
 · obtain ⟨its,rv,p,hz⟩:=I1.tuple hq;refine wpAny_pyIter_tuple (show s1.heap.IsTuple a its.toArray from p) ?_;refine ⟨s1.heap.objs.size,[s1.heap.objs.size],_,_,H1,rfl,I1.kept (t':=s1.toks) fun b o e=>wEq _ e,FI a _,⟨_,wGq _ rfl,rfl,rfl⟩,fun b hb=>?_,q⟩;have e:b=s1.heap.objs.size:=by simpa using hb
   subst e;exact I1.fpOk (Nat.le_refl _) (I1.hok.fresh (Nat.le_refl _))
theorem zH {a:Addr} {Z:Hp} {chk:Gh→Prop} {xs:List PV} (h:∀ F Z1 G1 H1,aN Z Z1→Sim E F H1 Z1 G1→chk G1→∃ vs,SqL E.K H1 a vs∧RPs E Z1 xs vs):uU E (Itl E.K a) Z chk xs:=by
 intro F i Z1 G1 H1 s1 S1 c1;obtain ⟨vs,hs,t⟩:=h F Z1 G1 H1 s1 S1 c1;refine ⟨fun x ex=>?_,fun e=>⟨vs,hs,by rw [e,t.length]; exact Nat.le_refl _⟩⟩;obtain ⟨v,ev,rv⟩:=t.get ex;refine ⟨⟨vs,v,hs,ev⟩,fun w H2 zz=>?_⟩;obtain ⟨e,y⟩:=zz;subst e;have:=y vs hs;rw [ev] at this;cases this;exact ⟨Z1,aN.refl _,S1,rv⟩
theorem aEb {a:Addr} {Z:Hp} {chk:Gh→Prop} {xs:List PV} (h:∀ F Z1 G1 H1,aN Z Z1→Sim E F H1 Z1 G1→chk G1→∃ vs,SqT E.K H1 a vs∧RPs E Z1 xs vs):uU E (Itt E.K a) Z chk xs:=by
 intro F i Z1 G1 H1 s1 S1 c1;obtain ⟨vs,hs,t⟩:=h F Z1 G1 H1 s1 S1 c1;refine ⟨fun x ex=>?_,fun e=>⟨vs,hs,by rw [e,t.length]; exact Nat.le_refl _⟩⟩;obtain ⟨v,ev,rv⟩:=t.get ex;refine ⟨⟨vs,v,hs,ev⟩,fun w H2 zz=>?_⟩;obtain ⟨e,y⟩:=zz;subst e;have:=y vs hs;rw [ev] at this;cases this;exact ⟨Z1,aN.refl _,S1,rv⟩
theorem aBM {a:Addr} {Z:Hp} {vs:List V} {xs:List PV} (hz:SqT E.K Z a vs) (t:RPs E Z xs vs):uU E (Ite E.K a) Z (fun _=>True) (DV xs):=by
 intro F i Z1 G1 H1 s1 S1 _;have hs:=cR S1.z (cR s1 hz);have hl:(DV xs).length=xs.length:=by unfold DV; rw [List.length_map,List.length_zipIdx]
 refine ⟨fun x ex=>?_,fun e=>⟨vs,hs,by rw [e,hl,t.length]; exact Nat.le_refl _⟩⟩;unfold DV at ex;rw [List.getElem?_map,List.getElem?_zipIdx] at ex;cases ey:xs[i]? with
 | none=>rw [ey] at ex; cases ex
 | some y =>
   rw [ey] at ex;have ex':x= .tup [.int ((0 + i:Nat):Int),y]:=by
     have:=Option.some.inj ex;exact this.symm
   obtain ⟨v,ev,rv⟩:=t.get ey;refine ⟨⟨vs,v,hs,ev⟩,fun w H2 zz=>?_⟩;obtain ⟨p,u,e,n,e2,y'⟩:=zz;subst e e2;have:=y' vs hs;rw [ev] at this;cases this;refine ⟨upd Z1 p (.tup [.int i,v]),aW (S1.zn n) _,S1.fz n, ?_⟩;rw [ex',Nat.zero_add];exact kG (xs:=[.int (i:Int),y]) (S1.zn n) ⟨_,_,rfl,bM,_,_,rfl,rv.mono s1,rfl⟩
theorem RY {lo:Int} {n:Nat} {Z:Hp}:uU E (Itr lo n) Z (fun _=>True) (zK lo n):=by
 intro F i Z1 G1 H1 s1 S1 _;have hl:(zK lo n).length=n:=by unfold zK; rw [List.length_map,List.length_range]
 refine ⟨fun x ex=>?_,fun e=>by rw [hl] at e; exact Nat.le_of_eq e.symm⟩;have hi:i < n:=by
   have:=(List.getElem?_eq_some_iff.mp ex).1;rw [hl] at this; exact this
 have ex':x= .int (lo + i):=by
   unfold zK at ex;rw [List.getElem?_map,List.getElem?_range hi] at ex;exact (Option.some.inj ex).symm
 refine ⟨hi,fun w H2 zz=>?_⟩;obtain ⟨e,y⟩:=zz;subst e y;exact ⟨Z1,aN.refl _,S1,by rw [ex']; exact bM⟩
theorem yR {tg:Expr} {a':CE} (P:Pl X E T k) (ha:JE X E a (wpE T a')):JI X E tg a (wpI T (.isq a')):=fun F =>
 (aCw (ha F)).imp <|by
   rintro σ H R ⟨σ',Z,G,R',rs,S,h,kr⟩;rw [wpI] at h;refine ⟨σ',Z,G,_,rs,S,h,fun x v Z1 G1 H1 s1 S1 r1 q1=>?_⟩;unfold OM at q1;split at q1
   · obtain ⟨a,vs,e,ha,t⟩:=r1;have ok:uU E (Itt E.K a) Z1 (fun _=>True) _:=aEb fun F2 Z2 G2 H2 s2 S2 _=>⟨vs,cR S2.z (cR s2 ha),t.mono s2⟩;exact ⟨a,e,.inr ⟨⟨vs,P.hK▸cR S1.z ha⟩,P.hK▸kr _ _ _ _ _ _ s1 S1 ok q1⟩⟩
   · obtain ⟨a,vs,e,ha,t⟩:=r1;have ok:uU E (Itl E.K a) Z1 (fun _=>True) _:=zH fun F2 Z2 G2 H2 s2 S2 _=>⟨vs,SqL.of (S2.z _ _ (s2 _ _ ha)),t.mono s2⟩;exact ⟨a,e,.inl ⟨⟨vs,SqL.of (S1.z _ _ ha)⟩,P.hK▸kr _ _ _ _ _ _ s1 S1 ok q1⟩⟩
   · obtain ⟨a,e,ha⟩:=r1;have ok:uU E (Itl E.K a) Z1 (fun _=>True) _:=zH fun F2 Z2 G2 H2 s2 S2 _=>⟨_,S2.z.seq (s2.seq ha),RPs.ofInts _⟩;exact ⟨a,e,.inl ⟨⟨_,P.hK▸S1.z.seq ha⟩,P.hK▸kr _ _ _ _ _ _ s1 S1 ok q1⟩⟩
   · rename_i a;obtain ⟨xs,hG,q1⟩:=q1;obtain ⟨_,o',hp,vs,e',t⟩:=S1.g _ _ hG;subst e';have ok:uU E (Itl E.K a) Z1 (fun G'=>G' a=some (.lst xs)) xs:=zH fun F2 Z2 G2 H2 s2 S2 c2=>by
       obtain ⟨_,o',hp,vs,e',t⟩:=S2.g _ _ c2;subst e';exact ⟨vs,SqL.of hp,t⟩
     exact ⟨a,r1,.inl ⟨⟨vs,SqL.of hp⟩,P.hK▸kr _ _ _ _ _ _ s1 S1 ok q1⟩⟩
   · exact q1.elim
theorem YZ {tg:Expr} {p:Pos} {a':CE} (hg:Gl X "range") (hm:X.mg "range"=none) (ha:JE X E a (wpE T a')) (hs:starEach [a] X.env=[(false,eval a X.env)]):JI X E tg (.Call (.Name "range" p) [a] [] pos) (wpI T (.irg (.cons a' .nil))):=fun F =>
 (IZ hg hm (cZ (ha F) gL hs) hs).imp <|by
   rintro σ H R ⟨σ',Z,G,R',rs,S,h,kr⟩;rw [wpI,wpL,wpL] at h;refine ⟨σ',Z,G,_,rs,S,h,fun x v Z1 G1 H1 s1 S1 r1 q1=>?_⟩;rcases q1 with ⟨j,e,h1,h2,q⟩ | ⟨i,j,e,_⟩
   · cases e;exact ⟨j,by rw [show v= .int j from r1],h1,h2,kr _ _ _ _ _ _ s1 S1 RY q⟩
   · cases e
theorem aAQ {tg:Expr} {p:Pos} {a' b':CE} (hg:Gl X "range") (hm:X.mg "range"=none) (ha:JE X E a (wpE T a')) (hb:JE X E b (wpE T b')) (hs:starEach [a,b] X.env=[(false,eval a X.env),(false,eval b X.env)]) (hs2:starEach [b] X.env=[(false,eval b X.env)]) :
   JI X E tg (.Call (.Name "range" p) [a,b] [] pos) (wpI T (.irg (.cons a' (.cons b' .nil)))):=fun F =>
 (NI hg hm (cZ (ha F) (cZ (hb F) gL hs2) (by rw [hs,hs2])) hs hs2).imp <|by
   rintro σ H R ⟨σ',Z,G,R',rs,S,h,kr⟩;rw [wpI,wpL,wpL,wpL] at h;refine ⟨σ',Z,G,_,rs,S,h,fun x v Z1 G1 H1 s1 S1 r1 q1=>⟨σ',Z1,G1,_,rs.mono s1,S1,q1,fun y u Z2 G2 H2 s2 S2 r2 q2=>?_⟩⟩;rcases q2 with ⟨j,e,h1,h2,q⟩ | ⟨i,j,e,hb,q⟩
   · cases e
   · cases e;exact ⟨i,j,by rw [show v= .int i from r1,show u= .int j from r2],hb,kr _ _ _ _ _ _ (s1.trans s2) S2 RY q⟩
theorem aDj {es:List Expr} {x1:Nat} {tp p:Pos} {a':CE} (P:Pl X E T k) (hg:Gl X "enumerate") (hm:X.mg "enumerate"=none) (ha:JE X E a (wpE T a')) (hs:starEach [a] X.env=[(false,eval a X.env)]):JI X E (.Tuple es x1 tp) (.Call (.Name "enumerate" p) [a] [] pos) (wpI T (.ien a')):=fun F =>
 (XZ hg hm (cZ (ha F) gL hs) hs).imp <|by
   rintro σ H R ⟨σ',Z,G,R',rs,S,h,kr⟩;rw [wpI] at h;refine ⟨σ',Z,G,_,rs,S,h,fun x v Z1 G1 H1 s1 S1 r1 zz=>?_⟩;obtain ⟨xs,e,q1⟩:=zz;subst e;obtain ⟨a,vs,e,ha,t⟩:=r1;exact ⟨a,by rw [e],⟨vs,P.hK▸cR S1.z ha⟩,P.hK▸kr _ _ _ _ _ _ s1 S1 (aBM ha t) q1⟩
theorem aCT {tg iter:Expr} {body:List Stmt} {g' i':CE} {b':CS} (P:Pl X E T k) (h40:40≤k) (hp:PassesOwn (model X.prog X.w) X.A X.env X.xe) (hi:JI X E tg iter (wpI T i')) (hg:JG X E tg (wpG T g')) (hb:JSs X E body (wpS T b'))
   (hs:∀ x,foldedSetIterable iter X.env x=pure x):JS X E (.For tg iter body [] pos) (wpS T (.fr g' i' b')):=fun F =>
 (aB3 hp (P.calm h40) (hi F) (hg F) (hb F) hs).imp <|by
   rintro D σ H ⟨σ',Z,G,D',rs,S,h,kd⟩;rw [wpS] at h;refine ⟨σ',Z,G,_,rs,S,h,fun J chk xs Z1 G1 H1 s1 S1 ok q=>?_⟩;refine ⟨fun i m σ H=>m=xs.length - i∧i≤xs.length∧∃ σ' Z2 G2,aN Z1 Z2∧Sim E F H Z2 G2∧RSt E Z2 σ' σ∧pY chk (wpG T g') (wpS T b') D' (xs.drop i) σ' G2,⟨xs.length,by simp,Nat.zero_le _,σ',Z1,G1,aN.refl _,S1,rs.mono s1,q⟩, ?_⟩;rintro i m σ2 H2 ⟨rfl,hi,σ3,Z2,G2,s2,S2,rs2,q2⟩;have sz:=s1.trans s2;by_cases hlt:i < xs.length
   · have hd:xs.drop i=xs[i] :: xs.drop (i + 1):=List.drop_eq_getElem_cons hlt;rw [hd] at q2;unfold pY at q2;obtain ⟨c2,q2⟩:=q2;obtain ⟨go,yl⟩:=(ok F i Z2 G2 H2 s2 S2 c2).1 xs[i] (by simp [hlt]);refine .inr ⟨go,fun σ4 H4=>∃ σ5 Z4 G4,aN Z2 Z4∧Sim E F H4 Z4 G4∧RSt E Z4 σ5 σ4∧pY chk (wpG T g') (wpS T b') D' (xs.drop (i + 1)) σ5 G4,by rintro σ4 H4 ⟨σ5,Z4,G4,s4,S4,rs4,q4⟩;exact ⟨xs.length - (i + 1),by omega,rfl,hlt,σ5,Z4,G4,s2.trans s4,S4,rs4,q4⟩,fun v H3 y=>?_⟩;obtain ⟨Z3,s3,S3,r3⟩:=yl v H3 y;refine ⟨xs[i],σ3,Z3,G2,_,r3,rs2.mono s3,S3,q2,fun σ6 σ7 Z5 G5 H5 s5 S5 rs5 q5=>⟨σ6,Z5,G5,_,rs5,S5,q5, ?_⟩⟩;have s35:=s3.trans s5;exact ⟨fun σ8 σ9 Z6 G6 H6 s6 S6 rs6 q6=>⟨σ8,Z6,G6,s35.trans s6,S6,rs6,q6⟩,kd.rt.mono (sz.trans s35),kd.nx.mono (sz.trans s35),fun σ8 σ9 Z6 G6 H6 s6 S6 rs6 q6=>⟨σ8,Z6,G6,s35.trans s6,S6,rs6,q6⟩⟩
   · have e:i=xs.length:=by omega
     rw [e,List.drop_length] at q2;unfold pY at q2;obtain ⟨c2,q2⟩:=q2;exact .inl ⟨(ok F i Z2 G2 H2 s2 S2 c2).2 e,kd.nx _ _ _ _ _ sz S2 rs2 q2⟩
theorem aId {body:List Stmt} {c':CE} {b':CS} (hp:PassesOwn (model X.prog X.w) X.A X.env X.xe) (hc:JT X E c (wpT T c')) (hb:JSs X E body (wpS T b')):JS X E (.While c body [] pos) (wpS T (.wh c' b')):=fun F =>
 (OG hp (hc F) (hb F)).imp <|by
   rintro D σ H ⟨σ',Z,G,D',rs,S,h,kd⟩;rw [wpS] at h;obtain ⟨W,⟨m0,w0⟩,turn⟩:=h;refine ⟨fun m σ H=>∃ σ' Z2 G2,aN Z Z2∧Sim E F H Z2 G2∧RSt E Z2 σ' σ∧W m σ' G2,⟨m0,σ',Z,G,aN.refl _,S,rs,w0⟩, ?_⟩;rintro m σ2 H2 ⟨σ3,Z2,G2,s2,S2,rs2,w2⟩;refine ⟨σ3,Z2,G2,_,rs2,S2,turn m σ3 G2 w2,fun d Z3 G3 H3 s3 S3 q3=>?_⟩;have s23:=s2.trans s3;dsimp only;cases d with
   | true =>
     rw [if_pos rfl] at q3 ⊢;refine ⟨fun σ4 H4=>∃ σ5 Z4 G4 m',m' < m∧aN Z Z4∧Sim E F H4 Z4 G4∧RSt E Z4 σ5 σ4∧W m' σ5 G4,by rintro σ4 H4 ⟨σ5,Z4,G4,m',lt,s4,S4,rs4,w4⟩;exact ⟨m',lt,σ5,Z4,G4,s4,S4,rs4,w4⟩,σ3,Z3,G3,_,rs2.mono s3,S3,q3, ?_⟩;exact ⟨by rintro σ8 σ9 Z6 G6 H6 s6 S6 rs6 ⟨m',lt,w6⟩;exact ⟨σ8,Z6,G6,m',lt,s23.trans s6,S6,rs6,w6⟩,kd.rt.mono s23,kd.nx.mono s23,by rintro σ8 σ9 Z6 G6 H6 s6 S6 rs6 ⟨m',lt,w6⟩;exact ⟨σ8,Z6,G6,m',lt,s23.trans s6,S6,rs6,w6⟩⟩
   | false =>
     rw [if_neg Bool.false_ne_true] at q3 ⊢;exact kd.nx _ _ _ _ _ s23 S3 (rs2.mono s3) q3
theorem aBT {st:Stmt} {aV:List Stmt} {a' b':CS} (h1:JS X E st (wpS T a')) (h2:JSs X E aV (wpS T b')):JSs X E (st :: aV) (wpS T (.seq a' b')):=fun F =>
 PSs.imp (QZ (h1 F) (h2 F)) <|by
   rintro D σ H ⟨σ',Z,G,D',rs,S,h,kd⟩;rw [wpS] at h;exact ⟨σ',Z,G,_,rs,S,h,⟨fun σ1 σ2 Z1 G1 H1 s1 S1 rs1 q1=>⟨σ1,Z1,G1,D',rs1,S1,q1,kd.mono s1⟩,kd.rt,kd.bk,kd.ct⟩⟩
theorem aCy {st:Stmt} {a':CS} (h1:JS X E st (wpS T a')):JSs X E [st] (wpS T a'):=fun F=>ZF (h1 F)
theorem aFb:JSs X E [] (wpS T .nil):=fun F=>PSs.imp aA2 <|by
 rintro D σ H ⟨σ',Z,G,D',rs,S,h,kd⟩;rw [wpS] at h;exact kd.nx _ _ _ _ _ (aN.refl Z) S rs h
theorem aAK:JS X E (.Pass pos) (wpS T .nil):=fun F=>aAB.imp <|by
 rintro D σ H ⟨σ',Z,G,D',rs,S,h,kd⟩;rw [wpS] at h;exact kd.nx _ _ _ _ _ (aN.refl Z) S rs h
theorem aCZ {x:Str} {j:Nat} {pos':Pos}:JS X E (.Expr (.Constant (.str x) j pos) pos') (wpS T .nil):=fun F=>aD5.imp <|by
 rintro D σ H ⟨σ',Z,G,D',rs,S,h,kd⟩;rw [wpS] at h;exact kd.nx _ _ _ _ _ (aN.refl Z) S rs h
theorem aG8 {e':CE} (he:JE X E e (wpE T e')) (hs:swapsWith e none pos.line X.env=pure false):JS X E (.Expr e pos) (wpS T (.ex e')):=fun F =>
 (aAV (he F) hs).imp <|by
   rintro D σ H ⟨σ',Z,G,D',rs,S,h,kd⟩;rw [wpS] at h;exact ⟨σ',Z,G,_,rs,S,h,fun x v Z1 G1 H1 s1 S1 r1 q1=>kd.nx _ _ _ _ _ s1 S1 (rs.mono s1) q1⟩
theorem aEv {e':CE} (he:JE X E e (wpE T e')):JS X E (.Return (some e) pos) (wpS T (.ret e')):=fun F =>
 (aEq (he F)).imp <|by
   rintro D σ H ⟨σ',Z,G,D',rs,S,h,kd⟩;rw [wpS] at h;exact ⟨σ',Z,G,_,rs,S,h,kd.rt⟩
theorem XE:JS X E (.Return none pos) (wpS T .retN):=fun F=>ZA.imp <|by
 rintro D σ H ⟨σ',Z,G,D',rs,S,h,kd⟩;rw [wpS] at h;exact kd.rt _ _ _ _ _ (aN.refl Z) S oE h
theorem aFh {st:Stmt}:JS X E st (wpS T .nev):=fun F=>OF.imp <|by
 rintro D σ H ⟨σ',Z,G,D',rs,S,h,kd⟩;rw [wpS] at h;exact h
theorem aAb {sts:List Stmt}:JSs X E sts (wpS T .nev):=fun F=>PSs.imp NH <|by
 rintro D σ H ⟨σ',Z,G,D',rs,S,h,kd⟩;rw [wpS] at h;exact h
theorem aFL {x y:List Stmt} {c':CE} {a' b':CS} (hc:JT X E c (wpT T c')) (ha:JSs X E x (wpS T a')) (hb:JSs X E y (wpS T b')):JS X E (.If c x y pos) (wpS T (.iff c' a' b')):=fun F =>
 (aHb (hc F) (ha F) (hb F)).imp <|by
   rintro D σ H ⟨σ',Z,G,D',rs,S,h,kd⟩;rw [wpS] at h;refine ⟨σ',Z,G,_,rs,S,h,fun d Z1 G1 H1 s1 S1 q=>?_⟩;cases d with
   | true=>rw [if_pos rfl] at q ⊢; exact ⟨σ',Z1,G1,D',rs.mono s1,S1,q,kd.mono s1⟩
   | false=>rw [if_neg Bool.false_ne_true] at q ⊢; exact ⟨σ',Z1,G1,D',rs.mono s1,S1,q,kd.mono s1⟩
theorem ZW {F:Hp} {g' e':CE} {D:uR} {σ:L2.St} {H:Hp} (h:aD8 E F (wpS T (.asg g' e')) D σ H):aDF (low E F (wpE T e')) (aCW E F (wpG T g')) D σ H:=by
 obtain ⟨σ',Z,G,D',rs,S,h,kd⟩:=h;rw [wpS] at h;exact ⟨σ',Z,G,_,rs,S,h,fun x v Z1 G1 H1 s1 S1 r1 q1=>⟨x,σ',Z1,G1,_,r1,rs.mono s1,S1,q1,kd.nx.mono s1⟩⟩
theorem EZ {tg:Expr} {g' e':CE} (he:JE X E e (wpE T e')) (hg:JG X E tg (wpG T g')) (hs:swapsWithSole [tg] e pos.line X.env=pure false) (hw:swappedStores [tg] e X.env=pure none) (h1:(assignEach [tg] X.env).map (·.2)=[assign tg X.env]) :
   JS X E (.Assign [tg] e pos) (wpS T (.asg g' e')):=fun F=>(PC (he F) (hg F) hs hw h1).imp fun D σ H h=>ZW h
theorem aEY {i j:Nat} {x y:Str} {a' b':CE} {px py pt pt2:Pos} {kt k2:Nat} (P:Pl X E T k) (h40:40≤k) (hN:X.N.Nodup) (hi:X.N[i]? =some x) (hj:X.N[j]? =some y) (hij:i≠j) (hx:X.env.scope.names.lookup x=some .local) (hy:X.env.scope.names.lookup y=some .local)
   (ha:JE X E a (wpE T a')) (hb:JE X E b (wpE T b')) (s1:starEach [a,b] X.env=(false,eval a X.env) :: starEach [b] X.env) (s2:starEach [b] X.env=(false,eval b X.env) :: starEach [] X.env)
   (hw:swappedStores [.Tuple [.Name x px,.Name y py] kt pt] (.Tuple [a,b] k2 pt2) X.env=pure (some [x,y])) (hs:swapsWithSole [.Tuple [.Name x px,.Name y py] kt pt] (.Tuple [a,b] k2 pt2) pos.line X.env=pure false) :
   JS X E (.Assign [.Tuple [.Name x px,.Name y py] kt pt] (.Tuple [a,b] k2 pt2) pos) (wpS T (.par i j a' b')):=fun F =>
 (aC0 (P.calm h40) hN hi hj hij hx hy (cZ (ha F) (cZ (hb F) gL s2) s1) hw hs).imp <|by
   rintro D σ H ⟨σ',Z,G,D',rs,S,h,kd⟩;rw [wpS] at h;refine ⟨σ',Z,G,_,rs,S,h,fun x v Z1 G1 H1 s1 S1 r1 q1=>⟨σ',Z1,G1,_,rs.mono s1,S1,q1,fun y u Z2 G2 H2 s2 S2 r2 q2=>?_⟩⟩;exact ⟨v,u,rfl,kd.nx _ _ _ _ _ (s1.trans s2) S2 ((((rs.mono s1).mono s2).set (r1.mono s2) i).set r2 j) q2⟩
theorem YK {c:Expr} {i j l:Nat} {x y z:Str} {a' b' c':CE} {px py pz pt pt2:Pos} {kt k2:Nat} (P:Pl X E T k) (h40:40≤k) (hN:X.N.Nodup) (hi:X.N[i]? =some x) (hj:X.N[j]? =some y) (hl:X.N[l]? =some z) (hij:i≠j) (hil:i≠l) (hjl:j≠l)
   (hx:X.env.scope.names.lookup x=some .local) (hy:X.env.scope.names.lookup y=some .local) (hz:X.env.scope.names.lookup z=some .local)
   (ha:JE X E a (wpE T a')) (hb:JE X E b (wpE T b')) (hc:JE X E c (wpE T c')) (s1:starEach [a,b,c] X.env=(false,eval a X.env) :: starEach [b,c] X.env) (s2:starEach [b,c] X.env=(false,eval b X.env) :: starEach [c] X.env) (s3:starEach [c] X.env=(false,eval c X.env) :: starEach [] X.env)
   (hw:swappedStores [.Tuple [.Name x px,.Name y py,.Name z pz] kt pt] (.Tuple [a,b,c] k2 pt2) X.env=pure (some [x,y,z])) (hs:swapsWithSole [.Tuple [.Name x px,.Name y py,.Name z pz] kt pt] (.Tuple [a,b,c] k2 pt2) pos.line X.env=pure false) :
   JS X E (.Assign [.Tuple [.Name x px,.Name y py,.Name z pz] kt pt] (.Tuple [a,b,c] k2 pt2) pos) (wpS T (.par3 i j l a' b' c')):=fun F =>
 (aAF (P.calm h40) hN hi hj hl hij hil hjl hx hy hz (cZ (ha F) (cZ (hb F) (cZ (hc F) gL s3) s2) s1) hw hs).imp <|by
   rintro D σ H ⟨σ',Z,G,D',rs,S,h,kd⟩;rw [wpS] at h;refine ⟨σ',Z,G,_,rs,S,h,fun x v Z1 G1 H1 s1 S1 r1 q1=>⟨σ',Z1,G1,_,rs.mono s1,S1,q1,fun y u Z2 G2 H2 s2 S2 r2 q2=>⟨σ',Z2,G2,_,(rs.mono s1).mono s2,S2,q2,fun z w Z3 G3 H3 s3 S3 r3 q3=>?_⟩⟩⟩;exact ⟨v,u,w,rfl,kd.nx _ _ _ _ _ ((s1.trans s2).trans s3) S3 ((((((rs.mono s1).mono s2).mono s3).set ((r1.mono s2).mono s3) i).set (r2.mono s3) j).set r3 l) q3⟩
theorem aCX {o i:Expr} {pos':Pos} {o' i' e':CE} (he:JE X E e (wpE T e')) (ho:JE X E o (wpE T o')) (hi:JE X E i (wpE T i'))
   (ha:∀ v,assign (.Subscript o i pos') X.env v=(do
     let ov ←holding [v] (eval o X.env)
     let iv ←holding [v,ov] (eval i X.env)
     standAt pos'
     holding [v,ov,iv] (setItem ov iv v)
     release [v,ov,iv] []))
   (hs:swapsWithSole [.Subscript o i pos'] e pos.line X.env=pure false) (hw:swappedStores [.Subscript o i pos'] e X.env=pure none):JS X E (.Assign [.Subscript o i pos'] e pos) (wpS T (.sub o' i' e')):=fun F =>
 (PC (he F) (aDc (ho F) (hi F) (XV (E:=E) (F:=F)) ha) hs hw rfl).imp <|by
   rintro D σ H ⟨σ',Z,G,D',rs,S,h,kd⟩;rw [wpS] at h;refine ⟨σ',Z,G,_,rs,S,h,fun v v' Z1 G1 H1 s1 S1 r1 q1=>⟨σ',Z1,G1,_,rs.mono s1,S1,q1,fun x x' Z2 G2 H2 s2 S2 r2 q2=>⟨σ',Z2,G2,_,(rs.mono s1).mono s2,S2,q2,fun y y' Z3 G3 H3 s3 S3 r3 q3=>?_⟩⟩⟩;have s13:=(s1.trans s2).trans s3;exact ⟨x,y,v,Z3,G3,_,r2.mono s3,r3,(r1.mono s2).mono s3,S3,q3,fun G4 H4 S4 q4=>kd.nx _ _ _ _ _ s13 S4 (rs.mono s13) q4⟩
theorem BO (f:Str) (v:V):∀ (ns:List Str) (vs:List V),ns.length=vs.length→jA f v (ns.zip vs)=(NZ f ns).zip (uV f v ns vs)∧(NZ f ns).length=(uV f v ns vs).length
 | [],[],_=>⟨rfl,rfl⟩
 | [],_ :: _,h=>by cases h
 | _ :: _,[],h=>by cases h
 | n :: ns,u :: us,h=>by
   obtain ⟨a,b⟩:=BO f v ns us (by simpa using h);rw [List.zip_cons_cons];unfold jA NZ uV;split
   · exact ⟨by rw [List.zip_cons_cons],by simpa using h⟩
   · exact ⟨by rw [List.zip_cons_cons,a],by simpa using b⟩
theorem IS {Z:Hp} {f:Str} {y:PV} {u:V} (r:RP E Z y u):∀ {ns:List Str} {xs:List PV} {vs:List V},RPs E Z xs vs→RPs E Z (uV f y ns xs) (uV f u ns vs)
 | [],_,_,_=>⟨u,[],rfl,r,rfl⟩
 | _ :: _,[],_,h=>by cases h; exact rfl
 | n :: ns,x :: xs,_,⟨v,t,e,r1,r2⟩=>by
   subst e;unfold uV;split
   · exact ⟨u,t,rfl,r,r2⟩
   · exact ⟨v,_,rfl,r1,IS r r2⟩
theorem aEQ {o:Expr} {f:Str} {pos':Pos} {o' e':CE} (P:Pl X E T k) (ho:JE X E o (wpE T o')) (he:JE X E e (wpE T e')) (hs:swapsWith e (some (.Attribute o f pos')) pos.line X.env=pure false):JS X E (.Assign [.Attribute o f pos'] e pos) (wpS T (.fld o' f e')):=fun F =>
 (aD0 (ho F) (he F) hs).imp <|by
   rintro D σ H ⟨σ',Z,G,D',rs,S,h,kd⟩;rw [wpS] at h;refine ⟨σ',Z,G,_,rs,S,h,fun v v' Z1 G1 H1 s1 S1 r1 q1=>⟨σ',Z1,G1,_,rs.mono s1,S1,q1,fun x x' Z2 G2 H2 s2 S2 r2 zz=>?_⟩⟩;obtain ⟨p,c,ns,xs,e,hG,hf,hl,q2⟩:=zz;subst e;have e:x'= .ref p:=r2;subst e;obtain ⟨_,o',hp,dx,vs,e',l,t⟩:=S2.g _ _ hG;subst e';obtain ⟨h1,h2⟩:=P.fld c f hf;obtain ⟨e1,e2⟩:=BO f v' ns vs l;refine ⟨p,_,dx,_,rfl,hp,h1,h2,by rw [List.length_zip,←l,Nat.min_self]; exact hl,kd.nx _ _ _ _ _ (s1.trans s2) (S2.set (go:=.ins c (NZ f ns) (uV f v ns xs)) hG ⟨dx,uV f v' ns vs,by rw [e1],e2,IS (r1.mono s2) t⟩) ((rs.mono s1).mono s2) q2⟩
end
section
variable {X:Cx} {E:Ev} {T:Tb} {k:Nat} {pos:Pos} {a b c e:Expr}
theorem aEF {Z:Hp} {js:List (Option Nat)} {σ':PSt} {σ:L2.St} (rs:RSt E Z σ' σ):RSt E Z (DZ js σ') (PR js σ):=by
 induction js with
 | nil=>exact .nil
 | cons o r ih =>
   refine .cons ?_ ih;cases o with
   | none=>exact trivial
   | some j =>
     show RSl E Z ((σ'[j]?).getD none) ((σ[j]?).getD none);cases e:σ'[j]? with
     | none=>exact trivial
     | some u =>
       cases u with
       | none=>exact trivial
       | some x =>
         obtain ⟨v,e',r⟩:=rs.get e;rw [e'];exact ⟨v,rfl,r⟩
def aEt (E:Ev) (t:PTE):TE:=fun σ H Q=>∃ F,low E F t σ H Q
def aAX (E:Ev) (t:PTT):TT:=fun σ H Q=>∃ F,xZ E F t σ H Q
def aCh (E:Ev) (t:PTG):TG:=fun v σ H Q=>∃ F,aCW E F t v σ H Q
theorem JE.any {t:PTE} (h:JE X E e t):PE X e (aEt E t):=by rintro pins s σ H Q I ⟨F,q⟩;exact h F pins s σ H Q I q
theorem JT.any {t:PTT} (h:JT X E e t):PT X e (aAX E t):=by rintro pins s σ H Q I ⟨F,q⟩;exact h F pins s σ H Q I q
theorem JG.any {t:PTG} (h:JG X E e t):PG X e (aCh E t):=by rintro pins s σ H v u Q I r ⟨F,q⟩;exact h F pins s σ H v u Q I r q
theorem OS {F:Hp} {J:It} {Z1 H1:Hp} {G1:Gh} {chk:Gh→Prop} {xs:List PV} {g':PTG} {ts':PTT} {te':PTE} {σ':PSt} {σ:L2.St} {m:Bool} {Q':PK1} {Q:VK} {D:Addr}
   (S1:Sim E F H1 Z1 G1) (ok:uU E J Z1 chk xs) (rs:RSt E Z1 σ' σ) (hz:xs.length≤sizeLine) (n:H1 D=none) (q:gI chk g' ts' te' xs [] σ' G1 fun ys G2=>vD m G2 ys Q') (kq:Kq E F Z1 Q' Q) :
   RH J D (aCh E g') (aAX E ts') (aEt E te') Q σ (upd H1 D (.lst [])):=by
 have fD:F D=none:=S1.fn n;refine ⟨fun i m' σ H=>m'=xs.length - i∧i≤xs.length∧∃ σ' Z2 G2 acc vs,aN Z1 Z2∧Sim E (upd F D (.lst vs)) H Z2 G2∧RPs E Z2 acc vs∧RSt E Z2 σ' σ∧acc.length≤i∧gI chk g' ts' te' (xs.drop i) acc σ' G2 fun ys G2=>vD m G2 ys Q',
   ⟨xs.length,by simp,Nat.zero_le _,σ',Z1,G1,[],[],aN.refl _,S1.mine n,rfl,rs,Nat.le_refl _,q⟩, ?_⟩
 rintro i m' σ2 H2 ⟨rfl,hi,σ3,Z2,G2,acc,vs,s2,S2,ra,rs2,la,q2⟩;by_cases hlt:i < xs.length
 · have hd:xs.drop i=xs[i] :: xs.drop (i + 1):=List.drop_eq_getElem_cons hlt;rw [hd] at q2;unfold gI at q2;obtain ⟨c2,q2⟩:=q2;obtain ⟨go,yl⟩:=(ok _ i Z2 G2 H2 s2 S2 c2).1 xs[i] (by simp [hlt]);refine .inr ⟨go,fun σ4 H4=>∃ σ5 Z4 G4 acc4 vs4,aN Z1 Z4∧Sim E (upd F D (.lst vs4)) H4 Z4 G4∧RPs E Z4 acc4 vs4∧RSt E Z4 σ5 σ4∧acc4.length≤i + 1∧gI chk g' ts' te' (xs.drop (i + 1)) acc4 σ5 G4 fun ys G2=>vD m G2 ys Q',
     by rintro σ4 H4 ⟨σ5,Z4,G4,acc4,vs4,s4,S4,ra4,rs4,l4,q4⟩;exact ⟨xs.length - (i + 1),by omega,rfl,hlt,σ5,Z4,G4,acc4,vs4,s4,S4,ra4,rs4,l4,q4⟩,fun v H3 y=>?_⟩
   obtain ⟨Z3,s3,S3,r3⟩:=yl v H3 y;refine ⟨_,xs[i],σ3,Z3,G2,_,r3,rs2.mono s3,S3,q2,fun σ6 σ7 Z5 G5 H5 s5 S5 rs5 q5=>⟨_,σ6,Z5,G5,_,rs5,S5,q5,fun ok' Z6 G6 H6 s6 S6 q6=>?_⟩⟩;have s26:=(s3.trans s5).trans s6;dsimp only;cases ok' with
   | true =>
     rw [if_pos rfl] at q6 ⊢;refine ⟨_,σ6,Z6,G6,_,rs5.mono s6,S6,q6,fun y' u Z7 G7 H7 s7 S7 r7 q7=>?_⟩;refine ⟨vs,(S7.f D _ aI).1, ?_, ?_⟩
     · have:=ra.length; omega
     · have s27:=s26.trans s7;exact ⟨σ6,Z7,G7,acc ++ [y'],vs ++ [u],s2.trans s27,S7.turn (S1.f0n n),(ra.mono s27).append ⟨u,[],rfl,r7,rfl⟩,(rs5.mono s6).mono s7,by rw [List.length_append]; exact Nat.succ_le_succ la,q7⟩
   | false =>
     rw [if_neg Bool.false_ne_true] at q6 ⊢;exact ⟨σ6,Z6,G6,acc,vs,s2.trans s26,S6,ra.mono s26,rs5.mono s6,Nat.le_succ_of_le la,q6⟩
 · have e:i=xs.length:=by omega
   rw [e,List.drop_length] at q2;unfold gI at q2;obtain ⟨c2,q2⟩:=q2;refine .inl ⟨(ok _ i Z2 G2 H2 s2 S2 c2).2 e, ?_⟩;unfold vD at q2;cases m with
   | true =>
     rw [if_pos rfl] at q2;exact kq (.ref D) _ Z2 _ _ s2 (S2.mineG fD (S1.f0n n) (go:=.lst acc) ⟨vs,rfl,ra⟩) rfl (q2 D (S2.f D _ aI).2.2)
   | false =>
     rw [if_neg Bool.false_ne_true] at q2;have zn:=(S2.f D _ aI).2.1;exact kq (.lst acc) _ (upd Z2 D (.lst vs)) _ _ (s2.trans (aW zn _)) (S2.mineZ fD (S1.f0n n)) (fH zn ra) q2
theorem AO {F:Hp} {m:Bool} {tg' it' ts' el':CE} {js:List (Option Nat)} {σ:L2.St} {H:Hp} {Q:VK} (h:low E F (wpE T (.cmpr m tg' it' ts' el' js)) σ H Q):TX (aHv E F (wpI T it')) (aCh E (wpG T tg')) (aAX E (wpT T ts')) (aEt E (wpE T el')) js σ H Q:=by
 obtain ⟨σ',Z,G,Q',rs,S,h,kq⟩:=h;rw [wpE] at h;refine ⟨σ',Z,G,_,rs,S,h,fun J chk xs Z1 G1 H1 s1 S1 ok q D n=>?_⟩;exact OS S1 ok (aEF (rs.mono s1)) q.1 n q.2 (kq.mono s1)
def MU (X:Cx) (E:Ev) (ifs:List Expr) (t:PTT):Prop:=PTs X ifs (aAX E t)
theorem aIZ:MU X E [] (wpT T .nil):=by
 rintro pins s σ H Q I ⟨F,σ',Z,G,Q',rs,S,h,kt⟩;rw [wpT] at h;exact aA0 pins s σ H Q I (kt _ _ _ _ (aN.refl Z) S h)
theorem aIW {t:PTT} (h:JT X E c t):MU X E [c] t:=XM h.any
section
variable {N:List Str} {scope:Scope} {cl:List (Str×Addr)} {js:List (Option Nat)} {tg iter elt:Expr} {ifs:List Expr} {m:Bool} {tg' it' ts' el':CE}
theorem aAa (S:iO X N scope cl js) (P:Pl X E T k) (h40:40≤k) (hi:JI X E tg iter (wpI T it')) (hg:∀ C s₀ H₀ ex,JG (cxC X N scope cl C s₀ H₀ ex) E tg (wpG T tg')) (ht:∀ C s₀ H₀ ex,MU (cxC X N scope cl C s₀ H₀ ex) E ifs (wpT T ts'))
   (he:∀ C s₀ H₀ ex,JE (cxC X N scope cl C s₀ H₀ ex) E elt (wpE T el')) (hs:∀ x,foldedSetIterable iter X.env x=pure x):JE X E (.ListComp elt [⟨tg,iter,ifs,0⟩] scope pos) (wpE T (.cmpr m tg' it' ts' el' js)):=fun F =>
 (aAZ S (P.calm h40) (hi F) (fun C s₀ H₀ ex=>(hg C s₀ H₀ ex).any) ht (fun C s₀ H₀ ex=>(he C s₀ H₀ ex).any) hs).imp fun σ H Q h=>AO h
theorem ZE {i:Nat} {y:Str} {py spos:Pos} (S:iO X N scope cl js) (P:Pl X E T k) (h40:40≤k) (hN:X.N.Nodup) (hi':X.N[i]? =some y) (hy:X.env.scope.names.lookup y=some .local) (hi:JI X E tg iter (wpI T it')) (hg:∀ C s₀ H₀ ex,JG (cxC X N scope cl C s₀ H₀ ex) E tg (wpG T tg'))
   (ht:∀ C s₀ H₀ ex,MU (cxC X N scope cl C s₀ H₀ ex) E ifs (wpT T ts')) (he:∀ C s₀ H₀ ex,JE (cxC X N scope cl C s₀ H₀ ex) E elt (wpE T el'))
   (hsw:swapsWith (.ListComp elt [⟨tg,iter,ifs,0⟩] scope pos) (some (.Name y py)) spos.line X.env=pure true) (hs:∀ x,foldedSetIterable iter X.env x=pure x) :
   JS X E (.Assign [.Name y py] (.ListComp elt [⟨tg,iter,ifs,0⟩] scope pos) spos) (wpS T (.asg (.gn i) (.cmpr m tg' it' ts' el' js))):=fun F =>
 (YM S (P.calm h40) hN hi' hy (hi F) (fun C s₀ H₀ ex=>(hg C s₀ H₀ ex).any) ht (fun C s₀ H₀ ex=>(he C s₀ H₀ ex).any) hsw hs).imp <|by
   rintro D σ H ⟨σ',Z,G,D',rs,S,h,kd⟩;rw [wpS] at h;refine AO (m:=m) ⟨σ',Z,G,_,rs,S,h,fun x v Z1 G1 H1 s1 S1 r1 q1=>?_⟩;unfold wpG at q1;exact kd.nx _ _ _ _ _ s1 S1 ((rs.mono s1).set r1 i) q1
end
def xY (T:Tb) (c:String) (x xi:Str):Prop:= ∀ xs G Q,T.S x xs G Q→∀ p,G p=none→T.S xi (.ref p :: xs) (gup G p (.ins c [] [])) fun r G1=>r= .non∧∃ ns ys,G1 p=some (.ins c ns ys)∧Q (.ob c ns ys) (MN G1 p)
theorem FA {F:Hp} {c:String} {x xi:Str} {Z1 H1:Hp} {G1:Gh} {xs:List PV} {vs:List V} {Q':PK1} {Q:VK} {p dx:Addr} {us:List V} (hu:us= .ref p :: vs) (M:xY T c x xi) (S1:Sim E F H1 Z1 G1) (r:RPs E Z1 xs vs) (q:T.S x xs G1 Q') (kq:Kq E F Z1 Q' Q) (n:H1 p=none) (nd:H1 dx=none) (ne:dx≠p) :
   gO E (T.S xi) us (upd (upd H1 dx (.own p)) p (.ins (E.cls c) dx [])) (fun v H2=>v= .non∧Q (.ref p) H2) E0:=by
 subst hu;have S2:Sim E F (upd H1 dx (.own p)) Z1 G1:=S1.other nd;have n2:upd H1 dx (.own p) p=none:=by rw [aD (Ne.symm ne)]; exact n
 have S3:Sim E F (upd (upd H1 dx (.own p)) p (.ins (E.cls c) dx [])) Z1 (gup G1 p (.ins c [] [])):=S2.new n2 ⟨dx,[],rfl,rfl,rfl⟩;refine ⟨.ref p :: xs,Z1,_,F,_,⟨.ref p,vs,rfl,rfl,r⟩,S3,M xs G1 Q' q p (S1.gn n), ?_⟩;rintro z v Z4 G4 H4 s4 S4 r4 ⟨e,ns,ys,hG,q4⟩;subst e;obtain ⟨zn,o',hp,dx',vs',e',l,t⟩:=S4.g _ _ hG;subst e';exact ⟨r4,kq (.ob c ns ys) _ (upd Z4 p _) _ _ (s4.trans (aW zn _)) (S4.frz hG hp) ⟨p,dx',vs',rfl,aI,l,t.mono (aW zn _)⟩ q4⟩
theorem SA {c:String} {y x xi:Str} {p:Pos} {e:Expr} {es:List Expr} {es':CE} {f:Addr} {fd:FuncData} {ps:List Str} (M:Mk X.K (E.cls c) f) (K:Co X E (T.S xi) k f fd ps) (hr:aU (k + 1) X.A) (hg:Gl X x) (hm:X.mg x=some (.ref (E.cls c)))
   (hb:aL X.K fd ps []) (ms:xY T c y xi) (hd:(x == ("__debug__":Str))=false) (ha:JA X E (e :: es) (wpL T es')) (he:starEach (e :: es) X.env=(false,eval e X.env) :: starEach es X.env) (hpl:(backTo pos (starEach es X.env)).any (·.1)=false) :
   JE X E (.Call (.Name x p) (e :: es) [] pos) (wpE T (.cal y es')):=fun F=>by
 obtain ⟨CX,sp,EX,K,hp,hl⟩:=K;exact (aAw M K hr hg hm hb .nil hp (ha F) hd he hpl).imp <|by
   rintro σ H Q ⟨σ',Z,G,Q',rs,S,h,kq⟩;rw [wpE] at h;exact ⟨σ',Z,G,_,rs,S,h,fun xs vs Z1 G1 H1 l1 s1 S1 r1 q1 p dx n nd ne=>hl _ _ _ (FA (by rw [List.append_nil]) ms S1 r1 q1 (kq.mono s1) n nd ne)⟩
def JK (X:Cx) (E:Ev) (kws:List Keyword) (t:PTA):Prop:= ∀ F,PK X kws (vX E F kws.length t)
theorem PK.imp {kws:List Keyword} {t t':TA} (h:PK X kws t) (g:∀ σ H Q,t' σ H Q→t σ H Q):PK X kws t':=fun pos pins s σ H Q I q=>h pos pins s σ H Q I (g _ _ _ q)
theorem xX:JK X E [] (wpL T .nil):=fun F=>PK.imp aEk <|by rintro σ H Q ⟨σ',Z,G,Q',rs,S,h,kq⟩;rw [wpL] at h; exact kq [] [] Z G H rfl (aN.refl Z) S rfl h
theorem YJ {n:Option Str} {v:Expr} {p:Pos} {kws:List Keyword} {a' b':CE} (ha:JE X E v (wpE T a')) (hr:JK X E kws (wpL T b')):JK X E (⟨n,v,p⟩ :: kws) (wpL T (.cons a' b')):=fun F =>
 PK.imp (aAp (ha F) (hr F)) <|by
   rintro σ H Q ⟨σ',Z,G,Q',rs,S,h,kq⟩;rw [wpL] at h;exact ⟨σ',Z,G,_,rs,S,h,fun x v Z1 G1 H1 s1 S1 r1 q1=>⟨σ',Z1,G1,_,rs.mono s1,S1,q1,fun xs vs Z2 G2 H2 l2 s2 S2 r2 q2=>kq (x :: xs) (v :: vs) _ _ _ (by rw [List.length_cons,l2]; rfl) (s1.trans s2) S2 ⟨v,vs,rfl,r1.mono s2,r2⟩ q2⟩⟩
noncomputable def Ar.valV (vs:List V):Ar→V
 | .arg i=>vs.getD i .non
 | .non=>.non
 | .bl b=>.bl b
 | .int i=>.int i
 | .str x=>.str x
theorem AI {Z:Hp} {xs:List PV} {vs:List V} (r:RPs E Z xs vs):∀ ar:List Ar,RPs E Z (ar.map (Ar.val xs)) (ar.map (Ar.valV vs))
 | []=>rfl
 | a :: l=>by
   refine ⟨_,_,rfl, ?_,AI r l⟩;cases a with
   | arg i =>
     show RP E Z (xs.getD i .non) (vs.getD i .non);rw [List.getD_eq_getElem?_getD,List.getD_eq_getElem?_getD];cases e:xs[i]? with
     | none =>
       have:vs[i]? =none:=List.getElem?_eq_none_iff.mpr (by rw [←r.length]; exact List.getElem?_eq_none_iff.mp e);rw [this]; exact oE
     | some x =>
       obtain ⟨v,e',rr⟩:=r.get e;rw [e']; exact rr
   | non=>exact oE
   | bl b=>exact bO
   | int i=>exact bM
   | str x=>exact iC
structure hZ (K:W.Frag) (fd:FuncData) (ps:List Str) (n:Nat) (ks:List Str) (ar:List Ar):Prop where
 len:ar.length=ps.length
 to:∀ (s:Shared) (us ws:List Value),K.In s.heap→us.length=n→ws.length=ks.length→∃ bs,BindsTo s fd ⟨us,ks.zip ws⟩ (ps.zip bs)∧∀ vs zs,aO vs us→aO zs ws→aO (ar.map (Ar.valV (vs ++ zs))) bs
theorem QM {pins:List (Addr×Obj)} {σ:L2.St} {H:Hp} {s:Shared} {Q:VK} {us ws:List Value} {vs zs:List V} {f:Addr} {fd:FuncData} {ps ks:List Str} {n:Nat} {ar:List Ar} {sp:Sp} {A':Around} {CX:CXT} {EX:XK}
   (K:bC X.prog X.w X.K X.mg X.base CX k f fd ps sp) (hx:iB CX X EX) (hr:aU k A') (e0:oU X.prog X.w X.K X.mg X.base A' X.stack s H) (hb:hZ X.K fd ps n ks ar) (I:Inv X pins σ H s) (r:aO vs us) (rz:aO zs ws) (l1:vs.length=n) (l2:zs.length=ks.length) (h:sp (ar.map (Ar.valV (vs ++ zs))) H Q EX) :
   wpAny (model X.prog X.w) A' (call (.ref f) us (ks.zip ws)) (EP X pins σ Q) X.xe s:=by
 obtain ⟨bs,hbs,hv⟩:=hb.to s us ws I.kIn (by rw [←r.length]; exact l1) (by rw [←rz.length]; exact l2);refine wpAny_call (codeAny_mono (K.run A' X.stack s H ⟨us,ks.zip ws⟩ bs _ Q EX hr e0 hbs (hv vs zs r rz) h) fun r s' hq=>?_);cases r with
 | error e=>exact hx pins σ H s e s' I hq
 | ok fl =>
   cases fl with
   | ret u=>exact I.after hq
   | next=>exact False.elim hq
   | brk=>exact False.elim hq
   | cont=>exact False.elim hq
theorem SC {y f:Str} {p:Pos} {e:Expr} {es:List Expr} {kws:List Keyword} {es' ks':CE} {ad:Addr} {fd:FuncData} {ps ks:List Str} {n:Nat} {ar:List Ar} (K:Co X E (T.S y) k ad fd ps) (hr:aU k X.A) (hg:Gl X f) (hm:X.mg f=some (.ref ad))
   (hk:W.keepIn X.K (.ref ad)=true) (hb:hZ X.K fd ps n ks ar) (hd:(f == ("__debug__":Str))=false) (ha:JA X E (e :: es) (wpL T es')) (hkw:JK X E kws (wpL T ks')) (hn:(e :: es).length=n) (hkn:kws.length=ks.length)
   (hall:(backToKw pos (keywordEach kws X.env)).all (·.1.isSome)=true) (hks:(backToKw pos (keywordEach kws X.env)).filterMap (·.1)=ks) (he:starEach (e :: es) X.env=(false,eval e X.env) :: starEach es X.env)
   (hpl:((backTo pos (starEach (e :: es) X.env)).any (·.1) || (backToKw pos (keywordEach kws X.env)).any (·.1.isNone))=false) :
   JE X E (.Call (.Name f p) (e :: es) kws pos) (wpE T (.cak y es' ks' ar)):=fun F=>by
 obtain ⟨CX,sp,EX,K,hp,hl⟩:=K;have main:PE X (.Call (.Name f p) (e :: es) kws pos) (fun σ H Q=>vX E F (e :: es).length (wpL T es') σ H fun vs H1=>vs.length=n∧vX E F kws.length (wpL T ks') σ H1 fun zs H2=>zs.length=ks.length∧sp (ar.map (Ar.valV (vs ++ zs))) H2 Q EX):=by
   intro pins s σ H Q I h;refine wpAny_Call_Name_kw (eV I hg hm ?_ hd);refine W.callWith_KW (h₀:=X.base) I.ok.mod.kin hk hall (thn (ha F pos pins s σ H _ I h) fun us s1 zz=>?_) hpl he;obtain ⟨vs,H1,I1,r,l1,q⟩:=zz;refine thn (hkw F pos pins s1 σ H1 _ I1 q) fun ws s2 ⟨zs,H2,I2,rz,l2,q2⟩=>⟨I2.kIn, ?_⟩;rw [hks];exact QM K hp hr I2.env0 hb I2 r rz l1 l2 q2
 refine main.imp fun σ H Q zz=>?_;obtain ⟨σ',Z,G,Q',rs,S,h,kq⟩:=zz;rw [wpE] at h;exact ⟨σ',Z,G,_,rs,S,h,fun xs vs Z1 G1 H1 l1 s1 S1 r1 q1=>⟨by rw [←r1.length,l1]; exact hn,σ',Z1,G1,_,rs.mono s1,S1,q1,fun zs us Z2 G2 H2 l2 s2 S2 r2 q2 =>
   ⟨by rw [←r2.length,l2]; exact hkn,hl _ _ _ ⟨_,Z2,G2,F,Q',AI ((r1.mono s2).append r2) ar,S2,q2,kq.mono (s1.trans s2)⟩⟩⟩⟩
theorem HY {y f:Str} {p:Pos} {kws:List Keyword} {ks':CE} {ad:Addr} {fd:FuncData} {ps ks:List Str} {ar:List Ar} (K:Co X E (T.S y) k ad fd ps) (hr:aU k X.A) (hg:Gl X f) (hm:X.mg f=some (.ref ad))
   (hk:W.keepIn X.K (.ref ad)=true) (hb:hZ X.K fd ps 0 ks ar) (hd:(f == ("__debug__":Str))=false) (hkw:JK X E kws (wpL T ks')) (hkn:kws.length=ks.length)
   (hall:(backToKw pos (keywordEach kws X.env)).all (·.1.isSome)=true) (hks:(backToKw pos (keywordEach kws X.env)).filterMap (·.1)=ks)
   (hpl:((backTo pos (starEach [] X.env)).any (·.1) || (backToKw pos (keywordEach kws X.env)).any (·.1.isNone))=false) :
   JE X E (.Call (.Name f p) [] kws pos) (wpE T (.cak y .nil ks' ar)):=fun F=>by
 obtain ⟨CX,sp,EX,K,hp,hl⟩:=K;have main:PE X (.Call (.Name f p) [] kws pos) (fun σ H Q=>vX E F kws.length (wpL T ks') σ H fun zs H2=>zs.length=ks.length∧sp (ar.map (Ar.valV ([] ++ zs))) H2 Q EX):=by
   intro pins s σ H Q I h;refine wpAny_Call_Name_kw (eV I hg hm ?_ hd);refine W.callWith_KW0 (h₀:=X.base) (first:=[]) I.ok.mod.kin hk hall ?_ hpl;refine thn (hkw F pos pins s σ H _ I h) fun ws s2 ⟨zs,H2,I2,rz,l2,q2⟩=>⟨I2.kIn, ?_⟩;rw [hks];exact QM (us:=[]) (vs:=[]) K hp hr I2.env0 hb I2 .nil rz rfl l2 q2
 refine main.imp fun σ H Q zz=>?_;obtain ⟨σ',Z,G,Q',rs,S,h,kq⟩:=zz;rw [wpE,wpL] at h;exact ⟨σ',Z,G,_,rs,S,h,fun zs us Z2 G2 H2 l2 s2 S2 r2 q2=>⟨by rw [←r2.length,l2]; exact hkn,hl _ _ _ ⟨_,Z2,G2,F,Q',AI r2 ar,S2,q2,kq.mono s2⟩⟩⟩
theorem rW {c:String} {w x xi:Str} {p:Pos} {kws:List Keyword} {ks':CE} {f:Addr} {fd:FuncData} {ps ks:List Str} {ar:List Ar} (M:Mk X.K (E.cls c) f) (K:Co X E (T.S xi) k f fd ps) (hr:aU (k + 1) X.A) (hg:Gl X x) (hm:X.mg x=some (.ref (E.cls c)))
   (hb:hZ X.K fd ps 1 ks (.arg 0 :: ar.map fun a=>match a with | .arg i=>.arg (i + 1) | a=>a)) (ms:xY T c w xi) (hd:(x == ("__debug__":Str))=false) (hkw:JK X E kws (wpL T ks')) (hkn:kws.length=ks.length)
   (hall:(backToKw pos (keywordEach kws X.env)).all (·.1.isSome)=true) (hks:(backToKw pos (keywordEach kws X.env)).filterMap (·.1)=ks)
   (hpl:((backTo pos (starEach [] X.env)).any (·.1) || (backToKw pos (keywordEach kws X.env)).any (·.1.isNone))=false) :
   JE X E (.Call (.Name x p) [] kws pos) (wpE T (.cak w .nil ks' ar)):=fun F=>by
 obtain ⟨CX,sp,EX,K,hp,hl⟩:=K;have main:PE X (.Call (.Name x p) [] kws pos) (fun σ H Q=>vX E F kws.length (wpL T ks') σ H fun zs H2=>zs.length=ks.length∧∀ y dx,H2 y=none→H2 dx=none→dx≠y→
     sp (.ref y :: ar.map (Ar.valV zs)) (upd (upd H2 dx (.own y)) y (.ins (E.cls c) dx [])) (fun v H3=>v= .non∧Q (.ref y) H3) EX):=by
   intro pins s σ H Q I h;refine wpAny_Call_Name_kw (eV I hg hm ?_ hd);refine W.callWith_KW0 (h₀:=X.base) (first:=[]) I.ok.mod.kin M.kp hall ?_ hpl;refine thn (hkw F pos pins s σ H _ I h) fun ws s2 ⟨zs,H2,I2,rz,l2,q2⟩=>⟨I2.kIn, ?_⟩;rw [hks];have hq:=q2 (s2.heap.objs.size + 1) s2.heap.objs.size (I2.hok.fresh (Nat.le_succ _)) (I2.hok.fresh (Nat.le_refl _)) (Nat.ne_of_lt (Nat.lt_succ_self _));have I3:=Inv.made (C:=E.cls c) I2;have e:V.ref (s2.heap.objs.size + 1) :: ar.map (Ar.valV zs)=(Ar.arg 0 :: ar.map fun a=>match a with | .arg i=>.arg (i + 1) | a=>a).map (Ar.valV ([V.ref (s2.heap.objs.size + 1)] ++ zs)):=by
     rw [List.map_cons,List.map_map];refine congr (congrArg List.cons rfl) (List.map_congr_left fun a _=>?_);cases a <;> rfl
   rw [e] at hq;obtain ⟨bs,hbs,hv⟩:=hb.to { s2 with heap:=(s2.heap.push _).push _ } [Value.ref (s2.heap.objs.size + 1)] ws I3.kIn rfl (by rw [←rz.length]; exact l2);refine wpAny_call (sZ (f:=f) (vs:=[]) (kw:=ks.zip ws) I2.kIn M.makes M.init (beq_iff_eq.mp M.fn) (codeAny_mono (K.run _ X.stack _ _ ⟨[Value.ref (s2.heap.objs.size + 1)],ks.zip ws⟩ bs _ _ EX (hr.make (E.cls c) [] (ks.zip ws))
     (I3.env0.make (E.cls c) [] (ks.zip ws)) hbs (hv [V.ref (s2.heap.objs.size + 1)] zs (.cons rfl .nil) rz) hq) fun r s' hq'=>?_))
   cases r with
   | error e=>exact hp pins σ _ _ e s' I3 hq'
   | ok fl =>
     cases fl with
     | ret u =>
       obtain ⟨v,H',I4,rv,ev,q3⟩:=I3.after hq';subst ev;exact ⟨rv,⟨V.ref (s2.heap.objs.size + 1),H',I4,rfl,q3⟩⟩
     | next=>exact False.elim hq'
     | brk=>exact False.elim hq'
     | cont=>exact False.elim hq'
 refine main.imp fun σ H Q zz=>?_;obtain ⟨σ',Z,G,Q',rs,S,h,kq⟩:=zz;rw [wpE,wpL] at h;exact ⟨σ',Z,G,_,rs,S,h,fun zs us Z2 G2 H2 l2 s2 S2 r2 q2=>⟨by rw [←r2.length,l2]; exact hkn,fun y dx n nd ne=>hl _ _ _ (FA rfl ms S2 (AI r2 ar) q2 (kq.mono s2) n nd ne)⟩⟩
noncomputable def upA:Ar→Ar
 | .arg i=>.arg (i + 1)
 | a=>a
theorem HH {c:String} {w x xi:Str} {p:Pos} {e:Expr} {es:List Expr} {kws:List Keyword} {es' ks':CE} {f:Addr} {fd:FuncData} {ps ks:List Str} {n:Nat} {ar:List Ar} (M:Mk X.K (E.cls c) f) (K:Co X E (T.S xi) k f fd ps) (hr:aU (k + 1) X.A) (hg:Gl X x) (hm:X.mg x=some (.ref (E.cls c)))
   (hb:hZ X.K fd ps (n + 1) ks (.arg 0 :: ar.map fun a=>match a with | .arg i=>.arg (i + 1) | a=>a)) (ms:xY T c w xi) (hd:(x == ("__debug__":Str))=false) (ha:JA X E (e :: es) (wpL T es')) (hkw:JK X E kws (wpL T ks')) (hn:(e :: es).length=n) (hkn:kws.length=ks.length)
   (hall:(backToKw pos (keywordEach kws X.env)).all (·.1.isSome)=true) (hks:(backToKw pos (keywordEach kws X.env)).filterMap (·.1)=ks) (he:starEach (e :: es) X.env=(false,eval e X.env) :: starEach es X.env)
   (hpl:((backTo pos (starEach (e :: es) X.env)).any (·.1) || (backToKw pos (keywordEach kws X.env)).any (·.1.isNone))=false) :
   JE X E (.Call (.Name x p) (e :: es) kws pos) (wpE T (.cak w es' ks' ar)):=fun F=>by
 obtain ⟨CX,sp,EX,K,hp,hl⟩:=K;have main:PE X (.Call (.Name x p) (e :: es) kws pos) (fun σ H Q=>vX E F (e :: es).length (wpL T es') σ H fun vs H1=>vs.length=n∧vX E F kws.length (wpL T ks') σ H1 fun zs H2=>zs.length=ks.length∧∀ y dx,H2 y=none→H2 dx=none→dx≠y→
     sp (.ref y :: ar.map (Ar.valV (vs ++ zs))) (upd (upd H2 dx (.own y)) y (.ins (E.cls c) dx [])) (fun v H3=>v= .non∧Q (.ref y) H3) EX):=by
   intro pins s σ H Q I h;refine wpAny_Call_Name_kw (eV I hg hm ?_ hd);refine W.callWith_KW (h₀:=X.base) I.ok.mod.kin M.kp hall (thn (ha F pos pins s σ H _ I h) fun us s1 zz=>?_) hpl he;obtain ⟨vs,H1,I1,r,l1,q⟩:=zz;refine thn (hkw F pos pins s1 σ H1 _ I1 q) fun ws s2 ⟨zs,H2,I2,rz,l2,q2⟩=>⟨I2.kIn, ?_⟩;rw [hks];have hq:=q2 (s2.heap.objs.size + 1) s2.heap.objs.size (I2.hok.fresh (Nat.le_succ _)) (I2.hok.fresh (Nat.le_refl _)) (Nat.ne_of_lt (Nat.lt_succ_self _));have I3:=Inv.made (C:=E.cls c) I2;have e:V.ref (s2.heap.objs.size + 1) :: ar.map (Ar.valV (vs ++ zs))=(Ar.arg 0 :: ar.map fun a=>match a with | .arg i=>.arg (i + 1) | a=>a).map (Ar.valV ((V.ref (s2.heap.objs.size + 1) :: vs) ++ zs)):=by
     rw [List.map_cons,List.map_map];refine congr (congrArg List.cons rfl) (List.map_congr_left fun a _=>?_);cases a <;> rfl
   rw [e] at hq;obtain ⟨bs,hbs,hv⟩:=hb.to { s2 with heap:=(s2.heap.push _).push _ } (Value.ref (s2.heap.objs.size + 1) :: us) ws I3.kIn (by rw [List.length_cons,←r.length,l1]) (by rw [←rz.length]; exact l2);refine wpAny_call (sZ (f:=f) (vs:=us) (kw:=ks.zip ws) I2.kIn M.makes M.init (beq_iff_eq.mp M.fn) (codeAny_mono (K.run _ X.stack _ _ ⟨Value.ref (s2.heap.objs.size + 1) :: us,ks.zip ws⟩ bs _ _ EX (hr.make (E.cls c) us (ks.zip ws))
     (I3.env0.make (E.cls c) us (ks.zip ws)) hbs (hv (V.ref (s2.heap.objs.size + 1) :: vs) zs (.cons rfl r) rz) hq) fun r s' hq'=>?_))
   cases r with
   | error e=>exact hp pins σ _ _ e s' I3 hq'
   | ok fl =>
     cases fl with
     | ret u =>
       obtain ⟨v,H',I4,rv,ev,q3⟩:=I3.after hq';subst ev;exact ⟨rv,⟨V.ref (s2.heap.objs.size + 1),H',I4,rfl,q3⟩⟩
     | next=>exact False.elim hq'
     | brk=>exact False.elim hq'
     | cont=>exact False.elim hq'
 refine main.imp fun σ H Q zz=>?_;obtain ⟨σ',Z,G,Q',rs,S,h,kq⟩:=zz;rw [wpE] at h;exact ⟨σ',Z,G,_,rs,S,h,fun xs vs Z1 G1 H1 l1 s1 S1 r1 q1=>⟨by rw [←r1.length,l1]; exact hn,σ',Z1,G1,_,rs.mono s1,S1,q1,fun zs us Z2 G2 H2 l2 s2 S2 r2 q2 =>
   ⟨by rw [←r2.length,l2]; exact hkn,fun y dx n nd ne=>hl _ _ _ (FA rfl ms S2 (AI ((r1.mono s2).append r2) ar) q2 (kq.mono (s1.trans s2)) n nd ne)⟩⟩⟩
end
noncomputable def clos (cells:List (Str×Addr)):List (Str×NameKind)→List (Str×Addr)→List (Str×Addr)
 | [],acc=>acc
 | (n,k) :: r,acc=>clos cells r (if k= .free then (n,(cells.lookup n).getD 0) :: acc else acc)
theorem XG {scope:Scope} {env:Env} (h:∀ y∈scope.names,y.2= .free→∃ c,env.cells.lookup y.1=some c):closureFor scope env=pure (clos env.cells scope.names []):=by
 unfold closureFor;have main:∀ (l:List (Str×NameKind)) (acc:List (Str×Addr)),(∀ y∈l,y.2= .free→∃ c,env.cells.lookup y.1=some c)→
     (forIn l acc (fun x r=>if (x.2 == NameKind.free)=true then do let c ←cellOf env x.1; pure (ForInStep.yield ((x.1,c) :: r)) else pure (ForInStep.yield r)):Sem (List (Str×Addr)))=pure (clos env.cells l acc):=by
   intro l;induction l with
   | nil=>intro acc _; rfl
   | cons y r ih =>
     intro acc hy;obtain ⟨n,k⟩:=y;rw [List.forIn_cons];have ihr:=fun acc=>ih acc fun z hz=>hy z (wCq _ hz);by_cases hk:k= .free
     · subst hk;obtain ⟨c,hc⟩:=hy (n,.free) (wDq ..) rfl;have e:cellOf env n=pure c:=by unfold cellOf; rw [hc]
       simp only [beq_self_eq_true,if_true,e];unfold clos;rw [if_pos rfl,hc];exact ihr _
     · have e:((n,k).2 == NameKind.free)=false:=beq_eq_false_iff_ne.mpr hk;simp only [e];unfold clos;rw [if_neg hk];exact ihr _
 have:=main scope.names [] h;have e:(forIn scope.names ([]:List (Str×Addr)) (fun x r=>match x with
     | (name,kind)=>if (kind == NameKind.free)=true then do let c ←cellOf env name; pure (ForInStep.yield ((name,c) :: r)) else pure (ForInStep.yield r)):Sem (List (Str×Addr)))=pure (clos env.cells scope.names []):=by
   rw [←this]
 show ((forIn scope.names ([]:List (Str×Addr)) (fun x r=>match x with
     | (name,kind)=>if (kind == NameKind.free)=true then do let c ←cellOf env name; pure (ForInStep.yield ((name,c) :: r)) else pure (ForInStep.yield r)):Sem (List (Str×Addr))) >>= pure)=_
 rw [e];rfl
theorem IA {cells:List (Str×Addr)}:∀ {l:List (Str×NameKind)} {acc:List (Str×Addr)},(∀ y∈l,y.2= .free→∃ c,cells.lookup y.1=some c)→vQ cells acc→vQ cells (clos cells l acc)
 | [],_,_,h=>h
 | (n,k) :: r,acc,hy,h=>by
   unfold clos;refine IA (fun z hz=>hy z (wCq _ hz)) ?_;split
   · rename_i hk;obtain ⟨c,hc⟩:=hy (n,k) (wDq ..) hk;exact ⟨by rw [hc]; rfl,h⟩
   · exact h
theorem sU {cells:List (Str×Addr)}:∀ {l:List (Str×NameKind)} {acc:List (Str×Addr)} {n:Str},((∃ c,(n,c)∈acc)∨(n,NameKind.free)∈l)→∃ c,(n,c)∈clos cells l acc
 | [],_,_,h=>by
   rcases h with h | h
   · exact h
   · cases h
 | (m, k) :: r,acc,n,h=>by
   unfold clos;refine sU ?_;rcases h with ⟨c,h⟩ | h
   · refine .inl ?_;split
     · exact ⟨c,wCq _ h⟩
     · exact ⟨c,h⟩
   · rcases List.mem_cons.mp h with e | h
     · cases e;exact .inl ⟨_,by rw [if_pos rfl]; exact wDq ..⟩
     · exact .inr h
theorem yV {cells:List (Str×Addr)}:∀ {cl:List (Str×Addr)} {n:Str},vQ cells cl→(∃ c,(n,c)∈cl)→∃ c,cl.lookup n=some c∧cells.lookup n=some c
 | [],_,_,⟨_,h⟩=>by cases h
 | (m,d) :: r,n,ok,⟨c,h⟩=>by
   rw [List.lookup_cons];cases hb:n == m with
   | true =>
     rw [beq_iff_eq.mp hb];exact ⟨d,rfl,ok.1⟩
   | false =>
     rcases List.mem_cons.mp h with e | h
     · cases e; rw [beq_self_eq_true] at hb; cases hb
     · exact yV ok.2 ⟨c,h⟩
theorem GW {cl cells:List (Str×Addr)} (hcl:vQ cells cl):∀ {l:List (Str×NameKind)},(∀ n,(n,NameKind.free)∈l→∃ c,(n,c)∈cl)→lK cl cells l
 | [],_=>trivial
 | (n,k) :: r,h=>⟨fun e=>by subst e; exact yV hcl (h n (wDq ..)),GW hcl fun m hm=>h m (wCq _ hm)⟩
structure Cfg where
 N:List Str
 names:List (Str×NameKind)
 blk:Bool:=false
 fns:List Str:=[]
 mks:List Str:=[]
 shs:List (Str×Nat×List Str×List Ar):=[]
 mkk:List (Str×List Str×List Ar):=[]
 gls:List Str:=[]
 tys:List Str:=[]
 blt:List Str:=[]
 M:List Str:=[]
 rm:Bool:=false
 eqs:List (String×Str):=[]
 own:List Str:=[]
 ls:List Str:=[]
 nes:List (String×Str):=[]
 lns:List (String×Str):=[]
 ows:List (Str×List (String×Str)):=[]
 gds:List (Str×List (Str×Str)):=[]
 fvs:List (Str×Nat×List Ar):=[]
 mkp:List (Str×Nat×List Str×List Ar):=[]
 rp:Bool:=false
 exs:List (String×Str):=[]
 ky:List (Str×Str):=[]
 rz:Bool:=false
 xcl:List (Str×Str):=[]
 xis:List Str:=[]
 xat:List Str:=[]
 tr:Bool:=false
 tky:List (Str×Str):=[]
 cat:List String:=[]
 cln:List Str:=[]
 cm:Bool:=true
 hs:Bool:=false
 hfn:List Str:=[]
 mts:List (Str×Nat×List (String×Str×List Ar)):=[]
 tmts:List (Str×Nat×List (String×Str×List Ar)):=[]
 bmts:List (Str×Nat×List (String×Str×List Ar)):=[]
noncomputable def Cfg.key (C:Cfg) (x:Str):Str:=(C.ky.lookup x).getD x
noncomputable def Cfg.inT (C:Cfg):Cfg:={ C with ky:=C.tky,rz:=true,tr:=false,mts:=C.tmts }
noncomputable def Cfg.inH (C:Cfg):Cfg:={ C with fns:=C.hfn,mks:=[],shs:=[],mkk:=[],mkp:=[],eqs:=[],nes:=[],lns:=[],ows:=[],fvs:=[],exs:=[],ky:=[],rz:=false,xcl:=[],tr:=false,cm:=false,mts:=[],bmts:=[] }
noncomputable def slot:List Str→Str→Option Nat
 | [],_=>none
 | y :: r,x=>if y=x then some 0 else (slot r x).map (· + 1)
theorem bR:∀ {N:List Str} {x:Str} {i:Nat},slot N x=some i→N[i]? =some x
 | [],_,_,h=>by cases h
 | y :: r,x,i,h=>by
   unfold slot at h;split at h
   · rename_i e; cases h; rw [e]; rfl
   · cases e:slot r x with
     | none=>rw [e] at h; cases h
     | some j =>
       rw [e] at h;cases h;rw [List.getElem?_cons_succ];exact bR e
noncomputable def aD7 (C:Cfg) (x:Str):Bool:=match C.names.lookup x with
 | some .local=>true
 | some .cell=>true
 | some .free=>true
 | _=>false
noncomputable def QA (C:Cfg) (x:Str):Bool:=match C.names.lookup x with
 | some .local=>true
 | some .cell=> !C.blk || C.own.contains x
 | _=>false
noncomputable def glB (C:Cfg) (x:Str):Bool:=C.names.lookup x == some .globalImplicit
noncomputable def jK (x:Str):Bool:= !(x == ("__debug__":Str)) && !(x == ("__classdict__":Str))
noncomputable def bP:Expr→Bool
 | .Starred .. =>true
 | _=>false
noncomputable def yA:Expr→Bool
 | .Call (.Name _ _) [] [] _=>true
 | _=>false
noncomputable def pZ:Expr→Bool
 | .Set .. =>true
 | _=>false
noncomputable def YS:Expr→Bool
 | .Slice .. =>true
 | _=>false
noncomputable def sN:Expr→Bool
 | .ListComp .. | .SetComp .. | .DictComp .. =>true
 | _=>false
noncomputable def BU:List (Str×Bn):=[("len",.len),("abs",.abs),("max",.max),("min",.min),("int",.int),("str",.str),("isinstance",.isi),("tuple",.tuple),("list",.list),("all",.all),("any",.any),("sum",.sum),("bool",.bool),("repr",.repr),("divmod",.divmod)]
noncomputable def kwN:List Keyword→Option (List Str)
 | []=>some []
 | ⟨some n,_,_⟩ :: r=>(kwN r).map (n :: ·)
 | ⟨none,_,_⟩ :: _=>none
noncomputable def gM (C:Cfg) (sc:Scope):List (Str×NameKind):=sc.names.map fun (n,k)=>if (k == .free && C.names.lookup n == some .cell) then (n,.cell) else (n,k)
noncomputable def kS (C:Cfg):List (Str×NameKind)→List (Str×Option Nat)
 | []=>[]
 | (n,k) :: r=>match k with
   | .local=>(n,none) :: kS C r
   | .cell=>(n,none) :: kS C r
   | .free=>match slot C.N n with
     | some j=>if C.names.lookup n=some .cell then (n,some j) :: kS C r else kS C r
     | none=>kS C r
   | _=>kS C r
noncomputable def wC (C:Cfg) (sc:Scope):Bool:=C.cm && sc.kind == .function && sc.names.all (fun y=>(y.2 != .cell || !sc.names.contains (y.1,.free)) && (y.2 != .local || sc.names.lookup y.1 == some .local) && (y.2 != .free || C.names.lookup y.1 == some .cell)) && decide (((kS C sc.names).map (·.1)).Nodup)
 && (kS C sc.names).all (fun p=>p.2.isNone || ((gM C sc).lookup p.1 == some .cell))
noncomputable def FN (C:Cfg) (sc:Scope):Cfg:={ C with N:=(kS C sc.names).map (·.1),names:=gM C sc,blk:=true,own:=(sc.names.filter (fun y=>y.2 == .cell)).map (·.1),ky:=[],rz:=false,xcl:=[],tr:=false,mts:=C.bmts }
mutual
noncomputable def xE:Nat→Cfg→Bool→Expr→Option CE
 | 0,_,_,_=>none
 | n + 1,C,m,e=>match e with
   | .Dict [] [] _=>some .emp
   | .Dict (k :: ks) vs _=>if (k :: ks).all (·.isSome) && (k :: ks).length == vs.length && decide ((k :: ks).length≤15) then (cD n C (k :: ks) vs).bind fun es'=>some (.dct es') else none
   | .Call (.Name x _) [] [] _=>if glB C x then (match C.mkk.find? (fun s=>s.1 == x && s.2.1 == []) with
     | some s=>some (.cak (C.key x) .nil .nil s.2.2)
     | none=>none) else none
   | _=>none
noncomputable def vE:Nat→Cfg→Expr→Option CE
 | 0,_,_=>none
 | n + 1,C,e=>match e with
   | .Compare a [op] [b] _=>if pZ b || C.exs.isEmpty || !exB op then none else (cE n C false a).bind fun a'=>(cE n C false b).bind fun b'=>some (.cex op C.exs a' b')
   | _=>none
noncomputable def zE:Nat→Cfg→Expr→Option CE
 | 0,_,_=>none
 | n + 1,C,e=>match e with
   | .Call (.Name x _) (e :: r) (kw :: kws) _=>if glB C x then (kwN (kw :: kws)).bind fun ks=>(match C.mkp.find? (fun s=>s.1 == x && s.2.1 == (e :: r).length && s.2.2.1 == ks) with
       | some s=>(cL n C (e :: r)).bind fun es'=>(cK n C (kw :: kws)).bind fun ks'=>some (.cak (C.key x) es' ks' s.2.2.2)
       | none=>none) else none
   | _=>none
noncomputable def cE:Nat→Cfg→Bool→Expr→Option CE
 | 0,_,_,_=>none
 | n + 1,C,m,e=>match vE n C e with
 | some c=>some c
 | none=>match zE n C e with
 | some c=>some c
 | none=>match xE n C m e with
 | some c=>some c
 | none => match e with
   | .Name x _=>if jK x then (match slot C.N x with
     | some i=>if aD7 C x then some (.var i) else none
     | none=>if glB C x && (C.gls.contains x || C.tys.contains x) then some (.glo x) else none) else none
   | .Constant v _ _=>(match v with
     | .int i=>some (.int i)
     | .bool b=>some (.bl b)
     | .none=>some .non
     | .str s=>some (.str s)
     | _=>none)
   | .BinOp a op b _=>(cE n C false a).bind fun a'=>(cE n C false b).bind fun b'=>some (.bin op a' b')
   | .UnaryOp op a _=>(match op with
     | .USub=>(cE n C false a).bind fun a'=>some (.neg a')
     | .Not=>(cE n C false a).bind fun a'=>some (.no a')
     | _=>none)
   | .BoolOp op vs _=>cB n C op vs
   | .Compare a ops bs _=>(match ops,bs with
     | [op],[b]=>if pZ b then none else (cE n C false a).bind fun a'=>(cE n C false b).bind fun b'=>some (.cmp op a' b')
     | [op,op'],[b,c]=>if pZ c then none else (cE n C false a).bind fun a'=>(cE n C false b).bind fun b'=>(cE n C false c).bind fun c'=>some (.chn op op' a' b' c')
     | _,_=>none)
   | .Tuple es _ _=>(cL n C es).bind fun es'=>some (.tup es')
   | .List es _=>(cL n C es).bind fun es'=>some (.lst m es')
   | .Subscript a s _=>(match s with
     | .Slice lo hi none _=>(cE n C false a).bind fun a'=>(cO n C lo).bind fun l'=>(cO n C hi).bind fun h'=>some (.sli a' l' h')
     | .Slice none none (some (.UnaryOp .USub (.Constant (.int 1) _ _) _)) _=>(cE n C false a).bind fun a'=>some (.rev a')
     | s=>if YS s then none else (cE n C false a).bind fun a'=>(cE n C false s).bind fun i'=>some (.idx a' i'))
   | .Attribute a f _=>if yA a then none else (cE n C false a).bind fun a'=>some (.att a' f)
   | .Call f es kws pos=>(match f,es,kws with
     | .Name x _,e :: r,[]=>if glB C x then (match BU.lookup x with
         | some b=>if C.blt.contains x && (C.cm || !MB b) then (cL n C (e :: r)).bind fun es'=>some (match C.ows.lookup x with | some ls=>.bow b ls es' | none=>.blt b es') else none
         | none=>(match C.shs.find? (fun s=>s.1 == x && s.2.1 == (e :: r).length && s.2.2.1 == []) with
           | some s=>(cL n C (e :: r)).bind fun es'=>some (.cak (C.key x) es' .nil s.2.2.2)
           | none=>if C.fns.contains x || C.mks.contains x then (cL n C (e :: r)).bind fun es'=>some (.cal (C.key x) es') else none)) else none
     | .Name x _,e :: r,kw :: kws=>if glB C x then (kwN (kw :: kws)).bind fun ks=>(match C.shs.find? (fun s=>s.1 == x && s.2.1 == (e :: r).length && s.2.2.1 == ks) with
         | some s=>(cL n C (e :: r)).bind fun es'=>(cK n C (kw :: kws)).bind fun ks'=>some (.cak (C.key x) es' ks' s.2.2.2)
         | none=>none) else none
     | .Name x _,[],kw :: kws=>if glB C x then (kwN (kw :: kws)).bind fun ks=>(match C.shs.find? (fun s=>s.1 == x && s.2.1 == 0 && s.2.2.1 == ks) with
         | some s=>(cK n C (kw :: kws)).bind fun ks'=>some (.cak (C.key x) .nil ks' s.2.2.2)
         | none=>(match C.mkk.find? (fun s=>s.1 == x && s.2.1 == ks) with
           | some s=>(cK n C (kw :: kws)).bind fun ks'=>some (.cak (C.key x) .nil ks' s.2.2)
           | none=>none)) else none
     | .Attribute o mth ap,[e],[]=>if mth="join" && !yA o && !bP e && ap.endLine == pos.line then (cE n C false o).bind fun o'=>(cE n C false e).bind fun e'=>some (.joi o' e') else if mth="append" && !yA o && !bP e && ap.endLine == pos.line then (cE n C false o).bind fun o'=>(cE n C false e).bind fun e'=>some (.app o' e') else none
     | _,_,_=>none)
   | .ListComp elt gens sc _=>(match gens with
     | [⟨tg,iter,ifs,0⟩]=>if wC C sc && !pZ iter then (cI n C tg iter).bind fun it'=>(cG n (FN C sc) tg).bind fun tg'=>(cTs n (FN C sc) ifs).bind fun ts'=>(cE n (FN C sc) false elt).bind fun el'=>some (.cmpr m tg' it' ts' el' ((kS C sc.names).map (·.2))) else none
     | _=>none)
   | .JoinedStr (a :: b :: r) _=>(cJ n C (a :: b :: r)).bind fun es'=>some (.fst es')
   | _=>none
noncomputable def cJ:Nat→Cfg→List Expr→Option CE
 | 0,_,_=>none
 | n + 1,C,es=>match es with
   | []=>some .nil
   | e :: r=>(match e with
     | .FormattedValue e (-1) none _=>(cE n C false e).bind fun e'=>(cJ n C r).bind fun r'=>some (.cons e' r')
     | .Constant (.str s) _ _=>(cJ n C r).bind fun r'=>some (.cons (.str s) r')
     | _=>none)
noncomputable def cL:Nat→Cfg→List Expr→Option CE
 | 0,_,_=>none
 | n + 1,C,es=>match es with
   | []=>some .nil
   | e :: r=>if bP e then none else (cE n C false e).bind fun e'=>(cL n C r).bind fun r'=>some (.cons e' r')
noncomputable def cD:Nat→Cfg→List (Option Expr)→List Expr→Option CE
 | 0,_,_,_=>none
 | n + 1,C,ks,vs=>match ks,vs with
   | [],[]=>some .nil
   | some k :: ks,v :: vs=>(cE n C false k).bind fun k'=>(cE n C false v).bind fun v'=>(cD n C ks vs).bind fun r'=>some (.cons k' (.cons v' r'))
   | _,_=>none
noncomputable def cK:Nat→Cfg→List Keyword→Option CE
 | 0,_,_=>none
 | n + 1,C,ks=>match ks with
   | []=>some .nil
   | ⟨_,v,_⟩ :: r=>(cE n C false v).bind fun e'=>(cK n C r).bind fun r'=>some (.cons e' r')
noncomputable def cB:Nat→Cfg→BoolOp→List Expr→Option CE
 | 0,_,_,_=>none
 | n + 1,C,op,vs=>match vs with
   | []=>none
   | [a]=>cE n C false a
   | a :: b :: r=>(cE n C false a).bind fun a'=>(cB n C op (b :: r)).bind fun b'=>some (match op with | .And=>.an a' b' | .Or=>.oo a' b')
noncomputable def xT:Nat→Cfg→Expr→Option CE
 | 0,_,_=>none
 | n + 1,C,e=>match e with
   | _=>none
noncomputable def cT:Nat→Cfg→Expr→Option CE
 | 0,_,_=>none
 | n + 1,C,e=>match xT n C e with
 | some c=>some c
 | none=>match e with
   | .BoolOp op vs _=>cW n C op vs
   | .UnaryOp .Not a _=>(cT n C a).bind fun a'=>some (.no a')
   | .Compare a ops bs _=>(match ops,bs with
     | [op],[b]=>if pZ b then none else (cE n C false a).bind fun a'=>(cE n C false b).bind fun b'=>some (.tsb (.cmp op a' b'))
     | [op,op'],[b,c]=>if pZ c then none else (cE n C false a).bind fun a'=>(cE n C false b).bind fun b'=>(cE n C false c).bind fun c'=>some (.tsb (.chn op op' a' b' c'))
     | _,_=>none)
   | .Name .. | .Call .. | .Subscript .. | .Attribute .. =>(cE n C false e).bind fun e'=>some (.tst e')
   | _=>none
noncomputable def cW:Nat→Cfg→BoolOp→List Expr→Option CE
 | 0,_,_,_=>none
 | n + 1,C,op,vs=>match vs with
   | []=>none
   | [a]=>cT n C a
   | a :: b :: r=>(cT n C a).bind fun a'=>(cW n C op (b :: r)).bind fun b'=>some (match op with | .And=>.an a' b' | .Or=>.oo a' b')
noncomputable def cO:Nat→Cfg→Option Expr→Option CE
 | 0,_,_=>none
 | n + 1,C,o=>match o with
   | none=>some .nil
   | some e=>(cE n C false e).bind fun e'=>some (.tst e')
noncomputable def cTs:Nat→Cfg→List Expr→Option CE
 | 0,_,_=>none
 | n + 1,C,l=>match l with
   | []=>some .nil
   | [c]=>cT n C c
   | _=>none
noncomputable def cG:Nat→Cfg→Expr→Option CE
 | 0,_,_=>none
 | n + 1,C,e=>match e with
   | .Name x _=>if QA C x then (slot C.N x).bind fun i=>some (.gn i) else none
   | .Tuple es _ _=>if C.cm then (cGs n C es).bind fun g=>some (.gt es.length g) else none
   | _=>none
noncomputable def cGs:Nat→Cfg→List Expr→Option CE
 | 0,_,_=>none
 | n + 1,C,es=>match es with
   | []=>some .nil
   | e :: r=>if bP e then none else (cG n C e).bind fun g=>(cGs n C r).bind fun r'=>some (.cons g r')
noncomputable def cI:Nat→Cfg→Expr→Expr→Option CE
 | 0,_,_,_=>none
 | n + 1, C,tg,e=>match e with
   | .Call (.Name x p) es kws pos=>if x="zip" then none
     else (match kws,es with
     | [],[a]=>if bP a then none else if x="range" then (if glB C x && C.blt.contains x then (cE n C false a).bind fun a'=>some (.irg (.cons a' .nil)) else none)
       else if x="enumerate" then (match tg with
         | .Tuple .. =>if glB C x && C.blt.contains x then (cE n C false a).bind fun a'=>some (.ien a') else none
         | _=>none)
       else (cE n C false (.Call (.Name x p) es kws pos)).bind fun e'=>some (.isq e')
     | [],[a,b]=>if bP a || bP b then none else if x="range" then (if glB C x && C.blt.contains x then (cE n C false a).bind fun a'=>(cE n C false b).bind fun b'=>some (.irg (.cons a' (.cons b' .nil))) else none)
       else (cE n C false (.Call (.Name x p) es kws pos)).bind fun e'=>some (.isq e')
     | _,_=>(cE n C false (.Call (.Name x p) es kws pos)).bind fun e'=>some (.isq e'))
   | e=>if pZ e then none else (cE n C false e).bind fun e'=>some (.isq e')
end
structure Fk (P:Program) (w:World) (K:W.Frag) (mg:Str→Option Value) (base:Heap) (E:Ev) (T:Tb) (k:Nat) (f:Str) (ad:Addr) (fd:FuncData) (ps:List Str):Prop where
 ok:bC P w K mg base CX0 k ad fd ps (gO E (T.S f))
 mg:mg f=some (.ref ad)
 kp:W.keepIn K (.ref ad)=true
 db:(f == ("__debug__":Str))=false
structure Mf (P:Program) (w:World) (K:W.Frag) (mg:Str→Option Value) (base:Heap) (E:Ev) (T:Tb) (k:Nat) (x:Str) (c:String) (xi:Str) (ad:Addr) (fd:FuncData) (ps:List Str):Prop where
 mkr:Mk K (E.cls c) ad
 ok:bC P w K mg base CX0 k ad fd ps (gO E (T.S xi))
 mg:mg x=some (.ref (E.cls c))
 ms:xY T c x xi
 db:(x == ("__debug__":Str))=false
noncomputable def up1:Ar→Ar
 | .arg i=>.arg (i + 1)
 | a=>a
structure FkX (P:Program) (w:World) (K:W.Frag) (mg:Str→Option Value) (base:Heap) (E:Ev) (T:Tb) (k:Nat) (f y:Str) (ad:Addr) (fd:FuncData) (ps:List Str):Prop where
 ok:∃ S0 X0,bC P w K mg base (CXo P w) k ad fd ps (CV E S0 X0)∧∀ xs G Q,T.S y xs G Q→S0 xs G Q∨X0 xs G T.xp
 mg:mg f=some (.ref ad)
 kp:W.keepIn K (.ref ad)=true
 db:(f == ("__debug__":Str))=false
structure MfX (P:Program) (w:World) (K:W.Frag) (mg:Str→Option Value) (base:Heap) (E:Ev) (T:Tb) (k:Nat) (x y:Str) (c:String) (xi:Str) (ad:Addr) (fd:FuncData) (ps:List Str):Prop where
 mkr:Mk K (E.cls c) ad
 ok:∃ S0 X0,bC P w K mg base (CXo P w) k ad fd ps (CV E S0 X0)∧∀ xs G Q,T.S xi xs G Q→S0 xs G Q∨X0 xs G T.xp
 mg:mg x=some (.ref (E.cls c))
 ms:xY T c y xi
 db:(x == ("__debug__":Str))=false
noncomputable def aFr (P:Program) (w:World) (K:W.Frag) (mg:Str→Option Value) (base:Heap) (E:Ev) (T:Tb) (k:Nat) (x y:Str):Prop :=
 (∃ c f fd ps Bn fld,XIn K mg (E.cls c) f Bn fld∧mg x=some (.ref (E.cls c))∧bC P w K mg base CX0 k f fd ps (spI (E.cls c) fld)∧L2.aL K fd ps []∧∀ xs G Q,T.S y xs G Q→∃ v,xs=[v]∧T.xp c [fld] [v] G)∨False
structure Gf (P:Program) (w:World) (K:W.Frag) (mg:Str→Option Value) (base:Heap) (E:Ev) (T:Tb) (k:Nat) (C:Cfg):Prop where
 fns:∀ f∈C.fns,∃ ad fd ps,Fk P w K mg base E T k f ad fd ps∧L2.aL K fd ps []
 mks:∀ x∈C.mks,∃ c xi ad fd ps,Mf P w K mg base E T k x c xi ad fd ps∧L2.aL K fd ps []
 shs:∀ s∈C.shs,∃ ad fd ps,Fk P w K mg base E T k s.1 ad fd ps∧hZ K fd ps s.2.1 s.2.2.1 s.2.2.2
 mkk:∀ s∈C.mkk,∃ c xi ad fd ps,Mf P w K mg base E T k s.1 c xi ad fd ps∧hZ K fd ps 1 s.2.1 (.arg 0 :: s.2.2.map up1)
 gls:∀ x∈C.gls,∃ u v,mg x=some u∧aQ v u∧RP E (fun _=>none) (T.gv x) v
 tys:∀ x∈C.tys,mg x=none∧(∃ n,bootBuiltins x=some (.type n)∧T.gv x= .ty n)∧x≠"__name__"
 blt:∀ x∈C.blt,mg x=none
 eqs:∀ y∈C.eqs,∃ ad fd,dZ K (E.cls y.1) "__eq__" ad∧bC P w K mg base CX0 k ad fd ["self","other"] (gO E (T.S y.2))∧L2.aL K fd ["self","other"] []
 nes:∀ y∈C.nes,∃ ad fd,NeC K (E.cls y.1)∧dZ K (E.cls y.1) "__eq__" ad∧bC P w K mg base CX0 k ad fd ["self","other"] (gO E (T.S y.2))∧L2.aL K fd ["self","other"] []
 lns:∀ y∈C.lns,∃ ad fd,NeC K (E.cls y.1)∧dZ K (E.cls y.1) "__len__" ad∧bC P w K mg base CX0 k ad fd ["self"] (gO E (T.S y.2))∧L2.aL K fd ["self"] []
 ows:∀ y∈C.ows,∀ b,BU.lookup y.1=some b→∀ z∈y.2,∃ ad fd k0 nm,k0 + 2≤k∧bwN b=some nm∧NeC K (E.cls z.1)∧dZ K (E.cls z.1) nm ad∧bC P w K mg base CX0 k0 ad fd ["self"] (gO E (T.S z.2))∧L2.aL K fd ["self"] []
 gds:∀ y∈C.gds,∃ a es n,mg y.1=some (.ref a)∧K.lookup a=some ⟨.type "dict",none,.dict es n, #[]⟩∧W.KeysLit w.params es.toList∧(a == sysModules)=false∧∀ z,findBy Value.isStrOf es z=(y.2.lookup z).map fun f=>.ref (E.fna f)
 fvs:∀ y∈C.fvs,∃ fd ps,bC P w K mg base CX0 k (E.fna y.1) fd ps (gO E (T.S y.1))∧W.keepIn K (.ref (E.fna y.1))=true∧hZ K fd ps y.2.1 [] y.2.2
 mkp:∀ s∈C.mkp,∃ c xi ad fd ps,Mf P w K mg base E T k s.1 c xi ad fd ps∧hZ K fd ps (s.2.1 + 1) s.2.2.1 (.arg 0 :: s.2.2.2.map up1)
 exs:∀ y∈C.exs,∃ ad fd,NeC K (E.cls y.1)∧dZ K (E.cls y.1) "__eq__" ad∧bC P w K mg base CX0 k ad fd ["self","other"] (gO E (T.S y.2))∧L2.aL K fd ["self","other"] []∧EqL K (E.cls y.1)∧∀ d∈T.cs,d≠y.1→EqD K (E.cls y.1) (E.cls d)
 kr:∀ y∈C.ky,C.rz=true
 kf:∀ y∈C.ky,(y.1∈C.fns→∃ ad fd ps,FkX P w K mg base E T k y.1 y.2 ad fd ps∧L2.aL K fd ps [])∧(y.1∈C.mks→∃ c xi ad fd ps,MfX P w K mg base E T k y.1 y.2 c xi ad fd ps∧L2.aL K fd ps [])
 ks:∀ s∈C.shs,∀ y∈C.ky,y.1=s.1→∃ ad fd ps,FkX P w K mg base E T k s.1 y.2 ad fd ps∧hZ K fd ps s.2.1 s.2.2.1 s.2.2.2
 km:∀ s∈C.mkk,∀ y∈C.ky,y.1=s.1→∃ c xi ad fd ps,MfX P w K mg base E T k s.1 y.2 c xi ad fd ps∧hZ K fd ps 1 s.2.1 (.arg 0 :: s.2.2.map up1)
 kp:∀ s∈C.mkp,∀ y∈C.ky,y.1=s.1→∃ c xi ad fd ps,MfX P w K mg base E T k s.1 y.2 c xi ad fd ps∧hZ K fd ps (s.2.1 + 1) s.2.2.1 (.arg 0 :: s.2.2.2.map up1)
 xc:∀ y∈C.xcl,aFr P w K mg base E T k y.1 y.2
 mts:∀ s∈C.mts,∀ y∈s.2.2,∃ ad fd ps,Cls K (E.cls y.1)∧dZ K (E.cls y.1) s.1 ad∧hZ K fd ps (s.2.1 + 1) [] (.arg 0 :: y.2.2.map upA)∧
   (bC P w K mg base CX0 k ad fd ps (gO E (T.S y.2.1))∨(C.rz=true∧∃ S0 X0,bC P w K mg base (CXo P w) k ad fd ps (CV E S0 X0)∧∀ xs G Q,T.S y.2.1 xs G Q→S0 xs G Q∨X0 xs G T.xp))
 bmts:∀ s∈C.bmts,∀ y∈s.2.2,∃ ad fd ps,Cls K (E.cls y.1)∧dZ K (E.cls y.1) s.1 ad∧hZ K fd ps (s.2.1 + 1) [] (.arg 0 :: y.2.2.map upA)∧bC P w K mg base CX0 k ad fd ps (gO E (T.S y.2.1))
def aHU (K:W.Frag) (mg:Str→Option Value) (E:Ev) (cat:List String) (ns:List Str):Prop:= ∃ cs:List Addr,(∀ p∈ns.zip cs,mg p.1=some (.ref p.2))∧ns.length=cs.length∧(∀ c∈cs,LX.pL K c=true∧W.typeIn K (.ref c)=some (.type "type"))∧W.subIn K (.type "type") (.type "tuple")=some false∧∀ c∈cat,LX.nG K (E.cls c) cs=some true
structure Tf (P:Program) (w:World) (K:W.Frag) (mg:Str→Option Value) (base:Heap) (E:Ev) (T:Tb) (k:Nat) (C:Cfg):Prop where
 tr:C.tr=true→∀ x f z,Gf P w K mg base (E.at f z) (T.at x) k C.inT
 ca:C.tr=true→aHU K mg E C.cat C.cln
 hh:C.tr=true→C.hs=true→∃ kh,kh + 1 < 40∧kh≤k∧Gf P w K mg base E T kh C.inH
structure Kn (X:Cx) (E:Ev) (T:Tb) (k:Nat) (C:Cfg):Prop where
 pl:Pl X E T (k + 1)
 N:X.N=C.N
 nd:C.N.Nodup
 nm:X.env.scope.names=C.names
 kd:X.env.scope.kind= .function
 fn:∀ x,(C.blk=false∨x∈C.own)→X.fn x=true
 ce:∀ x,C.names.lookup x=some .cell→∃ c,X.env.cells.lookup x=some c
 ps:PassesOwn (model X.prog X.w) X.A X.env X.xe
 gf:Gf X.prog X.w X.K X.mg X.base E T k C
 ow:(C.rz=true∨C.tr=true)→Own X
 xk:C.rz=true→∃ EX,(∀ e s',xeO X EX e s'→X.xe e s')∧KX E E.f0 E.z0 T.xp EX
 xi:aKt X E T
 cm:C.cm=true→40≤k
 gu:C.rp=true→X.A.guards=some []
 tf:Tf X.prog X.w X.K X.mg X.base E T k C
theorem aAG:∀ y∈BU,bootBuiltins y.1=some (SK y.2)∧y.1≠"__name__"∧(y.1 == ("__debug__":Str))=false:=by
 intro y hy;simp only [BU,List.mem_cons,List.not_mem_nil,or_false] at hy;rcases hy with rfl | rfl | rfl | rfl | rfl | rfl | rfl | rfl | rfl | rfl | rfl | rfl | rfl | rfl | rfl <;> exact ⟨by first | exact PySem.boot_len | (with_unfolding_all rfl),by decide,by decide⟩
theorem aT {α β:Type} [BEq α] [LawfulBEq α]:∀ {l:List (α×β)} {x:α} {b:β},l.lookup x=some b→(x,b)∈l
 | [],_,_,h=>by cases h
 | (y,c) :: r,x,b,h=>by
   rw [List.lookup_cons] at h;cases e:x == y with
   | true=>rw [e] at h; cases h; rw [beq_iff_eq.mp e]; exact wDq ..
   | false=>rw [e] at h; exact wCq _ (aT h)
section
variable {X:Cx} {E:Ev} {T:Tb} {k:Nat} {C:Cfg}
theorem Kn.vis (K:Kn X E T k C) {x:Str} (h:aD7 C x=true):Vis X.env.scope x:=by
 unfold aD7 at h;unfold Vis;rw [K.nm];split at h
 · rename_i e; exact .inl e
 · rename_i e; exact .inr (.inl e)
 · rename_i e; exact .inr (.inr e)
 · cases h
theorem Kn.loc (K:Kn X E T k C) {x:Str} (h:QA C x=true):L2.Loc X.env.scope x∧(X.fn x=true∨X.env.scope.names.lookup x=some .local):=by
 unfold QA at h;unfold L2.Loc;rw [K.nm];split at h
 · rename_i e; exact ⟨.inl e,.inr e⟩
 · rename_i e;exact ⟨.inr e,.inl (K.fn x (by
     rw [Bool.or_eq_true] at h;exact h.imp (fun z=>by simpa using z) fun z=>List.contains_iff_mem.mp z))⟩
 · cases h
theorem Kn.gl (K:Kn X E T k C) {x:Str} (h:glB C x=true):Gl X x:=by
 unfold glB at h;unfold Gl Env.kindOf;rw [K.nm];exact beq_iff_eq.mp h
theorem gY {x:Str} (h:C.ky.lookup x=none):C.key x=x:=by unfold Cfg.key; rw [h]; rfl
theorem hV {x y:Str} (h:C.ky.lookup x=some y):C.key x=y:=by unfold Cfg.key; rw [h]; rfl
theorem Kn.co (K:Kn X E T k C) (hz:C.rz=true) {y:Str} {ad:Addr} {fd:FuncData} {ps:List Str} {j:Nat} (F:∃ S0 X0,bC X.prog X.w X.K X.mg X.base (CXo X.prog X.w) j ad fd ps (CV E S0 X0)∧∀ xs G Q,T.S y xs G Q→S0 xs G Q∨X0 xs G T.xp):Co X E (T.S y) j ad fd ps:=by
 obtain ⟨S0,X0,F,h⟩:=F;obtain ⟨EX,hx,kx⟩:=K.xk hz;exact Co.ofX F h hx kx
theorem aS {e:Expr} {es:List Expr} {env:Env} (h:bP e=false):starEach (e :: es) env=(false,eval e env) :: starEach es env:=by
 cases e <;> first | rfl | (cases h)
theorem CT {e:Expr} {es:List Expr} {env:Env} (h:bP e=false):assignEach (e :: es) env=(false,assign e env) :: assignEach es env:=by
 cases e <;> first | rfl | (cases h)
theorem oA {o:Expr} {f:Str} {env:Env} {w:Sem Value} (h:yA o=false):attributeBase o f env w=w:=by
 unfold attributeBase;split
 · cases h
 · rfl
theorem nC {op:CmpOp} {b:Expr} (h:pZ b=false):behindInMarks op b=false:=by
 cases b <;> first | rfl | (cases h)
theorem nS {e:Expr} {env:Env} (h:pZ e=false):∀ x,foldedSetIterable e env x=pure x:=by
 intro x;cases e <;> first | rfl | (cases h)
theorem EH {e:Expr} (h:YS e=false):xV e:=by
 intro o i;cases e <;> first | rfl | (cases h)
theorem sJ (K:Kn X E T k C) (sc:Scope):(relabel sc X.env).names=gM C sc:=by
 unfold relabel gM Env.kindOf;rw [K.nm,K.kd];simp
theorem FD {cl:List (Str×Addr)} {sc:Scope} (K:Kn X E T k C):∀ {l:List (Str×Option Nat)},(∀ p∈l,∀ j,p.2=some j→X.N[j]? =some p.1∧X.env.kindOf p.1=some .cell∧(relabel sc X.env).names.lookup p.1=some .cell∧∃ c,cl.lookup p.1=some c∧X.env.cells.lookup p.1=some c)→fY X sc cl (l.map (·.1)) (l.map (·.2))
 | [],_=>trivial
 | (n,none) :: r,h=>by
   show fY X sc cl (r.map (·.1)) (r.map (·.2));exact FD K fun p hp=>h p (wCq _ hp)
 | (n,some j) :: r,h=>⟨h _ (wDq ..) j rfl,FD K fun p hp=>h p (wCq _ hp)⟩
theorem gC {C:Cfg}:∀ {l:List (Str×NameKind)} {p:Str×Option Nat} {j:Nat},p∈kS C l→p.2=some j→(p.1,NameKind.free)∈l∧slot C.N p.1=some j∧C.names.lookup p.1=some .cell
 | [],_,_,h,_=>by cases h
 | (n, kk) :: r,p,j,h,e=>by
   unfold kS at h;split at h
   · rcases List.mem_cons.mp h with z | z
     · subst z; cases e
     · obtain ⟨a,b⟩:=gC z e; exact ⟨wCq _ a,b⟩
   · rcases List.mem_cons.mp h with z | z
     · subst z; cases e
     · obtain ⟨a,b⟩:=gC z e; exact ⟨wCq _ a,b⟩
   · split at h
     · rename_i j' hs;split at h
       · rename_i hc;rcases List.mem_cons.mp h with z | z
         · subst z; cases e; exact ⟨wDq ..,hs,hc⟩
         · obtain ⟨a,b⟩:=gC z e; exact ⟨wCq _ a,b⟩
       · obtain ⟨a,b⟩:=gC h e; exact ⟨wCq _ a,b⟩
     · obtain ⟨a,b⟩:=gC h e; exact ⟨wCq _ a,b⟩
   · obtain ⟨a,b⟩:=gC h e; exact ⟨wCq _ a,b⟩
theorem HS {cells:List (Str×Addr)}:∀ {l:List (Str×NameKind)} {acc:List (Str×Addr)} {n:Str} {c:Addr},(n,c)∈clos cells l acc→(n,c)∈acc∨(n,NameKind.free)∈l
 | [],_,_,_,h=>.inl h
 | (m, k) :: r,acc,n,c,h=>by
   unfold clos at h;rcases HS h with z | z
   · split at z
     · rename_i hk;rcases List.mem_cons.mp z with e | z
       · cases e; subst hk; exact .inr (wDq ..)
       · exact .inl z
     · exact .inl z
   · exact .inr (wCq _ z)
theorem TC {sc:Scope} (h:wC C sc=true):C.cm=true:=by
 unfold wC at h;simp only [Bool.and_eq_true] at h;exact h.1.1.1.1
theorem Kn.block (K:Kn X E T k C) {sc:Scope} (h:wC C sc=true):∃ cl,iO X ((kS C sc.names).map (·.1)) sc cl ((kS C sc.names).map (·.2))∧∀ C0 s₀ H₀ ex,Kn (cxC X ((kS C sc.names).map (·.1)) sc cl C0 s₀ H₀ ex) E T k (FN C sc):=by
 unfold wC at h;simp only [Bool.and_eq_true,List.all_eq_true,decide_eq_true_eq] at h;obtain ⟨⟨⟨⟨_,hk⟩,hn⟩,hd⟩,hc⟩:=h;have hk:sc.kind= .function:=beq_iff_eq.mp hk;have fr:∀ y∈sc.names,y.2= .free→C.names.lookup y.1=some .cell:=fun y hy e=>by
   have:=(hn y hy).2;rw [e] at this;simpa using this
 have ncell:∀ x,(x,NameKind.cell)∈sc.names→(x,NameKind.free)∉ sc.names:=fun x hx hf=>by
   have:=(hn _ hx).1.1;simp [hf] at this
 have hf:∀ y∈sc.names,y.2= .free→∃ c,X.env.cells.lookup y.1=some c:=fun y hy e=>K.ce y.1 (fr y hy e);have hcl:vQ X.env.cells (clos X.env.cells sc.names []):=IA hf trivial;have look:∀ n,(n,NameKind.free)∈sc.names→∃ c,(clos X.env.cells sc.names []).lookup n=some c∧X.env.cells.lookup n=some c:=fun n hn=>yV hcl (sU (.inr hn));refine ⟨clos X.env.cells sc.names [],⟨XG hf,(fun x hx=>by
   cases e:(clos X.env.cells sc.names []).lookup x with
   | none=>rfl
   | some c =>
     rcases HS (aT e) with z | z
     · cases z
     · exact absurd z (ncell x hx)),hk,fun y hy e=>?_,GW hcl fun n hn=>sU (.inr hn),hcl,FD K fun p hp j e=>?_⟩,fun C0 s₀ H₀ ex=>⟨⟨K.pl.hK,K.pl.calm,K.pl.room,K.pl.cls,K.pl.fld⟩,rfl,hd,sJ K sc,hk,(fun x z=>by
   rcases z with z | z
   · cases z
   · obtain ⟨y,hy,e⟩:=List.mem_map.mp z;obtain ⟨h1,h2⟩:=List.mem_filter.mp hy;subst e;refine List.contains_iff_mem.mpr ?_;rw [show (y.1,NameKind.cell)=y from by rw [←beq_iff_eq.mp h2]];exact h1),fun x hx=>?_,PassesOwn.never,⟨K.gf.fns,K.gf.mks,K.gf.shs,K.gf.mkk,K.gf.gls,K.gf.tys,K.gf.blt,K.gf.eqs,K.gf.nes,K.gf.lns,K.gf.ows,K.gf.gds,K.gf.fvs,K.gf.mkp,K.gf.exs,(fun _ h=>nomatch h),(fun _ h=>nomatch h),(fun _ _ _ h=>nomatch h),(fun _ _ _ h=>nomatch h),(fun _ _ _ h=>nomatch h),(fun _ h=>nomatch h),(fun s hs y hy=>let ⟨ad,fd,ps,a,b,c,d⟩:=K.gf.bmts s hs y hy; ⟨ad,fd,ps,a,b,c,.inl d⟩),K.gf.bmts⟩,(fun h=>by rcases h with h | h <;> cases h),(fun h=>by cases h),⟨K.xi.xi,K.xi.fx⟩,K.cm,K.gu,⟨(fun h=>by cases h),(fun h=>by cases h),(fun h=>by cases h)⟩⟩⟩
 · have:=(hn y hy).1.2;rw [e] at this;simpa using this
 · obtain ⟨hm,hs,hcell⟩:=gC hp e;refine ⟨by rw [K.N]; exact bR hs,by unfold Env.kindOf; rw [K.nm]; exact hcell, ?_,look _ hm⟩;rw [sJ K sc];have:=hc p hp;rw [e] at this;simpa using this
 · have hx:(gM C sc).lookup x=some .cell:=hx;have hm:=aT hx;unfold gM at hm;obtain ⟨⟨n,kk⟩,hy,e⟩:=List.mem_map.mp hm;have e':(if (kk == NameKind.free && C.names.lookup n == some NameKind.cell)=true then (n,NameKind.cell) else (n,kk))=(x,NameKind.cell):=e;split at e'
   · rename_i hcond;cases e';have:kk= .free:=by
       rw [Bool.and_eq_true] at hcond;exact beq_iff_eq.mp hcond.1
     subst this;obtain ⟨c,h1,_⟩:=look x hy;exact ⟨c,oO (fun z=>ncell x z hy) h1⟩
   · cases e';obtain ⟨c,h1,_⟩:=xA (n:=C0 + 1) (cl:=clos X.env.cells sc.names []) hy;exact ⟨c,h1⟩
theorem jX {pos:Pos} {env:Env}:∀ {kws:List Keyword} {ks:List Str},kwN kws=some ks→(backToKw pos (keywordEach kws env)).all (·.1.isSome)=true∧(backToKw pos (keywordEach kws env)).filterMap (·.1)=ks∧(backToKw pos (keywordEach kws env)).any (·.1.isNone)=false∧kws.length=ks.length
 | [],ks,h=>by cases h; exact ⟨rfl,rfl,rfl,rfl⟩
 | ⟨some n,v,p⟩ :: r,ks,h=>by
   unfold kwN at h;cases e:kwN r with
   | none=>rw [e] at h; cases h
   | some l =>
     rw [e] at h;cases h;obtain ⟨a,b,c,d⟩:=jX (pos:=pos) (env:=env) e;refine ⟨?_, ?_, ?_,by rw [List.length_cons,List.length_cons,d]⟩
     · show (true && (backToKw pos (keywordEach r env)).all (·.1.isSome))=true;rw [a]; rfl
     · show n :: (backToKw pos (keywordEach r env)).filterMap (·.1)=n :: l;rw [b]
     · show (false || (backToKw pos (keywordEach r env)).any (·.1.isNone))=false;rw [c]; rfl
 | ⟨none,v,p⟩ :: r,ks,h=>by cases h
end
structure Snd (E:Ev) (T:Tb) (k:Nat) (n:Nat):Prop where
 e:∀ X C m e c,Kn X E T k C→cE n C m e=some c→JE X E e (wpE T c)
 xe:∀ X C m e c,Kn X E T k C→xE n C m e=some c→JE X E e (wpE T c)
 ve:∀ X C e c,Kn X E T k C→vE n C e=some c→JE X E e (wpE T c)
 ze:∀ X C e c,Kn X E T k C→zE n C e=some c→JE X E e (wpE T c)
 xt:∀ X C e c,Kn X E T k C→xT n C e=some c→JT X E e (wpT T c)
 l:∀ X C es c,Kn X E T k C→cL n C es=some c→JA X E es (wpL T c)∧∀ e∈es,bP e=false
 j:∀ X C es c,Kn X E T k C→cJ n C es=some c→JJ X E es (wpJ T c)
 kk:∀ X C ks c,Kn X E T k C→cK n C ks=some c→JK X E ks (wpL T c)
 d:∀ X C ks vs c pos,Kn X E T k C→cD n C ks vs=some c→JD X E pos ks vs (wpL T c)
 b:∀ X C op vs c pos,Kn X E T k C→cB n C op vs=some c→JE X E (.BoolOp op vs pos) (wpE T c)
 t:∀ X C e c,Kn X E T k C→cT n C e=some c→JT X E e (wpT T c)
 w:∀ X C op vs c pos,Kn X E T k C→cW n C op vs=some c→JW X E (.BoolOp op vs pos) (wpT T c)
 o:∀ X C o c,Kn X E T k C→cO n C o=some c→JO X E o (wpO T c)
 ts:∀ X C l c,Kn X E T k C→cTs n C l=some c→MU X E l (wpT T c)
 g:∀ X C e c,Kn X E T k C→cG n C e=some c→JG X E e (wpG T c)
 gs:∀ X C es c,Kn X E T k C→cGs n C es=some c→JGs X E es (gR T c)∧∀ e∈es,bP e=false
 i:∀ X C tg e c,Kn X E T k C→cI n C tg e=some c→JI X E tg e (wpI T c)
section
variable {E:Ev} {T:Tb} {k n:Nat}
theorem bnd {α β:Type} {o:Option α} {f:α→Option β} {b:β} (h:o.bind f=some b):∃ a,o=some a∧f a=some b:=Option.bind_eq_some_iff.mp h
theorem dR {pos:Pos} {env:Env}:∀ {es:List Expr},(∀ e∈es,bP e=false)→(backTo pos (starEach es env)).any (·.1)=false
 | [],_=>rfl
 | e :: r,h=>by
   rw [aS (h e (wDq ..))];show (false || (backTo pos (starEach r env)).any (·.1))=false;rw [dR fun x hx=>h x (wCq _ hx)]; rfl
theorem GY {env:Env}:∀ {es:List Expr},(∀ e∈es,bP e=false)→(assignEach es env).length=es.length∧(assignEach es env).findIdx? (·.1)=none
 | [],_=>⟨rfl,rfl⟩
 | e :: r,h=>by
   obtain ⟨a,b⟩:=GY (env:=env) (es:=r) fun x hx=>h x (wCq _ hx);rw [CT (h e (wDq ..))];refine ⟨by rw [List.length_cons,List.length_cons,a], ?_⟩;rw [List.findIdx?_cons];simp only [b];rfl
theorem aBy {op op':CmpOp} {b c:Expr} (h:pZ c=false):lastMarks [op,op'] [b,c]=false:=by
 show lastMarks [op'] [c]=false;exact nC h
theorem mI {α:Type} {l:List α} {p:α→Bool} {s:α} (h:l.find? p=some s):s∈l∧p s=true:=⟨List.mem_of_find?_eq_some h,List.find?_some h⟩
theorem jE {x:Str} (h:jK x=true):(x == ("__debug__":Str))=false∧(x == ("__classdict__":Str))=false:=by
 unfold jK at h;rw [Bool.and_eq_true,Bool.not_eq_true',Bool.not_eq_true'] at h;exact h
theorem or2 {a b:Bool} (h:¬(a || b)=true):a=false∧b=false:=by cases a <;> cases b <;> simp at h ⊢
theorem aJM:Snd E T k 0:=by
 constructor <;> (intros; rename_i h; first | (unfold vE at h; cases h) | (unfold zE at h; cases h) | (unfold cJ at h; cases h) | (unfold cE at h; cases h) | (unfold cL at h; cases h) | (unfold cK at h; cases h) | (unfold cD at h; cases h) | (unfold cB at h; cases h) | (unfold cT at h; cases h) | (unfold cW at h; cases h) | (unfold cO at h; cases h) | (unfold cTs at h; cases h) | (unfold cG at h; cases h) | (unfold cGs at h; cases h) | (unfold cI at h; cases h))
theorem aFA (S:Snd E T k n):∀ X C es c,Kn X E T k C→cL (n + 1) C es=some c→JA X E es (wpL T c)∧∀ e∈es,bP e=false:=by
 intro X C es c K h;cases es with
 | nil=>unfold cL at h; cases h; exact ⟨aFc,fun e he=>nomatch he⟩
 | cons e r =>
   unfold cL at h;dsimp only at h;split at h
   · cases h
   · rename_i hs;obtain ⟨e',h1,h⟩:=bnd h;obtain ⟨r',h2,h⟩:=bnd h;cases h;have hs:bP e=false:=by simpa using hs
     obtain ⟨a,b⟩:=S.l X C r r' K h2;refine ⟨WP (S.e X C false e e' K h1) a (aS hs),fun x hx=>?_⟩;rcases List.mem_cons.mp hx with z | z
     · rw [z]; exact hs
     · exact b x z
theorem aHu (S:Snd E T k n):∀ X C es c,Kn X E T k C→cJ (n + 1) C es=some c→JJ X E es (wpJ T c):=by
 intro X C es c K h;cases es with
 | nil=>unfold cJ at h; cases h; exact aDU
 | cons e r =>
   unfold cJ at h;dsimp only at h;split at h
   · obtain ⟨e',h1,h⟩:=bnd h;obtain ⟨r',h2,h⟩:=bnd h;cases h;exact aHc (S.e X C false _ e' K h1) (S.j X C r r' K h2) rfl
   · obtain ⟨r',h2,h⟩:=bnd h;cases h;exact aEl OO (S.j X C r r' K h2) rfl
   · cases h
theorem aG0 (S:Snd E T k n):∀ X C ks c,Kn X E T k C→cK (n + 1) C ks=some c→JK X E ks (wpL T c):=by
 intro X C ks c K h;cases ks with
 | nil=>unfold cK at h; cases h; exact xX
 | cons e r =>
   obtain ⟨nm,v,p⟩:=e;unfold cK at h;dsimp only at h;obtain ⟨e',h1,h⟩:=bnd h;obtain ⟨r',h2,h⟩:=bnd h;cases h;exact YJ (S.e X C false v e' K h1) (S.kk X C r r' K h2)
theorem aFw (S:Snd E T k n):∀ X C ks vs c pos,Kn X E T k C→cD (n + 1) C ks vs=some c→JD X E pos ks vs (wpL T c):=by
 intro X C ks vs c pos K h;unfold cD at h;split at h
 · cases h; exact aDy
 · obtain ⟨k',h1,h⟩:=bnd h;obtain ⟨v',h2,h⟩:=bnd h;obtain ⟨r',h3,h⟩:=bnd h;cases h;exact aAm (S.e X C false _ k' K h1) (S.e X C false _ v' K h2) (S.d X C _ _ r' pos K h3)
 · cases h
theorem aGi (S:Snd E T k n):∀ X C op vs c pos,Kn X E T k C→cB (n + 1) C op vs=some c→JE X E (.BoolOp op vs pos) (wpE T c):=by
 intro X C op vs c pos K h;unfold cB at h;split at h
 · cases h
 · exact aDD (S.e X C false _ c K h)
 · obtain ⟨a',h1,h⟩:=bnd h;obtain ⟨b',h2,h⟩:=bnd h;cases op with
   | And=>cases h; exact aGR K.pl (S.e X C false _ a' K h1) (S.b X C .And _ b' pos K h2)
   | Or=>cases h; exact aHA K.pl (S.e X C false _ a' K h1) (S.b X C .Or _ b' pos K h2)
theorem aHF (S:Snd E T k n):∀ X C op vs c pos,Kn X E T k C→cW (n + 1) C op vs=some c→JW X E (.BoolOp op vs pos) (wpT T c):=by
 intro X C op vs c pos K h;unfold cW at h;split at h
 · cases h
 · cases op with
   | And=>exact aC4 (S.t X C _ c K h)
   | Or=>exact aB8 (S.t X C _ c K h)
 · obtain ⟨a',h1,h⟩:=bnd h;obtain ⟨b',h2,h⟩:=bnd h;cases op with
   | And=>cases h; exact aHo (S.t X C _ a' K h1) (S.w X C .And _ b' pos K h2)
   | Or=>cases h; exact aGh (S.t X C _ a' K h1) (S.w X C .Or _ b' pos K h2)
theorem aF1 (S:Snd E T k n):∀ X C o c,Kn X E T k C→cO (n + 1) C o=some c→JO X E o (wpO T c):=by
 intro X C o c K h;unfold cO at h;split at h
 · cases h; exact aDZ
 · obtain ⟨e',h1,h⟩:=bnd h;cases h;exact XI (S.e X C false _ e' K h1)
theorem aCR (S:Snd E T k n):∀ X C l c,Kn X E T k C→cTs (n + 1) C l=some c→MU X E l (wpT T c):=by
 intro X C l c K h;unfold cTs at h;split at h
 · cases h; exact aIZ
 · exact aIW (S.t X C _ c K h)
 · cases h
theorem aFp (S:Snd E T k n):∀ X C e c,Kn X E T k C→cG (n + 1) C e=some c→JG X E e (wpG T c):=by
 intro X C e c K h;unfold cG at h;split at h
 · split at h
   · rename_i hl;obtain ⟨i,h1,h⟩:=bnd h;cases h;obtain ⟨a,b⟩:=K.loc hl;exact yB (by rw [K.N]; exact K.nd) (by rw [K.N]; exact bR h1) a b
   · cases h
 · split at h
   · rename_i hcm;obtain ⟨g,h1,h⟩:=bnd h;cases h;obtain ⟨a,b⟩:=S.gs X C _ g K h1;obtain ⟨l1,l2⟩:=GY (env:=X.env) b;exact aEn K.pl (Nat.le_succ_of_le (K.cm hcm)) a l1 l2
   · cases h
 · cases h
theorem aEg (S:Snd E T k n):∀ X C es c,Kn X E T k C→cGs (n + 1) C es=some c→JGs X E es (gR T c)∧∀ e∈es,bP e=false:=by
 intro X C es c K h;cases es with
 | nil=>unfold cGs at h; cases h; exact ⟨ZZ,fun e he=>nomatch he⟩
 | cons e r =>
   unfold cGs at h;dsimp only at h;split at h
   · cases h
   · rename_i hs;obtain ⟨e',h1,h⟩:=bnd h;obtain ⟨r',h2,h⟩:=bnd h;cases h;have hs:bP e=false:=by simpa using hs
     obtain ⟨a,b⟩:=S.gs X C r r' K h2;refine ⟨WB (S.g X C e e' K h1) a (by rw [CT hs]; rfl),fun x hx=>?_⟩;rcases List.mem_cons.mp hx with z | z
     · rw [z]; exact hs
     · exact b x z
theorem aHX (S:Snd E T k n):∀ X C e c,Kn X E T k C→cT (n + 1) C e=some c→JT X E e (wpT T c):=by
 intro X C e c K h;unfold cT at h;split at h
 · rename_i c2 hx;cases h;exact S.xt X C e _ K hx
 split at h
 · exact (S.w X C _ _ c _ K h).jt
 · obtain ⟨a',h1,h⟩:=bnd h;cases h;exact aHV (S.t X C _ a' K h1)
 · split at h
   · split at h
     · cases h
     · rename_i hs;obtain ⟨a',h1,h⟩:=bnd h;obtain ⟨b',h2,h⟩:=bnd h;cases h;exact aEj K.pl (nC (by simpa using hs)) (S.e X C false _ a' K h1) (S.e X C false _ b' K h2)
   · split at h
     · cases h
     · rename_i hs;obtain ⟨a',h1,h⟩:=bnd h;obtain ⟨b',h2,h⟩:=bnd h;obtain ⟨c',h3,h⟩:=bnd h;cases h;exact aCH K.pl (aBy (by simpa using hs)) (S.e X C false _ a' K h1) (S.e X C false _ b' K h2) (S.e X C false _ c' K h3)
   · cases h
 · obtain ⟨e',h1,h⟩:=bnd h;cases h;exact yI K.pl (S.e X C false _ e' K h1) fun _=>rfl
 · obtain ⟨e',h1,h⟩:=bnd h;cases h;exact yI K.pl (S.e X C false _ e' K h1) fun _=>rfl
 · obtain ⟨e',h1,h⟩:=bnd h;cases h;exact yI K.pl (S.e X C false _ e' K h1) fun _=>rfl
 · obtain ⟨e',h1,h⟩:=bnd h;cases h;exact yI K.pl (S.e X C false _ e' K h1) fun _=>rfl
 · cases h
theorem aHQ (S : Snd E T k n):∀ X C tg e c,Kn X E T k C→cI (n + 1) C tg e=some c→JI X E tg e (wpI T c):=by
 intro X C tg e c K h;unfold cI at h;split at h
 · split at h
   · cases h
   · split at h
     · split at h
       · cases h
       · rename_i hs;split at h
         · rename_i hx;split at h
           · rename_i hb;rw [Bool.and_eq_true] at hb;obtain ⟨a',h1,h⟩:=bnd h;cases h;subst hx;exact YZ (K.gl hb.1) (K.gf.blt _ (by simpa using hb.2)) (S.e X C false _ a' K h1) (aS (by simpa using hs))
           · cases h
         · split at h
           · rename_i hx;split at h
             · split at h
               · rename_i hb;rw [Bool.and_eq_true] at hb;obtain ⟨a',h1,h⟩:=bnd h;cases h;subst hx;exact aDj K.pl (K.gl hb.1) (K.gf.blt _ (by simpa using hb.2)) (S.e X C false _ a' K h1) (aS (by simpa using hs))
               · cases h
             · cases h
           · obtain ⟨e',h1,h⟩:=bnd h;cases h;exact yR K.pl (S.e X C false _ e' K h1)
     · split at h
       · cases h
       · rename_i hs;have hs':=or2 hs;split at h
         · rename_i hx;split at h
           · rename_i hb;rw [Bool.and_eq_true] at hb;obtain ⟨a',h1,h⟩:=bnd h;obtain ⟨b',h2,h⟩:=bnd h;cases h;subst hx;exact aAQ (K.gl hb.1) (K.gf.blt _ (by simpa using hb.2)) (S.e X C false _ a' K h1) (S.e X C false _ b' K h2) (by rw [aS hs'.1,aS hs'.2]; rfl) (aS hs'.2)
           · cases h
         · obtain ⟨e',h1,h⟩:=bnd h;cases h;exact yR K.pl (S.e X C false _ e' K h1)
     · obtain ⟨e',h1,h⟩:=bnd h;cases h;exact yR K.pl (S.e X C false _ e' K h1)
 · split at h
   · cases h
   · obtain ⟨e',h1,h⟩:=bnd h;cases h;exact yR K.pl (S.e X C false _ e' K h1)
theorem VS (S:Snd E T k n) {X:Cx} {C:Cfg} {x:Str} {p pos:Pos} {e:Expr} {r:List Expr} {es':CE} (K:Kn X E T k C) (hg:glB C x=true) (hc:C.fns.contains x=true∨C.mks.contains x=true) (h:cL n C (e :: r)=some es'):JE X E (.Call (.Name x p) (e :: r) [] pos) (wpE T (.cal (C.key x) es')):=by
 obtain ⟨a,b⟩:=S.l X C _ es' K h;have s1:=aS (env:=X.env) (es:=r) (b e (wDq ..));have s2:=dR (pos:=pos) (env:=X.env) fun y hy=>b y (wCq _ hy);cases hy:C.ky.lookup x with
 | none =>
   rw [gY hy];rcases hc with hc | hc
   · obtain ⟨ad,fd,ps,F,hb⟩:=K.gf.fns x (by simpa using hc);exact RT (.of F.ok) (K.pl.room.mono (Nat.le_succ _)) (K.gl hg) F.mg F.kp hb F.db a s1 s2
   · obtain ⟨c,xi,ad,fd,ps,F,hb⟩:=K.gf.mks x (by simpa using hc);exact SA F.mkr (.of F.ok) K.pl.room (K.gl hg) F.mg hb F.ms F.db a s1 s2
 | some y =>
   rw [hV hy];have hz:=K.gf.kr _ (aT hy);obtain ⟨f1,f2⟩:=K.gf.kf _ (aT hy);rcases hc with hc | hc
   · obtain ⟨ad,fd,ps,F,hb⟩:=f1 (by simpa using hc);exact RT (K.co hz F.ok) (K.pl.room.mono (Nat.le_succ _)) (K.gl hg) F.mg F.kp hb F.db a s1 s2
   · obtain ⟨c,xi,ad,fd,ps,F,hb⟩:=f2 (by simpa using hc);exact SA F.mkr (K.co hz F.ok) K.pl.room (K.gl hg) F.mg hb F.ms F.db a s1 s2
theorem QT (S:Snd E T k n) {X:Cx} {C:Cfg} {x:Str} {p pos:Pos} {e:Expr} {r:List Expr} {kws:List Keyword} {ks:List Str} {s:Str×Nat×List Str×List Ar} {es' ks':CE} (K:Kn X E T k C) (hg:glB C x=true) (hk:kwN kws=some ks)
   (hf:C.shs.find? (fun s=>s.1 == x && s.2.1 == (e :: r).length && s.2.2.1 == ks)=some s) (h:cL n C (e :: r)=some es') (h2:JK X E kws (wpL T ks')):JE X E (.Call (.Name x p) (e :: r) kws pos) (wpE T (.cak (C.key x) es' ks' s.2.2.2)):=by
 obtain ⟨a,b⟩:=S.l X C _ es' K h;have s1:=aS (env:=X.env) (es:=r) (b e (wDq ..));have s2:=dR (pos:=pos) (env:=X.env) (es:=e :: r) b;obtain ⟨hm,hp⟩:=mI hf;simp only [Bool.and_eq_true,beq_iff_eq] at hp;obtain ⟨⟨e1,e2⟩,e3⟩:=hp;obtain ⟨k1,k2,k3,k4⟩:=jX (pos:=pos) (env:=X.env) hk;cases hy:C.ky.lookup x with
 | none =>
   rw [gY hy];obtain ⟨ad,fd,ps,F,hb⟩:=K.gf.shs s hm;rw [e1] at F;exact SC (.of F.ok) (K.pl.room.mono (Nat.le_succ _)) (K.gl hg) F.mg F.kp hb F.db a h2 e2.symm (by rw [e3]; exact k4) k1 (by rw [e3]; exact k2) s1 (by rw [s2,k3]; rfl)
 | some y =>
   rw [hV hy];obtain ⟨ad,fd,ps,F,hb⟩:=K.gf.ks s hm _ (aT hy) e1.symm;rw [e1] at F;exact SC (K.co (K.gf.kr _ (aT hy)) F.ok) (K.pl.room.mono (Nat.le_succ _)) (K.gl hg) F.mg F.kp hb F.db a h2 e2.symm (by rw [e3]; exact k4) k1 (by rw [e3]; exact k2) s1 (by rw [s2,k3]; rfl)
theorem aHq {X:Cx} {C:Cfg} (K:Kn X E T k C):∀ y∈C.exs,NeX X E T k y.1 y.2:=fun y hy=>by
 obtain ⟨ad,fd,n,a,b,c,l,d⟩:=K.gf.exs y hy;exact ⟨⟨⟨ad,fd,a,b,c⟩,l,d⟩,n⟩
theorem aD1 (S:Snd E T k n):∀ X C e c,Kn X E T k C→vE (n + 1) C e=some c→JE X E e (wpE T c):=by
 intro X C e c K h;unfold vE at h;split at h
 · split at h
   · cases h
   · rename_i hs;obtain ⟨a',h1,h⟩:=bnd h;obtain ⟨b',h2,h⟩:=bnd h;cases h;simp only [Bool.or_eq_true,not_or,Bool.not_eq_true,Bool.not_eq_false'] at hs;exact aDk K.pl (aHq K) hs.2 (nC hs.1.1) (S.e X C false _ a' K h1) (S.e X C false _ b' K h2)
 · cases h
theorem aEE (S:Snd E T k n):∀ X C e c,Kn X E T k C→zE (n + 1) C e=some c→JE X E e (wpE T c):=by
 intro X C e c K h;unfold zE at h;split at h
 · split at h
   · rename_i hg;obtain ⟨ks,h0,h⟩:=bnd h;split at h
     · rename_i s hf;obtain ⟨es',h1,h⟩:=bnd h;obtain ⟨ks',h2,h⟩:=bnd h;cases h;obtain ⟨a,b⟩:=S.l X C _ es' K h1;obtain ⟨hm,hp⟩:=mI hf;simp only [Bool.and_eq_true,beq_iff_eq] at hp;obtain ⟨⟨e1,e2⟩,e3⟩:=hp;obtain ⟨k1,k2,k3,k4⟩:=jX (env:=X.env) h0;cases hy:C.ky.lookup _ with
       | none =>
         rw [gY hy];obtain ⟨c,xi,ad,fd,ps,F,hb⟩:=K.gf.mkp s hm;rw [e1] at F;exact HH F.mkr (.of F.ok) K.pl.room (K.gl hg) F.mg hb F.ms F.db a (S.kk X C _ ks' K h2) e2.symm (by rw [e3]; exact k4) k1 (by rw [e3]; exact k2) (aS (b _ (wDq ..))) (by rw [dR b,k3]; rfl)
       | some y =>
         rw [hV hy];obtain ⟨c,xi,ad,fd,ps,F,hb⟩:=K.gf.kp s hm _ (aT hy) e1.symm;rw [e1] at F;exact HH F.mkr (K.co (K.gf.kr _ (aT hy)) F.ok) K.pl.room (K.gl hg) F.mg hb F.ms F.db a (S.kk X C _ ks' K h2) e2.symm (by rw [e3]; exact k4) k1 (by rw [e3]; exact k2) (aS (b _ (wDq ..))) (by rw [dR b,k3]; rfl)
     · cases h
   · cases h
 · cases h
theorem aCi (S:Snd E T k n):∀ X C m e c,Kn X E T k C→xE (n + 1) C m e=some c→JE X E e (wpE T c):=by
 intro X C m e c K h;unfold xE at h
 try dsimp only at h
 split at h
 · cases h;exact aEo
 · split at h
   · rename_i hh;rw [Bool.and_eq_true,Bool.and_eq_true] at hh;obtain ⟨⟨a1,a2⟩,a3⟩:=hh;obtain ⟨es',h1,h⟩:=bnd h;cases h;exact aCl (S.d X C _ _ es' _ K h1) a1 (beq_iff_eq.mp a2) (fun z=>nomatch z) (of_decide_eq_true a3)
   · cases h
 · split at h
   · rename_i hg;split at h
     · rename_i s hf;cases h;obtain ⟨k1,k2,k3,k4⟩:=jX (pos:=_) (env:=X.env) (show kwN []=some [] from rfl);obtain ⟨hm,hp⟩:=mI hf;simp only [Bool.and_eq_true,beq_iff_eq] at hp;obtain ⟨e1,e3⟩:=hp;cases hy:C.ky.lookup _ with
       | none =>
         rw [gY hy];obtain ⟨c,xi,ad,fd,ps,F,hb⟩:=K.gf.mkk s hm;rw [e1] at F;exact rW F.mkr (.of F.ok) K.pl.room (K.gl hg) F.mg hb F.ms F.db xX (by rw [e3]; exact k4) k1 (by rw [e3]; exact k2) (by rw [k3]; rfl)
       | some y =>
         rw [hV hy];obtain ⟨c,xi,ad,fd,ps,F,hb⟩:=K.gf.km s hm _ (aT hy) e1.symm;rw [e1] at F;exact rW F.mkr (K.co (K.gf.kr _ (aT hy)) F.ok) K.pl.room (K.gl hg) F.mg hb F.ms F.db xX (by rw [e3]; exact k4) k1 (by rw [e3]; exact k2) (by rw [k3]; rfl)
     · cases h
   · cases h
 · cases h
theorem aDl (S:Snd E T k n):∀ X C e c,Kn X E T k C→xT (n + 1) C e=some c→JT X E e (wpT T c):=by
 intro X C e c K h;simp [xT] at h
theorem aHP (S:Snd E T k n):∀ X C m e c,Kn X E T k C→cE (n + 1) C m e=some c→JE X E e (wpE T c):=by
 intro X C m e c K h;unfold cE at h;split at h
 · rename_i c2 hx;cases h;exact S.ve X C e _ K hx
 split at h
 · rename_i c2 hx;cases h;exact S.ze X C e _ K hx
 split at h
 · rename_i c2 hx;cases h;exact S.xe X C m e _ K hx
 split at h
 · -- a name
   split at h
   · rename_i hp;obtain ⟨d1,d2⟩:=jE hp;split at h
     · rename_i i hs;split at h
       · rename_i hv;cases h;exact aCd (by rw [K.N]; exact bR hs) (K.vis hv) d1 d2
       · cases h
     · split at h
       · rename_i hg;rw [Bool.and_eq_true,Bool.or_eq_true] at hg;cases h;rcases hg.2 with hh | hh
         · obtain ⟨u,v,h1,h2,h3⟩:=K.gf.gls _ (by simpa using hh);exact aDm (K.gl hg.1) h1 h2 h3 d1
         · obtain ⟨h1,⟨nn,h2,h3⟩,h4⟩:=K.gf.tys _ (by simpa using hh);exact aGF (K.gl hg.1) h1 h2 h3 h4 d1
       · cases h
   · cases h
 · split at h
   · cases h; exact aEI
   · cases h; exact aHH
   · cases h; exact aCN
   · cases h; exact OO
   · cases h
 · obtain ⟨a',h1,h⟩:=bnd h;obtain ⟨b',h2,h⟩:=bnd h;cases h;exact aE8 K.pl (S.e X C false _ a' K h1) (S.e X C false _ b' K h2)
 · split at h
   · obtain ⟨a',h1,h⟩:=bnd h;cases h;exact aCC (S.e X C false _ a' K h1)
   · obtain ⟨a',h1,h⟩:=bnd h;cases h;exact aIz K.pl (S.e X C false _ a' K h1)
   · cases h
 · exact S.b X C _ _ c _ K h
 · split at h
   · split at h
     · cases h
     · rename_i hs;obtain ⟨a',h1,h⟩:=bnd h;obtain ⟨b',h2,h⟩:=bnd h;cases h;exact aE2 K.pl (nC (by simpa using hs)) (S.e X C false _ a' K h1) (S.e X C false _ b' K h2)
   · split at h
     · cases h
     · rename_i hs;obtain ⟨a',h1,h⟩:=bnd h;obtain ⟨b',h2,h⟩:=bnd h;obtain ⟨c',h3,h⟩:=bnd h;cases h;exact aDu K.pl (aBy (by simpa using hs)) (S.e X C false _ a' K h1) (S.e X C false _ b' K h2) (S.e X C false _ c' K h3)
   · cases h
 · obtain ⟨es',h1,h⟩:=bnd h;cases h;exact aCj (S.l X C _ es' K h1).1
 · obtain ⟨es',h1,h⟩:=bnd h;cases h;exact aFe (S.l X C _ es' K h1).1
 · split at h
   · obtain ⟨a',h1,h⟩:=bnd h;obtain ⟨l',h2,h⟩:=bnd h;obtain ⟨u',h3,h⟩:=bnd h;cases h;exact aCY K.pl (S.e X C false _ a' K h1) (S.o X C _ l' K h2) (S.o X C _ u' K h3)
   · obtain ⟨a',h1,h⟩:=bnd h;cases h;exact aB6 K.pl (S.e X C false _ a' K h1)
   · split at h
     · cases h
     · rename_i hs;obtain ⟨a',h1,h⟩:=bnd h;obtain ⟨i',h2,h⟩:=bnd h;cases h;exact aEd K.pl (S.e X C false _ a' K h1) (S.e X C false _ i' K h2) (EH (by simpa using hs))
 · split at h
   · cases h
   · rename_i hs;obtain ⟨a',h1,h⟩:=bnd h;cases h;exact aDz K.pl (S.e X C false _ a' K h1) (oA (by simpa using hs))
 · split at h
   · split at h
     · rename_i hg;split at h
       · rename_i b hb;split at h
         · rename_i hc;obtain ⟨hc,hcm⟩:=Bool.and_eq_true_iff.mp hc;have h40:MB b=true→40≤k:=fun z=>K.cm (by rw [z] at hcm; simpa using hcm);obtain ⟨es',h1,h⟩:=bnd h;cases h;obtain ⟨a,st⟩:=S.l X C _ es' K h1;obtain ⟨b1,b2,b3⟩:=aAG _ (aT hb);split
           · rename_i ls hl;exact aDO K.pl h40 (fun y hy=>⟨K.gf.ows _ (aT hl) b hb y hy⟩) (K.gl hg) (K.gf.blt _ (by simpa using hc)) b1 b2 b3 a (aS (st _ (wDq ..))) (dR fun y hy=>st y (wCq _ hy))
           exact aCr K.pl (fun z=>Nat.le_succ_of_le (h40 z)) (K.gl hg) (K.gf.blt _ (by simpa using hc)) b1 b2 b3 a (aS (st _ (wDq ..))) (dR fun y hy=>st y (wCq _ hy))
         · cases h
       · split at h
         · rename_i s hf;obtain ⟨es',h1,h⟩:=bnd h;cases h;exact QT S K hg (ks:=[]) rfl hf h1 xX
         · split at h
           · rename_i hc;obtain ⟨es',h1,h⟩:=bnd h;cases h;rw [Bool.or_eq_true] at hc;exact VS S K hg hc h1
           · cases h
     · cases h
   · split at h
     · rename_i hg;obtain ⟨ks,hk,h⟩:=bnd h;split at h
       · rename_i s hf;obtain ⟨es',h1,h⟩:=bnd h;obtain ⟨ks',h2,h⟩:=bnd h;cases h;exact QT S K hg hk hf h1 (S.kk X C _ ks' K h2)
       · cases h
     · cases h
   · split at h
     · rename_i hg;obtain ⟨ks,hk,h⟩:=bnd h;obtain ⟨k1,k2,k3,k4⟩:=jX (pos:=_) (env:=X.env) hk;split at h
       · rename_i s hf;obtain ⟨ks',h2,h⟩:=bnd h;cases h;obtain ⟨hm,hp⟩:=mI hf;simp only [Bool.and_eq_true,beq_iff_eq] at hp;obtain ⟨⟨e1,e2⟩,e3⟩:=hp;cases hy:C.ky.lookup _ with
         | none =>
           rw [gY hy];obtain ⟨ad,fd,ps,F,hb⟩:=K.gf.shs s hm;rw [e1] at F;rw [e2] at hb;exact HY (.of F.ok) (K.pl.room.mono (Nat.le_succ _)) (K.gl hg) F.mg F.kp hb F.db (S.kk X C _ ks' K h2) (by rw [e3]; exact k4) k1 (by rw [e3]; exact k2) (by rw [k3]; rfl)
         | some y =>
           rw [hV hy];obtain ⟨ad,fd,ps,F,hb⟩:=K.gf.ks s hm _ (aT hy) e1.symm;rw [e1] at F;rw [e2] at hb;exact HY (K.co (K.gf.kr _ (aT hy)) F.ok) (K.pl.room.mono (Nat.le_succ _)) (K.gl hg) F.mg F.kp hb F.db (S.kk X C _ ks' K h2) (by rw [e3]; exact k4) k1 (by rw [e3]; exact k2) (by rw [k3]; rfl)
       · split at h
         · rename_i s hf;obtain ⟨ks',h2,h⟩:=bnd h;cases h;obtain ⟨hm,hp⟩:=mI hf;simp only [Bool.and_eq_true,beq_iff_eq] at hp;obtain ⟨e1,e3⟩:=hp;cases hy:C.ky.lookup _ with
           | none =>
             rw [gY hy];obtain ⟨c,xi,ad,fd,ps,F,hb⟩:=K.gf.mkk s hm;rw [e1] at F;exact rW F.mkr (.of F.ok) K.pl.room (K.gl hg) F.mg hb F.ms F.db (S.kk X C _ ks' K h2) (by rw [e3]; exact k4) k1 (by rw [e3]; exact k2) (by rw [k3]; rfl)
           | some y =>
             rw [hV hy];obtain ⟨c,xi,ad,fd,ps,F,hb⟩:=K.gf.km s hm _ (aT hy) e1.symm;rw [e1] at F;exact rW F.mkr (K.co (K.gf.kr _ (aT hy)) F.ok) K.pl.room (K.gl hg) F.mg hb F.ms F.db (S.kk X C _ ks' K h2) (by rw [e3]; exact k4) k1 (by rw [e3]; exact k2) (by rw [k3]; rfl)
         · cases h
     · cases h
   · split at h
     · rename_i hc;simp only [Bool.and_eq_true,decide_eq_true_eq,Bool.not_eq_true'] at hc;obtain ⟨⟨⟨e1,e2⟩,e3⟩,e4⟩:=hc;obtain ⟨o',h1,h⟩:=bnd h;obtain ⟨e',h2,h⟩:=bnd h;cases h;subst e1;exact aCc (S.e X C false _ o' K h1) (S.e X C false _ e' K h2) (oA e2) (aS e3) e4
     · split at h
       · rename_i hc;simp only [Bool.and_eq_true,decide_eq_true_eq,Bool.not_eq_true'] at hc;obtain ⟨⟨⟨e1,e2⟩,e3⟩,e4⟩:=hc;obtain ⟨o',h1,h⟩:=bnd h;obtain ⟨e',h2,h⟩:=bnd h;cases h;subst e1;exact aDx (S.e X C false _ o' K h1) (S.e X C false _ e' K h2) (oA e2) (aS e3) e4
       · cases h
   · cases h
 · split at h
   · split at h
     · rename_i hb;rw [Bool.and_eq_true] at hb;obtain ⟨it',h1,h⟩:=bnd h;obtain ⟨tg',h2,h⟩:=bnd h;obtain ⟨ts',h3,h⟩:=bnd h;obtain ⟨el',h4,h⟩:=bnd h;cases h;obtain ⟨cl,B,KB⟩:=K.block hb.1;exact aAa B K.pl (Nat.le_succ_of_le (K.cm (TC hb.1))) (S.i X C _ _ it' K h1) (fun C0 s₀ H₀ ex=>S.g _ _ _ tg' (KB C0 s₀ H₀ ex) h2) (fun C0 s₀ H₀ ex=>S.ts _ _ _ ts' (KB C0 s₀ H₀ ex) h3) (fun C0 s₀ H₀ ex=>S.e _ _ false _ el' (KB C0 s₀ H₀ ex) h4) (nS (by simpa using hb.2))
     · cases h
   · cases h
 · obtain ⟨es',h1,h⟩:=bnd h;cases h;exact aEH (S.j X C _ es' K h1)
 · cases h
theorem snd:∀ n,Snd E T k n
 | 0=>aJM
 | n + 1=>⟨aHP (snd n),aCi (snd n),aD1 (snd n),aEE (snd n),aDl (snd n),aFA (snd n),aHu (snd n),aG0 (snd n),aFw (snd n),aGi (snd n),aHX (snd n),aHF (snd n),aF1 (snd n),aCR (snd n),aFp (snd n),aEg (snd n),aHQ (snd n)⟩
end
section
variable {X:Cx} {E:Ev} {T:Tb} {k:Nat} {C:Cfg}
theorem rS (K:Kn X E T k C):X.env.blockKind= .function:=by
 unfold Env.blockKind;rw [K.kd]; rfl
noncomputable def aIT:Expr→Bool
 | .Tuple .. =>true
 | _=>false
noncomputable def NF:Expr→Bool
 | .Tuple vs _ _=> !(vs.all (foldedForSure 8))
 | _=>false
theorem aEN {ts:List Expr} {kt:Nat} {pt:Pos} {value:Expr} {env:Env} (h:aIT value=false):swappedStores [.Tuple ts kt pt] value env=pure none:=by
 cases value <;> first | rfl | (cases h)
theorem aAx {ts vs:List Expr} {kt kv:Nat} {pt pv:Pos} {env:Env} (h:vs.all (foldedForSure 8)=true):swappedStores [.Tuple ts kt pt] (.Tuple vs kv pv) env=pure none:=by
 unfold swappedStores;dsimp only;split
 · rfl
 · split
   · rfl
   · split
     · rfl
     · first | rfl | rw [if_pos h]
theorem aDt {ts:List Expr} {kt:Nat} {pt:Pos} {v:Expr} {env:Env} (h:¬NF v=true):swappedStores [.Tuple ts kt pt] v env=pure none:=by
 cases v with
 | Tuple vs kv pv =>
   refine aAx ?_;cases e:vs.all (foldedForSure 8) with
   | true=>rfl
   | false=>exact absurd (show (!(vs.all (foldedForSure 8)))=true by rw [e]; rfl) h
 | _=>exact aEN rfl
theorem aCe (K:Kn X E T k C) {x y:Str} {px py pt pt2:Pos} {kt k2:Nat} {a b:Expr} (hx:C.names.lookup x=some .local) (hy:C.names.lookup y=some .local) (hl:py.line=px.line) (hne:x≠y) (sa:bP a=false) (sb:bP b=false)
   (nf: [a,b].all (foldedForSure 8)=false) (nc: [a,b].all (constantsAlone 8)=false):swappedStores [.Tuple [.Name x px,.Name y py] kt pt] (.Tuple [a,b] k2 pt2) X.env=pure (some [x,y]):=by
 unfold swappedStores;dsimp only;have kx:(X.env.kindOf x == some .local)=true:=by unfold Env.kindOf; rw [K.nm,hx]; rfl
 have ky:(X.env.kindOf y == some .local)=true:=by unfold Env.kindOf; rw [K.nm,hy]; rfl
 have e:∀ e:Expr,bP e=false→(match e with | .Starred .. =>true | _=>false)=false:=fun e h=>by cases e <;> first | rfl | (cases h)
 have c1:(!([Expr.Name x px,Expr.Name y py].length == 2 || [Expr.Name x px,Expr.Name y py].length == 3) || [a,b].length != [Expr.Name x px,Expr.Name y py].length || X.env.blockKind != ScopeKind.function)=false:=by
   rw [rS K]; rfl
 rw [if_neg (by rw [c1]; exact Bool.false_ne_true)];have nm:([x,y]:List Str).eraseDups.length=2:=by
   have hb:(y == x)=false:=beq_eq_false_iff_ne.mpr (Ne.symm hne);simp [List.eraseDups_cons,hb]
 split
 · rename_i h2;exfalso
   simp only [List.any_cons,List.any_nil,Bool.or_false,Bool.or_eq_true] at h2;rcases h2 with h2 | h2
   · cases a <;> first | (cases h2; done) | (cases sa)
   · cases b <;> first | (cases h2; done) | (cases sb)
 · simp only [List.filterMap_cons,List.filterMap_nil,kx,ky,List.head?_cons,Option.map_some,Option.getD_some,Bool.true_and,Expr.pos,hl,beq_self_eq_true,if_true,List.length_cons,List.length_nil,nm,nf,nc];rfl
theorem aAn (K:Kn X E T k C) {x y z:Str} {px py pz pt pt2:Pos} {kt k2:Nat} {a b c:Expr} (hx:C.names.lookup x=some .local) (hy:C.names.lookup y=some .local) (hz:C.names.lookup z=some .local) (hl:py.line=px.line) (hl2:pz.line=px.line) (hne:x≠y) (hne2:x≠z) (hne3:y≠z) (sa:bP a=false) (sb:bP b=false) (sc:bP c=false)
   (nf: [a,b,c].all (foldedForSure 8)=false) (nc: [a,b,c].all (constantsAlone 8)=false):swappedStores [.Tuple [.Name x px,.Name y py,.Name z pz] kt pt] (.Tuple [a,b,c] k2 pt2) X.env=pure (some [x,y,z]):=by
 unfold swappedStores;dsimp only;have kx:(X.env.kindOf x == some .local)=true:=by unfold Env.kindOf; rw [K.nm,hx]; rfl
 have ky:(X.env.kindOf y == some .local)=true:=by unfold Env.kindOf; rw [K.nm,hy]; rfl
 have kz:(X.env.kindOf z == some .local)=true:=by unfold Env.kindOf; rw [K.nm,hz]; rfl
 have c1:(!([Expr.Name x px,Expr.Name y py,Expr.Name z pz].length == 2 || [Expr.Name x px,Expr.Name y py,Expr.Name z pz].length == 3) || [a,b,c].length != [Expr.Name x px,Expr.Name y py,Expr.Name z pz].length || X.env.blockKind != ScopeKind.function)=false:=by
   rw [rS K]; rfl
 rw [if_neg (by rw [c1]; exact Bool.false_ne_true)];have nm:([x,y,z]:List Str).eraseDups.length=3:=by
   have hb:(y == x)=false:=beq_eq_false_iff_ne.mpr (Ne.symm hne);have hb2:(z == x)=false:=beq_eq_false_iff_ne.mpr (Ne.symm hne2);have hb3:(z == y)=false:=beq_eq_false_iff_ne.mpr (Ne.symm hne3);simp [List.eraseDups_cons,hb,hb2,hb3]
 split
 · rename_i h2;exfalso
   simp only [List.any_cons,List.any_nil,Bool.or_false,Bool.or_eq_true] at h2;rcases h2 with h2 | h2 | h2
   · cases a <;> first | (cases h2; done) | (cases sa)
   · cases b <;> first | (cases h2; done) | (cases sb)
   · cases c <;> first | (cases h2; done) | (cases sc)
 · simp only [List.filterMap_cons,List.filterMap_nil,kx,ky,kz,List.head?_cons,Option.map_some,Option.getD_some,Bool.true_and,Expr.pos,hl,hl2,beq_self_eq_true,if_true,List.length_cons,List.length_nil,nm,nf,nc];rfl
theorem yU {N:List Str} {x y:Str} {i j:Nat} (h1:slot N x=some i) (h2:slot N y=some j) (hne:x≠y):i≠j:=fun e=>by
 subst e;have a1:=bR h1;have a2:=bR h2;rw [a1] at a2;exact hne (Option.some.inj a2)
noncomputable def yS (n:Nat) (C:Cfg) (s:Stmt):Option CS:=match s with
 | .Assign [.Name x px] (.ListComp elt gens sc vp) pos=>if QA C x && C.names.lookup x == some .cell then (slot C.N x).bind fun i=>(cE n C (C.M.contains x) (.ListComp elt gens sc vp)).bind fun v'=>some (.asg (.gn i) v') else none
 | .Raise (some (.Call (.Name x _) [e] [] _)) none _=>(match C.xcl.lookup x with
     | some y=>if C.rz && glB C x && jK x && !bP e && C.cm then (cE n C false e).bind fun e'=>some (.ex (.cal y (.cons e' .nil))) else none
     | none=>none)
 | _=>none
noncomputable def CL:List Expr→Option (List (Str×Pos))
 | []=>some []
 | .Name x p :: r=>(CL r).map ((x,p) :: ·)
 | _ :: _=>none
noncomputable def clB (C:Cfg):Expr→Bool
 | .Tuple es _ _=>(match CL es with
   | some l=>l.map (·.1) == C.cln && l.all (fun q=>glB C q.1 && jK q.1) && decide (l.length≤100)
   | none=>false)
 | .Name x _=>[x] == C.cln && glB C x && jK x
 | _=>false
noncomputable def aEe (C:Cfg) (x:Str):Bool:=C.names.lookup x == some .local && jK x
theorem FX {X:Cx} {E:Ev} {T:Tb} {k:Nat} {C:Cfg} (K:Kn X E T k C) {x:Str} {px vp:Pos} {l:Nat} {elt:Expr} {gens:List Comprehension} {sc:Scope} (c3:(C.names.lookup x == some .cell)=true) :
   swapsWithSole [.Name x px] (.ListComp elt gens sc vp) l X.env=pure false:=by
 unfold swapsWithSole swapsWith;dsimp only;have e1:X.env.kindOf x=C.names.lookup x:=by unfold Env.kindOf; rw [K.nm]
 rw [rS K,e1,beq_iff_eq.mp c3];rfl
mutual
noncomputable def cS:Nat→Cfg→Stmt→Option CS
 | 0,_,_=>none
 | n + 1,C,s=>match yS n C s with
 | some c=>some c
 | none => match s with
   | .Expr e _=>(match e with
     | .Constant (.str _) _ _=>some .nil
     | e=>if sN e then none else (cE n C false e).bind fun e'=>some (.ex e'))
   | .Pass _=>some .nil
   | .Try b hs o f _=>(match hs,o,f with
     | [.ExceptHandler (some t) (some m) (s0 :: ss) _],[],[]=>if C.tr && C.hs && aEe C m && clB C t then
         (slot C.N m).bind fun j=>(cSs n C.inT b).bind fun b'=>(cSs n C.inH (s0 :: ss)).bind fun h'=>some (.trh b' j h' C.cat) else none
     | _,_,_=>none)
   | .Raise .. =>some .nev
   | .Return o _=>(match o with
     | none=>some .retN
     | some e=>(cE n C C.rm e).bind fun e'=>some (.ret e'))
   | .If c a b _=>(cT n C c).bind fun c'=>(cSs n C a).bind fun a'=>(cSs n C b).bind fun b'=>some (.iff c' a' b')
   | .While c b o _=>(match o with
     | []=>(cT n C c).bind fun c'=>some (.wh c' ((cSs n C b).getD .nev))
     | _=>none)
   | .For tg it b o _=>(match o with
     | []=>if pZ it || !C.cm then none else (cI n C tg it).bind fun i'=>(cG n C tg).bind fun g'=>(cSs n C b).bind fun b'=>some (.fr g' i' b')
     | _=>none)
   | .Assign ts v pos=>(match ts with
     | [.Name x px]=>if QA C x then (slot C.N x).bind fun i=>(match v with
         | .ListComp elt gens sc vp=>(match gens with
           | [⟨tg,iter,ifs,0⟩]=>if wC C sc && !pZ iter && C.names.lookup x == some .local && px.line == vp.line && !(sc.names.any fun y=>y.1 == x && (y.2 == .local || y.2 == .cell)) then
               (cI n C tg iter).bind fun it'=>(cG n (FN C sc) tg).bind fun tg'=>(cTs n (FN C sc) ifs).bind fun ts'=>(cE n (FN C sc) false elt).bind fun el'=>some (.asg (.gn i) (.cmpr (C.M.contains x) tg' it' ts' el' ((kS C sc.names).map (·.2))))
             else none
           | _=>none)
         | v=>if sN v then none else (cE n C (C.M.contains x) v).bind fun v'=>some (.asg (.gn i) v')) else none
     | [.Attribute o f _]=>if sN v then none else (cE n C false o).bind fun o'=>(cE n C false v).bind fun v'=>some (.fld o' f v')
     | [.Subscript o i _]=>if sN v || YS i then none else (cE n C false o).bind fun o'=>(cE n C false i).bind fun i'=>(cE n C false v).bind fun v'=>some (.sub o' i' v')
     | [.Tuple gs kt pt]=>if NF v then (match gs,v with
         | [.Name x px,.Name y py],.Tuple [a,b] _ _=>if C.names.lookup x == some .local && C.names.lookup y == some .local && py.line == px.line && x != y && !bP a && !bP b && !([a,b].all (constantsAlone 8)) && C.cm then
             (slot C.N x).bind fun i=>(slot C.N y).bind fun j=>(cE n C false a).bind fun a'=>(cE n C false b).bind fun b'=>some (.par i j a' b') else none
         | [.Name x px,.Name y py,.Name z pz],.Tuple [a,b,c] _ _=>if C.names.lookup x == some .local && C.names.lookup y == some .local && C.names.lookup z == some .local && py.line == px.line && pz.line == px.line && x != y && x != z && y != z && !bP a && !bP b && !bP c && !([a,b,c].all (constantsAlone 8)) && C.cm then
             (slot C.N x).bind fun i=>(slot C.N y).bind fun j=>(slot C.N z).bind fun l=>(cE n C false a).bind fun a'=>(cE n C false b).bind fun b'=>(cE n C false c).bind fun c'=>some (.par3 i j l a' b' c') else none
         | _,_=>none)
       else if sN v then none else (cE n C false v).bind fun v'=>(cG n C (.Tuple gs kt pt)).bind fun g'=>some (.asg g' v')
     | _=>none)
   | _=>none
noncomputable def cSs:Nat→Cfg→List Stmt→Option CS
 | 0,_,_=>none
 | n + 1,C,l=>match l with
   | []=>some .nil
   | [s]=>cS n C s
   | s :: t :: r=>(cS n C s).bind fun s'=>(cSs n C (t :: r)).bind fun r'=>some (.seq s' r')
end
theorem nR {e:Expr} {t:Option Expr} {l:Nat} {env:Env} (h:sN e=false):swapsWith e t l env=pure false:=by
 cases e <;> first | rfl | (cases h)
theorem FS (K:Kn X E T k C) {x:Str} {px vp:Pos} {l:Nat} {elt:Expr} {gens:List Comprehension} {sc:Scope} (c3:(C.names.lookup x == some .local)=true) (c4:(px.line == vp.line)=true) (c5:(!(sc.names.any fun y=>y.1 == x && (y.2 == .local || y.2 == .cell)))=true) :
   swapsWith (.ListComp elt gens sc vp) (some (.Name x px)) l X.env=pure true:=by
 unfold swapsWith;dsimp only;have e1:X.env.kindOf x=C.names.lookup x:=by unfold Env.kindOf; rw [K.nm]
 rw [rS K,e1,c3];have e2:(!(sc.names.any fun (n,k)=>n == x && (k == .local || k == .cell)))=true:=by rw [←c5]
 show pure (true && true && (px.line == vp.line) && !(sc.names.any fun (n,k)=>n == x && (k == .local || k == .cell)))=pure true;rw [c4,e2]; rfl
theorem lL {e t:Expr} {l:Nat} {env:Env} (h:sN e=false):swapsWithSole [t] e l env=pure false:=nR h
theorem aAS {o i:Expr} {pos':Pos} {env:Env} (h:YS i=false) (v:Value):assign (.Subscript o i pos') env v=(do
     let ov ←holding [v] (eval o env)
     let iv ←holding [v,ov] (eval i env)
     standAt pos'
     holding [v,ov,iv] (setItem ov iv v)
     release [v,ov,iv] []):=by
 cases i <;> first | rfl | (cases h)
structure Sns (E:Ev) (T:Tb) (k:Nat) (n:Nat):Prop where
 s:∀ X C s c,Kn X E T k C→cS n C s=some c→JS X E s (wpS T c)
 ss:∀ X C s c,Kn X E T k C→cSs n C s=some c→JSs X E s (wpS T c)
theorem aBP {n:Nat} (S:Sns E T k n):∀ X C l c,Kn X E T k C→cSs (n + 1) C l=some c→JSs X E l (wpS T c):=by
 intro X C l c K h;unfold cSs at h;split at h
 · cases h; exact aFb
 · exact aCy (S.s X C _ c K h)
 · obtain ⟨s',h1,h⟩:=bnd h;obtain ⟨r',h2,h⟩:=bnd h;cases h;exact aBT (S.s X C _ s' K h1) (S.ss X C _ r' K h2)
theorem aCu (K:Kn X E T k C) (hz:C.rz=true) (h40:40≤k) {x y:Str} {np cpos pos:Pos} {e:Expr} {e':CE} (F0:aFr X.prog X.w X.K X.mg X.base E T k x y) (hg:glB C x=true) (hp:jK x=true) (hs:bP e=false) (he:JE X E e (wpE T e')) :
   JS X E (.Raise (some (.Call (.Name x np) [e] [] cpos)) none pos) (wpS T (.ex (.cal y (.cons e' .nil)))):=fun F=>by
 obtain ⟨EX,hx,kx⟩:=K.xk hz;rcases F0 with ⟨c,f,fd,ps,Bn,fld,D,hm,Fi,hb,hT⟩ | F0
 · refine PS.imp (LM D (K.gl hg) hm (jE hp).1 Fi (K.pl.room.hd (Nat.le_succ_of_le h40)) K.pl.room hb (he F) hx (aS hs)) fun D0 σ H zz=>?_;obtain ⟨σ',Z,G,D',rs,S,h,kd⟩:=zz;rw [wpS,wpE,wpL] at h;refine ⟨σ',Z,G,_,rs,S,h,fun v u Z1 G1 H1 s1 S1 r1 q d hd=>?_⟩;rw [wpL] at q;obtain ⟨v',e1,q⟩:=hT _ _ _ q;cases e1;exact kx c [fld] [v] (some d) [u] (upd Z1 d (.xd [(fld,u)])) G1 _ (S1.z0.trans (aW (S1.zn hd) _)) (S1.fz hd).weakF rfl ⟨u,[],rfl,r1.mono (aW (S1.zn hd) _),rfl⟩ (fun dd z=>by cases z; exact aI) (fun z=>by cases z) q
 · exact F0.elim
theorem OV:∀ {es:List Expr} {l:List (Str×Pos)},CL es=some l→es=l.map fun q=>Expr.Name q.1 q.2
 | [],l,h=>by cases h; rfl
 | e :: r,l,h=>by
   unfold CL at h;split at h
   · rename_i e0; cases e0
   · rename_i x p r' e0;cases e0;cases hr:CL r with
     | none=>rw [hr] at h; cases h
     | some l' =>
       rw [hr] at h;cases h;rw [OV hr];rfl
   · cases h
theorem wZ:∀ {l:List (Str×Pos)} {cs:List Addr},l.length=cs.length→l=(l.zip cs).map (fun q=>(q.1.1,q.1.2))∧cs=(l.zip cs).map (·.2)
 | [],[],_=>⟨rfl,rfl⟩
 | a :: l,c :: cs,h=>by
   obtain ⟨h1,h2⟩:=wZ (l:=l) (cs:=cs) (by simpa using h);rw [List.zip_cons_cons,List.map_cons,List.map_cons,←h1,←h2];exact ⟨rfl,rfl⟩
theorem NR (K:Kn X E T k C) (h:C.tr=true) {t:Expr} (hc:clB C t=true):∃ cs,iG X t cs∧(∀ c∈cs,LX.pL X.K c=true)∧∀ c∈C.cat,LX.nG X.K (E.cls c) cs=some true:=by
 obtain ⟨cs,hm,hl,hcs,ht,hcat⟩:=K.tf.ca h;refine ⟨cs, ?_,fun c z=>(hcs c z).1,hcat⟩;unfold clB at hc;split at hc
 · rename_i es k0 p0;split at hc
   · rename_i l hn;simp only [Bool.and_eq_true,beq_iff_eq,List.all_eq_true,decide_eq_true_eq] at hc;obtain ⟨⟨h1,h2⟩,h3⟩:=hc;have hl2:l.length=cs.length:=by rw [←hl,←h1,List.length_map]
     obtain ⟨z1,z2⟩:=wZ hl2;have ee:es=((l.zip cs).map fun q=>((q.1.1,q.1.2,q.2):Str×Pos×Addr)).map fun q=>Expr.Name q.1 q.2.1:=by
       rw [OV hn,List.map_map];conv=>lhs; rw [z1]
       rw [List.map_map]; rfl
     have ec:cs=((l.zip cs).map fun q=>((q.1.1,q.1.2,q.2):Str×Pos×Addr)).map (·.2.2):=by
       rw [List.map_map]; exact z2
     have cl:iG X (.Tuple (((l.zip cs).map fun q=>((q.1.1,q.1.2,q.2):Str×Pos×Addr)).map fun q=>Expr.Name q.1 q.2.1) k0 p0) (((l.zip cs).map fun q=>((q.1.1,q.1.2,q.2):Str×Pos×Addr)).map (·.2.2)):=by
       refine .tup (fun q hq=>?_) ?_
       · obtain ⟨⟨⟨x,p⟩,c⟩,hq0,rfl⟩:=List.mem_map.mp hq;have h4:=h2 (x,p) (List.of_mem_zip hq0).1;refine ⟨K.gl h4.1,hm (x,c) ?_,(jE h4.2).1⟩;rw [←h1];have:=List.mem_map_of_mem (f:=fun q:(Str×Pos)×Addr=>(q.1.1,q.2)) hq0;have e:(l.zip cs).map (fun q=>(q.1.1,q.2))=(l.map (·.1)).zip cs:=by rw [List.zip_map_left]; rfl
         rw [←e]; exact this
       · rw [List.length_map,List.length_zip,←hl2,Nat.min_self];have:(100:Nat)≤sizeLine:=by rw [sizeLine_eq]; decide
         omega
     rw [←ee,←ec] at cl;exact cl
   · cases hc
 · rename_i x p0;simp only [Bool.and_eq_true,beq_iff_eq] at hc;obtain ⟨⟨h1,h2⟩,h3⟩:=hc;rw [←h1] at hm hl
   match cs,hl,hm,hcs with
   | [c],_,hm,hcs=>exact .one (K.gl h2) (hm (x,c) (wDq ..)) (jE h3).1 (hcs c (wDq ..)).2 ht
 · cases hc
theorem aB2 {n:Nat} (S0:∀ k E T,Sns E T k n) (K:Kn X E T k C) (htr:C.tr=true) (hhs:C.hs=true) {t:Expr} {m:Str} {hp pos:Pos} {b ss:List Stmt} {s0:Stmt} {b' h':CS} {j:Nat} (hj:slot C.N m=some j) (hlm:aEe C m=true) (hc:clB C t=true) (hb:cSs n C.inT b=some b') (hh:cSs n C.inH (s0 :: ss)=some h') :
   JS X E (.Try b [.ExceptHandler (some t) (some m) (s0 :: ss) hp] [] [] pos) (wpS T (.trh b' j h' C.cat)):=by
 rintro F pins s σ H D I ⟨σ',Z,G,D',rs,S,h,kd⟩;rw [wpS] at h;have ow:=K.ow (.inr htr);obtain ⟨cs,cl,hcs,hcat⟩:=NR K htr hc;obtain ⟨kh,k1,k2,gh⟩:=K.tf.hh htr hhs;have hN:X.N=C.N:=K.N;have lm:X.env.scope.names.lookup m=some .local:=by rw [K.nm]; unfold aEe at hlm; exact beq_iff_eq.mp (Bool.and_eq_true_iff.mp hlm).1
 have pm:=jE (Bool.and_eq_true_iff.mp hlm).2;have hlen:σ'.length=X.N.length:=by rw [rs.length]; exact I.len
 generalize hx0:(fun c ns xs G1=>c∈C.cat∧wpS T h' ⟨fun σ2 G2=>D'.nx (σ2.set j none) G2,D'.rt,fun σ2 G2=>D'.bk (σ2.set j none) G2,fun σ2 G2=>D'.ct (σ2.set j none) G2⟩ ((List.replicate σ'.length none).set j (some (.exc c ns xs))) G1:PX)=x0 at h
 let EX:XK:=fun Cv d H1=>∃ c ns xs vs Z1 G1,Cv= .ref (E.cls c)∧aN Z Z1∧Sim (E.at F Z) F H1 Z1 G1∧ns.length=vs.length∧RPs E Z1 xs vs∧(∀ dd,d=some dd→Z1 dd=some (.xd (ns.zip vs)))∧(d=none→ns=[])∧WkX x0 c ns xs G1
 have ow':Own (X.pin pins):=⟨ow.st,ow.fr⟩;have K':Kn ((X.pin pins).wish (xeO (X.pin pins) EX)) (E.at F Z) (T.at (WkX x0)) k C.inT:=by
   refine ⟨⟨K.pl.hK,K.pl.calm,K.pl.room,⟨K.pl.cls.own,K.pl.cls.plain,K.pl.cls.other,K.pl.cls.apart⟩,K.pl.fld⟩,K.N,K.nd,K.nm,K.kd,K.fn,K.ce,aJ0 (X:=X.pin pins) ow',K.tf.tr htr _ _ _,(fun _=>⟨ow'.st,ow'.fr⟩),(fun _=>⟨EX,by rintro e s' ⟨a,C0,d,σ1,H1,ee,J,x1,q⟩;exact ⟨a,C0,d,σ1,H1,ee,J.unwish,x1,q⟩, ?_⟩),⟨K.xi.xi,K.xi.fx⟩,K.cm,K.gu,⟨(fun z=>by cases z),(fun z=>by cases z),(fun z=>by cases z)⟩⟩;intro c ns xs d vs Z1 G1 H1 s1 S1 l r hd hn q;exact ⟨c,ns,xs,vs,Z1,G1,rfl,s1,S1,l,r.un,hd,hn,q⟩
 have hbj:=(S0 k (E.at F Z) (T.at (WkX x0))).ss _ C.inT b b' K' hb F;refine aFi ow I (EX:=EX) (j:=j) (by rw [hN]; exact K.nd) (by rw [hN]; exact bR hj) lm cl hcs hbj ⟨σ',Z,G,D',rs.at,S.at,h, ?_⟩ ?_
 · exact ⟨fun a b Z1 G1 H1 s1 S1 r q=>kd.nx a b Z1 G1 H1 s1 (S.un (F1:=F) S1) r.un q,fun a b Z1 G1 H1 s1 S1 r q=>kd.rt a b Z1 G1 H1 s1 (S.un (F1:=F) S1) r.un q,fun a b Z1 G1 H1 s1 S1 r q=>kd.bk a b Z1 G1 H1 s1 (S.un (F1:=F) S1) r.un q,fun a b Z1 G1 H1 s1 S1 r q=>kd.ct a b Z1 G1 H1 s1 (S.un (F1:=F) S1) r.un q⟩
 · rintro Cv d H1 ⟨c,ns,xs,vs,Z1,G1,rfl,s1,S1,l,r,hd,hn,G2,hG,q⟩;rw [←hx0] at q;obtain ⟨hcc,q⟩:=q;refine ⟨_,rfl,hcat c hcc,fun a ha=>?_⟩;have KH:Kn ((X.pin pins).mk2 (.ref a)) E T kh C.inH:=by
     refine ⟨⟨K.pl.hK,(fun z=>absurd z (by omega)), ?_,⟨K.pl.cls.own,K.pl.cls.plain,K.pl.cls.other,K.pl.cls.apart⟩,K.pl.fld⟩,K.N,K.nd,K.nm,K.kd,K.fn,K.ce,PassesOwn.never,gh,(fun z=>by rcases z with z | z <;> cases z),(fun z=>by cases z),⟨K.xi.xi,K.xi.fx⟩,(fun z=>by cases z),K.gu,⟨(fun z=>by cases z),(fun z=>by cases z),(fun z=>by cases z)⟩⟩;have R0:=K.pl.room.mono (j:=kh + 1) (by omega);exact ⟨(fun z=>absurd z (by omega)),R0.dp,R0.un,R0.gd⟩
   have S2:=((S.un (F1:=F) S1).weak hG).fz (o:=.ext (XC a (.ref (E.cls c)) d)) ha;have zn:Z1 a=none:=(S.un (F1:=F) S1).zn ha;have rp:RP E (upd Z1 a (.ext (XC a (.ref (E.cls c)) d))) (.exc c ns xs) (.ref a):=⟨a,d,vs,rfl,aI,l,(fun dd z=>by rw [aD (aG (hd dd z) zn)]; exact hd dd z),hn,r.mono (aW zn _)⟩;refine ⟨_,(S0 kh E T).ss _ C.inH _ h' KH hh F, ?_⟩;refine ⟨(List.replicate σ'.length none).set j (some (.exc c ns xs)),_,_,_, ?_,S2,q, ?_⟩
   · rw [hlen]; exact (RSt.nones _).set rp j
   · have s2:=s1.trans (aW zn (.ext (XC a (.ref (E.cls c)) d)));exact ⟨fun a b Z2 G2 H2 s3 S3 r3 q3=>kd.nx _ _ Z2 G2 H2 (s2.trans s3) S3 (RSt.unset j r3) q3,fun a b Z2 G2 H2 s3 S3 r3 q3=>kd.rt a b Z2 G2 H2 (s2.trans s3) S3 r3 q3,fun a b Z2 G2 H2 s3 S3 r3 q3=>kd.bk _ _ Z2 G2 H2 (s2.trans s3) S3 (RSt.unset j r3) q3,fun a b Z2 G2 H2 s3 S3 r3 q3=>kd.ct _ _ Z2 G2 H2 (s2.trans s3) S3 (RSt.unset j r3) q3⟩
theorem aIB {n:Nat} (S0:∀ k E T,Sns E T k n) (S:Sns E T k n):∀ X C l c,Kn X E T k C→cS (n + 1) C l=some c→JS X E l (wpS T c):=by
 intro X C l c K h;have R:Snd E T k n:=snd n;unfold cS at h;split at h
 · rename_i c2 hx;cases h;unfold yS at hx;split at hx
   · split at hx
     · rename_i hc;obtain ⟨c1,c2⟩:=Bool.and_eq_true_iff.mp hc;obtain ⟨l1,l2⟩:=K.loc c1;obtain ⟨i,h1,hx⟩:=bnd hx;obtain ⟨v',h2,hx⟩:=bnd hx;cases hx;exact EZ (R.e X C _ _ v' K h2) (yB (by rw [K.N]; exact K.nd) (by rw [K.N]; exact bR h1) l1 l2) (FX K c2) rfl rfl
     · cases hx
   · split at hx
     · rename_i y hy;split at hx
       · rename_i hc;simp only [Bool.and_eq_true,Bool.not_eq_true'] at hc;obtain ⟨⟨⟨⟨hz,hg⟩,hp⟩,hs⟩,hcm⟩:=hc;obtain ⟨e',h1,hx⟩:=bnd hx;cases hx;exact aCu K hz (K.cm hcm) (K.gf.xc _ (aT hy)) hg hp hs (R.e X C false _ e' K h1)
       · cases hx
     · cases hx
   · cases hx
 split at h
 · split at h
   · cases h; exact aCZ
   · split at h
     · cases h
     · rename_i hc;obtain ⟨e',h1,h⟩:=bnd h;cases h;exact aG8 (R.e X C false _ e' K h1) (nR (by simpa using hc))
 · cases h; exact aAK
 · split at h
   · split at h
     · rename_i hc;simp only [Bool.and_eq_true] at hc;obtain ⟨⟨⟨htr,hhs⟩,hlm⟩,hcl⟩:=hc;obtain ⟨j,h2,h⟩:=bnd h;obtain ⟨b',h3,h⟩:=bnd h;obtain ⟨h',h4,h⟩:=bnd h;cases h;exact aB2 S0 K htr hhs h2 hlm hcl h3 h4
     · cases h
   · cases h
 · cases h; exact aFh
 · split at h
   · cases h; exact XE
   · obtain ⟨e',h1,h⟩:=bnd h;cases h;exact aEv (R.e X C C.rm _ e' K h1)
 · obtain ⟨c',h1,h⟩:=bnd h;obtain ⟨a',h2,h⟩:=bnd h;obtain ⟨b',h3,h⟩:=bnd h;cases h;exact aFL (R.t X C _ c' K h1) (S.ss X C _ a' K h2) (S.ss X C _ b' K h3)
 · split at h
   · obtain ⟨c',h1,h⟩:=bnd h;cases h;refine aId K.ps (R.t X C _ c' K h1) ?_;cases h2:cSs n C _ with
     | none=>exact aAb
     | some b'=>exact S.ss X C _ b' K h2
   · cases h
 · split at h
   · split at h
     · cases h
     · rename_i hs;obtain ⟨hs,hcm⟩:=or2 hs;have hcm:C.cm=true:=by simpa using hcm
       obtain ⟨i',h1,h⟩:=bnd h;obtain ⟨g',h2,h⟩:=bnd h;obtain ⟨b',h3,h⟩:=bnd h;cases h;exact aCT K.pl (Nat.le_succ_of_le (K.cm hcm)) K.ps (R.i X C _ _ i' K h1) (R.g X C _ g' K h2) (S.ss X C _ b' K h3) (nS (by simpa using hs))
   · cases h
 · split at h
   · split at h
     · rename_i hl;obtain ⟨i,h1,h⟩:=bnd h;obtain ⟨l1,l2⟩:=K.loc hl;split at h
       · split at h
         · split at h
           · rename_i hc;rw [Bool.and_eq_true,Bool.and_eq_true,Bool.and_eq_true,Bool.and_eq_true] at hc;obtain ⟨⟨⟨⟨c1,c2⟩,c3⟩,c4⟩,c5⟩:=hc;obtain ⟨it',g1,h⟩:=bnd h;obtain ⟨tg',g2,h⟩:=bnd h;obtain ⟨ts',g3,h⟩:=bnd h;obtain ⟨el',g4,h⟩:=bnd h;cases h;obtain ⟨cl,B,KB⟩:=K.block c1;refine ZE B K.pl (Nat.le_succ_of_le (K.cm (TC c1))) (by rw [K.N]; exact K.nd) (by rw [K.N]; exact bR h1) (by rw [K.nm]; exact beq_iff_eq.mp c3) (R.i X C _ _ it' K g1) (fun C0 s₀ H₀ ex=>R.g _ _ _ tg' (KB C0 s₀ H₀ ex) g2) (fun C0 s₀ H₀ ex=>R.ts _ _ _ ts' (KB C0 s₀ H₀ ex) g3) (fun C0 s₀ H₀ ex=>R.e _ _ false _ el' (KB C0 s₀ H₀ ex) g4) ?_ (nS (by simpa using c2));exact FS K c3 c4 c5
           · cases h
         · cases h
       · split at h
         · cases h
         · rename_i hc;obtain ⟨v',h2,h⟩:=bnd h;cases h;exact EZ (R.e X C _ _ v' K h2) (yB (by rw [K.N]; exact K.nd) (by rw [K.N]; exact bR h1) l1 l2) (lL (by simpa using hc)) rfl rfl
     · cases h
   · split at h
     · cases h
     · rename_i hc;obtain ⟨o',h1,h⟩:=bnd h;obtain ⟨v',h2,h⟩:=bnd h;cases h;exact aEQ K.pl (R.e X C _ _ o' K h1) (R.e X C _ _ v' K h2) (nR (by simpa using hc))
   · split at h
     · cases h
     · rename_i hc;obtain ⟨hc1,hc2⟩:=or2 hc;obtain ⟨o',h1,h⟩:=bnd h;obtain ⟨i',h2,h⟩:=bnd h;obtain ⟨v',h3,h⟩:=bnd h;cases h;exact aCX (R.e X C _ _ v' K h3) (R.e X C _ _ o' K h1) (R.e X C _ _ i' K h2) (aAS hc2) (lL hc1) rfl
   · split at h
     · split at h
       · split at h
         · rename_i hc;simp only [Bool.and_eq_true,Bool.not_eq_true',beq_iff_eq,bne_iff_ne,ne_eq] at hc;obtain ⟨⟨⟨⟨⟨⟨⟨c1,c2⟩,c3⟩,c4⟩,c5⟩,c6⟩,c7⟩,hcm⟩:=hc;obtain ⟨i,g1,h⟩:=bnd h;obtain ⟨j,g2,h⟩:=bnd h;obtain ⟨a',g3,h⟩:=bnd h;obtain ⟨b',g4,h⟩:=bnd h;cases h;have ij:i≠j:=fun e=>by
             subst e;have a1:=bR g1;have a2:=bR g2;rw [a1] at a2;exact c4 (Option.some.inj a2)
           exact aEY K.pl (Nat.le_succ_of_le (K.cm hcm)) (by rw [K.N]; exact K.nd) (by rw [K.N]; exact bR g1) (by rw [K.N]; exact bR g2) ij (by rw [K.nm]; exact c1) (by rw [K.nm]; exact c2) (R.e X C _ _ a' K g3) (R.e X C _ _ b' K g4) (aS c5) (aS c6) (aCe K c1 c2 c3 c4 c5 c6 (by have hf:= ‹NF _=true›; unfold NF at hf; exact Bool.not_eq_true' _▸hf) c7) rfl
         · cases h
       · split at h
         · rename_i hc;simp only [Bool.and_eq_true,Bool.not_eq_true',beq_iff_eq,bne_iff_ne,ne_eq] at hc;obtain ⟨⟨⟨⟨⟨⟨⟨⟨⟨⟨⟨⟨c1,c2⟩,c3⟩,c4⟩,c5⟩,c6⟩,c7⟩,c8⟩,c9⟩,c10⟩,c11⟩,c12⟩,hcm⟩:=hc;obtain ⟨i,g1,h⟩:=bnd h;obtain ⟨j,g2,h⟩:=bnd h;obtain ⟨l,g3,h⟩:=bnd h;obtain ⟨a',g4,h⟩:=bnd h;obtain ⟨b',g5,h⟩:=bnd h;obtain ⟨c',g6,h⟩:=bnd h;cases h;exact YK K.pl (Nat.le_succ_of_le (K.cm hcm)) (by rw [K.N]; exact K.nd) (by rw [K.N]; exact bR g1) (by rw [K.N]; exact bR g2) (by rw [K.N]; exact bR g3) (yU g1 g2 c6) (yU g1 g3 c7) (yU g2 g3 c8) (by rw [K.nm]; exact c1) (by rw [K.nm]; exact c2) (by rw [K.nm]; exact c3) (R.e X C _ _ a' K g4) (R.e X C _ _ b' K g5) (R.e X C _ _ c' K g6) (aS c9) (aS c10) (aS c11)
             (aAn K c1 c2 c3 c4 c5 c6 c7 c8 c9 c10 c11 (by have hf:= ‹NF _=true›; unfold NF at hf; exact Bool.not_eq_true' _▸hf) c12) rfl
         · cases h
       · cases h
     · rename_i hf;split at h
       · cases h
       · rename_i hc;obtain ⟨v',h1,h⟩:=bnd h;obtain ⟨g',h2,h⟩:=bnd h;cases h;exact EZ (R.e X C _ _ v' K h1) (R.g X C _ g' K h2) (lL (by simpa using hc)) (aDt hf) rfl
   · cases h
 · cases h
theorem sns:∀ n k E T,Sns E T k n
 | 0,_,_,_=>⟨(fun X C s c K h=>by unfold cS at h; cases h),(fun X C s c K h=>by unfold cSs at h; cases h)⟩
 | n + 1,k,E,T=>⟨aIB (sns n) (sns n k E T),aBP (sns n k E T)⟩
end
structure cH (K:W.Frag) (x qual:Str) (st:Stmt) (dV:Value) (f:Addr) (fd:FuncData):Prop where
 ex :∃ (oc:Value) (od:Option Addr) (kV doc pm:Value) (an:Option Addr) (cdv ct:Value) (osl:Array (Option Value)),
   fd=W.fnOf x qual (gF st) (aH st) (aF st) dV kV doc pm an cdv ct∧K.lookup f=some ⟨oc,od,.func fd,osl⟩∧W.codeIn K cdv qual=true
 kp:W.keepIn K (.ref f)=true
noncomputable def Wk (Q:PK1):PK1:=fun x G=>∃ G2:Gh,(∀ a o,G2 a=some o→G a=some o)∧(Q x G2∨∃ p xs,x= .ref p∧G2 p=none∧G p=some (.lst xs)∧Q (.lst xs) G2)
theorem Wk.here {Q:PK1} {x:PV} {G:Gh} (q:Q x G):Wk Q x G:=⟨G,fun _ _ z=>z,.inl q⟩
theorem Wk.of {Q:PK1} {x:PV} {G G2:Gh} (q:Q x G2) (h:∀ a o,G2 a=some o→G a=some o):Wk Q x G:=⟨G2,h,.inl q⟩
theorem VO {E:Ev} {F Z Z1 H1:Hp} {G1:Gh} {Q':PK1} {Q:VK} {y:PV} {v:V} (kq:Kq E F Z Q' Q) (s1:aN Z Z1) (S1:Sim E F H1 Z1 G1) (r1:RP E Z1 y v) (w:Wk Q' y G1):Q v H1:=by
 obtain ⟨G2,hG,q1 | ⟨p,xs,e,n,hp,q1⟩⟩:=w
 · exact kq _ _ _ _ _ s1 (S1.weak hG) r1 q1
 · subst e;have e:v= .ref p:=r1;subst e;obtain ⟨z,o',ho,vs,e,t⟩:=S1.g _ _ hp;subst e;refine kq _ _ _ _ _ (s1.trans (aW z _)) ((S1.frz hp ho).weak fun a o q=>?_) (fH z t) q1;by_cases ea:a=p
   · subst ea; rw [n] at q; cases q
   · rw [zL ea]; exact hG a o q
noncomputable def bD (Q:PK1):jH:=⟨fun _ G=>Wk Q .non G,Wk Q,fun _ _=>False,fun _ _=>False⟩
structure bE (st:Stmt) (ps:List Str) (C:Cfg):Prop where
 sc:yJ C.N ps (aF st)
 nm:(aF st).names=C.names
 bk:C.blk=false
structure Ck (K:W.Frag) (E:Ev) (T:Tb):Prop where
 hK:E.K=K
 cls:UL E T.cs
 fld:∀ c f,(c,f)∈T.fl→Cls K (E.cls c)∧cA K (E.cls c) f
structure Xo (K:W.Frag) (mg:Str→Option Value) (E:Ev) (T:Tb):Prop where
 xi:∀ c n r,(c,n,r)∈T.xi→XAt K (E.cls c)∧((∃ a,mg n=some (.ref a)∧W.kitOne K (.ref (E.cls c)) (.ref a)=some r)∨∃ t,mg n=none∧bootBuiltins n=some (.type t)∧n≠"__name__"∧W.kitOne K (.ref (E.cls c)) (.type t)=some r)
 fx:∀ c f,(c,f)∈T.fx→XAt K (E.cls c)∧W.findIn K (.ref (E.cls c)) f=some none
theorem Xo.no {K:W.Frag} {mg:Str→Option Value} {E:Ev} {T:Tb} (h1:T.xi=[]) (h2:T.fx=[]):Xo K mg E T:=⟨(fun c n r h=>by rw [h1] at h; cases h),(fun c f h=>by rw [h2] at h; cases h)⟩
theorem Tf.no {P:Program} {w:World} {K:W.Frag} {mg:Str→Option Value} {base:Heap} {E:Ev} {T:Tb} {k:Nat} {C:Cfg} (h:C.tr=false):Tf P w K mg base E T k C:=⟨(fun z=>by rw [h] at z; cases z),(fun z=>by rw [h] at z; cases z),(fun z=>by rw [h] at z; cases z)⟩
theorem bI {P:Program} {w:World} {K:W.Frag} {mg:Str→Option Value} {base:Heap} {E:Ev} {T:Tb} {k n:Nat} {C:Cfg} {x qual:Str} {st:Stmt} {dV:Value} {f:Addr} {fd:FuncData} {ps:List Str} {sp:Sp3} {code:CS}
   (F:cH K x qual st dV f fd) (D:bE st ps C) (ck:Ck K E T) (gf:Gf P w K mg base E T k C) (hc:cSs n C (aH st)=some code) (xo:Xo K mg E T) (tf:Tf P w K mg base E T k C) (hz:C.rz=false) (hcm:C.cm=true→40≤k) (hrp:C.rp=true→79≤k)
   (len:∀ xs G Q,sp xs G Q→xs.length=ps.length) (hw:∀ xs G Q,sp xs G Q→wpS T code (bD Q) (aM C.N.length xs) G):bC P w K mg base CX0 (k + 2) f fd ps (gO E sp):=by
 obtain ⟨oc,od,kV,doc,pm,an,cdv,ct,osl,e,lk,hcd⟩:=F.ex;subst e;refine aHx lk hcd D.sc (by rintro vs H Q E' ⟨xs,Z,G,F',Q',r,S,q,kq⟩;rw [←r.length]; exact len xs G Q' q) fun A outer s H vs Q E' hr hsp=>?_;obtain ⟨xs,Z,G,F',Q',r,S,q,kq⟩:=hsp;have kn:Kn (ND CX0 P w K mg base C.N qual (aF st) f cdv A outer s H E').nox E T k C:=by
   refine ⟨⟨ck.hK,(fun z=>Option.isNone_iff_eq_none.mpr (hr.hd z)),hr,ck.cls,ck.fld⟩,rfl,D.sc.nd,D.nm,D.sc.kind,fun _ _=>rfl,fun y hy=>?_,PassesOwn.never,gf,fun _=>⟨rfl,rfl⟩,(fun z=>by rw [hz] at z; cases z),⟨xo.xi,xo.fx⟩,hcm,(fun z=>hr.gd (Nat.succ_le_succ (hrp z))),tf⟩;exact sX (n:=s.heap.objs.size + 1) (by rw [D.nm]; exact hy)
 have js:=(sns n k E T).ss _ C _ code kn hc F';refine ⟨_,js.nox,aM C.N.length xs,Z,G,bD Q',RSt.start r,S,hw xs G Q' q,⟨?_, ?_, ?_, ?_⟩⟩
 · rintro σ1 σ2 Z1 G1 H1 s1 S1 rs1 w;exact VO kq s1 S1 oE w
 · rintro y v Z1 G1 H1 s1 S1 r1 w;exact VO kq s1 S1 r1 w
 · rintro σ1 σ2 Z1 G1 H1 s1 S1 rs1 z; exact z
 · rintro σ1 σ2 Z1 G1 H1 s1 S1 rs1 z; exact z
def yY:Sp3:=fun xs G Q=>∃ ns:List Int,xs=[.scr ns]∧ns.length≤63∧∀ G',Q (.bl true) G'
noncomputable def HW (K:W.Frag):Sp:=fun vs H Q _=>∃ (p:Addr) (ns:List Int),vs=[.ref p]∧SqL K H p (ns.map V.int)∧ns.length≤63∧∀ H',Q (.bl true) H'
theorem aE4 {E:Ev} {vs:List V} {H:Hp} {Q:VK} {X:XK} (h0:aN E.z0 H) (hf:aN E.f0 fun _=>none) (h:HW E.K vs H Q X):gO E yY vs H Q X:=by
 obtain ⟨p,ns,e,hS,hl,q⟩:=h;subst e;refine ⟨[.scr ns],H,fun _=>none,fun _=>none,fun x _=>x= .bl true,⟨.ref p,[],rfl,⟨p,rfl,hS⟩,rfl⟩,⟨aN.refl H,(fun a o z=>nomatch z),(fun a o z=>nomatch z),h0,hf⟩,⟨ns,rfl,hl,fun _=>rfl⟩, ?_⟩;intro x v Z1 G1 H1 s1 S1 r1 e;subst e;have e:v= .bl true:=r1;subst e;exact q H1
theorem KZ {K:W.Frag} {H:Hp} {a:Addr} {ns:List Int} (hl:ns.length≤63) (_:PY H) (h:SqL K H a (ns.map V.int)):HW K [.ref a] H (fun v _=>v= .bl true) fun _ _ _=>False:=⟨a,ns,rfl,h,hl,fun _=>rfl⟩
theorem ZJ {K:W.Frag} {x qual:Str} {st:Stmt} {f:Addr} {oc:Value} {od an:Option Addr} {osl:Array (Option Value)} {dV kV doc pm cdv ct:Value} (l:K.lookup f=some ⟨oc,od,.func (W.fnOf x qual (gF st) (aH st) (aF st) dV kV doc pm an cdv ct),osl⟩)
   (c:W.codeIn K cdv qual=true) (k:W.keepIn K (.ref f)=true):cH K x qual st dV f (W.fnOf x qual (gF st) (aH st) (aF st) dV kV doc pm an cdv ct):=⟨⟨oc,od,kV,doc,pm,an,cdv,ct,osl,rfl,l,c⟩,k⟩
theorem cH.binds {K:W.Frag} {x qual:Str} {st:Stmt} {dV:Value} {f:Addr} {fd:FuncData} {ps:List Str} (F:cH K x qual st dV f fd)
   (h:∀ (kV doc pm:Value) (an:Option Addr) (cdv ct:Value) (s:Shared) (us:List Value),K.In s.heap→us.length=ps.length→BindsTo s (W.fnOf x qual (gF st) (aH st) (aF st) dV kV doc pm an cdv ct) ⟨us,[]⟩ (ps.zip us)):L2.aL K fd ps []:=by
 obtain ⟨oc,od,kV,doc,pm,an,cdv,ct,osl,rfl,lk,hcd⟩:=F.ex;intro s us hK hl;rw [List.append_nil] at hl ⊢;exact h kV doc pm an cdv ct s us hK hl
theorem cH.sh {K:W.Frag} {x qual:Str} {st:Stmt} {dV:Value} {f:Addr} {fd:FuncData} {ps:List Str} {n:Nat} {ks:List Str} {ar:List Ar} (F:cH K x qual st dV f fd) (hl:ar.length=ps.length)
   (h:∀ (kV doc pm:Value) (an:Option Addr) (cdv ct:Value) (s:Shared) (us ws:List Value),K.In s.heap→us.length=n→ws.length=ks.length→∃ bs,BindsTo s (W.fnOf x qual (gF st) (aH st) (aF st) dV kV doc pm an cdv ct) ⟨us,ks.zip ws⟩ (ps.zip bs)∧∀ vs zs,aO vs us→aO zs ws→aO (ar.map (Ar.valV (vs ++ zs))) bs):hZ K fd ps n ks ar:=by
 obtain ⟨oc,od,kV,doc,pm,an,cdv,ct,osl,rfl,lk,hcd⟩:=F.ex;exact ⟨hl,h kV doc pm an cdv ct⟩
theorem ac {α:Type} {P:α→Prop} {x:α} {l:List α} (h:P x) (t:∀ y∈l,P y):∀ y∈x :: l,P y:=List.forall_mem_cons.mpr ⟨h,t⟩
theorem an {α:Type} {P:α→Prop}:∀ y∈([]:List α),P y:=fun _ h=>nomatch h
theorem FM {E:Ev} {mg:Str→Option Value} {x:Str} {i:Int} {t:Tok} (h:mg x=some (.int i t)):∃ u v,mg x=some u∧aQ v u∧RP E (fun _=>none) (.int i) v:=⟨_,.int i,h,⟨t,rfl⟩,rfl⟩
theorem lJ {E:Ev} {mg:Str→Option Value} {x:Str} {c:String} {a:Addr} (h:mg x=some (.ref a)) (e:E.cls c=a):∃ u v,mg x=some u∧aQ v u∧RP E (fun _=>none) (.cl c) v:=⟨_,.ref a,h,rfl,by rw [←e]; rfl⟩
theorem YU {E:Ev} {K:W.Frag} {mg:Str→Option Value} {x:Str} {a:Addr} {i j:Int} {t u:Tok} {n:Nat} {sl:Array (Option Value)} (hK:E.K=K) (h:mg x=some (.ref a)) (l:K.lookup a=some ⟨.type "tuple",none,.seq #[.int i t,.int j u] n,sl⟩):∃ u v,mg x=some u∧aQ v u∧RP E (fun _=>none) (.tup [.int i,.int j]) v :=
 ⟨_,.ref a,h,rfl,a,[.int i,.int j],rfl,.inr ⟨_,_,_,by rw [hK]; exact l,rfl,rfl,by show 2≤sizeLine; decide,.cons ⟨t,rfl⟩ (.cons ⟨u,rfl⟩ .nil),rfl⟩,_,_,rfl,rfl,_,_,rfl,rfl,rfl⟩
theorem WG {E:Ev} {K:W.Frag} {mg:Str→Option Value} {x:Str} {a:Addr} {i j k:Int} {t u v:Tok} {n:Nat} {sl:Array (Option Value)} (hK:E.K=K) (h:mg x=some (.ref a)) (l:K.lookup a=some ⟨.type "tuple",none,.seq #[.int i t,.int j u,.int k v] n,sl⟩):∃ u v,mg x=some u∧aQ v u∧RP E (fun _=>none) (.tup [.int i,.int j,.int k]) v :=
 ⟨_,.ref a,h,rfl,a,[.int i,.int j,.int k],rfl,.inr ⟨_,_,_,by rw [hK]; exact l,rfl,rfl,by show 3≤sizeLine; decide,.cons ⟨t,rfl⟩ (.cons ⟨u,rfl⟩ (.cons ⟨v,rfl⟩ .nil)),rfl⟩,_,_,rfl,rfl,_,_,rfl,rfl,_,_,rfl,rfl,rfl⟩
theorem GV {E:Ev} {mg:Str→Option Value} {x:Str} {y z:PV} (h:∃ u v,mg x=some u∧aQ v u∧RP E (fun _=>none) y v) (e:z=y):∃ u v,mg x=some u∧aQ v u∧RP E (fun _=>none) z v:=e▸h
end L3
namespace L3
open PySem PySem.W PyProof.Rows
theorem aGw {p q:Program} {loose:List Str} {Xt:Shared→Bool} {α:Type} {Yf:Shared→α} {Ya:World→α} {N:Nat} {g0:Bool} {H₀:Params→Heap} {gs₀:Array GenState} {d₀:Drawn} {k₀ m₀:Nat} {ann:Option Value} {M:Nat}
   (open_:∀ w:World,(fencedOpening treeTable p w N).map (fun s=>(s.heap,s.gens,s.drawn,s.toks))=some (H₀ w.params,gs₀,d₀,k₀))
   (size:∀ w:World,((H₀ w.params).isNs mainGlobals && gs₀.size == 0,(H₀ w.params).objs.size,(H₀ w.params).nsMap mainGlobals "__annotations__")=(true,m₀,ann)) (le:Nat.ble M N=true)
   (run:∀ (w:World) (os:OsState),∃ s₁,topRun treeTable p w m₀ ann M ⟨H₀ w.params,gs₀,d₀,k₀,os⟩ (topStub p)=some s₁∧
     (staticsOk (importedModules p.main.body) (H₀ w.params) s₁.heap && namesBound p s₁.heap && gensDone s₁ && laidKept (H₀ w.params) s₁.heap,openSeen q loose (importedModules p.main.body) Xt g0 s₁,Yf s₁)=(true,openGood q loose,Ya w)):LeftO p q loose Xt Yf Ya N g0:=fun w=>by
 obtain ⟨⟨h,gs,d,k,os⟩,e,e'⟩:=Option.map_eq_some_iff.mp (open_ w);obtain ⟨rfl,rfl,rfl,rfl⟩:h=H₀ w.params∧gs=gs₀∧d=d₀∧k=k₀:=by simpa using e'
 obtain ⟨z1,z2,z3⟩:_∧_∧_:=by simpa only [Prod.mk.injEq] using size w
 obtain ⟨s₁,r,l⟩:=run w os;obtain ⟨l1,l2,l3⟩:_∧_∧_:=by simpa only [Prod.mk.injEq] using l
 have r:=topRun_mono (N - M) _ _ _ _ r;rw [show M + (N - M)=N by have:=Nat.le_of_ble_eq_true le; omega] at r;have t:topFrom treeTable p w N ⟨H₀ w.params,gs,d,k,os⟩=some s₁:=by
   unfold topFrom;dsimp only;rw [z1,z2,z3,r];show (match staticsOk (importedModules p.main.body) (H₀ w.params) s₁.heap && namesBound p s₁.heap && gensDone s₁ && laidKept (H₀ w.params) s₁.heap with | true=>_ | false=>_)=_;rw [l1]
 unfold openEnds;rw [e];show (topFrom treeTable p w N _).map _=_;rw [t];exact congrArg some (Prod.ext l2 l3)
noncomputable def aHl (o:Option (Shared×Thread)) (s:Shared):Shared:=match o with | some x=>x.1 | none=>s
noncomputable def aIv (o:Option (Flow×Shared×Code×Pos)) (s:Shared):Shared:=match o with | some x=>x.2.1 | none=>s
end L3
namespace L3
open PySem PySem.Spec
open PyProof.Rows hiding St
open L2
section
variable {G:Gh} {Q:PK1} {x y:PV} {i j:Int} {s:Str} {b c:Bool} {a:Addr}
theorem sY {C:Int→Int→Prop} {g:Int→Int→PV}:pI C g (.int i) (.int j) G Q=(C i j∧Q (g i j) G):=rfl
theorem jW:AM .Add=zZ:=rfl
theorem DG:AM .Sub=pI (fun _ _=>True) fun i j=>.int (i - j):=rfl
theorem AE:AM .Mult (.int i) (.int j) G Q=(AS i j∧Q (.int (i * j)) G):=rfl
theorem PN:AM .FloorDiv=pI xC fun i j=>.int (i / j):=rfl
theorem jN:AM .Mod=pI aBw fun i j=>.int (i % j):=rfl
theorem PM:AM .Pow=pI RV fun i j=>.int (i ^ j.toNat):=rfl
theorem nD:zZ (.int i) (.int j) G Q=Q (.int (i + j)) G:=rfl
theorem aGu {t:Str}:zZ (.str s) (.str t) G Q=(s.length + t.length≤sizeLine∧Q (.str (s ++ t)) G):=rfl
theorem DX {xs ys:List PV}:zZ (.lst xs) (.lst ys) G Q=(xs.length + ys.length≤sizeLine∧Q (.lst (xs ++ ys)) G):=by
 show (∃ xs' ys',some xs=some xs'∧some ys=some ys'∧_)=_;exact propext ⟨by rintro ⟨_,_,e1,e2,h⟩;cases e1; cases e2; exact h,fun h=>⟨_,_,rfl,rfl,h⟩⟩
theorem CC {xs ys:List PV}:zZ (.tup xs) (.tup ys) G Q=(xs.length + ys.length≤sizeLine∧Q (.tup (xs ++ ys)) G):=rfl
theorem IN:nH .Lt=pI (fun _ _=>True) fun i j=>.bl (decide (i < j)):=rfl
theorem WF:nH .LtE=pI (fun _ _=>True) fun i j=>.bl (decide (i≤j)):=rfl
theorem IH:nH .Gt=pI (fun _ _=>True) fun i j=>.bl (decide (j < i)):=rfl
theorem yE:nH .GtE=pI (fun _ _=>True) fun i j=>.bl (decide (j≤i)):=rfl
theorem iN:nH .Eq=pEq false:=rfl
theorem IO:nH .NotEq=pEq true:=rfl
theorem xR:nH .Is=pIs false:=rfl
theorem aII:nH .IsNot=pIs true:=rfl
theorem gP:pEq false (.int i) (.int j) G Q=Q (.bl (decide (i=j))) G:=by
 show (true=true∧true=true∧Q (.bl (i == j)) G)=_;simp only [true_and]; congr 2
theorem DO:pEq true (.int i) (.int j) G Q=Q (.bl (!decide (i=j))) G:=by
 show (true=true∧true=true∧Q (.bl (!(i == j))) G)=_;simp only [true_and]; congr 2
theorem gH {R:Bool→Gh→Prop}:vW (.bl b) G R=R b G:=rfl
theorem aHB {R:Bool→Gh→Prop}:vW .non G R=R false G:=rfl
theorem aFD {R:Bool→Gh→Prop} {xs:List PV}:vW (.tup xs) G R=R (!xs.isEmpty) G:=rfl
theorem aIj:aB7 (.int i) G Q=Q (.int (-i)) G:=rfl
theorem BM:pIs false .non .non G Q=Q (.bl true) G:=propext ⟨fun h=>h.elim (fun z=>z.2) (fun z=>absurd rfl z.1),fun h=>.inl ⟨rfl,h⟩⟩
theorem XL:pIs false (.bl c) (.bl b) G Q=Q (.bl (c == b)) G:=propext ⟨by rintro ⟨_,e,q⟩;cases e; exact q,fun q=>⟨_,rfl,q⟩⟩
theorem eY {xs:List PV}:oQ (.tup xs) (.int i) G Q=(∃ v,atI xs i=some v∧Q v G):=rfl
theorem SD {ns:List Int}:oQ (.scr ns) (.int i) G Q=(∃ n,atI ns i=some n∧Q (.int n) G):=rfl
theorem tL {xs:List PV}:oQ (.lst xs) (.int i) G Q=(∃ v,atI xs i=some v∧Q v G):=by
 show (∃ ys v,some xs=some ys∧_)=_;exact propext ⟨by rintro ⟨_,v,e1,h⟩;cases e1; exact ⟨v,h⟩,by rintro ⟨v,h⟩;exact ⟨_,v,rfl,h⟩⟩
theorem kA {xs:List PV} (h:G a=some (.lst xs)):bQ G (.ref a)=some xs:=by unfold bQ; dsimp only; rw [h]
theorem wX {xs:List PV}:bQ G (.lst xs)=some xs:=rfl
theorem oM {xs:List PV}:bQ (gup G a (.lst xs)) (.ref a)=some xs:=kA aR
theorem zS {xs:List PV} (h:G a=some (.lst xs)):oQ (.ref a) (.int i) G Q=(∃ v,atI xs i=some v∧Q v G):=by
 show (∃ ys v,bQ G (.ref a)=some ys∧_)=_;rw [kA h];exact propext ⟨by rintro ⟨_,v,e1,h⟩;cases e1; exact ⟨v,h⟩,by rintro ⟨v,h⟩;exact ⟨_,v,rfl,h⟩⟩
theorem sP {xs:List PV}:oQ (.ref a) (.int i) (gup G a (.lst xs)) Q=(∃ v,atI xs i=some v∧Q v (gup G a (.lst xs))):=zS aR
theorem nA {xs:List PV} {v:PV} {R:Gh→Prop} (h:G a=some (.lst xs)):WY (.ref a) (.int i) v G R=(∃ j,ixN xs.length i=some j∧R (gup G a (.lst (xs.set j v)))):=propext
 ⟨by rintro ⟨_,_,_,j,e1,e2,e3,e4,r⟩;cases e1; cases e2; rw [h] at e3; cases e3; exact ⟨j,e4,r⟩,by rintro ⟨j,e4,r⟩;exact ⟨_,_,_,j,rfl,rfl,h,e4,r⟩⟩
theorem QR {xs:List PV} {v:PV} {R:Gh→Prop}:WY (.ref a) (.int i) v (gup G a (.lst xs)) R=(∃ j,ixN xs.length i=some j∧R (gup G a (.lst (xs.set j v)))):=by
 rw [nA aR]; simp only [eW]
variable {cs:List String}
theorem UJ {xs:List PV}:dU cs .len [.tup xs] G Q=Q (.int xs.length) G:=by
 refine propext ⟨fun h=>?_,fun q=>.inl ⟨_,rfl,q⟩⟩;rcases h with ⟨ys,e,q⟩ | ⟨ys,e,q⟩ | ⟨z,e,_⟩ | ⟨ys,e,q⟩
 · cases e; exact q
 · cases e
 · cases e
 · cases e
theorem BB {xs:List Int}:dU cs .len [.scr xs] G Q=Q (.int xs.length) G:=by
 refine propext ⟨fun h=>?_,fun q=>.inr (.inl ⟨_,rfl,q⟩)⟩;rcases h with ⟨ys,e,q⟩ | ⟨ys,e,q⟩ | ⟨z,e,_⟩ | ⟨ys,e,q⟩
 · cases e
 · cases e; exact q
 · cases e
 · cases e
theorem VF {xs:List PV}:dU cs .len [.lst xs] G Q=Q (.int xs.length) G:=by
 refine propext ⟨fun h=>?_,fun q=>.inr (.inr (.inr ⟨_,rfl,q⟩))⟩;rcases h with ⟨ys,e,q⟩ | ⟨ys,e,q⟩ | ⟨z,e,_⟩ | ⟨ys,e,q⟩
 · cases e
 · cases e
 · cases e
 · cases e; exact q
theorem CF:dU cs .abs [.int i] G Q=Q (.int (i.natAbs:Int)) G:=rfl
theorem UC:dU cs .max [.int i,.int j] G Q=Q (.int (max i j)) G:=rfl
theorem VT:dU cs .min [.int i,.int j] G Q=Q (.int (min i j)) G:=rfl
theorem aHJ:dU cs .int [.int i] G Q=Q (.int i) G:=rfl
theorem GX:dU cs .int [.bl b] G Q=Q (.int (if b then 1 else 0)) G:=rfl
theorem xW {n T:String} (h:pD x G=some n):dU cs .isi [x,.ty T] G Q=(T∈kR∧Q (.bl (vK n T)) G):=propext
 ⟨by rintro ⟨hT,h'⟩;exact ⟨hT,by
   rcases h' with ⟨m,e,q⟩ | ⟨c,e,_,q⟩
   · rw [h] at e; cases e; exact q
   · exfalso; cases x <;> first | (cases e; done) | skip
     · cases h
     · unfold pD at h; unfold KJ at e; dsimp only at h e;split at h
       · rename_i q; rw [q] at e; cases e
       · cases h⟩,by rintro ⟨hT,q⟩;exact ⟨hT,.inl ⟨n,h,q⟩⟩⟩
theorem aGl:pD (.int i) G=some "int":=rfl
theorem aIQ:pD (.bl b) G=some "bool":=rfl
theorem aHk:pD (.str s) G=some "str":=rfl
theorem aH3:pD .non G=some "NoneType":=rfl
theorem aFX {xs:List PV}:pD (.tup xs) G=some "tuple":=rfl
theorem aHn {xs:List PV}:pD (.lst xs) G=some "list":=rfl
theorem TL {T:String}:dU cs .isi [.int i,.ty T] G Q=(T∈kR∧Q (.bl (vK "int" T)) G):=xW rfl
theorem PL {T:String} {xs:List PV}:dU cs .isi [.tup xs,.ty T] G Q=(T∈kR∧Q (.bl (vK "tuple" T)) G):=xW rfl
theorem XY {T:String}:dU cs .isi [.bl b,.ty T] G Q=(T∈kR∧Q (.bl (vK "bool" T)) G):=xW rfl
theorem aAs {c:String} {ns:List Str} {xs:List PV}:dU cs .isi [.ob c ns xs,.cl c] G Q=(c∈cs∧Q (.bl true) G):=propext
 ⟨by rintro ⟨hc,h'⟩;exact ⟨hc,by
   rcases h' with ⟨m,e,q⟩ | ⟨c',e,_,q⟩
   · cases e
   · cases e; rw [decide_eq_true rfl] at q; exact q⟩,by rintro ⟨hc,q⟩;exact ⟨hc,.inr ⟨c,rfl,hc,by rw [decide_eq_true rfl]; exact q⟩⟩⟩
theorem VD {xs:List PV} (h:G a=some (.lst xs)):dU cs .tuple [.ref a] G Q=Q (.tup xs) G:=propext
 ⟨fun h'=>by
   rcases h' with ⟨ys,e,q⟩ | ⟨ys,e,q⟩
   · cases e
   · rw [kA h] at e; cases e; exact q,fun q=>.inr ⟨_,kA h,q⟩⟩
theorem jS {xs:List PV}:dU cs .tuple [.ref a] (gup G a (.lst xs)) Q=Q (.tup xs) (gup G a (.lst xs)):=VD aR
theorem UF {xs:List PV}:dU cs .all [.lst xs] G Q=(∃ b,KC xs=some b∧Q (.bl b) G):=propext
 ⟨by rintro ⟨_,b,e,eb,q⟩;cases e; exact ⟨b,eb,q⟩,by rintro ⟨b,eb,q⟩;exact ⟨_,b,rfl,eb,q⟩⟩
theorem oV {xs:List PV}:vD true G xs Q= ∀ p,G p=none→Q (.ref p) (gup G p (.lst xs)):=rfl
theorem iE {xs:List PV}:vD false G xs Q=Q (.lst xs) G:=rfl
theorem BN {xs:List PV} {R:(Gh→Prop)→List PV→Gh→Prop}:OM (.tup xs) G R=R (fun _=>True) xs G:=rfl
theorem AG {xs:List PV} {R:(Gh→Prop)→List PV→Gh→Prop}:OM (.lst xs) G R=R (fun _=>True) xs G:=rfl
theorem aIw {xs:List Int} {R:(Gh→Prop)→List PV→Gh→Prop}:OM (.scr xs) G R=R (fun _=>True) (xs.map .int) G:=rfl
theorem GU {α:Type} {v:α} {R:α→Prop}:(∃ c,some v=some c∧R c)=R v:=propext ⟨by rintro ⟨_,e,r⟩;cases e; exact r,fun r=>⟨v,rfl,r⟩⟩
end
theorem at0 {α:Type} {x:α} {xs:List α}:atI (x :: xs) 0=some x:=dX (xs:=x :: xs) (j:=0) rfl
theorem at1 {α:Type} {x y:α} {xs:List α}:atI (x :: y :: xs) 1=some y:=dX (xs:=x :: y :: xs) (j:=1) rfl
theorem at2 {α:Type} {x y z:α} {xs:List α}:atI (x :: y :: z :: xs) 2=some z:=dX (xs:=x :: y :: z :: xs) (j:=2) rfl
theorem at3 {α:Type} {x y z u:α} {xs:List α}:atI (x :: y :: z :: u :: xs) 3=some u:=dX (xs:=x :: y :: z :: u :: xs) (j:=3) rfl
theorem at4 {α:Type} {x y z u v:α} {xs:List α}:atI (x :: y :: z :: u :: v :: xs) 4=some v:=dX (xs:=x :: y :: z :: u :: v :: xs) (j:=4) rfl
theorem aIR {Q:PK1}:(bD Q).rt=Wk Q:=rfl
theorem aIS {Q:PK1} {σ:PSt} {G:Gh}:(bD Q).nx σ G=Wk Q .non G:=rfl
theorem aY:("int"∈kR)=True∧("bool"∈kR)=True∧("tuple"∈kR)=True∧("str"∈kR)=True∧("list"∈kR)=True:=⟨eq_true (by decide),eq_true (by decide),eq_true (by decide),eq_true (by decide),eq_true (by decide)⟩
theorem aCz:vK "int" "int"=true:=by decide
theorem aDo:vK "int" "bool"=false:=by decide
theorem SR:vK "tuple" "tuple"=true:=by decide
theorem aD2:vK "bool" "bool"=true:=by decide
theorem sz2:(2:Nat)≤sizeLine:=by decide
theorem sz1:(1:Nat)≤sizeLine:=by decide
theorem sz3:(3:Nat)≤sizeLine:=by decide
noncomputable def FQ (q:Rat):PV:=.tup [.int q.num,.int (q.den:Int)]
def eD:Sp3:=fun xs G Q=>∃ i,xs=[.int i]∧Q (.bl true) G
def gW:Sp3:=fun xs G Q=>∃ i j:Int,xs=[.int i,.int j]∧0≤i∧0≤j∧Q (.int (Int.gcd i j)) G
def hU:Sp3:=fun xs G Q=>∃ q,xs=[FQ q]∧Q (.bl true) G
def fK:Sp3:=fun xs G Q=>∃ t b:Int,xs=[.int t,.int b]∧b≠0∧Sm 9000 b∧Q (FQ (Rat.divInt t b)) G
def Bd (n:Nat) (q:Rat):Prop:=Sm n q.num∧Sm n (q.den:Int)
theorem Bd.mono {n m:Nat} {q:Rat} (h:Bd n q) (e:n≤m):Bd m q:=⟨h.1.mono e,h.2.mono e⟩
theorem QF {t b:Int} (hb:b≠0):0 < b.gcd t:=Int.gcd_pos_of_ne_zero_left _ hb
theorem Bd.divInt {n:Nat} {t b:Int} (ht:Sm n t) (hb:Sm n b) (h0:b≠0):Bd n (Rat.divInt t b):=by
 have gp:(0:Int) < (b.gcd t:Int):=by have:=QF (t:=t) h0; omega
 constructor
 · rw [Rat.num_divInt];have e:Sm n (b.sign * t):=by
     rcases Int.lt_trichotomy b 0 with z | z | z
     · rw [Int.sign_eq_neg_one_of_neg z,Int.neg_one_mul]; exact ht.neg
     · exact absurd z h0
     · rw [Int.sign_eq_one_of_pos z,Int.one_mul]; exact ht
   exact e.div gp
 · rw [Rat.den_divInt,if_neg h0];have e:Sm n ((b.natAbs:Int)):=by unfold Sm at *; omega
   have:=e.div gp;rw [Int.natCast_ediv];exact this
theorem aFd {t b:Int} (hb:0 < b):FQ (Rat.divInt t b)= .tup [.int (t / (Int.gcd t b:Int)),.int (b / (Int.gcd t b:Int))]:=by
 unfold FQ;rw [Rat.num_divInt,Rat.den_divInt,if_neg (by omega),Int.sign_eq_one_of_pos hb,Int.one_mul,Int.gcd_comm,Int.natCast_ediv];have:(b.natAbs:Int)=b:=by omega
 rw [this]
theorem aIb (a b:Rat):Rat.divInt (a.num * (b.den:Int) - b.num * (a.den:Int)) ((a.den:Int) * (b.den:Int))=a - b:=by
 rw [Rat.sub_def',←Rat.divInt_ofNat,Int.natCast_mul]
theorem OI {q:Rat}:(0:Int) < q.den:=by have:=q.den_pos; omega
theorem TZ {i:Int}:PV.tup [.int i,.int 1]=FQ (i:Rat):=rfl
theorem smK {x:Int} {n:Nat} (a: -1000000000000≤x) (b:x < 1000000000000) (e:41≤n):Sm n x:=by
 have:Sm 41 x:=by unfold Sm; omega
 exact this.mono e
def YO:Sp3:=fun xs G Q=>∃ qs:List Rat,xs=[.tup (qs.map FQ)]∧qs.length≤2∧Q .non G
def sF:Sp3:=fun xs G Q=>∃ a b,xs=[FQ a,FQ b]∧Bd 4000 a∧Bd 4000 b∧Q (FQ (a + b)) G
def mQ:Sp3:=fun xs G Q=>∃ a b,xs=[FQ a,FQ b]∧Bd 4000 a∧Bd 4000 b∧Q (FQ (a - b)) G
def mK:Sp3:=fun xs G Q=>∃ a b,xs=[FQ a,FQ b]∧Bd 4000 a∧Bd 4000 b∧Q (FQ (a * b)) G
def sM:Sp3:=fun xs G Q=>∃ a b,xs=[FQ a,FQ b]∧Bd 4000 a∧Bd 4000 b∧b≠0∧Q (FQ (a / b)) G
def rP:Sp3:=fun xs G Q=>∃ a b,xs=[FQ a,FQ b]∧Bd 4000 a∧Bd 4000 b∧Q (.bl (decide (a < b))) G
noncomputable def nw (q:Rat):Int:=(2 * q.num + (q.den:Int)) / (2 * (q.den:Int))
def aDa:Sp3:=fun xs G Q=>∃ a,xs=[FQ a]∧Bd 8900 a∧Q (.int (nw a)) G
def eP:Sp3:=fun xs G Q=>∃ a,xs=[FQ a]∧0≤a∧a≤1∧Q (.bl true) G
noncomputable def SH (a b c:Rat):PV:=.ob "Shade" ["ember","leaf","sky"] [FQ a,FQ b,FQ c]
def In1 (a:Rat):Prop:=0≤a∧a≤1
def jZ:Sp3:=fun xs G Q=>∃ a b c,xs=[FQ a,FQ b,FQ c]∧In1 a∧In1 b∧In1 c∧Q (SH a b c) G
def jB:Sp3:=fun xs G Q=>∃ p a b c,xs=[.ref p,FQ a,FQ b,FQ c]∧G p=some (.ins "Shade" [] [])∧In1 a∧In1 b∧In1 c∧Q .non (gup G p (.ins "Shade" ["ember","leaf","sky"] [FQ a,FQ b,FQ c]))
def NK:Sp3:=fun xs G Q=>∃ a b c,xs=[SH a b c]∧Q (.bl true) G
def iI:Sp3:=fun xs G Q=>∃ a b c,xs=[SH a b c]∧Q .non G
def cF:Sp3:=fun xs G Q=>∃ a b c,xs=[SH a b c]∧Q (.tup [FQ a,FQ b,FQ c]) G
def xM:Sp3:=fun xs G Q=>∃ x a b c,xs=[x]∧bQ G x=some [FQ a,FQ b,FQ c]∧In1 a∧In1 b∧In1 c∧Q (SH a b c) G
def UH:Sp3:=fun xs G Q=>∃ g:Int,xs=[.int g]∧1≤g∧g≤1000∧Q .non G
def aCL:Sp3:=fun xs G Q=>∃ g:Int,xs=[.int g]∧1≤g∧g≤1000∧Q (.bl true) G
def SX:Sp3:=fun xs G Q=>∃ s g:Int,xs=[.int s,.int g]∧0≤s∧s≤g∧Q (.bl true) G
def GA:Sp3:=fun xs G Q=>∃ s g:Int,xs=[.int s,.int g]∧0≤s∧s≤g∧Q .non G
noncomputable def stp (a:Rat) (g:Int):PV:=.int (nw (a * (g:Rat)))
def MY:Sp3:=fun xs G Q=>∃ a b c g,xs=[SH a b c,.int g]∧1≤g∧g≤1000∧Bd 3000 a∧Bd 3000 b∧Bd 3000 c∧Q (.tup [stp a g,stp b g,stp c g]) G
noncomputable def aDL (s g:Int):Rat:=Rat.divInt (max (2 * s - 1) 0) (2 * g)
noncomputable def aEU (s g:Int):Rat:=if s=g then 1 else Rat.divInt (2 * s + 1) (2 * g)
def aEP:Sp3:=fun xs G Q=>∃ s g:Int,xs=[.int s,.int g]∧1≤g∧g≤1000∧0≤s∧s≤g∧Q (.tup [FQ (aDL s g),FQ (aEU s g),.bl (decide (s=g))]) G
structure PT (T:Tb):Prop where
 is_whole:T.S "is_whole"=eD
 common:T.S "common"=gW
 is_fraction:T.S "is_fraction"=hU
 lowest:T.S "lowest"=fK
 need_fractions:T.S "need_fractions"=YO
 plus:T.S "plus"=sF
 minus:T.S "minus"=mQ
 times:T.S "times"=mK
 over:T.S "over"=sM
 below:T.S "below"=rP
 nearest_whole:T.S "nearest_whole"=aDa
 is_share:T.S "is_share"=eP
 shade:T.S "Shade"=jZ
 shadeI:T.S "Shade.__init__"=jB
 is_shade:T.S "is_shade"=NK
 need_shade:T.S "need_shade"=iI
 shares_of:T.S "shares_of"=cF
 shade_of:T.S "shade_of"=xM
 is_grade:T.S "is_grade"=aCL
 need_grade:T.S "need_grade"=UH
 is_step:T.S "is_step"=SX
 need_step:T.S "need_step"=GA
 printed:T.S "printed"=MY
 span_of:T.S "span_of"=aEP
 gv_ONE:T.gv "ONE"=FQ 1
 gv_ZERO:T.gv "ZERO"=FQ 0
 gv_MOST_GRADE:T.gv "MOST_GRADE"= .int 1000
 gv_Shade:T.gv "Shade"= .cl "Shade"
 cs: "Shade"∈T.cs
 fl_e:("Shade",("ember":Str))∈T.fl
 fl_l:("Shade",("leaf":Str))∈T.fl
 fl_s:("Shade",("sky":Str))∈T.fl
 ty_int:T.gv "int"= .ty "int"
 ty_bool:T.gv "bool"= .ty "bool"
 ty_tuple:T.gv "tuple"= .ty "tuple"
theorem aAy {q:Rat} {G:Gh} {Q:PK1}:oQ (FQ q) (.int 0) G Q=Q (.int q.num) G:=by unfold FQ; rw [eY,at0,GU]
theorem aC1 {q:Rat} {G:Gh} {Q:PK1}:oQ (FQ q) (.int 1) G Q=Q (.int q.den) G:=by unfold FQ; rw [eY,at1,GU]
theorem tI {a b:Rat}:(FQ a=FQ b)=(a=b):=propext ⟨fun h=>by
 unfold FQ at h;injection h with h;injection h with h1 h;injection h with h2 _;injection h1 with h1;injection h2 with h2;exact Rat.ext h1 (by omega),fun h=>by rw [h]⟩
theorem aCm {q:Rat}:(1:Int)≤q.den:=by have:=q.den_pos; omega
theorem aDR {q:Rat}:Int.gcd (q.num.natAbs:Int) (q.den:Int)=1:=q.reduced
theorem VE {chk:Gh→Prop} {g:PTG} {tb:PTS} {D:jH} {σ:PSt} {G:Gh}:pY chk g tb D [] σ G=(chk G∧D.nx σ G):=rfl
theorem NG {chk:Gh→Prop} {g:PTG} {tb:PTS} {D:jH} {x:PV} {r:List PV} {σ:PSt} {G:Gh}:pY chk g tb D (x :: r) σ G=(chk G∧g x σ G fun σ2 G2=>tb { D with nx:=pY chk g tb D r,ct:=pY chk g tb D r,bk:=D.nx } σ2 G2):=rfl
theorem hX {chk:Gh→Prop} {g:PTG} {ts:PTT} {te:PTE} {acc:List PV} {σ:PSt} {G:Gh} {Q:List PV→Gh→Prop}:gI chk g ts te [] acc σ G Q=(chk G∧Q acc G):=rfl
theorem fU {chk:Gh→Prop} {g:PTG} {ts:PTT} {te:PTE} {x:PV} {r acc:List PV} {σ:PSt} {G:Gh} {Q:List PV→Gh→Prop}:gI chk g ts te (x :: r) acc σ G Q=(chk G∧g x σ G fun σ2 G2=>ts σ2 G2 fun ok G3=>if ok=true then te σ2 G3 fun y G4=>gI chk g ts te r (acc ++ [y]) σ2 G4 Q else gI chk g ts te r acc σ2 G3 Q):=rfl
theorem aKA {a:PV}:DV [a]=[.tup [.int 0,a]]:=rfl
theorem aKx {a b:PV}:DV [a,b]=[.tup [.int 0,a],.tup [.int 1,b]]:=rfl
theorem aIG {a b c:PV}:DV [a,b,c]=[.tup [.int 0,a],.tup [.int 1,b],.tup [.int 2,c]]:=rfl
theorem aKy:zK 0 (3:Int).toNat=[.int 0,.int 1,.int 2]:=rfl
theorem EY:zK 0 3=[.int 0,.int 1,.int 2]:=rfl
theorem zO {a b c a' b' c':Rat}:(SH a b c=SH a' b' c')=(a=a'∧b=b'∧c=c'):=propext ⟨fun h=>by
 unfold SH at h;injection h with _ _ h;injection h with h1 h;injection h with h2 h;injection h with h3 _;rw [tI] at h1 h2 h3;exact ⟨h1,h2,h3⟩,by rintro ⟨h1,h2,h3⟩;rw [h1,h2,h3]⟩
section
variable {T:Tb}
noncomputable def kX:CS:=(.ret (.an (.blt .isi (.cons (.var 0) (.cons (.glo "int") .nil))) (.no (.blt .isi (.cons (.var 0) (.cons (.glo "bool") .nil))))))
theorem CO {x y:Int} (hx:0≤x) (hy:0 < y):Int.gcd y (x % y)=Int.gcd x y:=by
 rw [Int.gcd_comm x y];show y.natAbs.gcd (x % y).natAbs=y.natAbs.gcd x.natAbs;have e:(x % y).natAbs=x.natAbs % y.natAbs:=by rw [Int.natAbs_emod_of_nonneg hx]
 rw [e,Nat.gcd_rec y.natAbs x.natAbs,Nat.gcd_comm]
noncomputable def pN:CS:=(.seq (.wh (.tsb (.cmp .NotEq (.var 1) (.int 0))) (.par 0 1 (.var 1) (.bin .Mod (.var 0) (.var 1))))
 (.ret (.var 0)))
noncomputable def gN:CS:=(.seq (.iff (.oo (.no (.tst (.blt .isi (.cons (.var 0) (.cons (.glo "tuple") .nil))))) (.tsb (.cmp .NotEq (.blt .len (.cons (.var 0) .nil)) (.int 2)))) (.ret (.bl false)) .nil)
 (.seq (.asg (.gt 2 (.cons (.gn 1) (.cons (.gn 2) .nil))) (.var 0))
 (.ret (.an (.cal "is_whole" (.cons (.var 1) .nil)) (.an (.cal "is_whole" (.cons (.var 2) .nil)) (.an (.cmp .GtE (.var 2) (.int 1)) (.cmp .Eq (.cal "common" (.cons (.blt .abs (.cons (.var 1) .nil)) (.cons (.var 2) .nil))) (.int 1))))))))
theorem aA1 (t b:Int):Int.gcd (t.natAbs:Int) b=Int.gcd t b:=by show (t.natAbs:Int).natAbs.gcd _=_; rw [Int.natAbs_natCast]; rfl
theorem aAE {t b:Int} (hb:0 < b) (sb:Sm 9000 b):xC t (Int.gcd t b:Int)∧xC b (Int.gcd t b:Int):=by
 have gp:(0:Int) < (Int.gcd t b:Int):=by have:=Int.gcd_pos_of_ne_zero_right t (show b≠0 by omega); omega
 have gl:(Int.gcd t b:Int)≤b:=Int.le_of_dvd hb (Int.gcd_dvd_right _ _);have sg:Sm 9000 (Int.gcd t b:Int):=sb.le (by omega) gl;exact ⟨YD gp sg,YD gp sg⟩
end
section
variable {T:Tb}
noncomputable def lG:CS:=(.ret (.an (.cal "is_fraction" (.cons (.var 0) .nil)) (.chn .LtE .LtE (.int 0) (.idx (.var 0) (.int 0)) (.idx (.var 0) (.int 1)))))
theorem FT {a:Rat} (h:0≤a):0≤a.num:=Rat.num_nonneg.mpr h
theorem aDI {a:Rat} (h:a≤1):a.num≤(a.den:Int):=by
 have:=(Rat.le_iff a 1).mp h;simpa using this
noncomputable def lH:CS:=(.ret (.blt .isi (.cons (.var 0) (.cons (.glo "Shade") .nil))))
theorem SE {a b c:Rat} {G:Gh} {Q:PK1} {cs:List String}:dU cs .isi [SH a b c,.cl "Shade"] G Q=("Shade"∈cs∧Q (.bl true) G):=aAs
noncomputable def iW:CS:=(.iff (.no (.tst (.cal "is_shade" (.cons (.var 0) .nil)))) .nev .nil)
noncomputable def jF:CS:=(.seq (.ex (.cal "need_shade" (.cons (.var 0) .nil)))
 (.ret (.tup (.cons (.att (.var 0) "ember") (.cons (.att (.var 0) "leaf") (.cons (.att (.var 0) "sky") .nil))))))
theorem zQ {c:String} {ns:List Str} {xs:List PV} {f:Str} {v:PV} {G:Gh} {Q:PK1} (hf:(c,f)∈T.fl) (hl:(ns.zip xs).lookup f=some v):UW T (.ob c ns xs) f G Q=Q v G:=by
 refine propext ⟨fun h=>?_,fun q=>⟨_,_,_,_,.inl rfl,hf,hl,q⟩⟩;obtain ⟨c',ns',xs',v',e,_,l,q⟩:=h;rcases e with e | ⟨_,e,_⟩
 · cases e;rw [hl] at l;cases l;exact q
 · cases e
noncomputable def fB:CS:=(.seq (.fr (.gt 2 (.cons (.gn 4) (.cons (.gn 5) .nil))) (.ien (.tup (.cons (.var 1) (.cons (.var 2) (.cons (.var 3) .nil))))) (.iff (.no (.tst (.cal "is_share" (.cons (.var 5) .nil)))) .nev .nil))
 (.seq (.fld (.var 0) "ember" (.var 1))
 (.seq (.fld (.var 0) "leaf" (.var 2))
 (.fld (.var 0) "sky" (.var 3)))))
end
noncomputable def PU (x y z:Int):GO:=.lst [.int x,.int y,.int z]
def Pu (p:Addr) (G:Gh):Prop:= ∃ x y z,G p=some (PU x y z)
def Pn (p:Addr) (G G':Gh):Prop:= ∃ x y z,G'=gup G p (PU x y z)
theorem Pn.pu {p:Addr} {G G':Gh} (h:Pn p G G'):Pu p G':=let ⟨x,y,z,e⟩:=h; ⟨x,y,z,by rw [e]; exact aR⟩
theorem Pn.ne {p q:Addr} {G G':Gh} (h:Pn p G G') (n:q≠p):G' q=G q:=let ⟨x,y,z,e⟩:=h; by rw [e]; exact eO n
theorem Pn.trans {p:Addr} {G G1 G2:Gh} (a:Pn p G G1) (b:Pn p G1 G2):Pn p G G2:=let ⟨x,y,z,e⟩:=a; let ⟨x',y',z',e'⟩:=b; ⟨x',y',z',by rw [e',e,eW]⟩
theorem Pu.ne {p q:Addr} {G:Gh} (h:Pu p G) (n:G q=none):q≠p:=fun e=>by subst e; obtain ⟨_,_,_,e⟩:=h; rw [n] at e; cases e
theorem Pu.new {p q:Addr} {G:Gh} {o:GO} (h:Pu p G) (n:G q=none):Pu p (gup G q o):=let ⟨x,y,z,e⟩:=h; ⟨x,y,z,by rw [eO (Ne.symm (h.ne n))]; exact e⟩
def jY:Sp3:=fun xs G Q=>∃ p m,xs=[.ref p,.int m]∧Pu p G∧0 < m∧Sm 8000 m∧∀ r G',0≤r→r < m→Pn p G G'→Q (.int r) G'
def tF:Sp3:=fun xs G Q=>∃ (ns:List Int) (k:Int),xs=[.scr ns,.int k]∧0≤k∧k < 64∧∀ c,Q (.int c) G
def lX:Sp3:=fun xs G Q=>∃ c:Int,xs=[.int c]∧∀ p x y z,G p=none→Q (.ref p) (gup G p (PU x y z))
def fQ:Sp3:=fun xs G Q=>∃ p,xs=[.ref p]∧Pu p G∧∀ q G',In1 q→Bd 12 q→Pn p G G'→Q (FQ q) G'
def fJ:Sp3:=fun xs G Q=>∃ p,xs=[.ref p]∧Pu p G∧∀ a b c G',In1 a→In1 b→In1 c→Bd 12 a→Bd 12 b→Bd 12 c→Pn p G G'→Q (.tup [FQ a,FQ b,FQ c]) G'
def oH:Sp3:=fun xs G Q=>∃ q,xs=[FQ q]∧Bd 8900 q∧Q (.bl true) G
structure LT (T:Tb):Prop where
 cell:T.S "_law_cell"=tF
 purse:T.S "_law_purse"=lX
 pick:T.S "_law_pick"=jY
 whole:T.S "_law_whole"=eD
 low:T.S "_law_low"=fK
 plus:T.S "_law_plus"=sF
 minus:T.S "_law_minus"=mQ
 times:T.S "_law_times"=mK
 over:T.S "_law_over"=sM
 below:T.S "_law_below"=rP
 is_fraction:T.S "_law_is_fraction"=oH
 share:T.S "_law_share"=fQ
 shares:T.S "_law_shares"=fJ
def mW0:=aY.1
def mW1:=aY.2.1
def mW2:=aY.2.2.1
def wk (s:String):Lean.MacroM Lean.Syntax:=do
 let n←(s.splitOn " ").filterMapM fun x=>do if (←Lean.Macro.resolveGlobalName x.toName).isEmpty then pure none else pure (some x.toName)
 let l←n.mapM fun x=>`(Lean.Parser.Tactic.simpLemma| $(Lean.mkIdent x):term)
 return (←`(tactic| simp only [$(l.toArray),*, *])).raw
def wqB:="wpS wpE wpL wpT wpO wpI wpG gR bD aM List.length_cons List.length_nil List.cons_append List.nil_append List.append_nil List.replicate Nat.reduceAdd Nat.reduceSub Nat.zero_add List.getElem?_cons_zero List.getElem?_cons_succ List.set_cons_zero List.set_cons_succ Option.some.injEq exists_eq_left' true_and and_true ite_self sY jW jN iN gH oV iE mW0 mW1 mW2 at0 at1 List.cons.injEq PV.int.injEq PV.bl.injEq PV.str.injEq PV.ref.injEq PV.tup.injEq and_assoc exists_and_left eq_self List.map Bool.not_true Bool.not_false Bool.and_self Bool.and_true Bool.true_and if_true if_false ite_true ite_false Bool.false_eq_true decide_eq_true_eq decide_true decide_false reduceCtorEq sz3 Wk.here or_false gP eY Int.reduceToNat Int.reducePow fU DZ"
local macro_rules | `(tactic| walk_at "rd") => wk (wqB++" DG AE PN PM nD IN IH yE IO DO tL sP QR CF GX SR at2 aBI aBl aBj aAy aC1 eD fK sz2")
section
variable {T:Tb}
noncomputable def jL:CS:=(.seq (.sub (.var 0) (.int 2) (.bin .Add (.idx (.var 0) (.int 2)) (.int 1)))
 (.seq (.asg (.gn 2) (.bin .Mod (.idx (.var 0) (.int 0)) (.int 999999937)))
 (.seq (.sub (.var 0) (.int 0) (.bin .Add (.bin .Mult (.var 2) (.bin .Add (.bin .Mod (.var 2) (.int 50021)) (.int 20011))) (.bin .Mult (.int 90001) (.idx (.var 0) (.int 2)))))
 (.seq (.iff (.tsb (.cmp .Gt (.idx (.var 0) (.int 1)) (.int 0))) (.seq (.asg (.gn 3) (.bin .Mod (.idx (.var 0) (.int 1)) (.var 1)))
 (.seq (.sub (.var 0) (.int 1) (.bin .FloorDiv (.idx (.var 0) (.int 1)) (.var 1)))
 (.ret (.var 3)))) .nil)
 (.ret (.bin .Mod (.bin .FloorDiv (.bin .Mod (.idx (.var 0) (.int 0)) (.int 999999937)) (.int 16)) (.var 1)))))))
theorem TN {G:Gh} {p:Addr} {o:GO} (h:G p=some o):gup G p o=G:=by
 funext b; unfold gup; split
 · rename_i e; rw [e]; exact h.symm
 · rfl
theorem GS {x:Int} (a:0≤x) (b:x < 1000000000000):Sm 64 x:=by unfold Sm; omega
theorem QQ:∀ xs G Q,jY xs G Q→wpS T jL (bD Q) (aM 4 xs) G:=by
 rintro xs G Q ⟨p,m,rfl,⟨x,y,z,hp⟩,h0,h1,hq⟩;unfold jL;have e:G=gup G p (.lst [.int x,.int y,.int z]):=(TN hp).symm;have fin:∀ r x' y' z',0≤r→r < m→Q (.int r) (gup G p (.lst [.int x',.int y',.int z'])):=fun r x' y' z' a b=>hq r _ a b ⟨x',y',z',rfl⟩;generalize hG:gup G p (.lst [.int x,.int y,.int z])=G1 at e;rw [←hG] at e;rw [e];clear e hG;walk_at "rd"
 refine ⟨by show (0:Int) < 999999937; decide,by show (0:Int) < 50021; decide,QJ (GS (Int.emod_nonneg _ (by decide)) (Int.lt_trans (Int.emod_lt_of_pos _ (by decide)) (by decide))),QJ (GS (by decide) (by decide)), ?_⟩;split
 · exact ⟨h0,YD (k:=8000) h0 h1,Wk.here (fin _ _ _ _ (Int.emod_nonneg _ (by omega)) (Int.emod_lt_of_pos _ h0))⟩
 · exact ⟨by show (0:Int) < 999999937; decide,YD (k:=64) (by decide) (GS (by decide) (by decide)),h0,Wk.here (fin _ _ _ _ (Int.emod_nonneg _ (by omega)) (Int.emod_lt_of_pos _ h0))⟩
noncomputable def iF:CS:=(.ret (.lst true (.cons (.bin .Add (.bin .Mult (.bin .Mod (.var 0) (.int 999999937)) (.int 7001)) (.int 3301)) (.cons (.idx (.lst false (.cons (.int 0) (.cons (.var 0) .nil))) (.blt .int (.cons (.cmp .GtE (.var 0) (.bin .Pow (.int 10) (.int 18))) .nil))) (.cons (.int 0) .nil)))))
theorem LA:∀ xs G Q,lX xs G Q→wpS T iF (bD Q) (aM 1 xs) G:=by
 rintro xs G Q ⟨c,rfl,hq⟩;unfold iF;walk_at "rd"
 refine ⟨by show (0:Int) < 999999937; decide,aIF (GS (by decide) (by decide)),⟨by decide,by decide,by decide⟩, ?_⟩;have e:∃ x,atI [PV.int 0,PV.int c] (if decide ((10:Int) ^ Int.toNat 18≤c)=true then 1 else 0)=some (.int x):=by
   split
   · exact ⟨_,at1⟩
   · exact ⟨_,at0⟩
 obtain ⟨x,e⟩:=e;simp only [decide_eq_true_eq] at e;refine ⟨_,e,fun p n=>Wk.here (hq p _ _ _ n)⟩
noncomputable def sL:CS:=(.seq (.par 2 3 (.blt .abs (.cons (.var 0) .nil)) (.var 1))
 (.seq (.wh (.tsb (.cmp .Gt (.var 3) (.int 0))) (.par 2 3 (.var 3) (.bin .Mod (.var 2) (.var 3))))
 (.ret (.tup (.cons (.bin .FloorDiv (.var 0) (.var 2)) (.cons (.bin .FloorDiv (.var 1) (.var 2)) .nil))))))
noncomputable def lW:CS:=(.seq (.iff (.tsb (.cmp .Lt (.var 1) (.int 0))) (.par 0 1 (.bin .Sub (.int 0) (.var 0)) (.bin .Sub (.int 0) (.var 1))) .nil) sL)
theorem BQ {t b:Int} {G:Gh} {Q:PK1} (hb:0 < b) (sb:Sm 9000 b) (hq:Q (FQ (Rat.divInt t b)) G) :
   wpS T sL (bD Q) [some (.int t),some (.int b),none,none] G:=by
 unfold sL;walk_at "rd"
 refine ⟨fun m σ H=>∃ x y,σ=[some (.int t),some (.int b),some (.int x),some (.int y)]∧H=G∧0≤x∧0≤y∧Int.gcd x y=Int.gcd t b∧m=y.toNat,⟨_,_,_,rfl,rfl,by omega,by omega,aA1 t b,rfl⟩, ?_⟩;rintro m σ H ⟨x,y,rfl,rfl,hx,hy,hg,rfl⟩;walk_at "rd"
 split
 · rename_i hy0;have h2:=Int.emod_lt_of_pos x (show 0 < y by omega);have h3:=Int.emod_nonneg x (show y≠0 by omega);exact ⟨by show 0 < y; omega,(x % y).toNat,by omega,h3,(CO hx (by omega)).trans hg,rfl⟩
 · rename_i hy0;have e:y=0:=by omega
   subst e;have g:x=((Int.gcd t b:Nat):Int):=by rw [←hg,Int.gcd_zero_right]; omega
   obtain ⟨d1,d2⟩:=aAE (t:=t) (b:=b) hb sb;subst g;refine ⟨d1,d2,Wk.here ?_⟩;rw [←aFd hb]; exact hq
theorem ZI:∀ xs G Q,fK xs G Q→wpS T lW (bD Q) (aM 4 xs) G:=by
 rintro xs G Q ⟨t,b,rfl,h0,sb,hq⟩;unfold lW;have e0:∀ x:Int,0 - x= -x:=fun x=>by omega
 walk_at "rd"
 split
 · rename_i hb;refine BQ (by omega) sb.neg ?_;rw [Rat.neg_divInt_neg]; exact hq
 · rename_i hb;exact BQ (by omega) sb hq
theorem aJU {q:Rat}:shp (FQ q)=true:=rfl
theorem aJr {G:Gh} {q:Rat}:pur G (FQ q)=FQ q:=rfl
theorem aDp {a b:Rat}:peq (FQ a) (FQ b)=decide (a=b):=by
 have:peq (FQ a) (FQ b)=(a.num == b.num && ((a.den:Int) == (b.den:Int) && true)):=by unfold FQ; simp only [peq,mB]
 rw [this,Bool.and_true,Bool.eq_iff_iff,Bool.and_eq_true,decide_eq_true_eq,beq_iff_eq,beq_iff_eq];exact ⟨by rintro ⟨x,y⟩;exact Rat.ext x (by omega),fun e=>by rw [e]; exact ⟨rfl,rfl⟩⟩
end
local macro_rules | `(tactic| walk_at "rd") => wk (wqB++" exists_false false_and and_false AE nD IN SD tL sP BB jS AG at2 tI fK hX EY Option.getD_some jY fQ jZ")
section
variable {T:Tb}
noncomputable def jU:CS:=(.seq (.iff (.tsb (.cmp .Lt (.var 1) (.blt .len (.cons (.var 0) .nil)))) (.ret (.idx (.var 0) (.var 1))) .nil)
 (.seq (.asg (.gn 2) (.bin .Mod (.bin .Mult (.int 60013) (.bin .Add (.bin .Add (.bin .Mult (.var 1) (.var 1)) (.bin .Mult (.int 7) (.var 1))) (.int 3))) (.int 999999937)))
 (.seq (.fr (.gn 3) (.isq (.sli (.var 0) .nil (.tst (.int 4)))) (.asg (.gn 2) (.bin .Mod (.bin .Add (.bin .Mult (.var 2) (.int 30103)) (.var 3)) (.int 999999937))))
 (.ret (.var 2)))))
theorem jT {g:PTG} {tb:PTS} {D:jH} (I:PSt→Gh→Prop):∀ {xs:List PV} {σ:PSt} {G:Gh},I σ G→(∀ x∈xs,∀ σ G R,I σ G→(∀ σ' G',I σ' G'→R σ' G')→g x σ G fun σ2 G2=>tb { D with nx:=R,ct:=R,bk:=D.nx } σ2 G2)→(∀ σ G,I σ G→D.nx σ G)→pY (fun _=>True) g tb D xs σ G
 | [],σ,G,h,_,hd=>⟨trivial,hd σ G h⟩
 | x :: r,σ,G,h,hs,hd=>⟨trivial,hs x (wDq ..) σ G _ h fun σ' G' h'=>jT I h' (fun y hy=>hs y (wCq _ hy)) hd⟩
theorem RC {ns:List Int} {lo hi:Option Int} {G:Gh} {Q:PK1}:TY (.scr ns) lo hi G Q=Q (.lst (rH (ns.map .int) lo hi)) G:=rfl
theorem RF:∀ xs G Q,tF xs G Q→wpS T jU (bD Q) (aM 4 xs) G:=by
 rintro xs G Q ⟨ns,k,rfl,h0,h1,hq⟩;unfold jU;have:=@RC;walk_at "rd"
 split
 · rename_i hk;obtain ⟨j,rfl⟩:=Int.eq_ofNat_of_zero_le h0;have hj:j < ns.length:=by omega
   exact ⟨ns[j],dX (by simp [hj])⟩
 · have sk:Sm 64 k:=GS h0 (by omega);refine ⟨QJ sk,aIF sk,QJ (GS (by decide) (by decide)),by show (0:Int) < 999999937; decide, ?_⟩;refine jT (fun σ G'=>G'=G∧∃ st u,σ=[some (.scr ns),some (.int k),some (.int st),u]∧0≤st∧st < 999999937) ⟨rfl,_,_,rfl,Int.emod_nonneg _ (by decide),Int.emod_lt_of_pos _ (by decide)⟩ ?_ ?_
   · rintro x hx σ G' R ⟨rfl,st,u,rfl,a1,a2⟩ hR;have hx':x∈ns.map PV.int:=by
       unfold rH at hx;exact List.mem_of_mem_drop (List.mem_of_mem_take hx)
     obtain ⟨c,_,rfl⟩:=List.mem_map.mp hx';walk_at "rd"
     exact ⟨QJ (GS a1 (by omega)),by show (0:Int) < 999999937; decide,hR _ _ ⟨rfl,_,_,rfl,Int.emod_nonneg _ (by decide),Int.emod_lt_of_pos _ (by decide)⟩⟩
   · rintro σ G' ⟨rfl,st,u,rfl,a1,a2⟩;walk_at "rd"
theorem aBU {r k:Int} (a:0≤r) (b:r < 10) (c:0≤k) (d:k < 997):∃ v,atI [PV.int 1,PV.int 2,PV.int 3,PV.int 4,PV.int 6,PV.int 12,PV.int 60,PV.int 255,PV.int 510,PV.int (1 + k)] r=some (.int v)∧1≤v∧v≤997:=by
 have e:r=0∨r=1∨r=2∨r=3∨r=4∨r=5∨r=6∨r=7∨r=8∨r=9:=by omega
 rcases e with rfl | rfl | rfl | rfl | rfl | rfl | rfl | rfl | rfl | rfl
 · exact ⟨_,at0,by omega,by omega⟩
 · exact ⟨_,at1,by omega,by omega⟩
 · exact ⟨_,at2,by omega,by omega⟩
 · exact ⟨_,at3,by omega,by omega⟩
 · exact ⟨_,at4,by omega,by omega⟩
 · exact ⟨_,dX (j:=5) rfl,by omega,by omega⟩
 · exact ⟨_,dX (j:=6) rfl,by omega,by omega⟩
 · exact ⟨_,dX (j:=7) rfl,by omega,by omega⟩
 · exact ⟨_,dX (j:=8) rfl,by omega,by omega⟩
 · exact ⟨_,dX (j:=9) rfl,by omega,by omega⟩
noncomputable def iJ:CS:=(.seq (.asg (.gn 1) (.cal "_law_pick" (.cons (.var 0) (.cons (.int 10) .nil))))
 (.seq (.asg (.gn 2) (.idx (.lst false (.cons (.int 1) (.cons (.int 2) (.cons (.int 3) (.cons (.int 4) (.cons (.int 6) (.cons (.int 12) (.cons (.int 60) (.cons (.int 255) (.cons (.int 510) (.cons (.bin .Add (.int 1) (.cal "_law_pick" (.cons (.var 0) (.cons (.int 997) .nil)))) .nil))))))))))) (.var 1)))
 (.ret (.cal "_law_low" (.cons (.cal "_law_pick" (.cons (.var 0) (.cons (.bin .Add (.var 2) (.int 1)) .nil))) (.cons (.var 2) .nil))))))
theorem smP {x:Int} (a:0≤x) (b:x < 1000000000000):Sm 8000 x:=smK (by omega) b (by decide)
theorem ZO {t b:Int} (h0:0≤t) (h1:t≤b) (hb:0 < b):In1 (Rat.divInt t b):=by
 constructor
 · exact Rat.divInt_nonneg h0 (by omega)
 · rw [Rat.divInt_eq_div];have hb':(0:Rat) < (b:Rat):=Rat.intCast_pos.mpr hb;have h2:(t:Rat)≤(b:Rat):=Rat.intCast_le_intCast.mpr h1;have h3:(t:Rat) / (b:Rat) * (b:Rat)=(t:Rat):=Rat.div_mul_cancel (by grind);refine Rat.le_of_mul_le_mul_right (c:=(b:Rat)) ?_ hb'
   grind
theorem aDq {t b:Int} {n:Nat} (ht:Sm n t) (hb:Sm n b) (h0:b≠0):Bd n (Rat.divInt t b):=Bd.divInt ht hb h0
theorem LJ (h:LT T):∀ xs G Q,fQ xs G Q→wpS T iJ (bD Q) (aM 3 xs) G:=by
 rintro xs G Q ⟨p,rfl,hp,hq⟩;unfold iJ;have:=h.pick;have:=h.low;walk_at "rd"
 refine ⟨by decide,smP (by decide) (by decide),fun r1 G1 a1 b1 n1=>⟨n1.pu,by decide,smP (by decide) (by decide),fun r2 G2 a2 b2 n2=>?_⟩⟩;obtain ⟨v,e,c1,c2⟩:=aBU a1 b1 a2 b2;refine ⟨by decide,_,e, ?_⟩;walk_at "rd"
 refine ⟨n2.pu,by omega,smP (by omega) (by omega),fun r3 G3 a3 b3 n3=>?_⟩;refine ⟨by omega,smK (by omega) (by omega) (by decide),Wk.here (hq _ _ (ZO a3 (by omega) (by omega)) (aDq ?_ ?_ (by omega)) ((n1.trans n2).trans n3))⟩
 · unfold Sm; omega
 · unfold Sm; omega
def Pk (p:Addr) (G K:Gh):Prop:= ∃ G',Pn p G G'∧∀ a u,G' a=some u→K a=some u
theorem Pk.of {p:Addr} {G G':Gh} (h:Pn p G G'):Pk p G G':=⟨G',h,fun _ _ z=>z⟩
theorem Pk.new {p l:Addr} {G K:Gh} {o:GO} (h:Pk p G K) (n:K l=none):Pk p G (gup K l o):=by
 obtain ⟨G',a,b⟩:=h;refine ⟨G',a,fun x u q=>?_⟩;have:=b x u q;rw [eO (fun e=>by rw [e,n] at this; cases this)]; exact this
theorem Pk.set {p l:Addr} {G K:Gh} {o:GO} (h:Pk p G K) (n:G l=none) (ne:l≠p):Pk p G (gup K l o):=by
 obtain ⟨G',a,b⟩:=h;refine ⟨G',a,fun x u q=>?_⟩;have e:x≠l:=fun e=>by rw [e,a.ne ne,n] at q; cases q
 rw [eO e]; exact b x u q
theorem Pk.pick {p:Addr} {G K K':Gh} (h:Pk p G K) (m:Pn p K K'):Pk p G K':=by
 obtain ⟨G',a,b⟩:=h;obtain ⟨x,y,z,e⟩:=m;refine ⟨gup G' p (PU x y z),a.trans ⟨x,y,z,rfl⟩,fun c u q=>?_⟩;rw [e];by_cases ec:c=p
 · subst ec; rw [aR] at q ⊢; exact q
 · rw [eO ec] at q ⊢; exact b c u q
theorem Pk.end_ {p:Addr} {G K:Gh} {Q:PK1} {x:PV} (h:Pk p G K) (q:∀ G',Pn p G G'→Q x G'):Wk Q x K:=let ⟨G',a,b⟩:=h; Wk.of (q G' a) b
theorem RG {j:Int} {R:Int→Prop} {A:Int→Int→Prop}:((∃ k,[PV.int j]=[PV.int k]∧R k)∨(∃ i k,[PV.int j]=[PV.int i,PV.int k]∧A i k))=R j:=propext
 ⟨fun h=>h.elim (by rintro ⟨_,e,r⟩;cases e; exact r) (by rintro ⟨_,_,e,_⟩;cases e),fun r=>.inl ⟨_,rfl,r⟩⟩
end
noncomputable abbrev R3:=Rat×Rat×Rat
noncomputable def shV (r:R3):PV:=SH r.1 r.2.1 r.2.2
theorem aIu {a b c:Rat}:shp (.tup [FQ a,FQ b,FQ c])=true:=rfl
theorem UP:mB [] []=true:=by simp only [mB]
theorem MP {x y:PV} {xs ys:List PV}:mB (x :: xs) (y :: ys)=(peq x y && mB xs ys):=by simp only [mB]
theorem VZ {G:Gh} {Q:PK1} {a b c a' b' c':Rat}:pEq false (.tup [FQ a,FQ b,FQ c]) (.tup [FQ a',FQ b',FQ c']) G Q=Q (.bl (decide (a=a') && (decide (b=b') && decide (c=c')))) G:=by
 show (shp (.tup [FQ a,FQ b,FQ c])=true∧shp (.tup [FQ a',FQ b',FQ c'])=true∧Q (.bl (peq (.tup [FQ a,FQ b,FQ c]) (.tup [FQ a',FQ b',FQ c']))) G)=_;simp only [aIu,true_and,peq,MP,UP,aDp,Bool.and_true]
theorem av0 {xs:List PV} {x:PV}:Ar.val (x :: xs) (.arg 0)=x:=rfl
theorem av1 {xs:List PV} {x y:PV}:Ar.val (x :: y :: xs) (.arg 1)=y:=rfl
theorem av2 {xs:List PV} {x y z:PV}:Ar.val (x :: y :: z :: xs) (.arg 2)=z:=rfl
theorem avn {xs:List PV}:Ar.val xs .non= .non:=rfl
section
variable {T:Tb}
noncomputable def gG:CS:=(.ret (.an (.blt .isi (.cons (.var 1) (.cons (.glo "Shade") .nil))) (.cmp .Eq (.cal "shares_of" (.cons (.var 0) .nil)) (.cal "shares_of" (.cons (.var 1) .nil)))))
end
noncomputable def sg:Nat→Nat | 0=>0 | 1=>1 | 2=>1 | 3=>2 | 4=>2 | _=>0
noncomputable def sl:Nat→Nat | 0=>2 | 1=>2 | 2=>0 | 3=>0 | 4=>1 | _=>1
noncomputable def sm:Nat→Nat | 0=>1 | 1=>0 | 2=>2 | 3=>1 | 4=>0 | _=>2
noncomputable def ss:Nat→Int | 0=>0 | 1=>2 | 2=>2 | 3=>4 | 4=>4 | _=>6
noncomputable def sw:Nat→Int | 0=>1 | 1=> -1 | 2=>1 | 3=> -1 | 4=>1 | _=> -1
noncomputable def p3 (i:Nat) (a b c:Rat):Rat:=match i with | 0=>a | 1=>b | _=>c
noncomputable def MV (k:Nat) (a b c:Rat):Bool:= !decide (p3 (sg k) a b c < p3 (sm k) a b c) && !decide (p3 (sm k) a b c < p3 (sl k) a b c)
noncomputable def kOf (a b c:Rat):Nat:=if MV 0 a b c=true then 0 else if MV 1 a b c=true then 1 else if MV 2 a b c=true then 2 else if MV 3 a b c=true then 3 else if MV 4 a b c=true then 4 else 5
noncomputable def lo (a b c:Rat):Rat:=p3 (sl (kOf a b c)) a b c
noncomputable def hi (a b c:Rat):Rat:=p3 (sg (kOf a b c)) a b c
noncomputable def mi (a b c:Rat):Rat:=p3 (sm (kOf a b c)) a b c
noncomputable def tn (a b c:Rat):Rat:=(ss (kOf a b c):Rat) + (sw (kOf a b c):Rat) * ((mi a b c - lo a b c) / (hi a b c - lo a b c))
noncomputable def c1 (t:Rat):Rat:=if t≤1 then t else if t≤3 then 1 else if t≤4 then 4 - t else 0
noncomputable def c2 (t:Rat):Rat:=if t≤2 then 0 else if t≤3 then t - 2 else if t≤5 then 1 else 6 - t
noncomputable def r6 (q:Rat):Rat:=q - ((6 * (q.num / (6 * (q.den:Int))):Int):Rat)
theorem sub_int (q:Rat) (z:Int):(q - (z:Rat)).num=q.num - z * (q.den:Int)∧(q - (z:Rat)).den=q.den:=by
 have e:q - (z:Rat)=Rat.divInt (q.num - z * (q.den:Int)) (q.den:Int):=by
   have:=aIb q (z:Rat);rw [←this];show Rat.divInt (q.num * ((1:Nat):Int) - z * (q.den:Int)) ((q.den:Int) * ((1:Nat):Int))=_
   congr 1 <;> omega
 have hd:=OI (q:=q);have g:Int.gcd (q.den:Int) (q.num - z * (q.den:Int))=1:=by
   rw [Int.gcd_sub_mul_right_right];have:=q.reduced;rw [Int.gcd_comm]; exact this
 constructor
 · rw [e,Rat.num_divInt,g,Int.sign_eq_one_of_pos hd]; simp
 · rw [e,Rat.den_divInt,if_neg (by omega),g]; simp
noncomputable def stV (k:Nat):PV:=.tup [.int (sg k:Int),.int (sl k:Int),.int (sm k:Int),.int (ss k),.int (sw k)]
noncomputable def rot (n:Int) (a b c:Rat):R3:=if n % 3=0 then (a,b,c) else if n % 3=1 then (c,a,b) else (b,c,a)
noncomputable def aIC (a b c:Rat):PV→Bool
 | .tup [.int g,.int l,.int m,_,_]=> !decide (p3 g.toNat a b c < p3 m.toNat a b c) && !decide (p3 m.toNat a b c < p3 l.toNat a b c)
 | _=>false
theorem aF8 {k:Nat} {a b c:Rat}:aIC a b c (stV k)=MV k a b c:=rfl
section
variable {T:Tb}
end
theorem aGN {ks:List Key} {xs:List PV} {i:Int} {G:Gh} {Q:PK1}:oQ (.dct ks xs) (.int i) G Q=(∃ v,xK ks xs (.inl i)=some v∧Q v G):=rfl
section
variable {T:Tb}
end
theorem IB {sep:Str} {ys:List Str}:Txt.join sep ys=Str.join sep ys:=eq_of_beq (join_closes rfl)
theorem aGA {s:Str}:Txt.join ("":Str) [s]=s:=by rw [IB]; rfl
noncomputable def iT (n:Int):Str:=toString n
theorem uL {n:Int} (h:n.natAbs < 10 ^ 64):(iT n).length≤65:=by
 have h1:=int_text_length_le10 (k:=64) (by decide) h;unfold iT;show (Str.ofString (toString n)).length≤65;rw [PySem.ofString_length]; omega
noncomputable def wr (q:Rat):Str:=if (q.den:Int)=1 then iT q.num else iT q.num ++ (("/":Str) ++ iT (q.den:Int))
noncomputable def aAo (r:R3):Str:=Txt.join (" ":Str) [wr r.1,wr r.2.1,wr r.2.2]
noncomputable def aKr (r:R3):Str:=("Shade(":Str) ++ aAo r ++ (")":Str)
theorem bY {a b:Str}:(a ++ b).length=a.length + b.length:=by
 show (a ++ b).cps.size=_;rw [Str.cps_append,Array.size_append]; rfl
theorem wF {n:Int} (h:Sm 200 n):n.natAbs < 10 ^ 64:=Nat.lt_trans (show n.natAbs < 2 ^ 200 from h) (by decide)
theorem oY {q:Rat} (h:Bd 200 q):(wr q).length≤131:=by
 have h1:=uL (wF h.1);have h2:=uL (wF h.2);have h3:("/":Str).length=1:=rfl;unfold wr;split
 · omega
 · rw [bY,bY]; omega
theorem UZ {r:R3} (h1:Bd 200 r.1) (h2:Bd 200 r.2.1) (h3:Bd 200 r.2.2):(aAo r).length≤395:=by
 unfold aAo;rw [IB];show (wr r.1 ++ (" ":Str) ++ (wr r.2.1 ++ (" ":Str) ++ wr r.2.2)).length≤395;have e:(" ":Str).length=1:=rfl;have:=oY h1;have:=oY h2;have:=oY h3;rw [bY,bY,bY,bY,e]; omega
noncomputable def hlf:Rat:=⟨1,2,by decide,by decide⟩
noncomputable def hf (o:Option Rat):Rat:=o.getD hlf
def Sh7 (n:Nat) (r:R3):Prop:=(In1 r.1∧In1 r.2.1∧In1 r.2.2)∧Bd n r.1∧Bd n r.2.1∧Bd n r.2.2
theorem Sh7.mono {n m:Nat} {r:R3} (h:Sh7 n r) (e:n≤m):Sh7 m r:=⟨h.1,h.2.1.mono e,h.2.2.1.mono e,h.2.2.2.mono e⟩
noncomputable def rt (n:Int) (r:R3):R3:=rot n r.1 r.2.1 r.2.2
noncomputable def iV:Option Int→PV
 | none=>.non
 | some n=>.int n
noncomputable def cnt (r:R3):Int:=((if 0 < r.1 then 1 else 0) + (if 0 < r.2.1 then 1 else 0) + (if 0 < r.2.2 then 1 else 0):Int)
def IK:Sp3:=fun xs G Q=>∃ n:Int,xs=[.int n]∧0≤n∧Sm 200 n∧Q (.str (iT n)) G
def ZM:Sp3:=fun xs G Q=>∃ q,xs=[FQ q]∧0≤q∧Bd 200 q∧Q (.str (wr q)) G
def zG:Sp3:=fun xs G Q=>∃ r,xs=[shV r]∧Sh7 200 r∧Q (.str (aAo r)) G
def xS:Sp3:=fun xs G Q=>∃ r,xs=[shV r]∧Sh7 200 r∧Q (.str (aKr r)) G
def zA:Sp3:=fun xs G Q=>∃ r,xs=[shV r]∧Q (.int (cnt r)) G
theorem aHT:PV.tup [.int 1,.int 2]=FQ hlf:=rfl
theorem aGc:PV.tup [.int 3,.int 1]=FQ 3:=rfl
theorem AF {i:Int} {cs:List String} {G:Gh} {Q:PK1}:dU cs .str [.int i] G Q=(i.natAbs.log2 < 1920∧Q (.str (iT i)) G):=rfl
theorem aIg {i:Int} (h:Sm 200 i):i.natAbs.log2 < 1920:=by
 by_cases e:i.natAbs=0
 · rw [e]; decide
 · exact wFq ((Nat.log2_lt e).mpr h) (by decide)
theorem aGT:(10:Int) ^ 64=10000000000000000000000000000000000000000000000000000000000000000:=by decide
theorem aKf {n:Int} (h:Sm 200 n):n < 10 ^ 64:=by
 have:n.natAbs < 10 ^ 64:=wF h;have e:((10 ^ 64:Nat):Int)=(10:Int) ^ 64:=by decide
 omega
theorem HQ {r:R3}:shV r=SH r.1 r.2.1 r.2.2:=rfl
theorem aD3 {n:Int} (h:Sm 200 n):¬(10:Int) ^ 64≤n:=by have:=aKf h; omega
local macro_rules | `(tactic| walk_at "rd") => wk (wqB++" exists_false false_and and_false DG IH yE xR BM wX oM BN at2 aAy aC1 tI eD exists_eq' hX EY zO Option.getD_some sF mQ mK sM eP iI cF xM sz2 aHT aGc AF HQ wpJ Str.empty_append")
section
variable {T:Tb}
noncomputable def mJ:CS:=(.seq (.asg (.gn 1) (.lst true .nil))
 (.seq (.wh (.tsb (.cmp .GtE (.var 0) (.glo "PIECE"))) .nev)
 (.seq (.ex (.app (.var 1) (.blt .str (.cons (.var 0) .nil))))
 (.ret (.joi (.str "") (.rev (.var 1)))))))
noncomputable def mP:CS:=(.seq (.iff (.tsb (.cmp .Eq (.idx (.var 0) (.int 1)) (.int 1))) (.ret (.cal "figures" (.cons (.idx (.var 0) (.int 0)) .nil))) .nil)
 (.ret (.fst (.cons (.cal "figures" (.cons (.idx (.var 0) (.int 0)) .nil)) (.cons (.str "/") (.cons (.cal "figures" (.cons (.idx (.var 0) (.int 1)) .nil)) .nil))))))
theorem sp1:(" ":Str).length=1:=rfl
noncomputable def fL:CS:=(.ret (.joi (.str " ") (.cmpr false (.gn 1) (.isq (.cal "shares_of" (.cons (.var 0) .nil))) .nil (.cal "written" (.cons (.var 1) .nil)) [none,none])))
noncomputable def fE:CS:=(.ret (.fst (.cons (.str "Shade(") (.cons (.bow .str [("Shade","Shade.__str__")] (.cons (.var 0) .nil)) (.cons (.str ")") .nil)))))
theorem rM {b:Bn} {c:String} {m:Str} {ns:List Str} {ys:List PV} {G:Gh} {Q:PK1} (q:T.S m [.ob c ns ys] G fun v G'=>aHC b v G' Q):XH T b [(c,m)] [.ob c ns ys] G Q:=.inl ⟨c,m,ns,ys,List.mem_singleton.mpr rfl,rfl,q⟩
noncomputable def TQ:PV→Bool
 | .tup (.int n :: _)=>decide (0 < n)
 | _=>false
theorem aDK {q:Rat}:TQ (FQ q)=decide (0 < q):=decide_eq_decide.mpr (by rw [Rat.lt_iff]; simp)
theorem YT {r:R3}:((([FQ r.1,FQ r.2.1,FQ r.2.2].filter TQ).length:Nat):Int)=cnt r:=by
 unfold cnt;simp only [List.filter_cons,List.filter_nil,aDK,decide_eq_true_eq];by_cases h1:0 < r.1 <;> by_cases h2:0 < r.2.1 <;> by_cases h3:0 < r.2.2 <;> simp [h1,h2,h3]
theorem FG {chk:Gh→Prop} {ts:PTT} {te:PTE} {G:Gh} {Q:List PV→Gh→Prop} (p:PV→Bool) (hc:chk G) :
   ∀ (l acc:List PV) (v:Option PV),(∀ x∈l,∀ R,R (p x) G→ts [none,some x] G R)→(∀ x∈l,∀ R,R x G→te [none,some x] G R)→Q (acc ++ l.filter p) G→gI chk (fun x σ G Q=>Q (σ.set 1 (some x)) G) ts te l acc [none,v] G Q
 | [],acc,v,_,_,q=>⟨hc,by simpa using q⟩
 | x :: l,acc,v,h1,h2,q=>by
   refine ⟨hc, ?_⟩;show ts [none,some x] G _;refine h1 x (wDq ..) _ ?_;cases hp:p x with
   | true =>
     rw [if_pos rfl];refine h2 x (wDq ..) _ ?_;refine FG p hc l (acc ++ [x]) (some x) (fun y hy=>h1 y (wCq _ hy)) (fun y hy=>h2 y (wCq _ hy)) ?_;rw [List.filter_cons,hp,if_pos rfl] at q;rw [List.append_assoc]; exact q
   | false =>
     rw [if_neg Bool.false_ne_true];refine FG p hc l acc (some x) (fun y hy=>h1 y (wCq _ hy)) (fun y hy=>h2 y (wCq _ hy)) ?_;rw [List.filter_cons,hp,if_neg Bool.false_ne_true] at q;exact q
theorem aJb {r:R3} {x:PV} (h:x∈ [FQ r.1,FQ r.2.1,FQ r.2.2]):∃ q,x=FQ q:=by
 simp only [List.mem_cons,List.not_mem_nil,or_false] at h;rcases h with h | h | h <;> exact ⟨_,h⟩
theorem aHL {r:R3} {G:Gh} {Q:List PV→Gh→Prop} (hq:Q ([FQ r.1,FQ r.2.1,FQ r.2.2].filter TQ) G):gI (fun _=>True) (wpG T (.gn 1)) (wpT T (.tsb (.cmp .Gt (.idx (.var 1) (.int 0)) (.int 0)))) (wpE T (.var 1)) [FQ r.1,FQ r.2.1,FQ r.2.2] [] [none,none] G Q:=by
 simp only [wpG];refine FG TQ trivial _ _ _ ?_ ?_ hq
 · intro x hx R hR;obtain ⟨q,rfl⟩:=aJb hx;have e:TQ (FQ q)=decide (0 < q.num):=rfl;rw [e] at hR;walk_at "rd"
 · intro x hx R hR;walk_at "rd"
noncomputable def eF:CS:=(.ret (.blt .len (.cons (.cmpr false (.gn 1) (.isq (.cal "shares_of" (.cons (.var 0) .nil))) (.tsb (.cmp .Gt (.idx (.var 1) (.int 0)) (.int 0))) (.var 1) [none,none]) .nil)))
end
noncomputable def BW:PV:=.tup [.int 1,.int 1,.int 1]
noncomputable def BL:PV:=.ob "Blend" ["many","weight","sums"] [.int 0,.int 0,.tup [FQ 0,FQ 0,FQ 0]]
noncomputable def BK:PV:=.ob "Book" ["eye","pages","past"] [BW,.emp,.lst []]
noncomputable def Bu4:PV→Prop
 | .non=>True
 | .bl _=>True
 | .int _=>True
 | .str _=>True
 | .tup _=>True
 | .lst _=>True
 | .emp=>True
 | .dct _ _=>True
 | _=>False
theorem Bu4.bu {x:PV} (h:Bu4 x) (G:Gh):buP x G:=by
 cases x <;> first | trivial | exact h.elim
def Od (x:PV):Prop:=Bu4 x∨x=BL∨x=BK
def mY:Sp3:=fun xs G Q=>∃ x:PV,xs=[x]∧False
def jC:Sp3:=fun xs G Q=>xs=[.non]∧Q BW G
def rQ:Sp3:=fun xs G Q=>xs=[.non]∧Q BK G
def nE:Sp3:=fun xs G Q=>∃ p,xs=[.ref p,.non]∧G p=some (.ins "Book" [] [])∧Q .non (gup G p (.ins "Book" ["eye","pages","past"] [BW,.emp,.lst []]))
def nI:Sp3:=fun xs G Q=>xs=[]∧Q BL G
def kC:Sp3:=fun xs G Q=>∃ p,xs=[.ref p]∧G p=some (.ins "Blend" [] [])∧Q .non (gup G p (.ins "Blend" ["many","weight","sums"] [.int 0,.int 0,.tup [FQ 0,FQ 0,FQ 0]]))
def yF:Sp3:=fun xs G Q=>∃ x,xs=[x]∧((∃ r,x=shV r∧Q (.bl true) G)∨Od x∧Q (.bl false) G)
def II:Sp3:=fun xs G Q=>∃ r x,xs=[shV r,x]∧((∃ s:R3,x=shV s∧Q (.bl (decide (r=s))) G)∨Od x∧Q (.bl false) G)
def rR:Sp3:=fun xs G Q=>∃ r,xs=[BL,shV r]∧Q (.bl false) G
def sA:Sp3:=fun xs G Q=>∃ r,xs=[BK,shV r]∧Q (.bl false) G
structure P4 (T:Tb):Prop where
 is_whole:T.S "is_whole"=eD
 common:T.S "common"=gW
 is_fraction:T.S "is_fraction"=hU
 is_share:T.S "is_share"=eP
 shade:T.S "Shade"=jZ
 shadeI:T.S "Shade.__init__"=jB
 is_shade:T.S "is_shade"=yF
 need_shade:T.S "need_shade"=iI
 shares_of:T.S "shares_of"=cF
 figures:T.S "figures"=IK
 written:T.S "written"=ZM
 strS:T.S "Shade.__str__"=zG
 repS:T.S "Shade.__repr__"=xS
 lenS:T.S "Shade.__len__"=zA
 eqS:T.S "Shade.__eq__"=II
 eqBl:T.S "Blend.__eq__"=rR
 eqBk:T.S "Book.__eq__"=sA
 is_eye:T.S "is_eye"=mY
 eye_of:T.S "eye_of"=jC
 book:T.S "Book"=rQ
 bookI:T.S "Book.__init__"=nE
 blend:T.S "Blend"=nI
 blendI:T.S "Blend.__init__"=kC
 gv_ZERO:T.gv "ZERO"=FQ 0
 gv_EVEN:T.gv "EVEN_EYE"=BW
 gv_MOST:T.gv "MOST_OF_EYE"= .int 99
 gv_PIECE:T.gv "PIECE"= .int (10 ^ 64)
 gv_PF:T.gv "PIECE_FIGURES"= .int 64
 gv_Shade:T.gv "Shade"= .cl "Shade"
 gv_Book:T.gv "Book"= .cl "Book"
 gv_Blend:T.gv "Blend"= .cl "Blend"
 cs: "Shade"∈T.cs
 csK: "Book"∈T.cs
 csL: "Blend"∈T.cs
 fl_e:("Shade",("ember":Str))∈T.fl
 fl_l:("Shade",("leaf":Str))∈T.fl
 fl_s:("Shade",("sky":Str))∈T.fl
 fl_y:("Book",("eye":Str))∈T.fl
 fl_p:("Book",("pages":Str))∈T.fl
 fl_q:("Book",("past":Str))∈T.fl
 fl_m:("Blend",("many":Str))∈T.fl
 fl_w:("Blend",("weight":Str))∈T.fl
 fl_u:("Blend",("sums":Str))∈T.fl
 ty_int:T.gv "int"= .ty "int"
 ty_bool:T.gv "bool"= .ty "bool"
 ty_tuple:T.gv "tuple"= .ty "tuple"
 ty_str:T.gv "str"= .ty "str"
 ty_list:T.gv "list"= .ty "list"
theorem RJ {cs:List String} {x:PV} {G:Gh} {Q:PK1} (h:Od x) (c1: "Shade"∈cs) (c2: "Book"∈cs) (c3: "Blend"∈cs) (q:Q (.bl false) G):dU cs .isi [x,.cl "Shade"] G Q:=by
 rcases h with h | rfl | rfl
 · refine ⟨c1,.inl ?_⟩;cases x <;> first | exact h.elim | exact ⟨_,rfl,q⟩
 · exact ⟨c1,.inr ⟨_,rfl,c3,q⟩⟩
 · exact ⟨c1,.inr ⟨_,rfl,c2,q⟩⟩
section
variable {T:Tb}
theorem aGH (h:P4 T) {a b c:Rat} {G:Gh} {Q:PK1}:UW T (SH a b c) "ember" G Q=Q (FQ a) G:=zQ h.fl_e rfl
theorem aH4 (h:P4 T) {a b c:Rat} {G:Gh} {Q:PK1}:UW T (SH a b c) "leaf" G Q=Q (FQ b) G:=zQ h.fl_l rfl
theorem aH0 (h:P4 T) {a b c:Rat} {G:Gh} {Q:PK1}:UW T (SH a b c) "sky" G Q=Q (FQ c) G:=zQ h.fl_s rfl
end
local macro_rules | `(tactic| walk_at "rd") => wk (wqB++" exists_false false_and WF yE IO xR DO BM UJ CF TL PL wX oM BN aCz aDo SR aHa aGZ aAy aC1 tI eD gW hU exists_eq' VE NG hX aIG zO eP iI cF jC AF HQ wpJ Str.empty_append")
section
variable {T:Tb}
noncomputable def eK:CS:=kX
theorem uX (h:P4 T):∀ xs G Q,eD xs G Q→wpS T eK (bD Q) (aM 1 xs) G:=by
 rintro xs G Q ⟨i,rfl,q⟩;unfold eK kX;have:=h.ty_int;have:=h.ty_bool;walk_at "rd"
noncomputable def gA:CS:=pN
theorem AD (h:P4 T):∀ xs G Q,gW xs G Q→wpS T gA (bD Q) (aM 2 xs) G:=by
 rintro xs G Q ⟨i,j,rfl,hi,hj,q⟩;unfold gA pN;walk_at "rd"
 refine ⟨fun m σ H=>∃ x y,σ=[some (.int x),some (.int y)]∧H=G∧0≤x∧0≤y∧Int.gcd x y=Int.gcd i j∧m=y.toNat,⟨_,i,j,rfl,rfl,hi,hj,rfl,rfl⟩, ?_⟩;rintro m σ H ⟨x,y,rfl,rfl,hx,hy,hg,rfl⟩;walk_at "rd"
 split
 · rename_i hy0;have hy0:y≠0:=by simpa using hy0
   have h2:=Int.emod_lt_of_pos x (show 0 < y by omega);have h3:=Int.emod_nonneg x (show y≠0 by omega);exact ⟨by show 0 < y; omega,(x % y).toNat,by omega,h3,(CO hx (by omega)).trans hg,rfl⟩
 · rename_i hy0;have e:y=0:=by simpa using hy0
   subst e;have g:((Int.gcd x 0:Nat):Int)=x:=by rw [Int.gcd_zero_right]; omega
   refine Wk.here ?_;rw [←g,hg]; exact q
noncomputable def dG:CS:=gN
theorem nX (h:P4 T):∀ xs G Q,hU xs G Q→wpS T dG (bD Q) (aM 3 xs) G:=by
 rintro xs G Q ⟨q,rfl,hq⟩;unfold dG gN;have:=h.ty_tuple;have:=h.is_whole;have:=h.common;have h1:=aCm (q:=q);have h2:=aDR (q:=q);unfold FQ;walk_at "rd"
 exact ⟨by omega,by omega⟩
noncomputable def eU:CS:=lG
theorem vU (h:P4 T):∀ xs G Q,eP xs G Q→wpS T eU (bD Q) (aM 1 xs) G:=by
 rintro xs G Q ⟨a,rfl,h0,h1,hq⟩;unfold eU lG;have:=h.is_fraction;have:=FT h0;have:=aDI h1;walk_at "rd"
noncomputable def eI:CS:=lH
theorem vB (h:P4 T):∀ xs G Q,yF xs G Q→wpS T eI (bD Q) (aM 1 xs) G:=by
 rintro xs G Q ⟨x,rfl,hq⟩;unfold eI lH;have e1:=h.gv_Shade;have e2:=h.cs;rcases hq with ⟨r,rfl,hq⟩ | ⟨hx,hq⟩
 · have:=@SE;walk_at "rd"
 · walk_at "rd"
   exact RJ hx e2 h.csK h.csL (Wk.here hq)
noncomputable def dM:CS:=iW
theorem rF (h:P4 T):∀ xs G Q,iI xs G Q→wpS T dM (bD Q) (aM 1 xs) G:=by
 rintro xs G Q ⟨a,b,c,rfl,hq⟩;unfold dM iW;have:=h.is_shade;walk_at "rd"
 refine ⟨_,rfl,.inl ⟨(a,b,c),rfl, ?_⟩⟩;show vW (.bl true) G _;rw [gH,if_neg (by decide)];exact Wk.here hq
noncomputable def dY:CS:=jF
theorem tT (h:P4 T):∀ xs G Q,cF xs G Q→wpS T dY (bD Q) (aM 1 xs) G:=by
 rintro xs G Q ⟨a,b,c,rfl,hq⟩;unfold dY jF;have:=h.need_shade;have e1:=@aGH T h;have e2:=@aH4 T h;have e3:=@aH0 T h;walk_at "rd"
noncomputable def cM:CS:=fB
theorem kJ (h:P4 T):∀ xs G Q,jB xs G Q→wpS T cM (bD Q) (aM 6 xs) G:=by
 rintro xs G Q ⟨p,a,b,c,rfl,hp,⟨a1,a2⟩,⟨b1,b2⟩,⟨c1,c2⟩,hq⟩;unfold cM fB;have:=h.is_share;walk_at "rd"
 refine ⟨"Shade",[],[],rfl,h.fl_e,by decide,"Shade",["ember"],[FQ a],aR,h.fl_l,by decide,"Shade",["ember","leaf"],[FQ a,FQ b],aR,h.fl_s,by decide, ?_⟩;simp only [eW];exact Wk.here hq
theorem jJ (h:P4 T):xY T "Shade" "Shade" "Shade.__init__":=by
 intro xs G Q q p hp;rw [h.shade] at q;rw [h.shadeI];obtain ⟨a,b,c,rfl,ha,hb,hc,q⟩:=q;refine ⟨p,a,b,c,rfl,aR,ha,hb,hc,rfl,_,_,aR, ?_⟩;rw [eW,tN hp];exact q
noncomputable def fA:CS:=mJ
theorem yL (k:P4 T):∀ xs G Q,IK xs G Q→wpS T fA (bD Q) (aM 3 xs) G:=by
 rintro xs G Q ⟨n,rfl,h0,sn,hq⟩;unfold fA mJ;have:=k.gv_PIECE;have:=aD3 sn;have:=aIg sn;walk_at "rd"
 refine ⟨Nat.zero_le _,fun p hp=>?_⟩;refine ⟨fun m σ H=>σ=[some (.int n),some (.ref p),none]∧H=gup G p (.lst []),⟨0,rfl,rfl⟩, ?_⟩;rintro m σ H ⟨rfl,rfl⟩;walk_at "rd"
 rw [if_neg (by rw [←aGT]; assumption)];refine ⟨_,aR,by decide,[iT n],rfl, ?_, ?_⟩
 · have:=uL (wF sn);show (iT n).length + 0 + 1 * 0≤16777216;omega
 · rw [aGA];refine Wk.of hq fun a o z=>?_;rw [eW,eO (fun e=>by subst e; rw [hp] at z; cases z)]; exact z
noncomputable def eZ:CS:=mP
theorem yC (k:P4 T):∀ xs G Q,ZM xs G Q→wpS T eZ (bD Q) (aM 1 xs) G:=by
 rintro xs G Q ⟨q,rfl,h0,bq,hq⟩;unfold eZ mP;have e1:=k.figures;have fg:∀ {n:Int} {G:Gh} {Q:PK1},0≤n→Sm 200 n→Q (.str (iT n)) G→T.S "figures" [.int n] G Q:=fun {n G Q} h h' q=>by rw [e1]; exact ⟨n,rfl,h,h',q⟩
 clear e1;unfold wr at hq;walk_at "rd"
 by_cases e:(q.den:Int)=1
 · rw [if_pos e] at hq ⊢;exact fg (FT h0) bq.1 (Wk.here hq)
 · rw [if_neg e] at hq ⊢;have l1:=uL (wF bq.1);have l2:=uL (wF bq.2);have l3:("/":Str).length=1:=rfl;have hs:=sizeLine_eq;walk_at "rd"
   refine fg (FT h0) bq.1 ⟨_,rfl,by omega,by omega,by omega,by rw [bY]; omega,fg (Int.natCast_nonneg _) bq.2 ⟨_,rfl,by omega, ?_, ?_, ?_⟩⟩
   · rw [bY,bY]; omega
   · rw [bY,bY]; omega
   · rw [Str.append_assoc]; exact Wk.here hq
noncomputable def cY:CS:=fL
theorem lR (h:P4 T):∀ xs G Q,zG xs G Q→wpS T cY (bD Q) (aM 1 xs) G:=by
 rintro xs G Q ⟨r,rfl,⟨⟨i1,i2,i3⟩,b1,b2,b3⟩,hq⟩;unfold cY fL;have:=h.shares_of;have e1:=h.written;have wt:∀ {q:Rat} {G:Gh} {Q:PK1},In1 q→Bd 200 q→Q (.str (wr q)) G→T.S "written" [FQ q] G Q:=fun {q G Q} h h' z=>by rw [e1]; exact ⟨q,rfl,h.1,h',z⟩
 clear e1;have l1:=oY b1;have l2:=oY b2;have l3:=oY b3;walk_at "rd"
 refine wt i1 b1 (wt i2 b2 (wt i3 b3 ⟨[wr r.1,wr r.2.1,wr r.2.2],rfl, ?_,Wk.here hq⟩));show (wr r.1).length + ((wr r.2.1).length + ((wr r.2.2).length + 0)) + 3 * 1≤16777216;omega
noncomputable def cC:CS:=fE
theorem kW (k:P4 T):∀ xs G Q,xS xs G Q→wpS T cC (bD Q) (aM 1 xs) G:=by
 rintro xs G Q ⟨r,rfl,s,hq⟩;unfold cC fE;have e1:=k.strS;have l:=UZ s.2.1 s.2.2.1 s.2.2.2;have l1:("Shade(":Str).length=6:=rfl;have l2:(")":Str).length=1:=rfl;have hs:=sizeLine_eq;walk_at "rd"
 refine ⟨by decide,by decide,rM ?_⟩;rw [e1];refine ⟨r,rfl,s,_,rfl,_,rfl,by omega,by rw [bY]; omega,by decide,by rw [bY,bY]; omega,by rw [bY,bY]; omega,Wk.here hq⟩
noncomputable def cV:CS:=eF
theorem lU (h:P4 T):∀ xs G Q,zA xs G Q→wpS T cV (bD Q) (aM 1 xs) G:=by
 rintro xs G Q ⟨r,rfl,hq⟩;unfold cV eF;have:=h.shares_of;simp only [wpS,wpE,wpL,wpI,iE,DZ,aM,this,cF];refine ⟨_,rfl,_,_,_,rfl,(show 3≤sizeLine by decide),aHL ?_⟩;rw [VF,YT];exact Wk.here hq
noncomputable def jD:CS:=(.seq (.iff (.oo (.no (.tst (.blt .isi (.cons (.var 0) (.cons (.glo "tuple") .nil))))) (.tsb (.cmp .NotEq (.blt .len (.cons (.var 0) .nil)) (.int 3)))) (.ret (.bl false)) .nil)
 (.ret (.blt .all (.cons (.cmpr false (.gn 1) (.isq (.var 0)) .nil (.an (.cal "is_whole" (.cons (.var 1) .nil)) (.chn .LtE .LtE (.int 1) (.var 1) (.glo "MOST_OF_EYE"))) [none,none]) .nil))))
theorem DN:∀ xs G Q,mY xs G Q→wpS T jD (bD Q) (aM 1 xs) G:=by
 rintro xs G Q ⟨_,_,z⟩;exact z.elim
noncomputable def fZ:CS:=(.seq (.iff (.tsb (.cmp .Is (.var 0) .non)) (.ret (.glo "EVEN_EYE")) .nil)
 (.seq (.iff (.no (.tst (.cal "is_eye" (.cons (.var 0) .nil)))) .nev .nil)
 (.ret (.var 0))))
theorem CI (h:P4 T):∀ xs G Q,jC xs G Q→wpS T fZ (bD Q) (aM 1 xs) G:=by
 rintro xs G Q ⟨rfl,hq⟩;unfold fZ;have:=h.gv_EVEN;walk_at "rd"
noncomputable def cX:CS:=(.seq (.fld (.var 0) "eye" (.cal "eye_of" (.cons (.var 1) .nil)))
 (.seq (.fld (.var 0) "pages" .emp)
 (.fld (.var 0) "past" (.lst false .nil))))
theorem lN (h:P4 T):∀ xs G Q,nE xs G Q→wpS T cX (bD Q) (aM 2 xs) G:=by
 rintro xs G Q ⟨p,rfl,hp,hq⟩;unfold cX;have:=h.eye_of;walk_at "rd"
 refine ⟨"Book",[],[],rfl,h.fl_y,by decide,"Book",["eye"],[BW],aR,h.fl_p,by decide,by decide,"Book",["eye","pages"],[BW,.emp],aR,h.fl_q,by decide, ?_⟩;simp only [eW];exact Wk.here hq
theorem GT (h:P4 T):xY T "Book" "Book" "Book.__init__":=by
 intro xs G Q q p hp;rw [h.book] at q;rw [h.bookI];obtain ⟨rfl,q⟩:=q;refine ⟨p,rfl,aR,rfl,_,_,aR, ?_⟩;rw [eW,tN hp];exact q
noncomputable def cP:CS:=(.seq (.fld (.var 0) "many" (.int 0))
 (.seq (.fld (.var 0) "weight" (.int 0))
 (.fld (.var 0) "sums" (.tup (.cons (.glo "ZERO") (.cons (.glo "ZERO") (.cons (.glo "ZERO") .nil)))))))
theorem kO (h:P4 T):∀ xs G Q,kC xs G Q→wpS T cP (bD Q) (aM 1 xs) G:=by
 rintro xs G Q ⟨p,rfl,hp,hq⟩;unfold cP;have:=h.gv_ZERO;walk_at "rd"
 refine ⟨"Blend",[],[],rfl,h.fl_m,by decide,"Blend",["many"],[.int 0],aR,h.fl_w,by decide,"Blend",["many","weight"],[.int 0,.int 0],aR,h.fl_u,by decide, ?_⟩;simp only [eW];exact Wk.here hq
theorem DW (h:P4 T):xY T "Blend" "Blend" "Blend.__init__":=by
 intro xs G Q q p hp;rw [h.blend] at q;rw [h.blendI];obtain ⟨rfl,q⟩:=q;refine ⟨p,rfl,aR,rfl,_,_,aR, ?_⟩;rw [eW,tN hp];exact q
end
noncomputable abbrev q4:List (String×Str):=[("Shade","Shade.__eq__"),("Blend","Blend.__eq__"),("Book","Book.__eq__")]
noncomputable def cN (r:R3):PV:=.tup [FQ r.1,FQ r.2.1,FQ r.2.2]
noncomputable def OA (r:R3) (z1 z2:Str) (n:Int):List PV:=[cN r,.lst [FQ r.1,FQ r.2.1,FQ r.2.2],FQ r.1,.str z1,.str z2,.non,.bl true,.bl false,.int 0,.int 1,.tup [],.lst [],.emp,.str "",.tup [shV r],.lst [shV r],.dct [.inr "shade"] [shV r],BL,BK,.int n]
theorem aDS {r:R3} {z1 z2:Str} {n:Int}:∀ x∈OA r z1 z2 n,Od x:=by
 intro x hx;simp only [OA,List.mem_cons,List.not_mem_nil,or_false] at hx;rcases hx with h | h | h | h | h | h | h | h | h | h | h | h | h | h | h | h | h | h | h | h <;> subst h <;> first | exact .inr (.inl rfl) | exact .inr (.inr rfl) | exact .inl trivial
def rY:Sp3:=fun xs G Q=>∃ p r,xs=[.ref p,cN r]∧Pu p G∧Sh7 12 r∧∀ G',Pn p G G'→Q (shV r) G'
def rN:Sp3:=fun xs G Q=>∃ p r,xs=[.ref p,cN r]∧Pu p G∧Sh7 12 r∧∀ s G',Sh7 12 s→Pn p G G'→Q (cN s) G'
def BH:Sp3:=fun xs G Q=>∃ a b,xs=[.bl a,.bl b]∧Q (.bl (a == b)) G
def rZ:Sp3:=fun xs G Q=>∃ r,xs=[shV r,cN r]∧Sh7 12 r∧∀ z1 z2 n,Q (.lst (OA r z1 z2 n)) G
def IC:Sp3:=fun xs G Q=>∃ r,xs=[shV r,cN r]∧Sh7 12 r∧Q (.bl true) G
def zB:Sp3:=fun xs G Q=>∃ r s,xs=[shV r,shV s,.tup [cN r,cN s]]∧Sh7 12 r∧Sh7 12 s∧Q (.bl true) G
structure L4 (T:Tb):Prop where
 made:T.S "_law_made"=rY
 other_row:T.S "_law_other_row"=rN
 is_:T.S "_law_is"=BH
 others:T.S "_law_others"=rZ
 others_right:T.S "_law_others_right"=IC
 two_right:T.S "_law_two_right"=zB
theorem Wk.new4 {Q:PK1} {x:PV} {G:Gh} {l:Addr} {o:GO} (n:G l=none) (q:Q x G):Wk Q x (gup G l o):=Wk.of q fun a u z=>by
 rw [eO (fun e=>by subst e; rw [n] at z; cases z)]; exact z
theorem aE1 {a b:Bool} {G:Gh} {Q:PK1}:pEq false (.bl a) (.bl b) G Q=Q (.bl (a == b)) G:=by
 show (true=true∧true=true∧Q (.bl (peq (.bl a) (.bl b))) G)=_;simp only [true_and,peq]
local macro_rules | `(tactic| walk_at "rd") => wk (wqB++" XY aD2 at2 tI zO jY jZ cF aE1 VZ HQ cN")
section
variable {T:Tb}
noncomputable def fS:CS:=(.seq (.asg (.gn 2) (.cal "_law_pick" (.cons (.var 0) (.cons (.int 3) .nil))))
 (.seq (.iff (.tsb (.cmp .Eq (.var 2) (.int 0))) (.ret (.cal "Shade" (.cons (.idx (.var 1) (.int 0)) (.cons (.idx (.var 1) (.int 1)) (.cons (.idx (.var 1) (.int 2)) .nil))))) .nil)
 (.seq (.iff (.tsb (.cmp .Eq (.var 2) (.int 1))) (.ret (.cak "Shade" .nil (.cons (.idx (.var 1) (.int 2)) (.cons (.idx (.var 1) (.int 0)) (.cons (.idx (.var 1) (.int 1)) .nil))) [.arg 1,.arg 2,.arg 0])) .nil)
 (.ret (.cak "Shade" (.cons (.idx (.var 1) (.int 0)) .nil) (.cons (.idx (.var 1) (.int 2)) (.cons (.idx (.var 1) (.int 1)) .nil)) [.arg 0,.arg 2,.arg 1])))))
theorem CQ (h:P4 T) (l:LT T):∀ xs G Q,rY xs G Q→wpS T fS (bD Q) (aM 3 xs) G:=by
 rintro xs G Q ⟨p,⟨a,b,c⟩,rfl,hp,⟨⟨ia,ib,ic⟩,_⟩,hq⟩;unfold fS;have:=l.pick;have:=h.shade;walk_at "rd"
 refine ⟨by decide,smP (by decide) (by decide),fun r G1 r0 r1 n1=>?_⟩;have:=hq G1 n1;simp only [Ar.val,List.getD_cons_zero,List.getD_cons_succ];walk_at "rd"
 exact Wk.here this
noncomputable def iL:CS:=(.ret (.an (.blt .isi (.cons (.var 0) (.cons (.glo "bool") .nil))) (.cmp .Eq (.var 0) (.var 1))))
theorem JH (h:P4 T):∀ xs G Q,BH xs G Q→wpS T iL (bD Q) (aM 2 xs) G:=by
 rintro xs G Q ⟨a,b,rfl,hq⟩;unfold iL;have:=h.ty_bool;walk_at "rd"
noncomputable def dE:CS:=gG
theorem aFH {r s:R3}:(decide (r.1=s.1) && (decide (r.2.1=s.2.1) && decide (r.2.2=s.2.2)))=decide (r=s):=by
 rw [←Bool.decide_and,←Bool.decide_and];exact decide_eq_decide.mpr ⟨by rintro ⟨a,b,c⟩;exact Prod.ext a (Prod.ext b c),fun e=>by subst e; exact ⟨rfl,rfl,rfl⟩⟩
theorem mD (h:P4 T):∀ xs G Q,II xs G Q→wpS T dE (bD Q) (aM 2 xs) G:=by
 rintro xs G Q ⟨r,x,rfl,hq⟩;unfold dE gG;have e1:=h.gv_Shade;have e2:=h.cs;have e3:=h.shares_of;rcases hq with ⟨s,rfl,hq⟩ | ⟨hx,hq⟩
 · have:=@SE;rw [←aFH] at hq;walk_at "rd"
 · clear e3;walk_at "rd"
   refine RJ hx e2 h.csK h.csL ?_;walk_at "rd"
theorem VY {cs:List String} {r:R3} {c:String} {G:Gh} {Q:PK1} (hc:c∈cs) (h: "Shade"∈cs) (ne: "Shade"≠c) (q:Q (.bl false) G):dU cs .isi [shV r,.cl c] G Q:=⟨hc,.inr ⟨"Shade",rfl,h,by rw [decide_eq_false ne]; exact q⟩⟩
noncomputable def dD:CS:=(.ret (.an (.blt .isi (.cons (.var 1) (.cons (.glo "Blend") .nil))) (.an (.cmp .Eq (.att (.var 0) "weight") (.att (.var 1) "weight")) (.cmp .Eq (.att (.var 0) "sums") (.att (.var 1) "sums")))))
theorem nB (h:P4 T):∀ xs G Q,rR xs G Q→wpS T dD (bD Q) (aM 2 xs) G:=by
 rintro xs G Q ⟨r,rfl,hq⟩;unfold dD;have e1:=h.gv_Blend;walk_at "rd"
 refine VY (r:=r) h.csL h.cs (by decide) ?_;walk_at "rd"
noncomputable def dH:CS:=(.ret (.an (.blt .isi (.cons (.var 1) (.cons (.glo "Book") .nil))) (.an (.cmp .Eq (.att (.var 0) "eye") (.att (.var 1) "eye")) (.cmp .Eq (.att (.var 0) "pages") (.att (.var 1) "pages")))))
theorem oK (h:P4 T):∀ xs G Q,sA xs G Q→wpS T dH (bD Q) (aM 2 xs) G:=by
 rintro xs G Q ⟨r,rfl,hq⟩;unfold dH;have e1:=h.gv_Book;walk_at "rd"
 refine VY (r:=r) h.csK h.cs (by decide) ?_;walk_at "rd"
end
theorem DY {xs:List PV} {lo hi:Option Int} {G:Gh} {Q:PK1}:TY (.tup xs) lo hi G Q=Q (.tup (rH xs lo hi)) G:=rfl
local macro_rules | `(tactic| walk_at "rd") => wk (wqB++" nD DX CC jY fQ fJ sz1 HQ cN DY rQ nI")
section
variable {T:Tb}
noncomputable def eG:CS:=(.seq (.asg (.gn 2) (.cal "_law_pick" (.cons (.var 0) (.cons (.int 5) .nil))))
 (.seq (.asg (.gn 3) (.cal "_law_pick" (.cons (.var 0) (.cons (.int 3) .nil))))
 (.seq (.iff (.tsb (.cmp .Eq (.var 2) (.int 0))) (.ret (.var 1)) .nil)
 (.seq (.iff (.tsb (.cmp .Eq (.var 2) (.int 1))) (.ret (.bin .Add (.bin .Add (.sli (.var 1) .nil (.tst (.var 3))) (.tup (.cons (.cal "_law_share" (.cons (.var 0) .nil)) .nil))) (.sli (.var 1) (.tst (.bin .Add (.var 3) (.int 1))) .nil))) .nil)
 (.seq (.iff (.tsb (.cmp .Eq (.var 2) (.int 2))) (.ret (.bin .Add (.sli (.var 1) (.tst (.int 1)) .nil) (.sli (.var 1) .nil (.tst (.int 1))))) .nil)
 (.seq (.iff (.tsb (.cmp .Eq (.var 2) (.int 3))) (.ret (.rev (.var 1))) .nil)
 (.ret (.cal "_law_shares" (.cons (.var 0) .nil)))))))))
theorem aJY {a b c:PV} {k:Int} (h:k=0∨k=1∨k=2):∃ l r,rH [a,b,c] none (some k)=l∧rH [a,b,c] (some (k + 1)) none=r∧((l=[]∧r=[b,c])∨(l=[a]∧r=[c])∨(l=[a,b]∧r=[])):=by
 rcases h with rfl | rfl | rfl
 · exact ⟨_,_,rfl,rfl,.inl ⟨rfl,rfl⟩⟩
 · exact ⟨_,_,rfl,rfl,.inr (.inl ⟨rfl,rfl⟩)⟩
 · exact ⟨_,_,rfl,rfl,.inr (.inr ⟨rfl,rfl⟩)⟩
theorem vL (l:LT T):∀ xs G Q,rN xs G Q→wpS T eG (bD Q) (aM 4 xs) G:=by
 rintro xs G Q ⟨p,⟨a,b,c⟩,rfl,hp,hs,hq⟩;unfold eG;have e1:=l.pick;have e2:=l.share;have e3:=l.shares;have hs':=hs;obtain ⟨⟨ia,ib,ic⟩,ba,bb,bc⟩:=hs';walk_at "rd"
 refine ⟨by decide,smP (by decide) (by decide),fun r G1 r0 r1 n1=>⟨n1.pu,by decide,smP (by decide) (by decide),fun k G2 k0 k1 n2=>?_⟩⟩;have nn:=n1.trans n2;have hr:r=0∨r=1∨r=2∨r=3∨r=4:=by omega
 rcases hr with rfl | rfl | rfl | rfl | rfl
 · rw [if_pos rfl];exact Wk.here (hq _ _ hs nn)
 · rw [if_neg (by decide),if_pos rfl];refine ⟨nn.pu,fun q G3 iq bq n3=>?_⟩;have n4:=nn.trans n3;obtain ⟨x,y,e1,e2,hxy⟩:=aJY (a:=FQ a) (b:=FQ b) (c:=FQ c) (k:=k) (by omega);rw [e1,e2];rcases hxy with ⟨rfl,rfl⟩ | ⟨rfl,rfl⟩ | ⟨rfl,rfl⟩
   · exact ⟨(show 1≤sizeLine by decide),(show 3≤sizeLine by decide),Wk.here (hq (q,b,c) _ ⟨⟨iq,ib,ic⟩,bq,bb,bc⟩ n4)⟩
   · exact ⟨(show 2≤sizeLine by decide),(show 3≤sizeLine by decide),Wk.here (hq (a,q,c) _ ⟨⟨ia,iq,ic⟩,ba,bq,bc⟩ n4)⟩
   · exact ⟨(show 3≤sizeLine by decide),(show 3≤sizeLine by decide),Wk.here (hq (a,b,q) _ ⟨⟨ia,ib,iq⟩,ba,bb,bq⟩ n4)⟩
 · rw [if_neg (by decide),if_neg (by decide),if_pos rfl];exact ⟨(show 3≤sizeLine by decide),Wk.here (hq (b,c,a) _ ⟨⟨ib,ic,ia⟩,bb,bc,ba⟩ nn)⟩
 · rw [if_neg (by decide),if_neg (by decide),if_neg (by decide),if_pos rfl];exact .inr (Wk.here (hq (c,b,a) _ ⟨⟨ic,ib,ia⟩,bc,bb,ba⟩ nn))
 · rw [if_neg (by decide),if_neg (by decide),if_neg (by decide),if_neg (by decide)];exact ⟨nn.pu,fun a b c G3 ia ib ic ba bb bc n3=>Wk.here (hq (a,b,c) _ ⟨⟨ia,ib,ic⟩,ba,bb,bc⟩ (nn.trans n3))⟩
noncomputable def gK:CS:=(.seq (.asg (.gn 2) (.lst false (.cons (.var 1) (.cons (.blt .list (.cons (.var 1) .nil)) (.cons (.idx (.var 1) (.int 0)) (.cons (.bow .str [("Shade","Shade.__str__")] (.cons (.var 0) .nil)) (.cons (.bow .repr [("Shade","Shade.__repr__")] (.cons (.var 0) .nil)) (.cons .non (.cons (.bl true) (.cons (.bl false) (.cons (.int 0) (.cons (.int 1) (.cons (.tup .nil) (.cons (.lst false .nil) (.cons .emp (.cons (.str "") .nil))))))))))))))))
 (.ret (.bin .Add (.var 2) (.lst false (.cons (.tup (.cons (.var 0) .nil)) (.cons (.lst false (.cons (.var 0) .nil)) (.cons (.dct (.cons (.str "shade") (.cons (.var 0) .nil))) (.cons (.cak "Blend" .nil .nil []) (.cons (.cak "Book" .nil .nil [.non]) (.cons (.bow .len [("Shade","Shade.__len__")] (.cons (.var 0) .nil)) .nil))))))))))
theorem GC (h:P4 T):∀ xs G Q,rZ xs G Q→wpS T gK (bD Q) (aM 3 xs) G:=by
 rintro xs G Q ⟨r,rfl,hs,hq⟩;unfold gK;have e1:=h.book;have e2:=h.blend;walk_at "rd"
 have ss:Sh7 200 r:=hs.mono (by decide);refine .inl ⟨_,rfl,rM ?_⟩;rw [h.strS];refine ⟨r,rfl,ss,_,rfl,rM ?_⟩;rw [h.repS];refine ⟨r,rfl,ss,_,rfl,by decide,by decide,by decide,[(.inr "shade",SH r.1 r.2.1 r.2.2)],rfl,List.nodup_cons.mpr ⟨List.not_mem_nil,List.nodup_nil⟩,(show 1≤15 by decide),rfl,rM ?_⟩;rw [h.lenS];refine ⟨r,rfl,_,rfl, ?_, ?_,by decide,by decide,Wk.here (hq _ _ _)⟩
 · unfold cnt; split <;> split <;> split <;> decide
 · unfold cnt; split <;> split <;> split <;> decide
theorem aJ9 (h:P4 T) {r:R3} {x:PV} {G:Gh} {Q:PK1} (hx:Od x) (q:Q (.bl false) G):pX T .Eq q4 (shV r) x G Q:=by
 refine .inr (.inl ⟨"Shade","Shade.__eq__",_,_,wDq ..,rfl, ?_, ?_⟩)
 · rcases hx with hx | rfl | rfl
   · exact .inl (hx.bu G)
   · exact .inr ⟨_,_,_,rfl,h.csL,by decide⟩
   · exact .inr ⟨_,_,_,rfl,h.csK,by decide⟩
 · rw [h.eqS]; exact ⟨r,x,rfl,.inr ⟨hx,_,rfl,q⟩⟩
theorem aJq (h:P4 T) {r:R3} {x:PV} {G:Gh} {Q:PK1} (hx:Od x) (q:Q (.bl true) G):pX T .NotEq q4 (shV r) x G Q:=by
 refine .inr ⟨"Shade","Shade.__eq__",_,_,wDq ..,rfl, ?_, ?_⟩
 · rcases hx with hx | rfl | rfl
   · exact .inl (hx.bu G)
   · exact .inr ⟨_,_,_,rfl,h.csL,by decide⟩
   · exact .inr ⟨_,_,_,rfl,h.csK,by decide⟩
 · rw [h.eqS]; exact ⟨r,x,rfl,.inr ⟨hx,_,rfl,q⟩⟩
theorem mL4:("Blend",("Blend.__eq__":Str))∈q4:=wCq _ (wDq ..)
theorem mK4:("Book",("Book.__eq__":Str))∈q4:=wCq _ (wCq _ (wDq ..))
theorem aJ5 (h:P4 T) {r:R3} {x:PV} {G:Gh} {Q:PK1} (hx:Od x) (q:Q (.bl false) G):pX T .Eq q4 x (shV r) G Q:=by
 rcases hx with hx | rfl | rfl
 · refine .inr (.inr ⟨"Shade","Shade.__eq__",_,_,wDq ..,rfl,hx.bu G, ?_⟩);rw [h.eqS]; exact ⟨r,x,rfl,.inr ⟨.inl hx,_,rfl,q⟩⟩
 · refine .inr (.inl ⟨"Blend","Blend.__eq__",_,_,mL4,rfl,.inr ⟨_,_,_,rfl,h.cs,by decide⟩, ?_⟩);rw [h.eqBl]; exact ⟨r,rfl,_,rfl,q⟩
 · refine .inr (.inl ⟨"Book","Book.__eq__",_,_,mK4,rfl,.inr ⟨_,_,_,rfl,h.cs,by decide⟩, ?_⟩);rw [h.eqBk]; exact ⟨r,rfl,_,rfl,q⟩
theorem in4 (h:P4 T) {r:R3} {G:Gh} {Q:Bool→Gh→Prop}:∀ (xs ys:List PV),(∀ x∈xs,Od x)→inP T q4 "Shade" "Shade.__eq__" (shV r) Q ys G→inP T q4 "Shade" "Shade.__eq__" (shV r) Q (xs ++ ys) G
 | [],ys,_,q=>q
 | x :: xs,ys,hx,q=>by
   have ih:=in4 h xs ys (fun y hy=>hx y (wCq _ hy)) q;rcases hx x (wDq ..) with ho | rfl | rfl
   · refine .inr (.inl ⟨ho.bu G, ?_⟩);rw [h.eqS]; exact ⟨r,x,rfl,.inr ⟨.inl ho,_,rfl,ih⟩⟩
   · refine .inr (.inr ⟨"Blend","Blend.__eq__",_,_,mL4,h.csL,by decide,rfl, ?_⟩);rw [h.eqBl]; exact ⟨r,rfl,_,rfl,ih⟩
   · refine .inr (.inr ⟨"Book","Book.__eq__",_,_,mK4,h.csK,by decide,rfl, ?_⟩);rw [h.eqBk]; exact ⟨r,rfl,_,rfl,ih⟩
theorem aKj (h:P4 T) {r s:R3} {G:Gh} {Q:Bool→Gh→Prop} {ys:List PV} (q0:Q true G) (q:r≠s→inP T q4 "Shade" "Shade.__eq__" (shV r) Q ys G):inP T q4 "Shade" "Shade.__eq__" (shV r) Q (shV s :: ys) G:=by
 refine .inl ⟨⟨_,_,rfl⟩,fun _=>q0, ?_⟩;rw [h.eqS];refine ⟨s,_,rfl,.inl ⟨r,rfl,_,rfl, ?_⟩⟩;by_cases e:s=r
 · rw [decide_eq_true e,if_pos rfl]; exact q0
 · rw [decide_eq_false e,if_neg (by decide)]; exact q (fun z=>e z.symm)
end
local macro_rules | `(tactic| walk_at "rd") => wk (wqB++" DX xR AG sz1")
section
variable {T:Tb}
theorem WZ (l:L4 T) {b:Bool} {G:Gh} {Q:PK1} (q:Q (.bl true) G):T.S "_law_is" [.bl b,.bl b] G Q:=by
 rw [l.is_]; exact ⟨b,b,rfl,by rw [beq_self_eq_true]; exact q⟩
noncomputable def orB:CS:=(.seq (.iff (.oo (.no (.tst (.cal "_law_is" (.cons (.cex .Eq q4 (.var 0) (.var 3)) (.cons (.bl false) .nil))))) (.no (.tst (.cal "_law_is" (.cons (.cex .Eq q4 (.var 3) (.var 0)) (.cons (.bl false) .nil)))))) (.ret (.bl false)) .nil)
 (.seq (.iff (.no (.tst (.cal "_law_is" (.cons (.cex .NotEq q4 (.var 0) (.var 3)) (.cons (.bl true) .nil))))) (.ret (.bl false)) .nil)
 (.iff (.no (.tst (.cal "_law_is" (.cons (.cal "is_shade" (.cons (.var 3) .nil)) (.cons (.bl false) .nil))))) (.ret (.bl false)) .nil)))
noncomputable def orT:CS:=(.ret (.an (.no (.cex .In q4 (.var 0) (.var 2))) (.an (.cex .In q4 (.var 0) (.bin .Add (.var 2) (.lst false (.cons (.var 0) .nil)))) (.cmp .Is (.cak "is_shade" .nil (.cons (.var 0) .nil) [.arg 0]) (.bl true)))))
noncomputable def dF:CS:=(.seq (.asg (.gn 2) (.cal "_law_others" (.cons (.var 0) (.cons (.var 1) .nil))))
 (.seq (.fr (.gn 3) (.isq (.var 2)) orB)
 orT))
theorem aHS (h:P4 T) (l:L4 T) {D:jH} {r:R3} {x:PV} {x1 x2:Option PV} {G:Gh} (hx:Od x) (hR:D.nx [some (shV r),x1,x2,some x] G):wpS T orB D [some (shV r),x1,x2,some x] G:=by
 unfold orB;generalize eq:q4=q at *;walk_at "rd"
 subst eq;refine aJ9 h hx (WZ l ?_);walk_at "rd"
 refine aJ5 h hx (WZ l ?_);walk_at "rd"
 refine aJq h hx (WZ l ?_);walk_at "rd"
 rw [h.is_shade];refine ⟨x,rfl,.inr ⟨hx,WZ l ?_⟩⟩;walk_at "rd"
theorem YA (h:P4 T) {r:R3} {ys:List PV} {G:Gh} {Q:PK1} (q:inP T q4 "Shade" "Shade.__eq__" (shV r) (fun b G'=>Q (.bl b) G') ys G):pX T .In q4 (shV r) (.lst ys) G Q:=⟨"Shade","Shade.__eq__",_,_,ys,wDq ..,h.cs,rfl,.inl rfl,q⟩
theorem aJk (h:P4 T) {r:R3} {ys:List PV} {G:Gh} {Q:PK1} (q:inP T q4 "Shade" "Shade.__eq__" (shV r) (fun b G'=>Q (.bl b) G') ys G):pX T .In q4 (shV r) (.tup ys) G Q:=⟨"Shade","Shade.__eq__",_,_,ys,wDq ..,h.cs,rfl,.inr ⟨rfl,rfl⟩,q⟩
theorem aF2 (h:P4 T) {Q:PK1} {r:R3} {L:List PV} {x1 x3:Option PV} {G:Gh} (hL:∀ x∈L,Od x) (hz:L.length≤100) (hq:Q (.bl true) G):wpS T orT (bD Q) [some (shV r),x1,some (.lst L),x3] G:=by
 unfold orT;generalize eq:q4=q at *;walk_at "rd"
 subst eq;have hz':L.length + 1≤sizeLine:=by have:=sizeLine_eq; omega
 have hq':Wk Q (.bl true) G:=Wk.here hq;refine YA h ?_;have i0:=fun (Q:Bool→Gh→Prop) (q:Q false G)=>in4 h (r:=r) (Q:=Q) L [] hL q;simp only [List.append_nil] at i0;refine i0 _ ?_;walk_at "rd"
 refine YA h (in4 h L [shV r] hL (aKj h ?_ fun ne=>absurd rfl ne));walk_at "rd"
 rw [h.is_shade];refine ⟨_,rfl,.inl ⟨r,rfl, ?_⟩⟩;show pIs false (.bl true) (.bl true) G _;rw [XL];exact hq'
theorem pC (h:P4 T) (l:L4 T):∀ xs G Q,IC xs G Q→wpS T dF (bD Q) (aM 4 xs) G:=by
 rintro xs G Q ⟨r,rfl,hs,hq⟩;unfold dF;generalize eB:orB=B;generalize eC:orT=C;have e1:=l.others;have so:∀ {G:Gh} {Q:PK1},(∀ z1 z2 n,Q (.lst (OA r z1 z2 n)) G)→T.S "_law_others" [shV r,cN r] G Q:=fun z=>by rw [e1]; exact ⟨r,rfl,hs,z⟩
 clear e1;walk_at "rd"
 refine so fun z1 z2 n=>?_;have ho:=@aDS r z1 z2 n;have hz:(OA r z1 z2 n).length≤100:=by show 20≤100; decide
 generalize OA r z1 z2 n=L at *;walk_at "rd"
 refine jT (fun σ G'=>G'=G∧∃ x3,σ=[some (shV r),some (cN r),some (.lst L),x3]) ⟨rfl,_,rfl⟩ ?_ ?_
 · rintro x hx σ G' R ⟨rfl,x3,rfl⟩ hR;subst eB;exact aHS h l (ho x hx) (hR _ _ ⟨rfl,_,rfl⟩)
 · rintro σ G' ⟨rfl,x3,rfl⟩;subst eC;exact aF2 h ho hz hq
end
theorem plS {r:R3}:plO (shV r)=true:=by simp [plO,FL,pln,shV,SH,FQ]
theorem WQ {r s:R3} (h:shV r=shV s):r=s:=by
 unfold shV at h;rw [zO] at h;exact Prod.ext h.1 (Prod.ext h.2.1 h.2.2)
local macro_rules | `(tactic| walk_at "rd") => wk (wqB++" oM UF exists_eq' hX Option.getD_some sz1 BH beq_self_eq_true")
section
variable {T:Tb}
noncomputable def twT:CS:=(.ret (.an (.cex .Eq q4 (.var 0) (.var 0)) (.an (.cex .Eq q4 (.cal "shares_of" (.cons (.var 0) .nil)) (.idx (.var 2) (.int 0))) (.cex .Eq q4 (.cal "shares_of" (.cons (.var 1) .nil)) (.idx (.var 2) (.int 1))))))
noncomputable def twC:CS:=(.seq (.iff (.no (.tst (.blt .all (.cons (.cmpr false (.gn 1) (.isq (.var 4)) .nil (.cal "_law_is" (.cons (.var 1) (.cons (.var 2) .nil))) [none,none,some 3]) .nil)))) (.ret (.bl false)) .nil)
 twT)
noncomputable def twB:CS:=(.seq (.ex (.app (.var 4) (.cex .In q4 (.var 0) (.lst false (.cons .non (.cons (.var 1) (.cons (.int 5) .nil)))))))
 twC)
noncomputable def eM:CS:=(.seq (.asg (.gn 3) (.cex .Eq q4 (.idx (.var 2) (.int 0)) (.idx (.var 2) (.int 1))))
 (.seq (.asg (.gn 4) (.lst true (.cons (.cex .Eq q4 (.var 0) (.var 1)) (.cons (.cex .Eq q4 (.var 1) (.var 0)) (.cons (.no (.cex .NotEq q4 (.var 0) (.var 1))) (.cons (.cex .In q4 (.var 0) (.lst false (.cons (.var 1) .nil))) (.cons (.cex .In q4 (.var 0) (.tup (.cons (.var 1) .nil))) .nil)))))))
 twB))
theorem aCA (h:P4 T) {r s:R3} {G:Gh} {Q:PK1} (q:Q (.bl (decide (r=s))) G):pX T .Eq q4 (shV r) (shV s) G Q:=by
 refine .inl (.inl ⟨"Shade","Shade.__eq__",_,_,_,_,wDq ..,rfl,rfl, ?_⟩);rw [h.eqS]; exact ⟨r,_,rfl,.inl ⟨s,rfl,_,rfl,q⟩⟩
theorem aKu (h:P4 T) {r s:R3} {G:Gh} {Q:PK1} (q:Q (.bl (!decide (r=s))) G):pX T .NotEq q4 (shV r) (shV s) G Q:=by
 refine .inl (.inl ⟨"Shade","Shade.__eq__",_,_,_,_,wDq ..,rfl,rfl, ?_⟩);rw [h.eqS]; exact ⟨r,_,rfl,.inl ⟨s,rfl,_,rfl,q⟩⟩
theorem aCO {r s:R3} {G:Gh} {Q:PK1} (q:Q (.bl (decide (r=s))) G):pX T .Eq q4 (cN r) (cN s) G Q:=by
 refine .inl (.inr ?_);unfold cN;rw [VZ,aFH]; exact q
theorem aFx (h:P4 T) {r s:R3} {G:Gh} {Q:Bool→Gh→Prop} {ys:List PV} (q1:r=s→Q true G) (q2:r≠s→inP T q4 "Shade" "Shade.__eq__" (shV r) Q ys G):inP T q4 "Shade" "Shade.__eq__" (shV r) Q (shV s :: ys) G:=by
 refine .inl ⟨⟨_,_,rfl⟩,fun e=>q1 (WQ (e plS plS)).symm, ?_⟩;rw [h.eqS];refine ⟨s,_,rfl,.inl ⟨r,rfl,_,rfl, ?_⟩⟩;by_cases e:s=r
 · rw [decide_eq_true e,if_pos rfl]; exact q1 e.symm
 · rw [decide_eq_false e,if_neg (by decide)]; exact q2 (fun z=>e z.symm)
theorem aFk (h:P4 T) {r s:R3} {G:Gh} {Q:PK1} (q:Q (.bl (decide (r=s))) G):inP T q4 "Shade" "Shade.__eq__" (shV r) (fun b G'=>Q (.bl b) G') [shV s] G :=
 aFx h (fun e=>by rw [decide_eq_true e] at q; exact q) fun e=>by rw [decide_eq_false e] at q; exact q
theorem aJx (h:P4 T) {r s:R3} {G:Gh} {Q:PK1} (q:Q (.bl (decide (r=s))) G):inP T q4 "Shade" "Shade.__eq__" (shV r) (fun b G'=>Q (.bl b) G') [.non,shV s,.int 5] G:=by
 refine in4 h [.non] [shV s,.int 5] (fun x hx=>by rw [List.mem_singleton.mp hx]; exact .inl trivial) ?_;refine aFx h (fun e=>by rw [decide_eq_true e] at q; exact q) fun e=>?_;rw [decide_eq_false e] at q;exact in4 h [.int 5] [] (fun x hx=>by rw [List.mem_singleton.mp hx]; exact .inl trivial) q
theorem aJu (h:P4 T) {r s:R3} {G:Gh} {Q:PK1} (q:Q (.bl (decide (r=s))) G):pX T .In q4 (shV r) (.lst [shV s]) G Q:=YA h (aFk h q)
theorem aJC (h:P4 T) {r s:R3} {G:Gh} {Q:PK1} (q:Q (.bl (decide (r=s))) G):pX T .In q4 (shV r) (.tup [shV s]) G Q:=aJk h (aFk h q)
theorem aI2 (h:P4 T) {r s:R3} {G:Gh} {Q:PK1} (q:Q (.bl (decide (r=s))) G):pX T .In q4 (shV r) (.lst [.non,shV s,.int 5]) G Q:=YA h (aJx h q)
theorem aIK (h:P4 T) {Q:PK1} {r s:R3} {x3 x4:Option PV} {G:Gh} (hq:Wk Q (.bl true) G):wpS T twT (bD Q) [some (shV r),some (shV s),some (.tup [cN r,cN s]),x3,x4] G:=by
 unfold twT;have e1:=h.shares_of;have so:∀ {r:R3} {G:Gh} {Q:PK1},Q (cN r) G→T.S "shares_of" [shV r] G Q:=fun z=>by rw [e1]; exact ⟨_,_,_,rfl,z⟩
 clear e1;generalize eq:q4=q at *;walk_at "rd"
 subst eq;refine aCA h ?_;rw [decide_eq_true rfl];walk_at "rd"
 refine so (aCO ?_);rw [decide_eq_true rfl];walk_at "rd"
 refine so (aCO ?_);rw [decide_eq_true rfl];exact hq
theorem aIi (h:P4 T) (l:L4 T) {Q:PK1} {r s:R3} {b:Bool} {p:Addr} {G:Gh} (hp:G p=some (.lst [.bl b,.bl b,.bl b,.bl b,.bl b,.bl b])) (hq:∀ x3 x4,wpS T twT (bD Q) [some (shV r),some (shV s),some (.tup [cN r,cN s]),x3,x4] G):wpS T twC (bD Q) [some (shV r),some (shV s),some (.tup [cN r,cN s]),some (.bl b),some (.ref p)] G:=by
 unfold twC;generalize eB:twT=B at *;have e1:=l.is_;have hl:bQ G (.ref p)=some [.bl b,.bl b,.bl b,.bl b,.bl b,.bl b]:=by unfold bQ; dsimp only; rw [hp]
 walk_at "rd"
 refine ⟨_,hp,(show 6≤sizeLine by decide), ?_⟩;walk_at "rd"
 refine ⟨true,rfl, ?_⟩;rw [if_neg (by decide)];exact hq _ _
theorem aGM (h:P4 T) (l:L4 T) {Q:PK1} {r s:R3} {b:Bool} {p:Addr} {G:Gh} (eb:b=decide (r=s)) (hn:G p=none) (hq:Q (.bl true) G):wpS T twB (bD Q) [some (shV r),some (shV s),some (.tup [cN r,cN s]),some (.bl b),some (.ref p)] (gup G p (.lst [.bl b,.bl b,.bl b,.bl b,.bl b])):=by
 unfold twB;generalize eB:twC=B at *;generalize eq:q4=q at *;walk_at "rd"
 subst eq;refine aI2 h ?_;rw [←eb];walk_at "rd"
 refine ⟨_,aR,(show 5 < sizeLine by decide), ?_⟩;subst eB;refine aIi h l aR fun x3 x4=>aIK h ?_;rw [eW];exact Wk.new4 hn hq
theorem vI (h:P4 T) (l:L4 T):∀ xs G Q,zB xs G Q→wpS T eM (bD Q) (aM 5 xs) G:=by
 rintro xs G Q ⟨r,s,rfl,hr,hs,hq⟩;unfold eM;generalize eB:twB=B;generalize eq:q4=q at *;walk_at "rd"
 subst eq;have es:decide (s=r)=decide (r=s):=decide_eq_decide.mpr ⟨Eq.symm,Eq.symm⟩;refine aCO (aCA h (aCA h (aKu h ?_)));rw [es];walk_at "rd"
 refine aJu h (aJC h ⟨by decide,fun p hp=>?_⟩);rw [Bool.not_not];subst eB;exact aGM h l rfl hp hq
end
theorem UO {lo:Int} {n:Nat} {x:PV} (h:x∈zK lo n):∃ k:Nat,x= .int (lo + (k:Int))∧k < n:=by
 obtain ⟨k,hk,rfl⟩:=List.mem_map.mp h;exact ⟨k,rfl,List.mem_range.mp hk⟩
local macro_rules | `(tactic| walk_at "rd") => wk (wqB++" exists_false false_and and_false nD CC tL sP BB UC VT GX jS aAy hX EY Option.getD_some jY fQ fJ tF lX sz1 sz2 Int.reduceEq Int.reduceNe DY")
section
variable {T:Tb}
noncomputable def eQ:CS:=(.seq (.asg (.gn 1) (.cal "_law_pick" (.cons (.var 0) (.cons (.int 8) .nil))))
 (.seq (.asg (.gn 2) (.cmpr true (.gn 1) (.irg (.cons (.int 3) .nil)) .nil (.cal "_law_share" (.cons (.var 2) .nil)) [none,none,some 0]))
 (.seq (.iff (.tsb (.cmp .Eq (.var 1) (.int 1))) (.seq (.asg (.gn 3) (.cal "_law_pick" (.cons (.var 0) (.cons (.int 3) .nil))))
 (.sub (.var 2) (.var 3) (.idx (.var 2) (.bin .Mod (.bin .Add (.var 3) (.int 1)) (.int 3))))) .nil)
 (.seq (.iff (.tsb (.cmp .Eq (.var 1) (.int 3))) (.asg (.gn 2) (.lst true (.cons (.idx (.var 2) (.int 0)) (.cons (.idx (.var 2) (.int 0)) (.cons (.idx (.var 2) (.int 0)) .nil))))) .nil)
 (.ret (.blt .tuple (.cons (.var 2) .nil)))))))
theorem vF (h:LT T):∀ xs G Q,fJ xs G Q→wpS T eQ (bD Q) (aM 4 xs) G:=by
 rintro xs G Q ⟨p,rfl,hp,hq⟩;unfold eQ;have:=h.pick;have:=h.share;have:=@RG;walk_at "rd"
 refine ⟨by decide,smP (by decide) (by decide),fun r1 G1 a1 b1 n1=>?_⟩;refine ⟨by decide,by decide,n1.pu,fun q1 G2 i1 d1 m1=>⟨m1.pu,fun q2 G3 i2 d2 m2=>⟨m2.pu,fun q3 G4 i3 d3 m3 l hl=>?_⟩⟩⟩;have nn:=((n1.trans m1).trans m2).trans m3;have lp:l≠p:=m3.pu.ne hl;have gl:G l=none:=by rw [←nn.ne lp]; exact hl
 have k0:Pk p G (gup G4 l (.lst [FQ q1,FQ q2,FQ q3])):=(Pk.of nn).new hl;split
 · rename_i e1;refine ⟨m3.pu.new hl,by decide,smP (by decide) (by decide),fun r G5 a b m4=>?_⟩;have g5:G5 l=some (.lst [FQ q1,FQ q2,FQ q3]):=by rw [m4.ne lp]; exact aR
   have hr:r=0∨r=1∨r=2:=by omega
   have ne3:¬r1=3:=by omega
   have k1:∀ o,Pk p G (gup G5 l o):=fun o=>(k0.pick m4).set gl lp;rw [zS g5];refine ⟨by show (0:Int) < 3; decide, ?_⟩;rcases hr with rfl | rfl | rfl
   · refine ⟨_,at1, ?_⟩;rw [nA g5];refine ⟨0,aBI, ?_⟩;rw [if_neg ne3,jS];exact (k1 _).end_ fun G' g=>hq _ _ _ G' i2 i2 i3 d2 d2 d3 g
   · refine ⟨_,at2, ?_⟩;rw [nA g5];refine ⟨1,aBl, ?_⟩;rw [if_neg ne3,jS];exact (k1 _).end_ fun G' g=>hq _ _ _ G' i1 i3 i3 d1 d3 d3 g
   · refine ⟨_,at0, ?_⟩;rw [nA g5];refine ⟨2,aBj, ?_⟩;rw [if_neg ne3,jS];exact (k1 _).end_ fun G' g=>hq _ _ _ G' i1 i2 i1 d1 d2 d1 g
 · split
   · intro l2 hl2;exact (k0.new hl2).end_ fun G' g=>hq _ _ _ G' i1 i1 i1 d1 d1 d1 g
   · exact k0.end_ fun G' g=>hq _ _ _ G' i1 i2 i3 d1 d2 d3 g
noncomputable def k4B:CS:=(.seq (.asg (.gn 9) (.idx (.lst false (.cons (.tup (.cons (.int 0) (.cons (.int 1) .nil))) (.cons (.tup (.cons (.int 1) (.cons (.int 1) .nil))) .nil))) (.blt .int (.cons (.cmp .Eq (.idx (.idx (.var 3) (.var 8)) (.int 0)) (.int 0)) .nil))))
 (.seq (.asg (.gn 10) (.bin .Add (.bin .Add (.sli (.var 3) .nil (.tst (.var 8))) (.tup (.cons (.var 9) .nil))) (.sli (.var 3) (.tst (.bin .Add (.var 8) (.int 1))) .nil)))
 (.iff (.no (.tst (.cal "_law_two_right" (.cons (.var 5) (.cons (.cal "_law_made" (.cons (.var 2) (.cons (.var 10) .nil))) (.cons (.tup (.cons (.var 3) (.cons (.var 10) .nil))) .nil)))))) (.ret (.bl false)) .nil)))
noncomputable def k4L:CS:=(.fr (.gn 8) (.irg (.cons (.int 3) .nil)) k4B)
noncomputable def k4A:CS:=(.seq (.iff (.oo (.no (.tst (.cal "_law_two_right" (.cons (.var 5) (.cons (.var 6) (.cons (.tup (.cons (.var 3) (.cons (.var 4) .nil))) .nil)))))) (.no (.tst (.cal "_law_two_right" (.cons (.var 5) (.cons (.var 7) (.cons (.tup (.cons (.var 3) (.cons (.var 3) .nil))) .nil))))))) (.ret (.bl false)) .nil)
 (.seq (.iff (.no (.tst (.cal "_law_others_right" (.cons (.var 5) (.cons (.var 3) .nil))))) (.ret (.bl false)) .nil)
 k4L))
noncomputable def tH:CS:=(.seq (.fr (.gn 1) (.irg (.cons (.blt .max (.cons (.int 2) (.cons (.blt .min (.cons (.blt .len (.cons (.var 0) .nil)) (.cons (.int 5) .nil))) .nil))) .nil)) (.seq (.asg (.gn 2) (.cal "_law_purse" (.cons (.cal "_law_cell" (.cons (.var 0) (.cons (.var 1) .nil))) .nil)))
 (.seq (.asg (.gn 3) (.cal "_law_shares" (.cons (.var 2) .nil)))
 (.seq (.asg (.gn 4) (.cal "_law_other_row" (.cons (.var 2) (.cons (.var 3) .nil))))
 (.seq (.par3 5 6 7 (.cal "_law_made" (.cons (.var 2) (.cons (.var 3) .nil))) (.cal "_law_made" (.cons (.var 2) (.cons (.var 4) .nil))) (.cal "_law_made" (.cons (.var 2) (.cons (.var 3) .nil))))
 k4A)))))
 (.ret (.bl true)))
theorem AK (l:L4 T) {r s:R3} {G:Gh} {Q:PK1} (hr:Sh7 12 r) (hs:Sh7 12 s) (q:Q (.bl true) G):T.S "_law_two_right" [shV r,shV s,.tup [cN r,cN s]] G Q:=by rw [l.two_right]; exact ⟨r,s,rfl,hr,hs,q⟩
theorem nY (l:L4 T) {p:Addr} {r:R3} {G:Gh} {Q:PK1} (hp:Pu p G) (hr:Sh7 12 r) (q:∀ G',Pn p G G'→Q (shV r) G'):T.S "_law_made" [.ref p,cN r] G Q:=by rw [l.made]; exact ⟨p,r,rfl,hp,hr,q⟩
theorem k4x {c:Rat} {G:Gh} {R:PK1} (q:∀ t:Rat,In1 t→Bd 12 t→R (FQ t) G):oQ (FQ c) (.int 0) G fun x G1=>pEq false x (.int 0) G1 fun x G1=>dU T.cs .int [x] G1 fun y G2=>oQ (.lst [.tup [.int 0,.int 1],.tup [.int 1,.int 1]]) y G2 R:=by
 have q0:R (.tup [.int 0,.int 1]) G:=q 0 ⟨by decide,by decide⟩ ⟨by unfold Sm; decide,by unfold Sm; decide⟩;have q1:R (.tup [.int 1,.int 1]) G:=q 1 ⟨by decide,by decide⟩ ⟨by unfold Sm; decide,by unfold Sm; decide⟩;walk_at "rd"
 by_cases e:c.num=0
 · rw [if_pos e]; exact ⟨_,rfl,q1⟩
 · rw [if_neg e]; exact ⟨_,rfl,q0⟩
theorem aHE (l:L4 T) {D:jH} {r:R3} {k:Int} {p:Addr} {s0 x1 x4 x6 x7 x9 x10:Option PV} {G:Gh} (hr:Sh7 12 r) (hp:Pu p G) (k0:0≤k) (k1:k < 3)
   (hR:∀ x9 x10 G,Pu p G→D.nx [s0,x1,some (.ref p),some (cN r),x4,some (shV r),x6,x7,some (.int k),x9,x10] G) :
   wpS T k4B D [s0,x1,some (.ref p),some (cN r),x4,some (shV r),x6,x7,some (.int k),x9,x10] G:=by
 unfold k4B cN;have hk:k=0∨k=1∨k=2:=by omega
 walk_at "rd"
 have hr':=hr;obtain ⟨⟨ia,ib,ic⟩,ba,bb,bc⟩:=hr';rcases hk with rfl | rfl | rfl
 · refine ⟨_,rfl,k4x fun t it bt=>⟨(show 1≤sizeLine by decide),(show 3≤sizeLine by decide), ?_⟩⟩;have hs:Sh7 12 (t,r.2.1,r.2.2):=⟨⟨it,ib,ic⟩,bt,bb,bc⟩;refine nY l (r:=(t,r.2.1,r.2.2)) hp hs fun G' n=>AK l (r:=r) (s:=(t,r.2.1,r.2.2)) hr hs ?_;exact hR _ _ _ n.pu
 · refine ⟨_,rfl,k4x fun t it bt=>⟨(show 2≤sizeLine by decide),(show 3≤sizeLine by decide), ?_⟩⟩;have hs:Sh7 12 (r.1,t,r.2.2):=⟨⟨ia,it,ic⟩,ba,bt,bc⟩;refine nY l (r:=(r.1,t,r.2.2)) hp hs fun G' n=>AK l (r:=r) (s:=(r.1,t,r.2.2)) hr hs ?_;exact hR _ _ _ n.pu
 · refine ⟨_,rfl,k4x fun t it bt=>⟨(show 3≤sizeLine by decide),(show 3≤sizeLine by decide), ?_⟩⟩;have hs:Sh7 12 (r.1,r.2.1,t):=⟨⟨ia,ib,it⟩,ba,bb,bt⟩;refine nY l (r:=(r.1,r.2.1,t)) hp hs fun G' n=>AK l (r:=r) (s:=(r.1,r.2.1,t)) hr hs ?_;exact hR _ _ _ n.pu
theorem aHf (l:L4 T) {D:jH} {r s:R3} {p:Addr} {s0 x1 x8 x9 x10:Option PV} {G:Gh} (hr:Sh7 12 r) (hs:Sh7 12 s) (hp:Pu p G)
   (hR:∀ x8 x9 x10 G,D.nx [s0,x1,some (.ref p),some (cN r),some (cN s),some (shV r),some (shV s),some (shV r),x8,x9,x10] G) :
   wpS T k4A D [s0,x1,some (.ref p),some (cN r),some (cN s),some (shV r),some (shV s),some (shV r),x8,x9,x10] G:=by
 unfold k4A;generalize eL:k4L=L;have e1:=l.others_right;have so:∀ {G:Gh} {Q:PK1},Q (.bl true) G→T.S "_law_others_right" [shV r,cN r] G Q:=fun z=>by rw [e1]; exact ⟨r,rfl,hr,z⟩
 clear e1;walk_at "rd"
 refine AK l hr hs ?_;walk_at "rd"
 refine AK l hr hr ?_;walk_at "rd"
 refine so ?_;walk_at "rd"
 subst eL;unfold k4L;generalize eB:k4B=B;have:=@RG;walk_at "rd"
 refine ⟨by decide,by decide,jT (fun σ G=>Pu p G∧∃ x8 x9 x10,σ=[s0,x1,some (.ref p),some (cN r),some (cN s),some (shV r),some (shV s),some (shV r),x8,x9,x10]) ⟨hp,_,_,_,rfl⟩ ?_ ?_⟩
 · rintro v hv σ G' R ⟨hp',x8,x9,x10,rfl⟩ hR';obtain ⟨k,rfl,k0,k1⟩:∃ k:Int,v= .int k∧0≤k∧k < 3:=by
     simp only [List.mem_cons,List.not_mem_nil,or_false] at hv;rcases hv with rfl | rfl | rfl <;> exact ⟨_,rfl,by decide,by decide⟩
   subst eB;exact aHE l hr hp' k0 k1 fun x9 x10 G hp2=>hR' _ _ ⟨hp2,_,_,_,rfl⟩
 · rintro σ G' ⟨hp',x8,x9,x10,rfl⟩;exact hR _ _ _ _
def I4 (ns:List Int) (σ:PSt):Prop:= ∃ x1 x2 x3 x4 x5 x6 x7 x8 x9 x10,σ=[some (.scr ns),x1,x2,x3,x4,x5,x6,x7,x8,x9,x10]
theorem aID (lt:LT T) (l:L4 T):∀ xs G Q,yY xs G Q→wpS T tH (bD Q) (aM 11 xs) G:=by
 rintro xs G Q ⟨ns,rfl,hl,hq⟩;have:=@RG;unfold tH;have e1:=lt.cell;have e2:=lt.purse;have e3:=lt.shares;have e4:=l.other_row;have so:∀ {p:Addr} {r:R3} {G:Gh} {Q:PK1},Pu p G→Sh7 12 r→(∀ s G',Sh7 12 s→Pn p G G'→Q (cN s) G')→T.S "_law_other_row" [.ref p,cN r] G Q:=fun a b c=>by rw [e4]; exact ⟨_,_,rfl,a,b,c⟩
 clear e4;generalize eB:k4A=B;walk_at "rd"
 refine ⟨by omega,by omega, ?_⟩;refine jT (fun σ _=>I4 ns σ) ⟨_,_,_,_,_,_,_,_,_,_,rfl⟩ ?_ ?_
 · rintro v hv σ G' R ⟨x1,x2,x3,x4,x5,x6,x7,x8,x9,x10,rfl⟩ hR;obtain ⟨jj,rfl,hj⟩:=UO hv;have hj64:(jj:Int) < 64:=by
     have h5:min (ns.length:Int) 5≤5:=Int.min_le_right _ _;have h6:max 2 (min (ns.length:Int) 5)≤5:=by omega
     omega
   walk_at "rd"
   refine ⟨ns,rfl,by omega,by omega,fun cc p u1 u2 u3 hp=>⟨⟨_,_,_,aR⟩,fun a b c G1 ia ib ic ba bb bc n1=>?_⟩⟩;have hr:Sh7 12 (a,b,c):=⟨⟨ia,ib,ic⟩,ba,bb,bc⟩;refine so (r:=(a,b,c)) n1.pu hr fun s G2 hs n2=>?_;refine nY l (r:=(a,b,c)) n2.pu hr fun G3 n3=>nY l n3.pu hs fun G4 n4=>nY l (r:=(a,b,c)) n4.pu hr fun G5 n5=>?_;subst eB;exact aHf l (r:=(a,b,c)) hr hs n5.pu fun x8 x9 x10 G=>hR _ _ ⟨_,_,_,_,_,_,_,_,_,_,rfl⟩
 · rintro σ G' ⟨x1,x2,x3,x4,x5,x6,x7,x8,x9,x10,rfl⟩;have:=hq G';walk_at "rd"
end
end L3
namespace My
open PySem L2 L3 PyProof.Rows
noncomputable def top (i:Nat):Stmt:=PySem.Challenge.pw_lightshares_k04_shades_alike_or_not.main.body.getD i (.Pass ⟨0,0,0,0⟩)
noncomputable abbrev gD:Stmt:=top 54
noncomputable abbrev C_l_cell:Cfg:={ N:=["_law_script","_law_k","_law_state","_law_cell_here"],names:=(aF gD).names,blt:=["len"] }
local macro_rules | `(tactic| walk_at "dk") => `(tactic| exact ⟨⟨rfl,rfl,rfl,by decide +kernel,rfl,by decide +kernel,by decide +kernel⟩,rfl,rfl⟩)
theorem LI:bE gD ["_law_script","_law_k"] C_l_cell:=by walk_at "dk"
theorem NM:cSs 80 C_l_cell (aH gD)=some jU:=by kernel_rfl
noncomputable abbrev fM:Stmt:=top 19
noncomputable abbrev C_common:Cfg:={ N:=["one","other"],names:=(aF fM).names }
theorem NP:bE fM ["one","other"] C_common:=by walk_at "dk"
theorem KS:cSs 80 C_common (aH fM)=some gA:=by kernel_rfl
noncomputable abbrev dJ:Stmt:=top 18
noncomputable abbrev C_is_whole:Cfg:={ N:=["thing"],names:=(aF dJ).names,tys:=["bool","int"],blt:=["isinstance"] }
theorem DB:bE dJ ["thing"] C_is_whole:=by walk_at "dk"
theorem DR:cSs 80 C_is_whole (aH dJ)=some eK:=by kernel_rfl
noncomputable abbrev bV:Stmt:=top 20
noncomputable abbrev C_is_fraction:Cfg:={ N:=["thing","top","bottom"],names:=(aF bV).names,fns:=["common","is_whole"],tys:=["tuple"],blt:=["abs","isinstance","len"] }
theorem tK:bE bV ["thing"] C_is_fraction:=by walk_at "dk"
theorem tD:cSs 80 C_is_fraction (aH bV)=some dG:=by kernel_rfl
noncomputable abbrev dN:Stmt:=top 29
noncomputable abbrev C_is_share:Cfg:={ N:=["thing"],names:=(aF dN).names,fns:=["is_fraction"] }
theorem BI:bE dN ["thing"] C_is_share:=by walk_at "dk"
theorem BJ:cSs 80 C_is_share (aH dN)=some eU:=by kernel_rfl
noncomputable abbrev aZ:Stmt:=aB (top 30) 0
noncomputable abbrev C_Shade___init__:Cfg:={ N:=["self","ember","leaf","sky","light","share"],names:=(aF aZ).names,fns:=["is_share"],blt:=["enumerate"] }
theorem mG:bE aZ ["self","ember","leaf","sky"] C_Shade___init__:=by walk_at "dk"
theorem nM:cSs 80 C_Shade___init__ (aH aZ)=some cM:=by kernel_rfl
noncomputable abbrev fN:Stmt:=top 56
noncomputable abbrev C_l_pick:Cfg:={ N:=["_law_purse_here","_law_many","_law_state","_law_taken"],names:=(aF fN).names }
theorem NN:bE fN ["_law_purse_here","_law_many"] C_l_pick:=by walk_at "dk"
theorem NT:cSs 80 C_l_pick (aH fN)=some jL:=by kernel_rfl
noncomputable abbrev fR:Stmt:=top 60
noncomputable abbrev C_l_made:Cfg:={ N:=["_law_purse_here","_law_row","_law_way"],names:=(aF fR).names,fns:=["_law_pick"],mks:=["Shade"],mkk:=[("Shade",["sky","ember","leaf"],[.arg 1,.arg 2,.arg 0])],gls:=["Shade"],mkp:=[("Shade",1,["sky","leaf"],[.arg 0,.arg 2,.arg 1])] }
theorem LD:bE fR ["_law_purse_here","_law_row"] C_l_made:=by walk_at "dk"
theorem OC:cSs 80 C_l_made (aH fR)=some fS:=by kernel_rfl
noncomputable abbrev iD:Stmt:=top 57
noncomputable abbrev C_l_low:Cfg:={ N:=["_law_top","_law_bottom","_law_one","_law_other"],names:=(aF iD).names,blt:=["abs"] }
theorem SW:bE iD ["_law_top","_law_bottom"] C_l_low:=by walk_at "dk"
theorem UX:cSs 80 C_l_low (aH iD)=some lW:=by kernel_rfl
noncomputable abbrev eJ:Stmt:=top 58
noncomputable abbrev C_l_share:Cfg:={ N:=["_law_purse_here","_law_way","_law_bottom"],names:=(aF eJ).names,fns:=["_law_low","_law_pick"] }
theorem EM:bE eJ ["_law_purse_here"] C_l_share:=by walk_at "dk"
theorem FC:cSs 80 C_l_share (aH eJ)=some iJ:=by kernel_rfl
noncomputable abbrev dO:Stmt:=top 59
noncomputable abbrev C_l_shares:Cfg:={ N:=["_law_purse_here","_law_alike","_law_row","_law_one"],names:=(aF dO).names,fns:=["_law_pick","_law_share"],tys:=["tuple"],blt:=["range","tuple"],M:=["_law_row"] }
theorem DK:bE dO ["_law_purse_here"] C_l_shares:=by walk_at "dk"
theorem AQ:cSs 80 C_l_shares (aH dO)=some eQ:=by kernel_rfl
noncomputable abbrev bT:Stmt:=top 61
noncomputable abbrev C_l_other_row:Cfg:={ N:=["_law_purse_here","_law_row","_law_way","_law_at"],names:=(aF bT).names,fns:=["_law_pick","_law_share","_law_shares"] }
theorem sT:bE bT ["_law_purse_here","_law_row"] C_l_other_row:=by walk_at "dk"
theorem tO:cSs 80 C_l_other_row (aH bT)=some eG:=by kernel_rfl
noncomputable abbrev lM:Stmt:=top 63
noncomputable abbrev C_l_is:Cfg:={ N:=["_law_told","_law_due"],names:=(aF lM).names,tys:=["bool"],blt:=["isinstance"] }
theorem aAY:bE lM ["_law_told","_law_due"] C_l_is:=by walk_at "dk"
theorem YQ:cSs 80 C_l_is (aH lM)=some iL:=by kernel_rfl
noncomputable abbrev bA:Stmt:=aB (top 40) 0
noncomputable abbrev C_Blend___init__:Cfg:={ N:=["self"],names:=(aF bA).names,gls:=["ZERO"] }
theorem mS:bE bA ["self"] C_Blend___init__:=by walk_at "dk"
theorem mO:cSs 80 C_Blend___init__ (aH bA)=some cP:=by kernel_rfl
noncomputable abbrev gB:Stmt:=top 44
noncomputable abbrev C_is_eye:Cfg:={ N:=["thing"],names:=(aF gB).names,fns:=["is_whole"],gls:=["MOST_OF_EYE"],tys:=["tuple"],blt:=["all","isinstance","len"] }
theorem LG:bE gB ["thing"] C_is_eye:=by walk_at "dk"
theorem LW:cSs 80 C_is_eye (aH gB)=some jD:=by kernel_rfl
noncomputable abbrev fV:Stmt:=top 45
noncomputable abbrev C_eye_of:Cfg:={ N:=["eye"],names:=(aF fV).names,fns:=["is_eye"],gls:=["EVEN_EYE"] }
theorem JR:bE fV ["eye"] C_eye_of:=by walk_at "dk"
theorem KW:cSs 80 C_eye_of (aH fV)=some fZ:=by kernel_rfl
noncomputable abbrev bH:Stmt:=aB (top 51) 0
noncomputable abbrev C_Book___init__:Cfg:={ N:=["self","eye"],names:=(aF bH).names,fns:=["eye_of"] }
theorem oP:bE bH ["self","eye"] C_Book___init__:=by walk_at "dk"
theorem oW:cSs 80 C_Book___init__ (aH bH)=some cX:=by kernel_rfl
noncomputable abbrev dL:Stmt:=top 31
noncomputable abbrev C_is_shade:Cfg:={ N:=["thing"],names:=(aF dL).names,gls:=["Shade"],blt:=["isinstance"] }
theorem CH:bE dL ["thing"] C_is_shade:=by walk_at "dk"
theorem DA:cSs 80 C_is_shade (aH dL)=some eI:=by kernel_rfl
noncomputable abbrev cQ:Stmt:=top 32
noncomputable abbrev C_need_shade:Cfg:={ N:=["thing"],names:=(aF cQ).names,fns:=["is_shade"] }
theorem vM:bE cQ ["thing"] C_need_shade:=by walk_at "dk"
theorem vV:cSs 80 C_need_shade (aH cQ)=some dM:=by kernel_rfl
noncomputable abbrev dC:Stmt:=top 33
noncomputable abbrev C_shares_of:Cfg:={ N:=["shade"],names:=(aF dC).names,fns:=["need_shade"] }
theorem xN:bE dC ["shade"] C_shares_of:=by walk_at "dk"
theorem zR:cSs 80 C_shares_of (aH dC)=some dY:=by kernel_rfl
noncomputable abbrev eN:Stmt:=top 26
noncomputable abbrev C_figures:Cfg:={ N:=["number","pieces","piece"],names:=(aF eN).names,gls:=["PIECE","PIECE_FIGURES"],tys:=["str"],blt:=["divmod","str"],M:=["pieces"] }
theorem FU:bE eN ["number"] C_figures:=by walk_at "dk"
theorem EU:cSs 80 C_figures (aH eN)=some fA:=by kernel_rfl
noncomputable abbrev eT:Stmt:=top 27
noncomputable abbrev C_written:Cfg:={ N:=["one"],names:=(aF eT).names,fns:=["figures"] }
theorem ED:bE eT ["one"] C_written:=by walk_at "dk"
theorem GP:cSs 80 C_written (aH eT)=some eZ:=by kernel_rfl
noncomputable abbrev bF:Stmt:=aB (top 30) 3
noncomputable abbrev C_Shade___str__:Cfg:={ N:=["self"],names:=(aF bF).names,fns:=["shares_of","written"] }
theorem pF:bE bF ["self"] C_Shade___str__:=by walk_at "dk"
theorem pA:cSs 80 C_Shade___str__ (aH bF)=some cY:=by kernel_rfl
noncomputable abbrev aX:Stmt:=aB (top 30) 4
noncomputable abbrev C_Shade___repr__:Cfg:={ N:=["self"],names:=(aF aX).names,tys:=["str"],blt:=["str"],ows:=[("str",[("Shade","Shade.__str__")])] }
theorem mF:bE aX ["self"] C_Shade___repr__:=by walk_at "dk"
theorem mR:cSs 80 C_Shade___repr__ (aH aX)=some cC:=by kernel_rfl
noncomputable abbrev bG:Stmt:=aB (top 30) 2
noncomputable abbrev C_Shade___len__:Cfg:={ N:=["self"],names:=(aF bG).names,fns:=["shares_of"],blt:=["len"] }
theorem nV:bE bG ["self"] C_Shade___len__:=by walk_at "dk"
theorem oJ:cSs 80 C_Shade___len__ (aH bG)=some cV:=by kernel_rfl
noncomputable abbrev dP:Stmt:=top 62
noncomputable abbrev C_l_others:Cfg:={ N:=["_law_shade","_law_row","_law_some"],names:=(aF dP).names,mkk:=[("Blend",[],[]),("Book",[],[.non])],gls:=["Blend","Book"],tys:=["list","str"],blt:=["len","list","repr","str"],ows:=[("str",[("Shade","Shade.__str__")]),("repr",[("Shade","Shade.__repr__")]),("len",[("Shade","Shade.__len__")])] }
theorem zT:bE dP ["_law_shade","_law_row"] C_l_others:=by walk_at "dk"
theorem DQ:cSs 80 C_l_others (aH dP)=some gK:=by kernel_rfl
noncomputable abbrev bL:Stmt:=aB (top 30) 1
noncomputable abbrev C_Shade___eq__:Cfg:={ N:=["self","other"],names:=(aF bL).names,fns:=["shares_of"],gls:=["Shade"],blt:=["isinstance"] }
theorem rL:bE bL ["self","other"] C_Shade___eq__:=by walk_at "dk"
theorem rB:cSs 80 C_Shade___eq__ (aH bL)=some dE:=by kernel_rfl
noncomputable abbrev bN:Stmt:=aB (top 40) 5
noncomputable abbrev C_Blend___eq__:Cfg:={ N:=["self","other"],names:=(aF bN).names,gls:=["Blend"],blt:=["isinstance"] }
theorem rG:bE bN ["self","other"] C_Blend___eq__:=by walk_at "dk"
theorem rD:cSs 80 C_Blend___eq__ (aH bN)=some dD:=by kernel_rfl
noncomputable abbrev bU:Stmt:=aB (top 51) 14
noncomputable abbrev C_Book___eq__:Cfg:={ N:=["self","other"],names:=(aF bU).names,gls:=["Book"],blt:=["isinstance"] }
theorem sG:bE bU ["self","other"] C_Book___eq__:=by walk_at "dk"
theorem uH:cSs 80 C_Book___eq__ (aH bU)=some dH:=by kernel_rfl
noncomputable abbrev bB:Stmt:=top 65
noncomputable abbrev C_l_others_right:Cfg:={ N:=["_law_shade","_law_row","_law_some","_law_stuff"],names:=(aF bB).names,fns:=["_law_is","_law_others","is_shade"],shs:=[("is_shade",0,["thing"],[.arg 0])],exs:=[("Shade","Shade.__eq__"),("Blend","Blend.__eq__"),("Book","Book.__eq__")] }
theorem mU:bE bB ["_law_shade","_law_row"] C_l_others_right:=by walk_at "dk"
theorem mL:cSs 80 C_l_others_right (aH bB)=some dF:=by kernel_rfl
noncomputable abbrev eS:Stmt:=top 55
noncomputable abbrev C_l_purse:Cfg:={ N:=["_law_cell_here"],names:=(aF eS).names,tys:=["int"],blt:=["int"],rm:=true }
theorem EC:bE eS ["_law_cell_here"] C_l_purse:=by walk_at "dk"
theorem EQ:cSs 80 C_l_purse (aH eS)=some iF:=by kernel_rfl
noncomputable abbrev bW:Stmt:=top 64
noncomputable abbrev C_l_two_right:Cfg:={ N:=["_law_one","_law_other","_law_rows","_law_alike","_law_told"],names:=(aF bW).names,fns:=["_law_is","shares_of"],blt:=["all"],M:=["_law_told"],exs:=[("Shade","Shade.__eq__"),("Blend","Blend.__eq__"),("Book","Book.__eq__")] }
theorem tR:bE bW ["_law_one","_law_other","_law_rows"] C_l_two_right:=by walk_at "dk"
theorem sB:cSs 80 C_l_two_right (aH bW)=some eM:=by kernel_rfl
noncomputable abbrev pH:Stmt:=top 66
noncomputable abbrev C_law:Cfg:={ N:=["_law_script","_law_k","_law_purse_here","_law_row","_law_other","_law_shade","_law_again","_law_twin","_law_at","_law_share_here","_law_third"],names:=(aF pH).names,fns:=["_law_cell","_law_made","_law_other_row","_law_others_right","_law_purse","_law_shares","_law_two_right"],tys:=["int"],blt:=["int","len","max","min","range"] }
theorem aBS:bE pH ["_law_script"] C_law:=by walk_at "dk"
theorem aFa:cSs 80 C_law (aH pH)=some tH:=by kernel_rfl
noncomputable abbrev zS0:Value:=.str "lightshares.errors" 194
noncomputable abbrev zS1:Value:=.str "law_lightshares_k04_shades_alike_or_not" 989
noncomputable abbrev zS2:Value:=.str "lightshares.books" 793
noncomputable abbrev zS3:Value:=.str "lightshares.shades" 561
noncomputable abbrev zS4:Value:=.str "lightshares.fractions" 468
noncomputable abbrev zS5:Value:=.str "lightshares.blends" 676
noncomputable abbrev zS6:Value:=.str "lightshares.nearness" 772
noncomputable abbrev fX (a b:Str) (s:Stmt) (d m c:Value):FuncData:=W.fnOf a b (gF s) (aH s) (aF s) d .none .none m none c .none
noncomputable abbrev oC (l:List Value):Obj:=⟨.type "code",none,.fields l.toArray, #[]⟩
noncomputable abbrev oT (l:List Value):Obj:=⟨.type "tuple",none,.seq l.toArray 0, #[]⟩
noncomputable abbrev oL (l:List Value):Obj:=⟨.none,none,.fields l.toArray, #[]⟩
noncomputable abbrev oN (a b:Str) (s:Stmt):Obj:=⟨.none,none,.func { W.fnOf a b (gF s) (aH s) (aF s) .none .none .none .none none .none .none with globals:=0,builtins:=0 }, #[]⟩
noncomputable abbrev oF (a b:Str) (s:Stmt) (d m:Value) (c:Addr):Obj:=⟨.type "function",none,.func (W.fnOf a b (gF s) (aH s) (aF s) d .none .none m none (.ref c) .none), #[]⟩
noncomputable abbrev oR (c l:Addr) (m:Value):Obj:=⟨.type "frame",none,.plain, #[some (.ref c),some (.ref 3),some (.ref l),none,some m,none,some (.ref 0)]⟩
noncomputable abbrev oS (c:Addr):Obj:=⟨.type "super",none,.fields #[.ref c,.ref c,.ref c], #[]⟩
noncomputable abbrev oB (n:String) (c:Value):Obj:=⟨.type "builtin_function_or_method",none,.fields #[.builtin n,c], #[]⟩
noncomputable abbrev fC (n:Tok):Value:=.str "/claim/cut.py" n
noncomputable abbrev iV (n:Int):Value:=.int n 0
noncomputable abbrev oD (l:List DictEntry):Obj:=⟨.type "dict",none,.dict l.toArray 0, #[]⟩
noncomputable def kE (P:Params) (x:Str) (t:Tok) (v:Value):DictEntry:=⟨PyData.keyHash P x,.str x t,v⟩
noncomputable abbrev zV (n:Nat):Value:=if n=0 then .none else .ref n
noncomputable abbrev zXt (a b:Str) (i l n c x y u v w q:Nat):Obj:=oC [.str a i,.str b (i + 1),fC (i + 2),iV l,iV n,iV 0,iV 0,iV c,.ref x,.bool true,iV 181,.ref y,.none,zV u,zV v,zV w,iV q,iV l,fC (q + 1)]
noncomputable abbrev zOt (a:Str):=zXt a a
noncomputable abbrev zXf (a b:Str) (i l n c x y u v w q:Nat):Obj:=oC [.str a i,.str b (i + 1),fC (i + 2),iV l,iV n,iV 0,iV 0,iV c,.ref x,.bool false,iV 181,.ref y,.none,zV u,zV v,zV w,iV q,iV l,fC (q + 1)]
noncomputable abbrev zOf (a:Str):=zXf a a
noncomputable abbrev zY (n:Str) (e w:String) (b c d x i j:Nat):Obj:=⟨.type "type",none,.cls ⟨n,[.ref b],[.ref c,.ref b,.type e,.type "Exception",.type "BaseException",.type "object"],d,n,true,[],[],false,none,false⟩, #[some (.ref x),none,some (.str n i),some (.str n j),some (.builtin w),some (.bool true)]⟩
noncomputable abbrev kL (P:Params) (n l:Nat):DictEntry:=kE P "__firstlineno__" n (.int l (n - 1))
noncomputable abbrev kT (P:Params) (n l:Nat):DictEntry:=kE P "__static_attributes__" n (.ref l)
noncomputable abbrev kI (P:Params) (n l:Nat):DictEntry:=kE P "__init__" n (.ref l)
noncomputable abbrev kD (P:Params) (n:Nat):DictEntry:=kE P "__doc__" n .none
noncomputable abbrev kQ (P:Params) (n:Nat) (x:Str):DictEntry:=kE P "__qualname__" n (.str x (n - 1))
noncomputable abbrev kM (P:Params) (n:Nat):DictEntry:=kE P "__module__" n zS0
noncomputable abbrev oDn (l:List DictEntry) (n:Nat):Obj:=⟨.type "dict",none,.dict l.toArray n, #[]⟩
noncomputable def ko3 (P:Params):Obj:=⟨(.type "dict"),none,.dict #[kE P "__name__" 165 zS1,kD P 166,kE P "__package__" 167 .none,kE P "__loader__" 168 (.builtin "__main__.__loader__#opaque"),kE P "__spec__" 169 .none,kE P "__annotations__" 170 (.ref 6),kE P "__builtins__" 171 (.ref 4),kE P "__file__" 173 (.str "/claim/cut.py" 172),kE P "__cached__" 174 .none,kE P "_wall" 193 (.ref 21),kE P "ShadeError" 213 (.ref 31),kE P "MixError" 233 (.ref 44),kE P "BookError" 251 (.ref 57),kE P "NoNumber" 276 (.ref 77),kE P "NoShade" 301 (.ref 96),kE P "NoEye" 326 (.ref 115),kE P "NoWeight" 351 (.ref 134),kE P "EmptyMix" 367 (.ref 146),kE P "NoWord" 392 (.ref 165),kE P "NoName" 417 (.ref 184),kE P "NameStands" 442 (.ref 203),kE P "BookFull" 467 (.ref 222),kE P "ZERO" 472 (.ref 225),kE P "PIECE_FIGURES" 474 (.int 64 473),kE P "PIECE" 478 (.int 10000000000000000000000000000000000000000000000000000000000000000 477),kE P "is_whole" 485 (.ref 232),kE P "common" 493 (.ref 239),kE P "is_fraction" 502 (.ref 246),kE P "lowest" 511 (.ref 253),kE P "need_fractions" 520 (.ref 260),kE P "plus" 528 (.ref 267),kE P "times" 536 (.ref 274),kE P "over" 544 (.ref 281),kE P "figures" 553 (.ref 288),kE P "written" 560 (.ref 295),kE P "is_share" 569 (.ref 302),kE P "Shade" 632 (.ref 343),kE P "is_shade" 639 (.ref 354),kE P "need_shade" 646 (.ref 361),kE P "shares_of" 653 (.ref 368),kE P "shade_of" 663 (.ref 375),kE P "MOST_WEIGHT" 667 (.int 1000000 666),kE P "is_weight" 675 (.ref 382),kE P "added" 683 (.ref 387),kE P "Blend" 771 (.ref 457),kE P "EVEN_EYE" 777 (.ref 462),kE P "MOST_OF_EYE" 779 (.int 99 778),kE P "is_eye" 785 (.ref 467),kE P "eye_of" 792 (.ref 474),kE P "MOST_NAMES" 796 (.int 24 795),kE P "MOST_LETTERS" 798 (.int 12 797),kE P "is_name" 804 (.ref 479),kE P "need_word" 811 (.ref 486),kE P "Book" 982 (.ref 622),kE P "text_rows" 988 (.ref 631),kE P "_law_cell" 1000 (.ref 638),kE P "_law_purse" 1007 (.ref 645),kE P "_law_pick" 1017 (.ref 652),kE P "_law_low" 1027 (.ref 659),kE P "_law_share" 1036 (.ref 666),kE P "_law_shares" 1042 (.ref 671),kE P "_law_made" 1051 (.ref 678),kE P "_law_other_row" 1061 (.ref 685),kE P "_law_others" 1070 (.ref 692),kE P "_law_is" 1078 (.ref 699),kE P "_law_two_right" 1084 (.ref 704),kE P "_law_others_right" 1094 (.ref 711),kE P "law" 1111 (.ref 718)] 68, #[]⟩
def vG (P:Params):=oDn [kM P 203,kL P 207 5,kT P 208 29,kE P "__weakref__" 210 (.ref 32),kD P 211] 3
noncomputable def zM:Obj:=⟨(.type "type"),none,.cls ⟨"ShadeError",[(.type "ValueError")],[(.ref 31),(.type "ValueError"),(.type "Exception"),(.type "BaseException"),(.type "object")],30,"ShadeError",true,[],[(.ref 77),(.ref 96),(.ref 115)],false,none,false⟩, #[(some (.ref 22)),none,(some (.str "ShadeError" 196)),(some (.str "ShadeError" 204)),(some (.builtin "ValueError.__new__")),(some (.bool true))]⟩
def vP (P:Params):=oDn [kM P 221,kL P 225 7,kT P 226 42,kE P "__weakref__" 228 (.ref 45),kD P 229] 3
noncomputable def DM:Obj:=⟨(.type "type"),none,.cls ⟨"MixError",[(.type "ArithmeticError")],[(.ref 44),(.type "ArithmeticError"),(.type "Exception"),(.type "BaseException"),(.type "object")],43,"MixError",true,[],[(.ref 134),(.ref 146)],false,none,false⟩, #[(some (.ref 35)),none,(some (.str "MixError" 214)),(some (.str "MixError" 222)),(some (.builtin "ArithmeticError.__new__")),(some (.bool true))]⟩
def vC (P:Params):=oDn [kM P 241,kL P 245 9,kT P 246 55,kE P "__weakref__" 248 (.ref 58),kD P 249] 3
noncomputable def LL:Obj:=⟨(.type "type"),none,.cls ⟨"BookError",[(.type "LookupError")],[(.ref 57),(.type "LookupError"),(.type "Exception"),(.type "BaseException"),(.type "object")],56,"BookError",true,[],[(.ref 165),(.ref 184),(.ref 203),(.ref 222)],false,none,false⟩, #[(some (.ref 48)),none,(some (.str "BookError" 234)),(some (.str "BookError" 242)),(some (.builtin "LookupError.__new__")),(some (.bool true))]⟩
def uT (P:Params):=oDn [kM P 259,kL P 263 11,kI P 271 74,kT P 273 75,kD P 274] 2
def vO:=zY "NoNumber" "ValueError" "ValueError.__new__" 31 77 76 61 252 260
def xQ (P:Params):=oDn [kM P 284,kL P 288 16,kI P 296 93,kT P 298 94,kD P 299] 2
def zP:=zY "NoShade" "ValueError" "ValueError.__new__" 31 96 95 80 277 285
def nL (P:Params):=oDn [kM P 309,kL P 313 21,kI P 321 112,kT P 323 113,kD P 324] 2
def lZ:=zY "NoEye" "ValueError" "ValueError.__new__" 31 115 114 99 302 310
def pP (P:Params):=oDn [kM P 334,kL P 338 26,kI P 346 131,kT P 348 132,kD P 349] 2
def pU:=zY "NoWeight" "ArithmeticError" "ArithmeticError.__new__" 44 134 133 118 327 335
def pT (P:Params):=oDn [kM P 359,kL P 363 31,kT P 364 144,kD P 365] 2
def pV:=zY "EmptyMix" "ArithmeticError" "ArithmeticError.__new__" 44 146 145 137 352 360
def pK (P:Params):=oDn [kM P 375,kL P 379 33,kI P 387 162,kT P 389 163,kD P 390] 2
def pR:=zY "NoWord" "LookupError" "LookupError.__new__" 57 165 164 149 368 376
def sO (P:Params):=oDn [kM P 400,kL P 404 38,kI P 412 181,kT P 414 182,kD P 415] 2
def uG:=zY "NoName" "LookupError" "LookupError.__new__" 57 184 183 168 393 401
def sE (P:Params):=oDn [kM P 425,kL P 429 43,kI P 437 200,kT P 439 201,kD P 440] 2
def uC:=zY "NameStands" "LookupError" "LookupError.__new__" 57 203 202 187 418 426
def wK (P:Params):=oDn [kM P 450,kL P 454 48,kI P 462 219,kT P 464 220,kD P 465] 2
def xH:=zY "BookFull" "LookupError" "LookupError.__new__" 57 222 221 206 443 451
def wG:=oT [.int 0 470,.int 1 471]
def wD:=zOt "is_whole" 479 57 1 3 226 227 228 229 230 483
def xB:=oF "is_whole" "is_whole" dJ .none zS4 231
def xI:=zOt "common" 486 59 2 3 233 234 235 236 237 491
def xF:=oF "common" "common" fM .none zS4 238
def xD:=zOt "is_fraction" 494 63 1 3 240 241 242 243 244 500
def wL:=oF "is_fraction" "is_fraction" bV .none zS4 245
def wS:=zOt "figures" 545 88 1 3 282 283 284 285 286 551
def wH:=oF "figures" "figures" eN .none zS4 287
def wY:=zOt "written" 554 95 1 3 289 290 291 292 293 558
def wO:=oF "written" "written" eT .none zS4 294
def AB:=zOt "is_share" 563 100 1 3 296 297 298 299 300 567
def CU:=oF "is_share" "is_share" dN .none zS3 301
def BA:=zXt "__init__" "Shade.__init__" 582 104 4 3 310 311 312 313 314 591
def CY:=oF "__init__" "Shade.__init__" aZ .none zS3 315
def AJ:=zXt "__eq__" "Shade.__eq__" 594 112 2 3 317 318 319 320 321 599
def DP:=oF "__eq__" "Shade.__eq__" bL .none zS3 322
def DU:=zXt "__len__" "Shade.__len__" 602 115 1 3 324 325 0 0 326 605
def CD:=oF "__len__" "Shade.__len__" bG .none zS3 327
def AN:=zXt "__str__" "Shade.__str__" 608 118 1 3 329 330 0 0 331 611
def AC:=oF "__str__" "Shade.__str__" bF .none zS3 332
def DS:=zXt "__repr__" "Shade.__repr__" 614 121 1 3 334 335 336 337 338 618
def CM:=oF "__repr__" "Shade.__repr__" aX .none zS3 339
def CK (P:Params):=oDn [kE P "__module__" 577 zS3,kL P 581 102,kI P 593 316,kE P "__eq__" 601 (.ref 323),kE P "__len__" 607 (.ref 328),kE P "__str__" 613 (.ref 333),kE P "__repr__" 620 (.ref 340),kT P 624 341,kE P "__dict__" 626 (.ref 344),kE P "__weakref__" 628 (.ref 345),kD P 629,kE P "__hash__" 630 .none] 5
noncomputable def AA:Obj:=⟨(.type "type"),none,.cls ⟨"Shade",[(.type "object")],[(.ref 343),(.type "object")],342,"Shade",true,[],[],false,none,false⟩, #[none,none,(some (.str "Shade" 570)),(some (.str "Shade" 578)),(some (.builtin "object.__new__")),(some (.bool true))]⟩
def CP:=zOt "is_shade" 633 123 1 3 348 349 350 351 352 637
def BR:=oF "is_shade" "is_shade" dL .none zS3 353
def BT:=zOt "need_shade" 640 125 1 3 355 356 357 358 359 644
def AR:=oF "need_shade" "need_shade" cQ .none zS3 360
def DF:=zOt "shares_of" 647 128 1 3 362 363 364 365 366 651
def EA:=oF "shares_of" "shares_of" dC .none zS3 367
def HL:=zXt "__init__" "Blend.__init__" 696 143 1 3 395 396 397 398 399 700
def HJ:=oF "__init__" "Blend.__init__" bA .none zS5 400
def HZ:=zXt "__eq__" "Blend.__eq__" 731 168 2 3 427 428 429 430 431 736
def IV:=oF "__eq__" "Blend.__eq__" bN .none zS5 432
def HA (P:Params):=oDn [kE P "__module__" 691 zS5,kL P 695 141,kI P 702 401,kE P "put" 709 (.ref 407),kE P "joined" 717 (.ref 414),kE P "total" 724 (.ref 421),kE P "shade" 730 (.ref 426),kE P "__eq__" 738 (.ref 433),kE P "__len__" 745 (.ref 440),kE P "__str__" 752 (.ref 447),kE P "__repr__" 759 (.ref 454),kT P 763 455,kE P "__dict__" 765 (.ref 458),kE P "__weakref__" 767 (.ref 459),kD P 768,kE P "__hash__" 769 .none] 5
noncomputable def IE:Obj:=⟨(.type "type"),none,.cls ⟨"Blend",[(.type "object")],[(.ref 457),(.type "object")],456,"Blend",true,[],[],false,none,false⟩, #[none,none,(some (.str "Blend" 684)),(some (.str "Blend" 692)),(some (.builtin "object.__new__")),(some (.bool true))]⟩
def IJ:=oT [.int 1 774,.int 1 775,.int 1 776]
def HI:=zOt "is_eye" 780 184 1 3 463 464 0 0 465 783
def HC:=oF "is_eye" "is_eye" gB .none zS6 466
def IF:=zOt "eye_of" 786 188 1 3 468 469 470 471 472 790
def ID:=oF "eye_of" "eye_of" fV .none zS6 473
def OJ:=oT [.none]
def RE:=zXt "__init__" "Book.__init__" 824 206 2 3 495 496 497 498 499 829
def OL:=oF "__init__" "Book.__init__" bH (.ref 494) zS2 500
def VG:=zXt "__eq__" "Book.__eq__" 942 266 2 3 592 593 594 595 596 947
def QU:=oF "__eq__" "Book.__eq__" bU .none zS2 597
def QH (P:Params):=oDn [kE P "__module__" 819 zS2,kL P 823 204,kI P 831 501,kE P "turn_to" 839 (.ref 508),kE P "need_name" 847 (.ref 515),kE P "need_free" 855 (.ref 522),kE P "put" 865 (.ref 529),kE P "alter" 874 (.ref 536),kE P "rename" 883 (.ref 543),kE P "drop" 891 (.ref 550),kE P "back" 898 (.ref 557),kE P "shade" 906 (.ref 564),kE P "names" 918 (.ref 572),kE P "those" 924 (.ref 577),kE P "apart" 933 (.ref 584),kE P "called" 941 (.ref 591),kE P "__eq__" 949 (.ref 598),kE P "__len__" 956 (.ref 605),kE P "__str__" 963 (.ref 612),kE P "__repr__" 970 (.ref 619),kT P 974 620,kE P "__dict__" 976 (.ref 623),kE P "__weakref__" 978 (.ref 624),kD P 979,kE P "__hash__" 980 .none] 5
noncomputable def RN:Obj:=⟨(.type "type"),none,.cls ⟨"Book",[(.type "object")],[(.ref 622),(.type "object")],621,"Book",true,[],[],false,none,false⟩, #[none,none,(some (.str "Book" 812)),(some (.str "Book" 820)),(some (.builtin "object.__new__")),(some (.bool true))]⟩
def aA6:=zOt "_law_cell" 991 281 2 3 632 633 634 635 636 998
def aBd:=oF "_law_cell" "_law_cell" gD .none zS1 637
def aBg:=zOt "_law_purse" 1001 288 1 3 639 640 641 642 643 1005
def aBJ:=oF "_law_purse" "_law_purse" eS .none zS1 644
def aA7:=zOt "_law_pick" 1008 290 2 3 646 647 648 649 650 1015
def aBr:=oF "_law_pick" "_law_pick" fN .none zS1 651
def aBk:=zOt "_law_low" 1018 299 2 3 653 654 655 656 657 1025
def aBt:=oF "_law_low" "_law_low" iD .none zS1 658
def aBE:=zOt "_law_share" 1028 306 1 3 660 661 662 663 664 1034
def aBo:=oF "_law_share" "_law_share" eJ .none zS1 665
def aBv:=zOt "_law_shares" 1037 310 1 3 667 668 0 0 669 1040
def aBD:=oF "_law_shares" "_law_shares" dO .none zS1 670
def aBB:=zOt "_law_made" 1043 319 2 3 672 673 674 675 676 1049
def aBq:=oF "_law_made" "_law_made" fR .none zS1 677
def aA9:=zOt "_law_other_row" 1052 326 2 3 679 680 681 682 683 1059
def aBe:=oF "_law_other_row" "_law_other_row" bT .none zS1 684
def aBx:=zOt "_law_others" 1062 338 2 3 686 687 688 689 690 1068
def aA5:=oF "_law_others" "_law_others" dP .none zS1 691
def aBf:=zOt "_law_is" 1071 341 2 3 693 694 695 696 697 1076
def aBa:=oF "_law_is" "_law_is" lM .none zS1 698
def aBm:=zOt "_law_two_right" 1079 343 3 3 700 701 0 0 702 1082
def aBH:=oF "_law_two_right" "_law_two_right" bW .none zS1 703
def aBn:=zOt "_law_others_right" 1085 350 2 3 705 706 707 708 709 1092
def aBu:=oF "_law_others_right" "_law_others_right" bB .none zS1 710
def aBs:=zOt "law" 1095 360 1 3 712 713 714 715 716 1109
def aBG:=oF "law" "law" pH .none zS1 717
noncomputable def K0:Params→W.Frag:=fun P=>[(3,ko3 P),(30,vG P),(31,zM),(43,vP P),(44,DM),(56,vC P),(57,LL),(76,uT P),(77,vO),(95,xQ P),(96,zP),(114,nL P),(115,lZ),(133,pP P),(134,pU),(145,pT P),(146,pV),(164,pK P),(165,pR),(183,sO P),(184,uG),(202,sE P),(203,uC),(221,wK P),(222,xH),(225,wG),(231,wD),(232,xB),(238,xI),(239,xF),(245,xD),(246,wL),(287,wS),(288,wH),(294,wY),(295,wO),(301,AB),(302,CU),(315,BA),(316,CY),(322,AJ),(323,DP),(327,DU),(328,CD),(332,AN),(333,AC),(339,DS),(340,CM),(342,CK P),(343,AA),(353,CP),(354,BR),(360,BT),(361,AR),(367,DF),(368,EA),(400,HL),(401,HJ),(432,HZ),(433,IV),(456,HA P),(457,IE),(462,IJ),(466,HI),(467,HC),(473,IF),(474,ID),(494,OJ),(500,RE),(501,OL),(597,VG),(598,QU),(621,QH P),(622,RN),(637,aA6),(638,aBd),(644,aBg),(645,aBJ),(651,aA7),(652,aBr),(658,aBk),(659,aBt),(665,aBE),(666,aBo),(670,aBv),(671,aBD),(677,aBB),(678,aBq),(684,aA9),(685,aBe),(691,aBx),(692,aA5),(698,aBf),(699,aBa),(703,aBm),(704,aBH),(710,aBn),(711,aBu),(717,aBs),(718,aBG)]
noncomputable def aK:List Addr:=[3,30,31,43,44,56,57,76,77,95,96,114,115,133,134,145,146,164,165,183,184,202,203,221,222,225,231,232,238,239,245,246,287,288,294,295,301,302,315,316,322,323,327,328,332,333,339,340,342,343,353,354,360,361,367,368,400,401,432,433,456,457,462,466,467,473,474,494,500,501,597,598,621,622,637,638,644,645,651,652,658,659,665,666,670,671,677,678,684,685,691,692,698,699,703,704,710,711,717,718]
noncomputable def qv:Program:={ PySem.Challenge.pw_lightshares_k04_shades_alike_or_not with main:={ PySem.Challenge.pw_lightshares_k04_shades_alike_or_not.main with body:=[top 66] } }
noncomputable def lo:List Str:=(["_wall","ShadeError","MixError","BookError","NoNumber","NoShade","NoEye","NoWeight","EmptyMix","NoWord","NoName","NameStands","BookFull","ZERO","PIECE_FIGURES","PIECE","is_whole","common","is_fraction","lowest","need_fractions","plus","times","over","figures","written","is_share","Shade","is_shade","need_shade","shares_of","shade_of","MOST_WEIGHT","is_weight","added","Blend","EVEN_EYE","MOST_OF_EYE","is_eye","eye_of","MOST_NAMES","MOST_LETTERS","is_name","need_word","Book","text_rows","_law_cell","_law_purse","_law_pick","_law_low","_law_share","_law_shares","_law_made","_law_other_row","_law_others","_law_is","_law_two_right","_law_others_right"]:List String).map Str.ofString
noncomputable def nmS:List Str:=(["is_whole","common","is_fraction","is_share","Shade","Shade.__init__","is_shade","need_shade","shares_of","figures","written","Shade.__str__","Shade.__repr__","Shade.__len__","Shade.__eq__","Blend.__eq__","Book.__eq__","is_eye","eye_of","Book","Book.__init__","Blend","Blend.__init__","_law_cell","_law_purse","_law_pick","_law_whole","_law_low","_law_plus","_law_minus","_law_times","_law_over","_law_below","_law_is_fraction","_law_share","_law_shares","_law_made","_law_other_row","_law_is","_law_others","_law_others_right","_law_two_right","law"]:List String).map Str.ofString
noncomputable def pkS (y:PX):Nat→Sp3
 | 0=>eD
 | 1=>gW
 | 2=>hU
 | 3=>eP
 | 4=>jZ
 | 5=>jB
 | 6=>yF
 | 7=>iI
 | 8=>cF
 | 9=>IK
 | 10=>ZM
 | 11=>zG
 | 12=>xS
 | 13=>zA
 | 14=>II
 | 15=>rR
 | 16=>sA
 | 17=>mY
 | 18=>jC
 | 19=>rQ
 | 20=>nE
 | 21=>nI
 | 22=>kC
 | 23=>tF
 | 24=>lX
 | 25=>jY
 | 26=>eD
 | 27=>fK
 | 28=>sF
 | 29=>mQ
 | 30=>mK
 | 31=>sM
 | 32=>rP
 | 33=>oH
 | 34=>fQ
 | 35=>fJ
 | 36=>rY
 | 37=>rN
 | 38=>BH
 | 39=>rZ
 | 40=>IC
 | 41=>zB
 | 42=>yY
 | _=>fun _ _ _=>False
noncomputable def nmG:List Str:=(["ZERO","EVEN_EYE","MOST_OF_EYE","PIECE","PIECE_FIGURES","Shade","Book","Blend","int","bool","tuple","str","list"]:List String).map Str.ofString
noncomputable def pkG:Nat→PV
 | 0=>FQ 0
 | 1=>BW
 | 2=>.int 99
 | 3=>.int (10 ^ 64)
 | 4=>.int 64
 | 5=>.cl "Shade"
 | 6=>.cl "Book"
 | 7=>.cl "Blend"
 | 8=>.ty "int"
 | 9=>.ty "bool"
 | 10=>.ty "tuple"
 | 11=>.ty "str"
 | 12=>.ty "list"
 | _=>.non
noncomputable abbrev tcs:List String:=["Blend","Book","Shade"]
noncomputable abbrev tfl:List (String×Str):=[("Blend","many"),("Blend","sums"),("Blend","weight"),("Book","eye"),("Book","pages"),("Book","past"),("Shade","ember"),("Shade","leaf"),("Shade","sky")]
noncomputable def T (y:PX):Tb:={ S:=fun f=>pkS y (nmS.idxOf f),gv:=fun f=>pkG (nmG.idxOf f),cs:=tcs,fl:=tfl,fam:=fun x f=>pkS x (nmS.idxOf f),xp:=y,xi:=[],fx:=[] }
theorem uE {y:PX}:(T y).S "is_whole"=eD:=by kernel_rfl
theorem AU {y:PX}:(T y).S "common"=gW:=by kernel_rfl
theorem lB {y:PX}:(T y).S "is_fraction"=hU:=by kernel_rfl
theorem uO {y:PX}:(T y).S "is_share"=eP:=by kernel_rfl
theorem aAf {y:PX}:(T y).S "Shade"=jZ:=by kernel_rfl
theorem gX {y:PX}:(T y).S "Shade.__init__"=jB:=by kernel_rfl
theorem sK {y:PX}:(T y).S "is_shade"=yF:=by kernel_rfl
theorem mV {y:PX}:(T y).S "need_shade"=iI:=by kernel_rfl
theorem pO {y:PX}:(T y).S "shares_of"=cF:=by kernel_rfl
theorem wJ {y:PX}:(T y).S "figures"=IK:=by kernel_rfl
theorem wV {y:PX}:(T y).S "written"=ZM:=by kernel_rfl
theorem iY {y:PX}:(T y).S "Shade.__str__"=zG:=by kernel_rfl
theorem hJ {y:PX}:(T y).S "Shade.__repr__"=xS:=by kernel_rfl
theorem iS {y:PX}:(T y).S "Shade.__len__"=zA:=by kernel_rfl
theorem jG {y:PX}:(T y).S "Shade.__eq__"=II:=by kernel_rfl
theorem jR {y:PX}:(T y).S "Blend.__eq__"=rR:=by kernel_rfl
theorem lA {y:PX}:(T y).S "Book.__eq__"=sA:=by kernel_rfl
theorem DI {y:PX}:(T y).S "is_eye"=mY:=by kernel_rfl
theorem AY {y:PX}:(T y).S "eye_of"=jC:=by kernel_rfl
theorem aB5 {y:PX}:(T y).S "Book"=rQ:=by kernel_rfl
theorem iU {y:PX}:(T y).S "Book.__init__"=nE:=by kernel_rfl
theorem YG {y:PX}:(T y).S "Blend"=nI:=by kernel_rfl
theorem gQ {y:PX}:(T y).S "Blend.__init__"=kC:=by kernel_rfl
theorem CA {y:PX}:(T y).S "_law_cell"=tF:=by kernel_rfl
theorem wU {y:PX}:(T y).S "_law_purse"=lX:=by kernel_rfl
theorem BE {y:PX}:(T y).S "_law_pick"=jY:=by kernel_rfl
theorem LQ {y:PX}:(T y).S "_law_whole"=eD:=by kernel_rfl
theorem IU {y:PX}:(T y).S "_law_low"=fK:=by kernel_rfl
theorem PQ {y:PX}:(T y).S "_law_plus"=sF:=by kernel_rfl
theorem LP {y:PX}:(T y).S "_law_minus"=mQ:=by kernel_rfl
theorem LV {y:PX}:(T y).S "_law_times"=mK:=by kernel_rfl
theorem QD {y:PX}:(T y).S "_law_over"=sM:=by kernel_rfl
theorem KO {y:PX}:(T y).S "_law_below"=rP:=by kernel_rfl
theorem rA {y:PX}:(T y).S "_law_is_fraction"=oH:=by kernel_rfl
theorem vZ {y:PX}:(T y).S "_law_share"=fQ:=by kernel_rfl
theorem tV {y:PX}:(T y).S "_law_shares"=fJ:=by kernel_rfl
theorem CJ {y:PX}:(T y).S "_law_made"=rY:=by kernel_rfl
theorem kY {y:PX}:(T y).S "_law_other_row"=rN:=by kernel_rfl
theorem PH {y:PX}:(T y).S "_law_is"=BH:=by kernel_rfl
theorem tB {y:PX}:(T y).S "_law_others"=rZ:=by kernel_rfl
theorem gZ {y:PX}:(T y).S "_law_others_right"=IC:=by kernel_rfl
theorem lD {y:PX}:(T y).S "_law_two_right"=zB:=by kernel_rfl
theorem aA4 {y:PX}:(T y).S "law"=yY:=by kernel_rfl
theorem RL {y:PX}:(T y).gv "ZERO"=FQ 0:=by kernel_rfl
theorem uK {y:PX}:(T y).gv "EVEN_EYE"=BW:=by kernel_rfl
theorem kZ {y:PX}:(T y).gv "MOST_OF_EYE"= .int 99:=by kernel_rfl
theorem HN {y:PX}:(T y).gv "PIECE"= .int (10 ^ 64):=by kernel_rfl
theorem iX {y:PX}:(T y).gv "PIECE_FIGURES"= .int 64:=by kernel_rfl
theorem rX {y:PX}:(T y).gv "Shade"= .cl "Shade":=by kernel_rfl
theorem FK {y:PX}:(T y).gv "Book"= .cl "Book":=by kernel_rfl
theorem zC {y:PX}:(T y).gv "Blend"= .cl "Blend":=by kernel_rfl
theorem IG {y:PX}:(T y).gv "int"= .ty "int":=by kernel_rfl
theorem FZ {y:PX}:(T y).gv "bool"= .ty "bool":=by kernel_rfl
theorem rV {y:PX}:(T y).gv "tuple"= .ty "tuple":=by kernel_rfl
theorem IR {y:PX}:(T y).gv "str"= .ty "str":=by kernel_rfl
theorem OU {y:PX}:(T y).gv "list"= .ty "list":=by kernel_rfl
theorem hP4 {y:PX}:P4 (T y):={ is_whole:=uE,common:=AU,is_fraction:=lB,is_share:=uO,shade:=aAf,shadeI:=gX,is_shade:=sK,need_shade:=mV,shares_of:=pO,figures:=wJ,written:=wV,strS:=iY,repS:=hJ,lenS:=iS,eqS:=jG,eqBl:=jR,eqBk:=lA,is_eye:=DI,eye_of:=AY,book:=aB5,bookI:=iU,blend:=YG,blendI:=gQ,gv_ZERO:=RL,gv_EVEN:=uK,gv_MOST:=kZ,gv_PIECE:=HN,gv_PF:=iX,gv_Shade:=rX,gv_Book:=FK,gv_Blend:=zC,cs:=(by decide +kernel: "Shade"∈tcs),csK:=(by decide +kernel: "Book"∈tcs),csL:=(by decide +kernel: "Blend"∈tcs),fl_e:=(by decide +kernel:("Shade",("ember":Str))∈tfl),fl_l:=(by decide +kernel:("Shade",("leaf":Str))∈tfl),fl_s:=(by decide +kernel:("Shade",("sky":Str))∈tfl),fl_y:=(by decide +kernel:("Book",("eye":Str))∈tfl),fl_p:=(by decide +kernel:("Book",("pages":Str))∈tfl),fl_q:=(by decide +kernel:("Book",("past":Str))∈tfl),fl_m:=(by decide +kernel:("Blend",("many":Str))∈tfl),fl_w:=(by decide +kernel:("Blend",("weight":Str))∈tfl),fl_u:=(by decide +kernel:("Blend",("sums":Str))∈tfl),ty_int:=IG,ty_bool:=FZ,ty_tuple:=rV,ty_str:=IR,ty_list:=OU }
theorem hLT {y:PX}:LT (T y):={ cell:=CA,purse:=wU,pick:=BE,whole:=LQ,low:=IU,plus:=PQ,minus:=LP,times:=LV,over:=QD,below:=KO,is_fraction:=rA,share:=vZ,shares:=tV }
theorem hL4 {y:PX}:L4 (T y):={ made:=CJ,other_row:=kY,is_:=PH,others:=tB,others_right:=gZ,two_right:=lD }
noncomputable def sR (a:Nat→Addr) (c:String):Addr:=if c="Blend" then a 33 else if c="Book" then a 34 else if c="Shade" then a 35 else 0
theorem aJ {a:Nat→Addr}:sR a "Blend"=a 33:=by unfold sR; simp
theorem aP {a:Nat→Addr}:sR a "Book"=a 34:=by unfold sR; simp
theorem aC {a:Nat→Addr}:sR a "Shade"=a 35:=by unfold sR; simp
structure Tx (K:W.Frag) (mg:Str→Option Value) (a:Nat→Addr) (d:Nat→FuncData) (v:Nat→Value):Prop where
 qa:cH K "_law_cell" "_law_cell" gD (.none) (a 0) (d 0)
 qb:mg "_law_cell"=some (.ref (a 0))
 qc:cH K "common" "common" fM (.none) (a 1) (d 1)
 qd:mg "common"=some (.ref (a 1))
 qe:cH K "is_whole" "is_whole" dJ (.none) (a 2) (d 2)
 qf:mg "is_whole"=some (.ref (a 2))
 qg:cH K "is_fraction" "is_fraction" bV (.none) (a 3) (d 3)
 qh:mg "is_fraction"=some (.ref (a 3))
 qi:cH K "is_share" "is_share" dN (.none) (a 4) (d 4)
 qj:mg "is_share"=some (.ref (a 4))
 qk:cH K "__init__" "Shade.__init__" aZ (.none) (a 5) (d 5)
 ql:cH K "_law_pick" "_law_pick" fN (.none) (a 6) (d 6)
 qm:mg "_law_pick"=some (.ref (a 6))
 qo:cH K "_law_made" "_law_made" fR (.none) (a 7) (d 7)
 qp:mg "_law_made"=some (.ref (a 7))
 qq:cH K "_law_low" "_law_low" iD (.none) (a 8) (d 8)
 qr:mg "_law_low"=some (.ref (a 8))
 qt:cH K "_law_share" "_law_share" eJ (.none) (a 9) (d 9)
 qu:mg "_law_share"=some (.ref (a 9))
 qw:cH K "_law_shares" "_law_shares" dO (.none) (a 10) (d 10)
 qx:mg "_law_shares"=some (.ref (a 10))
 qy:cH K "_law_other_row" "_law_other_row" bT (.none) (a 11) (d 11)
 qz:mg "_law_other_row"=some (.ref (a 11))
 qA:cH K "_law_is" "_law_is" lM (.none) (a 12) (d 12)
 qB:mg "_law_is"=some (.ref (a 12))
 qC:cH K "__init__" "Blend.__init__" bA (.none) (a 13) (d 13)
 qD:cH K "is_eye" "is_eye" gB (.none) (a 14) (d 14)
 qE:mg "is_eye"=some (.ref (a 14))
 qF:cH K "eye_of" "eye_of" fV (.none) (a 15) (d 15)
 qG:mg "eye_of"=some (.ref (a 15))
 qH:cH K "__init__" "Book.__init__" bH (v 16) (a 16) (d 16)
 qI:∃ (b:Addr) (oc:Value) (od:Option Addr) (n:Nat) (sl:Array (Option Value)) ,v 16= .ref b∧K.lookup b=some ⟨oc,od,.seq #[.none] n,sl⟩
 qJ:cH K "is_shade" "is_shade" dL (.none) (a 17) (d 17)
 qK:mg "is_shade"=some (.ref (a 17))
 qL:cH K "need_shade" "need_shade" cQ (.none) (a 18) (d 18)
 qM:mg "need_shade"=some (.ref (a 18))
 qN:cH K "shares_of" "shares_of" dC (.none) (a 19) (d 19)
 qO:mg "shares_of"=some (.ref (a 19))
 qP:cH K "figures" "figures" eN (.none) (a 20) (d 20)
 qQ:mg "figures"=some (.ref (a 20))
 qR:cH K "written" "written" eT (.none) (a 21) (d 21)
 qS:mg "written"=some (.ref (a 21))
 qT:cH K "__str__" "Shade.__str__" bF (.none) (a 22) (d 22)
 qU:dZ K (a 35) "__str__" (a 22)
 qV:cH K "__repr__" "Shade.__repr__" aX (.none) (a 23) (d 23)
 qW:dZ K (a 35) "__repr__" (a 23)
 qX:cH K "__len__" "Shade.__len__" bG (.none) (a 24) (d 24)
 qY:dZ K (a 35) "__len__" (a 24)
 qZ:cH K "_law_others" "_law_others" dP (.none) (a 25) (d 25)
 qz1:mg "_law_others"=some (.ref (a 25))
 qz2:cH K "__eq__" "Shade.__eq__" bL (.none) (a 26) (d 26)
 qz3:dZ K (a 35) "__eq__" (a 26)
 qz4:cH K "__eq__" "Blend.__eq__" bN (.none) (a 27) (d 27)
 qz5:dZ K (a 33) "__eq__" (a 27)
 qz6:cH K "__eq__" "Book.__eq__" bU (.none) (a 28) (d 28)
 qz7:dZ K (a 34) "__eq__" (a 28)
 qz8:cH K "_law_others_right" "_law_others_right" bB (.none) (a 29) (d 29)
 qz9:mg "_law_others_right"=some (.ref (a 29))
 qz10:cH K "_law_purse" "_law_purse" eS (.none) (a 30) (d 30)
 qz11:mg "_law_purse"=some (.ref (a 30))
 qz12:cH K "_law_two_right" "_law_two_right" bW (.none) (a 31) (d 31)
 qz13:mg "_law_two_right"=some (.ref (a 31))
 qz14:cH K "law" "law" pH (.none) (a 32) (d 32)
 m_law:mg "law"=some (.ref (a 32))
 qz15:LF K (a 33)
 qz16:mg "Blend"=some (.ref (a 33))
 qz17:Mk K (a 33) (a 13)
 qz18:NeC K (a 33)
 qz19:EqL K (a 33)
 qz20:EqD K (a 33) (a 34)
 qz21:EqD K (a 33) (a 35)
 qz22:∀ n∈GE,W.kitOne K (.type n) (.ref (a 33))=some false
 qz23:∀ n∈kR,W.kitOne K (.ref (a 33)) (.type n)=some false
 qz24:W.kitOne K (.ref (a 33)) (.ref (a 34))=some false
 qz25:W.kitOne K (.ref (a 33)) (.ref (a 35))=some false
 qz26:cA K (a 33) "many"
 qz27:cA K (a 33) "sums"
 qz28:cA K (a 33) "weight"
 qz29:LF K (a 34)
 qz30:mg "Book"=some (.ref (a 34))
 qz31:Mk K (a 34) (a 16)
 qz32:NeC K (a 34)
 qz33:EqL K (a 34)
 qz34:EqD K (a 34) (a 33)
 qz35:EqD K (a 34) (a 35)
 qz36:∀ n∈GE,W.kitOne K (.type n) (.ref (a 34))=some false
 qz37:∀ n∈kR,W.kitOne K (.ref (a 34)) (.type n)=some false
 qz38:W.kitOne K (.ref (a 34)) (.ref (a 33))=some false
 qz39:W.kitOne K (.ref (a 34)) (.ref (a 35))=some false
 qz40:cA K (a 34) "eye"
 qz41:cA K (a 34) "pages"
 qz42:cA K (a 34) "past"
 qz43:LF K (a 35)
 qz44:mg "Shade"=some (.ref (a 35))
 qz45:Mk K (a 35) (a 5)
 qz46:NeC K (a 35)
 qz47:EqL K (a 35)
 qz48:EqD K (a 35) (a 33)
 qz49:EqD K (a 35) (a 34)
 qz50:∀ n∈GE,W.kitOne K (.type n) (.ref (a 35))=some false
 qz51:∀ n∈kR,W.kitOne K (.ref (a 35)) (.type n)=some false
 qz52:W.kitOne K (.ref (a 35)) (.ref (a 33))=some false
 qz53:W.kitOne K (.ref (a 35)) (.ref (a 34))=some false
 qz54:cA K (a 35) "ember"
 qz55:cA K (a 35) "leaf"
 qz56:cA K (a 35) "sky"
 qz57:∃ a t0 t1 t2 n sl,mg "EVEN_EYE"=some (.ref a)∧K.lookup a=some ⟨.type "tuple",none,.seq #[.int 1 t0,.int 1 t1,.int 1 t2] n,sl⟩
 qz58:∃ t,mg "MOST_OF_EYE"=some (.int 99 t)
 qz59:∃ t,mg "PIECE"=some (.int 10000000000000000000000000000000000000000000000000000000000000000 t)
 qz60:∃ t,mg "PIECE_FIGURES"=some (.int 64 t)
 qz61:∃ a t0 t1 n sl,mg "ZERO"=some (.ref a)∧K.lookup a=some ⟨.type "tuple",none,.seq #[.int 0 t0,.int 1 t1] n,sl⟩
 qz62:mg "abs"=none
 qz63:mg "all"=none
 qz64:mg "bool"=none
 qz65:mg "divmod"=none
 qz66:mg "enumerate"=none
 qz67:mg "int"=none
 qz68:mg "isinstance"=none
 qz69:mg "len"=none
 qz70:mg "list"=none
 qz71:mg "max"=none
 qz72:mg "min"=none
 qz73:mg "range"=none
 qz74:mg "repr"=none
 qz75:mg "str"=none
 qz76:mg "tuple"=none
variable {P:Program} {w:World} {K:W.Frag} {mg:Str→Option Value} {base:Heap} {a:Nat→Addr} {d:Nat→FuncData} {v:Nat→Value} {f0 z0:Hp} {y:PX}
theorem lnS {n:Nat} {l:List Value} (h:l.length=n + 1):∃ a t,l=a :: t∧t.length=n:=by
 cases l with
 | nil=>cases h
 | cons a t=>exact ⟨a,t,rfl,Nat.succ.inj h⟩
theorem ln0 {l:List Value} (h:l.length=0):l=[]:=List.eq_nil_of_length_eq_zero h
theorem ln1 {l:List Value} (h:l.length=1):∃ a,l=[a]:=by
 obtain ⟨a,t,rfl,h2⟩:=lnS h;exact ⟨a,by rw [ln0 h2]⟩
theorem ln2 {l:List Value} (h:l.length=2):∃ a b,l=[a,b]:=by
 obtain ⟨a,t,rfl,h2⟩:=lnS h;obtain ⟨b,rfl⟩:=ln1 h2;exact ⟨a,b,rfl⟩
theorem ln3 {l:List Value} (h:l.length=3):∃ a b c,l=[a,b,c]:=by
 obtain ⟨a,t,rfl,h2⟩:=lnS h;obtain ⟨b,c,rfl⟩:=ln2 h2;exact ⟨a,b,c,rfl⟩
theorem ln4 {l:List Value} (h:l.length=4):∃ a b c d,l=[a,b,c,d]:=by
 obtain ⟨a,t,rfl,h2⟩:=lnS h;obtain ⟨b,c,d,rfl⟩:=ln3 h2;exact ⟨a,b,c,d,rfl⟩
noncomputable abbrev Ew (K:W.Frag) (a:Nat→Addr) (f0 z0:Hp):Ev:={ K:=K,cls:=sR a,f0:=f0,z0:=z0 }
theorem TW (X:Tx K mg a d v):L2.aL K (d 0) ["_law_script","_law_k"] []:=X.qa.binds fun _ _ _ _ _ _ _ us _ hl=>by obtain ⟨_,_,rfl⟩:=ln2 hl; exact .of_eq rfl
theorem VM (X:Tx K mg a d v):L2.aL K (d 1) ["one","other"] []:=X.qc.binds fun _ _ _ _ _ _ _ us _ hl=>by obtain ⟨_,_,rfl⟩:=ln2 hl; exact .of_eq rfl
theorem tW (X:Tx K mg a d v):L2.aL K (d 2) ["thing"] []:=X.qe.binds fun _ _ _ _ _ _ _ us _ hl=>by obtain ⟨_,rfl⟩:=ln1 hl; exact .of_eq rfl
theorem vT (X:Tx K mg a d v):L2.aL K (d 3) ["thing"] []:=X.qg.binds fun _ _ _ _ _ _ _ us _ hl=>by obtain ⟨_,rfl⟩:=ln1 hl; exact .of_eq rfl
theorem GJ (X:Tx K mg a d v):L2.aL K (d 4) ["thing"] []:=X.qi.binds fun _ _ _ _ _ _ _ us _ hl=>by obtain ⟨_,rfl⟩:=ln1 hl; exact .of_eq rfl
theorem nU (X:Tx K mg a d v):L2.aL K (d 5) ["self","ember","leaf","sky"] []:=X.qk.binds fun _ _ _ _ _ _ _ us _ hl=>by obtain ⟨_,_,_,_,rfl⟩:=ln4 hl; exact .of_eq rfl
theorem RK (X:Tx K mg a d v):L2.aL K (d 6) ["_law_purse_here","_law_many"] []:=X.ql.binds fun _ _ _ _ _ _ _ us _ hl=>by obtain ⟨_,_,rfl⟩:=ln2 hl; exact .of_eq rfl
theorem QG (X:Tx K mg a d v):L2.aL K (d 7) ["_law_purse_here","_law_row"] []:=X.qo.binds fun _ _ _ _ _ _ _ us _ hl=>by obtain ⟨_,_,rfl⟩:=ln2 hl; exact .of_eq rfl
theorem ZV (X:Tx K mg a d v):L2.aL K (d 8) ["_law_top","_law_bottom"] []:=X.qq.binds fun _ _ _ _ _ _ _ us _ hl=>by obtain ⟨_,_,rfl⟩:=ln2 hl; exact .of_eq rfl
theorem vY (X:Tx K mg a d v):L2.aL K (d 9) ["_law_purse_here"] []:=X.qt.binds fun _ _ _ _ _ _ _ us _ hl=>by obtain ⟨_,rfl⟩:=ln1 hl; exact .of_eq rfl
theorem tX (X:Tx K mg a d v):L2.aL K (d 10) ["_law_purse_here"] []:=X.qw.binds fun _ _ _ _ _ _ _ us _ hl=>by obtain ⟨_,rfl⟩:=ln1 hl; exact .of_eq rfl
theorem vH (X:Tx K mg a d v):L2.aL K (d 11) ["_law_purse_here","_law_row"] []:=X.qy.binds fun _ _ _ _ _ _ _ us _ hl=>by obtain ⟨_,_,rfl⟩:=ln2 hl; exact .of_eq rfl
theorem QW (X:Tx K mg a d v):L2.aL K (d 12) ["_law_told","_law_due"] []:=X.qA.binds fun _ _ _ _ _ _ _ us _ hl=>by obtain ⟨_,_,rfl⟩:=ln2 hl; exact .of_eq rfl
theorem UK (X:Tx K mg a d v):L2.aL K (d 14) ["thing"] []:=X.qD.binds fun _ _ _ _ _ _ _ us _ hl=>by obtain ⟨_,rfl⟩:=ln1 hl; exact .of_eq rfl
theorem TH (X:Tx K mg a d v):L2.aL K (d 15) ["eye"] []:=X.qF.binds fun _ _ _ _ _ _ _ us _ hl=>by obtain ⟨_,rfl⟩:=ln1 hl; exact .of_eq rfl
theorem tM (X:Tx K mg a d v):L2.aL K (d 17) ["thing"] []:=X.qJ.binds fun _ _ _ _ _ _ _ us _ hl=>by obtain ⟨_,rfl⟩:=ln1 hl; exact .of_eq rfl
theorem yH (X:Tx K mg a d v):L2.aL K (d 18) ["thing"] []:=X.qL.binds fun _ _ _ _ _ _ _ us _ hl=>by obtain ⟨_,rfl⟩:=ln1 hl; exact .of_eq rfl
theorem AV (X:Tx K mg a d v):L2.aL K (d 19) ["shade"] []:=X.qN.binds fun _ _ _ _ _ _ _ us _ hl=>by obtain ⟨_,rfl⟩:=ln1 hl; exact .of_eq rfl
theorem ML (X:Tx K mg a d v):L2.aL K (d 20) ["number"] []:=X.qP.binds fun _ _ _ _ _ _ _ us _ hl=>by obtain ⟨_,rfl⟩:=ln1 hl; exact .of_eq rfl
theorem LO (X:Tx K mg a d v):L2.aL K (d 21) ["one"] []:=X.qR.binds fun _ _ _ _ _ _ _ us _ hl=>by obtain ⟨_,rfl⟩:=ln1 hl; exact .of_eq rfl
theorem iZ (X:Tx K mg a d v):L2.aL K (d 22) ["self"] []:=X.qT.binds fun _ _ _ _ _ _ _ us _ hl=>by obtain ⟨_,rfl⟩:=ln1 hl; exact .of_eq rfl
theorem oX (X:Tx K mg a d v):L2.aL K (d 23) ["self"] []:=X.qV.binds fun _ _ _ _ _ _ _ us _ hl=>by obtain ⟨_,rfl⟩:=ln1 hl; exact .of_eq rfl
theorem rC (X:Tx K mg a d v):L2.aL K (d 24) ["self"] []:=X.qX.binds fun _ _ _ _ _ _ _ us _ hl=>by obtain ⟨_,rfl⟩:=ln1 hl; exact .of_eq rfl
theorem GD (X:Tx K mg a d v):L2.aL K (d 25) ["_law_shade","_law_row"] []:=X.qZ.binds fun _ _ _ _ _ _ _ us _ hl=>by obtain ⟨_,_,rfl⟩:=ln2 hl; exact .of_eq rfl
theorem jM (X:Tx K mg a d v):L2.aL K (d 26) ["self","other"] []:=X.qz2.binds fun _ _ _ _ _ _ _ us _ hl=>by obtain ⟨_,_,rfl⟩:=ln2 hl; exact .of_eq rfl
theorem jI (X:Tx K mg a d v):L2.aL K (d 27) ["self","other"] []:=X.qz4.binds fun _ _ _ _ _ _ _ us _ hl=>by obtain ⟨_,_,rfl⟩:=ln2 hl; exact .of_eq rfl
theorem lI (X:Tx K mg a d v):L2.aL K (d 28) ["self","other"] []:=X.qz6.binds fun _ _ _ _ _ _ _ us _ hl=>by obtain ⟨_,_,rfl⟩:=ln2 hl; exact .of_eq rfl
theorem oG (X:Tx K mg a d v):L2.aL K (d 29) ["_law_shade","_law_row"] []:=X.qz8.binds fun _ _ _ _ _ _ _ us _ hl=>by obtain ⟨_,_,rfl⟩:=ln2 hl; exact .of_eq rfl
theorem JN (X:Tx K mg a d v):L2.aL K (d 30) ["_law_cell_here"] []:=X.qz10.binds fun _ _ _ _ _ _ _ us _ hl=>by obtain ⟨_,rfl⟩:=ln1 hl; exact .of_eq rfl
theorem vJ (X:Tx K mg a d v):L2.aL K (d 31) ["_law_one","_law_other","_law_rows"] []:=X.qz12.binds fun _ _ _ _ _ _ _ us _ hl=>by obtain ⟨_,_,_,rfl⟩:=ln3 hl; exact .of_eq rfl
theorem gE (X:Tx K mg a d v):hZ K (d 5) ["self","ember","leaf","sky"] 1 ["sky","ember","leaf"] [.arg 0,.arg 2,.arg 3,.arg 1]:=by
 refine X.qk.sh rfl fun _ _ _ _ _ _ _ us ws hK hl hl2=>?_;obtain ⟨u0,rfl⟩:=ln1 hl;obtain ⟨w0,w1,w2,rfl⟩:=ln3 hl2;refine ⟨[u0,w1,w2,w0],.of_eq rfl,fun vs zs r rz=>?_⟩;obtain _ | ⟨r_u0,r⟩:=r;cases r;obtain _ | ⟨r_w0,rz⟩:=rz;obtain _ | ⟨r_w1,rz⟩:=rz;obtain _ | ⟨r_w2,rz⟩:=rz;cases rz;exact (.cons r_u0 (.cons r_w1 (.cons r_w2 (.cons r_w0 .nil))))
theorem kU (X:Tx K mg a d v):hZ K (d 5) ["self","ember","leaf","sky"] 2 ["sky","leaf"] [.arg 0,.arg 1,.arg 3,.arg 2]:=by
 refine X.qk.sh rfl fun _ _ _ _ _ _ _ us ws hK hl hl2=>?_;obtain ⟨u0,u1,rfl⟩:=ln2 hl;obtain ⟨w0,w1,rfl⟩:=ln2 hl2;refine ⟨[u0,u1,w1,w0],.of_eq rfl,fun vs zs r rz=>?_⟩;obtain _ | ⟨r_u0,r⟩:=r;obtain _ | ⟨r_u1,r⟩:=r;cases r;obtain _ | ⟨r_w0,rz⟩:=rz;obtain _ | ⟨r_w1,rz⟩:=rz;cases rz;exact (.cons r_u0 (.cons r_u1 (.cons r_w1 (.cons r_w0 .nil))))
theorem AL (X:Tx K mg a d v):hZ K (d 13) ["self"] 1 [] [.arg 0]:=by
 refine X.qC.sh rfl fun _ _ _ _ _ _ _ us ws hK hl hl2=>?_;obtain ⟨u0,rfl⟩:=ln1 hl;obtain rfl:=ln0 hl2;refine ⟨[u0],.of_eq rfl,fun vs zs r rz=>?_⟩;obtain _ | ⟨r_u0,r⟩:=r;cases r;cases rz;exact (.cons r_u0 .nil)
theorem EF (X:Tx K mg a d v):hZ K (d 16) ["self","eye"] 1 [] [.arg 0,.non]:=by
 obtain ⟨b,oc,od,n,sl,e,hb⟩:=X.qI;refine X.qH.sh rfl fun _ _ _ _ _ _ _ us ws hK hl hl2=>?_;obtain ⟨u0,rfl⟩:=ln1 hl;obtain rfl:=ln0 hl2;refine ⟨[u0,(.none)],W.binds_K hK e hb rfl rfl rfl,fun vs zs r rz=>?_⟩;obtain _ | ⟨r_u0,r⟩:=r;cases r;cases rz;exact (.cons r_u0 (.cons rfl .nil))
theorem kK (X:Tx K mg a d v):hZ K (d 17) ["thing"] 0 ["thing"] [.arg 0]:=by
 refine X.qJ.sh rfl fun _ _ _ _ _ _ _ us ws hK hl hl2=>?_;obtain rfl:=ln0 hl;obtain ⟨w0,rfl⟩:=ln1 hl2;refine ⟨[w0],.of_eq rfl,fun vs zs r rz=>?_⟩;cases r;obtain _ | ⟨r_w0,rz⟩:=rz;cases rz;exact (.cons r_w0 .nil)
abbrev FO (P:Program) (w:World) (K:W.Frag) (mg:Str→Option Value) (base:Heap) (a:Nat→Addr) (d:Nat→FuncData) (n i:Nat) (f0 z0:Hp) (y:PX) (ps:List Str) (x:Str):Prop:=bC P w K mg base CX0 n (a i) (d i) ps (gO (Ew K a f0 z0) ((T y).S x))
theorem ck (X:Tx K mg a d v):Ck K (Ew K a f0 z0) (T y):=by
 refine ⟨rfl,⟨?_, ?_, ?_, ?_⟩, ?_⟩
 · exact ac (by rw [show (Ew K a f0 z0).cls "Blend"=a 33 from aJ]; exact X.qz15) (ac (by rw [show (Ew K a f0 z0).cls "Book"=a 34 from aP]; exact X.qz29) (ac (by rw [show (Ew K a f0 z0).cls "Shade"=a 35 from aC]; exact X.qz43) (an)))
 · exact ac (by rw [show (Ew K a f0 z0).cls "Blend"=a 33 from aJ]; exact X.qz22) (ac (by rw [show (Ew K a f0 z0).cls "Book"=a 34 from aP]; exact X.qz36) (ac (by rw [show (Ew K a f0 z0).cls "Shade"=a 35 from aC]; exact X.qz50) (an)))
 · exact ac (by rw [show (Ew K a f0 z0).cls "Blend"=a 33 from aJ]; exact X.qz23) (ac (by rw [show (Ew K a f0 z0).cls "Book"=a 34 from aP]; exact X.qz37) (ac (by rw [show (Ew K a f0 z0).cls "Shade"=a 35 from aC]; exact X.qz51) (an)))
 · exact ac (ac (fun h=>absurd rfl h) (ac (fun _=>by rw [show (Ew K a f0 z0).cls "Blend"=a 33 from aJ,show (Ew K a f0 z0).cls "Book"=a 34 from aP]; exact X.qz24) (ac (fun _=>by rw [show (Ew K a f0 z0).cls "Blend"=a 33 from aJ,show (Ew K a f0 z0).cls "Shade"=a 35 from aC]; exact X.qz25) (an)))) (ac (ac (fun _=>by rw [show (Ew K a f0 z0).cls "Book"=a 34 from aP,show (Ew K a f0 z0).cls "Blend"=a 33 from aJ]; exact X.qz38) (ac (fun h=>absurd rfl h) (ac (fun _=>by rw [show (Ew K a f0 z0).cls "Book"=a 34 from aP,show (Ew K a f0 z0).cls "Shade"=a 35 from aC]; exact X.qz39) (an)))) (ac (ac (fun _=>by rw [show (Ew K a f0 z0).cls "Shade"=a 35 from aC,show (Ew K a f0 z0).cls "Blend"=a 33 from aJ]; exact X.qz52) (ac (fun _=>by rw [show (Ew K a f0 z0).cls "Shade"=a 35 from aC,show (Ew K a f0 z0).cls "Book"=a 34 from aP]; exact X.qz53) (ac (fun h=>absurd rfl h) (an)))) (an)))
 · intro c f h;have key:∀ p∈(T y).fl,Cls K ((Ew K a f0 z0).cls p.1)∧cA K ((Ew K a f0 z0).cls p.1) p.2:=ac (by dsimp only; rw [aJ]; exact ⟨X.qz15.cl,X.qz26⟩) (ac (by dsimp only; rw [aJ]; exact ⟨X.qz15.cl,X.qz27⟩) (ac (by dsimp only; rw [aJ]; exact ⟨X.qz15.cl,X.qz28⟩) (ac (by dsimp only; rw [aP]; exact ⟨X.qz29.cl,X.qz40⟩) (ac (by dsimp only; rw [aP]; exact ⟨X.qz29.cl,X.qz41⟩) (ac (by dsimp only; rw [aP]; exact ⟨X.qz29.cl,X.qz42⟩) (ac (by dsimp only; rw [aC]; exact ⟨X.qz43.cl,X.qz54⟩) (ac (by dsimp only; rw [aC]; exact ⟨X.qz43.cl,X.qz55⟩) (ac (by dsimp only; rw [aC]; exact ⟨X.qz43.cl,X.qz56⟩) (an)))))))));exact key (c,f) h
local macro_rules | `(tactic| walk_at "sl") => `(tactic| (intro xs G Q h; repeat (first | exact (congrArg List.length h.1).trans rfl | (obtain ⟨_, h⟩ := h))))
theorem xo (X:Tx K mg a d v):Xo K mg (Ew K a f0 z0) (T y):=by
 exact Xo.no rfl rfl
theorem ME (X:Tx K mg a d v):Gf P w K mg base (Ew K a f0 z0) (T y) 40 C_l_cell :=
 ⟨an,an,an,an,an,an,ac (X.qz69) (an),an,an,an,an,an,an,an,an,an,an,an,an,an,an,an,an⟩
theorem MJ (X:Tx K mg a d v):FO P w K mg base a d 42 0 f0 z0 y ["_law_script","_law_k"] "_law_cell":=by
 rw [FO,CA]; exact bI (T:=T y) X.qa LI (ck X) (ME X) NM (xo X) (Tf.no rfl) rfl (fun _=>by decide) (fun z=>by cases z) (by walk_at "sl") (RF )
theorem KU (X:Tx K mg a d v):Gf P w K mg base (Ew K a f0 z0) (T y) 40 C_common :=
 ⟨an,an,an,an,an,an,an,an,an,an,an,an,an,an,an,an,an,an,an,an,an,an,an⟩
theorem MF (X:Tx K mg a d v):FO P w K mg base a d 42 1 f0 z0 y ["one","other"] "common":=by
 rw [FO,AU]; exact bI (T:=T y) X.qc NP (ck X) (KU X) KS (xo X) (Tf.no rfl) rfl (fun _=>by decide) (fun z=>by cases z) (by walk_at "sl") (AD hP4)
theorem DT (X:Tx K mg a d v):Gf P w K mg base (Ew K a f0 z0) (T y) 40 C_is_whole :=
 ⟨an,an,an,an,an,ac (⟨X.qz64,⟨"bool",PyProof.Rows.boot_bool,FZ⟩,by decide +kernel⟩) (ac (⟨X.qz67,⟨"int",PyProof.Rows.boot_int,IG⟩,by decide +kernel⟩) (an)),ac (X.qz68) (an),an,an,an,an,an,an,an,an,an,an,an,an,an,an,an,an⟩
theorem pG (X:Tx K mg a d v):FO P w K mg base a d 42 2 f0 z0 y ["thing"] "is_whole":=by
 rw [FO,uE]; exact bI (T:=T y) X.qe DB (ck X) (DT X) DR (xo X) (Tf.no rfl) rfl (fun _=>by decide) (fun z=>by cases z) (by walk_at "sl") (uX hP4)
theorem sI (X:Tx K mg a d v):Gf P w K mg base (Ew K a f0 z0) (T y) 42 C_is_fraction :=
 ⟨ac (⟨_,_,_,⟨(MF X).mono (by decide),X.qd,X.qc.kp,by decide +kernel⟩,VM X⟩) (ac (⟨_,_,_,⟨(pG X).mono (by decide),X.qf,X.qe.kp,by decide +kernel⟩,tW X⟩) (an)),an,an,an,an,ac (⟨X.qz76,⟨"tuple",PyProof.Rows.boot_tuple,rV⟩,by decide +kernel⟩) (an),ac (X.qz62) (ac (X.qz68) (ac (X.qz69) (an))),an,an,an,an,an,an,an,an,an,an,an,an,an,an,an,an⟩
theorem uI (X:Tx K mg a d v):FO P w K mg base a d 44 3 f0 z0 y ["thing"] "is_fraction":=by
 rw [FO,lB]; exact bI (T:=T y) X.qg tK (ck X) (sI X) tD (xo X) (Tf.no rfl) rfl (fun _=>by decide) (fun z=>by cases z) (by walk_at "sl") (nX hP4)
theorem AX (X:Tx K mg a d v):Gf P w K mg base (Ew K a f0 z0) (T y) 44 C_is_share :=
 ⟨ac (⟨_,_,_,⟨(uI X).mono (by decide),X.qh,X.qg.kp,by decide +kernel⟩,vT X⟩) (an),an,an,an,an,an,an,an,an,an,an,an,an,an,an,an,an,an,an,an,an,an,an⟩
theorem BF (X:Tx K mg a d v):FO P w K mg base a d 46 4 f0 z0 y ["thing"] "is_share":=by
 rw [FO,uO]; exact bI (T:=T y) X.qi BI (ck X) (AX X) BJ (xo X) (Tf.no rfl) rfl (fun _=>by decide) (fun z=>by cases z) (by walk_at "sl") (vU hP4)
theorem mZ (X:Tx K mg a d v):Gf P w K mg base (Ew K a f0 z0) (T y) 46 C_Shade___init__ :=
 ⟨ac (⟨_,_,_,⟨(BF X).mono (by decide),X.qj,X.qi.kp,by decide +kernel⟩,GJ X⟩) (an),an,an,an,an,an,ac (X.qz66) (an),an,an,an,an,an,an,an,an,an,an,an,an,an,an,an,an⟩
theorem dW (X:Tx K mg a d v):FO P w K mg base a d 48 5 f0 z0 y ["self","ember","leaf","sky"] "Shade.__init__":=by
 rw [FO,gX]; exact bI (T:=T y) X.qk mG (ck X) (mZ X) nM (xo X) (Tf.no rfl) rfl (fun _=>by decide) (fun z=>by cases z) (by walk_at "sl") (kJ hP4)
theorem KE (X:Tx K mg a d v):Gf P w K mg base (Ew K a f0 z0) (T y) 40 C_l_pick :=
 ⟨an,an,an,an,an,an,an,an,an,an,an,an,an,an,an,an,an,an,an,an,an,an,an⟩
theorem JC (X:Tx K mg a d v):FO P w K mg base a d 42 6 f0 z0 y ["_law_purse_here","_law_many"] "_law_pick":=by
 rw [FO,BE]; exact bI (T:=T y) X.ql NN (ck X) (KE X) NT (xo X) (Tf.no rfl) rfl (fun _=>by decide) (fun z=>by cases z) (by walk_at "sl") (QQ )
theorem kB (X:Tx K mg a d v) {k:Nat} (h:42≤k):∃ ad fd ps,Fk P w K mg base (Ew K a f0 z0) (T y) k "_law_pick" ad fd ps∧L2.aL K fd ps []:=⟨_,_,_,⟨(JC X).mono h,X.qm,X.ql.kp,by decide +kernel⟩,RK X⟩
theorem MS (X:Tx K mg a d v):Gf P w K mg base (Ew K a f0 z0) (T y) 48 C_l_made :=
 ⟨ac (kB X (by decide)) (an),ac (⟨"Shade","Shade.__init__",_,_,_,⟨by rw [show (Ew K a f0 z0).cls "Shade"=a 35 from aC]; exact X.qz45,(dW X).mono (by decide),by rw [show (Ew K a f0 z0).cls "Shade"=a 35 from aC]; exact X.qz44,jJ hP4,by decide +kernel⟩,nU X⟩) (an),an,ac (⟨"Shade","Shade.__init__",_,_,_,⟨by rw [show (Ew K a f0 z0).cls "Shade"=a 35 from aC]; exact X.qz45,(dW X).mono (by decide),by rw [show (Ew K a f0 z0).cls "Shade"=a 35 from aC]; exact X.qz44,jJ hP4,by decide +kernel⟩,gE X⟩) (an),ac (by rw [rX]; exact lJ X.qz44 aC) (an),an,an,an,an,an,an,an,an,ac (⟨"Shade","Shade.__init__",_,_,_,⟨by rw [show (Ew K a f0 z0).cls "Shade"=a 35 from aC]; exact X.qz45,(dW X).mono (by decide),by rw [show (Ew K a f0 z0).cls "Shade"=a 35 from aC]; exact X.qz44,jJ hP4,by decide +kernel⟩,kU X⟩) (an),an,an,an,an,ac (an) (an),ac (an) (an),an,an,an⟩
theorem LK (X:Tx K mg a d v):FO P w K mg base a d 50 7 f0 z0 y ["_law_purse_here","_law_row"] "_law_made":=by
 rw [FO,CJ]; exact bI (T:=T y) X.qo LD (ck X) (MS X) OC (xo X) (Tf.no rfl) rfl (fun _=>by decide) (fun z=>by cases z) (by walk_at "sl") (CQ hP4 hLT)
theorem VJ (X:Tx K mg a d v):Gf P w K mg base (Ew K a f0 z0) (T y) 40 C_l_low :=
 ⟨an,an,an,an,an,an,ac (X.qz62) (an),an,an,an,an,an,an,an,an,an,an,an,an,an,an,an,an⟩
theorem PB (X:Tx K mg a d v):FO P w K mg base a d 42 8 f0 z0 y ["_law_top","_law_bottom"] "_law_low":=by
 rw [FO,IU]; exact bI (T:=T y) X.qq SW (ck X) (VJ X) UX (xo X) (Tf.no rfl) rfl (fun _=>by decide) (fun z=>by cases z) (by walk_at "sl") (ZI )
theorem ER (X:Tx K mg a d v):Gf P w K mg base (Ew K a f0 z0) (T y) 42 C_l_share :=
 ⟨ac (⟨_,_,_,⟨(PB X).mono (by decide),X.qr,X.qq.kp,by decide +kernel⟩,ZV X⟩) (ac (kB X (by decide)) (an)),an,an,an,an,an,an,an,an,an,an,an,an,an,an,an,an,an,an,an,an,an,an⟩
theorem tS (X:Tx K mg a d v):FO P w K mg base a d 44 9 f0 z0 y ["_law_purse_here"] "_law_share":=by
 rw [FO,vZ]; exact bI (T:=T y) X.qt EM (ck X) (ER X) FC (xo X) (Tf.no rfl) rfl (fun _=>by decide) (fun z=>by cases z) (by walk_at "sl") (LJ hLT)
theorem DL (X:Tx K mg a d v):Gf P w K mg base (Ew K a f0 z0) (T y) 44 C_l_shares :=
 ⟨ac (kB X (by decide)) (ac (⟨_,_,_,⟨(tS X).mono (by decide),X.qu,X.qt.kp,by decide +kernel⟩,vY X⟩) (an)),an,an,an,an,ac (⟨X.qz76,⟨"tuple",PyProof.Rows.boot_tuple,rV⟩,by decide +kernel⟩) (an),ac (X.qz73) (ac (X.qz76) (an)),an,an,an,an,an,an,an,an,an,an,an,an,an,an,an,an⟩
theorem pS (X:Tx K mg a d v):FO P w K mg base a d 46 10 f0 z0 y ["_law_purse_here"] "_law_shares":=by
 rw [FO,tV]; exact bI (T:=T y) X.qw DK (ck X) (DL X) AQ (xo X) (Tf.no rfl) rfl (fun _=>by decide) (fun z=>by cases z) (by walk_at "sl") (vF hLT)
theorem uS (X:Tx K mg a d v):Gf P w K mg base (Ew K a f0 z0) (T y) 46 C_l_other_row :=
 ⟨ac (kB X (by decide)) (ac (⟨_,_,_,⟨(tS X).mono (by decide),X.qu,X.qt.kp,by decide +kernel⟩,vY X⟩) (ac (⟨_,_,_,⟨(pS X).mono (by decide),X.qx,X.qw.kp,by decide +kernel⟩,tX X⟩) (an))),an,an,an,an,an,an,an,an,an,an,an,an,an,an,an,an,an,an,an,an,an,an⟩
theorem uJ (X:Tx K mg a d v):FO P w K mg base a d 48 11 f0 z0 y ["_law_purse_here","_law_row"] "_law_other_row":=by
 rw [FO,kY]; exact bI (T:=T y) X.qy sT (ck X) (uS X) tO (xo X) (Tf.no rfl) rfl (fun _=>by decide) (fun z=>by cases z) (by walk_at "sl") (vL hLT)
theorem YF (X:Tx K mg a d v):Gf P w K mg base (Ew K a f0 z0) (T y) 40 C_l_is :=
 ⟨an,an,an,an,an,ac (⟨X.qz64,⟨"bool",PyProof.Rows.boot_bool,FZ⟩,by decide +kernel⟩) (an),ac (X.qz68) (an),an,an,an,an,an,an,an,an,an,an,an,an,an,an,an,an⟩
theorem IT (X:Tx K mg a d v):FO P w K mg base a d 42 12 f0 z0 y ["_law_told","_law_due"] "_law_is":=by
 rw [FO,PH]; exact bI (T:=T y) X.qA aAY (ck X) (YF X) YQ (xo X) (Tf.no rfl) rfl (fun _=>by decide) (fun z=>by cases z) (by walk_at "sl") (JH hP4)
theorem nJ (X:Tx K mg a d v):Gf P w K mg base (Ew K a f0 z0) (T y) 40 C_Blend___init__ :=
 ⟨an,an,an,an,ac (by obtain ⟨b,t0,t1,n,sl,h,l⟩:=X.qz61; rw [RL]; exact GV (YU rfl h l) (by first | rfl | exact TZ.symm)) (an),an,an,an,an,an,an,an,an,an,an,an,an,an,an,an,an,an,an⟩
theorem lY (X:Tx K mg a d v):FO P w K mg base a d 42 13 f0 z0 y ["self"] "Blend.__init__":=by
 rw [FO,gQ]; exact bI (T:=T y) X.qC mS (ck X) (nJ X) mO (xo X) (Tf.no rfl) rfl (fun _=>by decide) (fun z=>by cases z) (by walk_at "sl") (kO hP4)
theorem OB (X:Tx K mg a d v):Gf P w K mg base (Ew K a f0 z0) (T y) 42 C_is_eye :=
 ⟨ac (⟨_,_,_,⟨(pG X).mono (by decide),X.qf,X.qe.kp,by decide +kernel⟩,tW X⟩) (an),an,an,an,ac (by obtain ⟨t,h⟩:=X.qz58; rw [kZ]; exact FM h) (an),ac (⟨X.qz76,⟨"tuple",PyProof.Rows.boot_tuple,rV⟩,by decide +kernel⟩) (an),ac (X.qz63) (ac (X.qz68) (ac (X.qz69) (an))),an,an,an,an,an,an,an,an,an,an,an,an,an,an,an,an⟩
theorem JL (X:Tx K mg a d v):FO P w K mg base a d 44 14 f0 z0 y ["thing"] "is_eye":=by
 rw [FO,DI]; exact bI (T:=T y) X.qD LG (ck X) (OB X) LW (xo X) (Tf.no rfl) rfl (fun _=>by decide) (fun z=>by cases z) (by walk_at "sl") (DN )
theorem NY (X:Tx K mg a d v):Gf P w K mg base (Ew K a f0 z0) (T y) 44 C_eye_of :=
 ⟨ac (⟨_,_,_,⟨(JL X).mono (by decide),X.qE,X.qD.kp,by decide +kernel⟩,UK X⟩) (an),an,an,an,ac (by obtain ⟨b,t0,t1,t2,n,sl,h,l⟩:=X.qz57; rw [uK]; exact GV (WG rfl h l) (by first | rfl | exact TZ.symm)) (an),an,an,an,an,an,an,an,an,an,an,an,an,an,an,an,an,an,an⟩
theorem LN (X:Tx K mg a d v):FO P w K mg base a d 46 15 f0 z0 y ["eye"] "eye_of":=by
 rw [FO,AY]; exact bI (T:=T y) X.qF JR (ck X) (NY X) KW (xo X) (Tf.no rfl) rfl (fun _=>by decide) (fun z=>by cases z) (by walk_at "sl") (CI hP4)
theorem nP (X:Tx K mg a d v):Gf P w K mg base (Ew K a f0 z0) (T y) 46 C_Book___init__ :=
 ⟨ac (⟨_,_,_,⟨(LN X).mono (by decide),X.qG,X.qF.kp,by decide +kernel⟩,TH X⟩) (an),an,an,an,an,an,an,an,an,an,an,an,an,an,an,an,an,an,an,an,an,an,an⟩
theorem pE (X:Tx K mg a d v):FO P w K mg base a d 48 16 f0 z0 y ["self","eye"] "Book.__init__":=by
 rw [FO,iU]; exact bI (T:=T y) X.qH oP (ck X) (nP X) oW (xo X) (Tf.no rfl) rfl (fun _=>by decide) (fun z=>by cases z) (by walk_at "sl") (lN hP4)
theorem DC (X:Tx K mg a d v):Gf P w K mg base (Ew K a f0 z0) (T y) 40 C_is_shade :=
 ⟨an,an,an,an,ac (by rw [rX]; exact lJ X.qz44 aC) (an),an,ac (X.qz68) (an),an,an,an,an,an,an,an,an,an,an,an,an,an,an,an,an⟩
theorem jV (X:Tx K mg a d v):FO P w K mg base a d 42 17 f0 z0 y ["thing"] "is_shade":=by
 rw [FO,sK]; exact bI (T:=T y) X.qJ CH (ck X) (DC X) DA (xo X) (Tf.no rfl) rfl (fun _=>by decide) (fun z=>by cases z) (by walk_at "sl") (vB hP4)
theorem uW (X:Tx K mg a d v):Gf P w K mg base (Ew K a f0 z0) (T y) 42 C_need_shade :=
 ⟨ac (⟨_,_,_,⟨(jV X).mono (by decide),X.qK,X.qJ.kp,by decide +kernel⟩,tM X⟩) (an),an,an,an,an,an,an,an,an,an,an,an,an,an,an,an,an,an,an,an,an,an,an⟩
theorem vR (X:Tx K mg a d v):FO P w K mg base a d 44 18 f0 z0 y ["thing"] "need_shade":=by
 rw [FO,mV]; exact bI (T:=T y) X.qL vM (ck X) (uW X) vV (xo X) (Tf.no rfl) rfl (fun _=>by decide) (fun z=>by cases z) (by walk_at "sl") (rF hP4)
theorem yM (X:Tx K mg a d v):Gf P w K mg base (Ew K a f0 z0) (T y) 44 C_shares_of :=
 ⟨ac (⟨_,_,_,⟨(vR X).mono (by decide),X.qM,X.qL.kp,by decide +kernel⟩,yH X⟩) (an),an,an,an,an,an,an,an,an,an,an,an,an,an,an,an,an,an,an,an,an,an,an⟩
theorem xU (X:Tx K mg a d v):FO P w K mg base a d 46 19 f0 z0 y ["shade"] "shares_of":=by
 rw [FO,pO]; exact bI (T:=T y) X.qN xN (ck X) (yM X) zR (xo X) (Tf.no rfl) rfl (fun _=>by decide) (fun z=>by cases z) (by walk_at "sl") (tT hP4)
theorem fG (X:Tx K mg a d v) {k:Nat} (h:46≤k):∃ ad fd ps,Fk P w K mg base (Ew K a f0 z0) (T y) k "shares_of" ad fd ps∧L2.aL K fd ps []:=⟨_,_,_,⟨(xU X).mono h,X.qO,X.qN.kp,by decide +kernel⟩,AV X⟩
theorem GF (X:Tx K mg a d v):Gf P w K mg base (Ew K a f0 z0) (T y) 40 C_figures :=
 ⟨an,an,an,an,ac (by obtain ⟨t,h⟩:=X.qz59; rw [HN]; exact FM h) (ac (by obtain ⟨t,h⟩:=X.qz60; rw [iX]; exact FM h) (an)),ac (⟨X.qz75,⟨"str",PyProof.Rows.boot_str,IR⟩,by decide +kernel⟩) (an),ac (X.qz65) (ac (X.qz75) (an)),an,an,an,an,an,an,an,an,an,an,an,an,an,an,an,an⟩
theorem EJ (X:Tx K mg a d v):FO P w K mg base a d 42 20 f0 z0 y ["number"] "figures":=by
 rw [FO,wJ]; exact bI (T:=T y) X.qP FU (ck X) (GF X) EU (xo X) (Tf.no rfl) rfl (fun _=>by decide) (fun z=>by cases z) (by walk_at "sl") (yL hP4)
theorem FF (X:Tx K mg a d v):Gf P w K mg base (Ew K a f0 z0) (T y) 42 C_written :=
 ⟨ac (⟨_,_,_,⟨(EJ X).mono (by decide),X.qQ,X.qP.kp,by decide +kernel⟩,ML X⟩) (an),an,an,an,an,an,an,an,an,an,an,an,an,an,an,an,an,an,an,an,an,an,an⟩
theorem FR (X:Tx K mg a d v):FO P w K mg base a d 44 21 f0 z0 y ["one"] "written":=by
 rw [FO,wV]; exact bI (T:=T y) X.qR ED (ck X) (FF X) GP (xo X) (Tf.no rfl) rfl (fun _=>by decide) (fun z=>by cases z) (by walk_at "sl") (yC hP4)
theorem nN (X:Tx K mg a d v):Gf P w K mg base (Ew K a f0 z0) (T y) 46 C_Shade___str__ :=
 ⟨ac (fG X (by decide)) (ac (⟨_,_,_,⟨(FR X).mono (by decide),X.qS,X.qR.kp,by decide +kernel⟩,LO X⟩) (an)),an,an,an,an,an,an,an,an,an,an,an,an,an,an,an,an,an,an,an,an,an,an⟩
theorem gS (X:Tx K mg a d v):FO P w K mg base a d 48 22 f0 z0 y ["self"] "Shade.__str__":=by
 rw [FO,iY]; exact bI (T:=T y) X.qT pF (ck X) (nN X) pA (xo X) (Tf.no rfl) rfl (fun _=>by decide) (fun z=>by cases z) (by walk_at "sl") (lR hP4)
theorem mW (X:Tx K mg a d v):Gf P w K mg base (Ew K a f0 z0) (T y) 50 C_Shade___repr__ :=
 ⟨an,an,an,an,an,ac (⟨X.qz75,⟨"str",PyProof.Rows.boot_str,IR⟩,by decide +kernel⟩) (an),ac (X.qz75) (an),an,an,an,ac (fun b hb=>by rw [show BU.lookup ("str":Str)=some .str from by decide +kernel] at hb; cases hb; exact ac (⟨_,_,48,"__str__",by decide,rfl,by rw [show (Ew K a f0 z0).cls "Shade"=a 35 from aC]; exact X.qz46,by rw [show (Ew K a f0 z0).cls "Shade"=a 35 from aC]; exact X.qU,gS X,iZ X⟩) (an)) (an),an,an,an,an,an,an,an,an,an,an,an,an⟩
theorem mE (X:Tx K mg a d v):FO P w K mg base a d 52 23 f0 z0 y ["self"] "Shade.__repr__":=by
 rw [FO,hJ]; exact bI (T:=T y) X.qV mF (ck X) (mW X) mR (xo X) (Tf.no rfl) rfl (fun _=>by decide) (fun z=>by cases z) (by walk_at "sl") (kW hP4)
theorem pB (X:Tx K mg a d v):Gf P w K mg base (Ew K a f0 z0) (T y) 46 C_Shade___len__ :=
 ⟨ac (fG X (by decide)) (an),an,an,an,an,an,ac (X.qz69) (an),an,an,an,an,an,an,an,an,an,an,an,an,an,an,an,an⟩
theorem nO (X:Tx K mg a d v):FO P w K mg base a d 48 24 f0 z0 y ["self"] "Shade.__len__":=by
 rw [FO,iS]; exact bI (T:=T y) X.qX nV (ck X) (pB X) oJ (xo X) (Tf.no rfl) rfl (fun _=>by decide) (fun z=>by cases z) (by walk_at "sl") (lU hP4)
theorem DE (X:Tx K mg a d v):Gf P w K mg base (Ew K a f0 z0) (T y) 54 C_l_others :=
 ⟨an,an,an,ac (⟨"Blend","Blend.__init__",_,_,_,⟨by rw [show (Ew K a f0 z0).cls "Blend"=a 33 from aJ]; exact X.qz17,(lY X).mono (by decide),by rw [show (Ew K a f0 z0).cls "Blend"=a 33 from aJ]; exact X.qz16,DW hP4,by decide +kernel⟩,AL X⟩) (ac (⟨"Book","Book.__init__",_,_,_,⟨by rw [show (Ew K a f0 z0).cls "Book"=a 34 from aP]; exact X.qz31,(pE X).mono (by decide),by rw [show (Ew K a f0 z0).cls "Book"=a 34 from aP]; exact X.qz30,GT hP4,by decide +kernel⟩,EF X⟩) (an)),ac (by rw [zC]; exact lJ X.qz16 aJ) (ac (by rw [FK]; exact lJ X.qz30 aP) (an)),ac (⟨X.qz70,⟨"list",PyProof.Rows.boot_list,OU⟩,by decide +kernel⟩) (ac (⟨X.qz75,⟨"str",PyProof.Rows.boot_str,IR⟩,by decide +kernel⟩) (an)),ac (X.qz69) (ac (X.qz70) (ac (X.qz74) (ac (X.qz75) (an)))),an,an,an,ac (fun b hb=>by rw [show BU.lookup ("str":Str)=some .str from by decide +kernel] at hb; cases hb; exact ac (⟨_,_,48,"__str__",by decide,rfl,by rw [show (Ew K a f0 z0).cls "Shade"=a 35 from aC]; exact X.qz46,by rw [show (Ew K a f0 z0).cls "Shade"=a 35 from aC]; exact X.qU,gS X,iZ X⟩) (an)) (ac (fun b hb=>by rw [show BU.lookup ("repr":Str)=some .repr from by decide +kernel] at hb; cases hb; exact ac (⟨_,_,52,"__repr__",by decide,rfl,by rw [show (Ew K a f0 z0).cls "Shade"=a 35 from aC]; exact X.qz46,by rw [show (Ew K a f0 z0).cls "Shade"=a 35 from aC]; exact X.qW,mE X,oX X⟩) (an)) (ac (fun b hb=>by rw [show BU.lookup ("len":Str)=some .len from by decide +kernel] at hb; cases hb; exact ac (⟨_,_,48,"__len__",by decide,rfl,by rw [show (Ew K a f0 z0).cls "Shade"=a 35 from aC]; exact X.qz46,by rw [show (Ew K a f0 z0).cls "Shade"=a 35 from aC]; exact X.qY,nO X,rC X⟩) (an)) (an))),an,an,an,an,an,an,an,ac (an) (ac (an) (an)),an,an,an,an⟩
theorem CN (X:Tx K mg a d v):FO P w K mg base a d 56 25 f0 z0 y ["_law_shade","_law_row"] "_law_others":=by
 rw [FO,tB]; exact bI (T:=T y) X.qZ zT (ck X) (DE X) DQ (xo X) (Tf.no rfl) rfl (fun _=>by decide) (fun z=>by cases z) (by walk_at "sl") (GC hP4)
theorem rE (X:Tx K mg a d v):Gf P w K mg base (Ew K a f0 z0) (T y) 46 C_Shade___eq__ :=
 ⟨ac (fG X (by decide)) (an),an,an,an,ac (by rw [rX]; exact lJ X.qz44 aC) (an),an,ac (X.qz68) (an),an,an,an,an,an,an,an,an,an,an,an,an,an,an,an,an⟩
theorem iQ (X:Tx K mg a d v):FO P w K mg base a d 48 26 f0 z0 y ["self","other"] "Shade.__eq__":=by
 rw [FO,jG]; exact bI (T:=T y) X.qz2 rL (ck X) (rE X) rB (xo X) (Tf.no rfl) rfl (fun _=>by decide) (fun z=>by cases z) (by walk_at "sl") (mD hP4)
theorem rJ (X:Tx K mg a d v):Gf P w K mg base (Ew K a f0 z0) (T y) 40 C_Blend___eq__ :=
 ⟨an,an,an,an,ac (by rw [zC]; exact lJ X.qz16 aJ) (an),an,ac (X.qz68) (an),an,an,an,an,an,an,an,an,an,an,an,an,an,an,an,an⟩
theorem iP (X:Tx K mg a d v):FO P w K mg base a d 42 27 f0 z0 y ["self","other"] "Blend.__eq__":=by
 rw [FO,jR]; exact bI (T:=T y) X.qz4 rG (ck X) (rJ X) rD (xo X) (Tf.no rfl) rfl (fun _=>by decide) (fun z=>by cases z) (by walk_at "sl") (nB hP4)
theorem sW (X:Tx K mg a d v):Gf P w K mg base (Ew K a f0 z0) (T y) 40 C_Book___eq__ :=
 ⟨an,an,an,an,ac (by rw [FK]; exact lJ X.qz30 aP) (an),an,ac (X.qz68) (an),an,an,an,an,an,an,an,an,an,an,an,an,an,an,an,an⟩
theorem jQ (X:Tx K mg a d v):FO P w K mg base a d 42 28 f0 z0 y ["self","other"] "Book.__eq__":=by
 rw [FO,lA]; exact bI (T:=T y) X.qz6 sG (ck X) (sW X) uH (xo X) (Tf.no rfl) rfl (fun _=>by decide) (fun z=>by cases z) (by walk_at "sl") (oK hP4)
theorem mM (X:Tx K mg a d v):Gf P w K mg base (Ew K a f0 z0) (T y) 56 C_l_others_right :=
 ⟨ac (⟨_,_,_,⟨(IT X).mono (by decide),X.qB,X.qA.kp,by decide +kernel⟩,QW X⟩) (ac (⟨_,_,_,⟨(CN X).mono (by decide),X.qz1,X.qZ.kp,by decide +kernel⟩,GD X⟩) (ac (⟨_,_,_,⟨(jV X).mono (by decide),X.qK,X.qJ.kp,by decide +kernel⟩,tM X⟩) (an))),an,ac (⟨_,_,_,⟨(jV X).mono (by decide),X.qK,X.qJ.kp,by decide +kernel⟩,kK X⟩) (an),an,an,an,an,an,an,an,an,an,an,an,ac (⟨_,_,by rw [show (Ew K a f0 z0).cls "Shade"=a 35 from aC]; exact X.qz46,by rw [show (Ew K a f0 z0).cls "Shade"=a 35 from aC]; exact X.qz3,(iQ X).mono (by decide),jM X,by rw [show (Ew K a f0 z0).cls "Shade"=a 35 from aC]; exact X.qz47,ac (fun _=>by rw [show (Ew K a f0 z0).cls "Shade"=a 35 from aC,show (Ew K a f0 z0).cls "Blend"=a 33 from aJ]; exact X.qz48) (ac (fun _=>by rw [show (Ew K a f0 z0).cls "Shade"=a 35 from aC,show (Ew K a f0 z0).cls "Book"=a 34 from aP]; exact X.qz49) (ac (fun h=>absurd rfl h) (an)))⟩) (ac (⟨_,_,by rw [show (Ew K a f0 z0).cls "Blend"=a 33 from aJ]; exact X.qz18,by rw [show (Ew K a f0 z0).cls "Blend"=a 33 from aJ]; exact X.qz5,(iP X).mono (by decide),jI X,by rw [show (Ew K a f0 z0).cls "Blend"=a 33 from aJ]; exact X.qz19,ac (fun h=>absurd rfl h) (ac (fun _=>by rw [show (Ew K a f0 z0).cls "Blend"=a 33 from aJ,show (Ew K a f0 z0).cls "Book"=a 34 from aP]; exact X.qz20) (ac (fun _=>by rw [show (Ew K a f0 z0).cls "Blend"=a 33 from aJ,show (Ew K a f0 z0).cls "Shade"=a 35 from aC]; exact X.qz21) (an)))⟩) (ac (⟨_,_,by rw [show (Ew K a f0 z0).cls "Book"=a 34 from aP]; exact X.qz32,by rw [show (Ew K a f0 z0).cls "Book"=a 34 from aP]; exact X.qz7,(jQ X).mono (by decide),lI X,by rw [show (Ew K a f0 z0).cls "Book"=a 34 from aP]; exact X.qz33,ac (fun _=>by rw [show (Ew K a f0 z0).cls "Book"=a 34 from aP,show (Ew K a f0 z0).cls "Blend"=a 33 from aJ]; exact X.qz34) (ac (fun h=>absurd rfl h) (ac (fun _=>by rw [show (Ew K a f0 z0).cls "Book"=a 34 from aP,show (Ew K a f0 z0).cls "Shade"=a 35 from aC]; exact X.qz35) (an)))⟩) (an))),an,an,ac (an) (an),an,an,an,an,an⟩
theorem mT (X:Tx K mg a d v):FO P w K mg base a d 58 29 f0 z0 y ["_law_shade","_law_row"] "_law_others_right":=by
 rw [FO,gZ]; exact bI (T:=T y) X.qz8 mU (ck X) (mM X) mL (xo X) (Tf.no rfl) rfl (fun _=>by decide) (fun z=>by cases z) (by walk_at "sl") (pC hP4 hL4)
theorem FP (X:Tx K mg a d v):Gf P w K mg base (Ew K a f0 z0) (T y) 40 C_l_purse :=
 ⟨an,an,an,an,an,ac (⟨X.qz67,⟨"int",PyProof.Rows.boot_int,IG⟩,by decide +kernel⟩) (an),ac (X.qz67) (an),an,an,an,an,an,an,an,an,an,an,an,an,an,an,an,an⟩
theorem FB (X:Tx K mg a d v):FO P w K mg base a d 42 30 f0 z0 y ["_law_cell_here"] "_law_purse":=by
 rw [FO,wU]; exact bI (T:=T y) X.qz10 EC (ck X) (FP X) EQ (xo X) (Tf.no rfl) rfl (fun _=>by decide) (fun z=>by cases z) (by walk_at "sl") (LA )
theorem uA (X:Tx K mg a d v):Gf P w K mg base (Ew K a f0 z0) (T y) 48 C_l_two_right :=
 ⟨ac (⟨_,_,_,⟨(IT X).mono (by decide),X.qB,X.qA.kp,by decide +kernel⟩,QW X⟩) (ac (fG X (by decide)) (an)),an,an,an,an,an,ac (X.qz63) (an),an,an,an,an,an,an,an,ac (⟨_,_,by rw [show (Ew K a f0 z0).cls "Shade"=a 35 from aC]; exact X.qz46,by rw [show (Ew K a f0 z0).cls "Shade"=a 35 from aC]; exact X.qz3,(iQ X).mono (by decide),jM X,by rw [show (Ew K a f0 z0).cls "Shade"=a 35 from aC]; exact X.qz47,ac (fun _=>by rw [show (Ew K a f0 z0).cls "Shade"=a 35 from aC,show (Ew K a f0 z0).cls "Blend"=a 33 from aJ]; exact X.qz48) (ac (fun _=>by rw [show (Ew K a f0 z0).cls "Shade"=a 35 from aC,show (Ew K a f0 z0).cls "Book"=a 34 from aP]; exact X.qz49) (ac (fun h=>absurd rfl h) (an)))⟩) (ac (⟨_,_,by rw [show (Ew K a f0 z0).cls "Blend"=a 33 from aJ]; exact X.qz18,by rw [show (Ew K a f0 z0).cls "Blend"=a 33 from aJ]; exact X.qz5,(iP X).mono (by decide),jI X,by rw [show (Ew K a f0 z0).cls "Blend"=a 33 from aJ]; exact X.qz19,ac (fun h=>absurd rfl h) (ac (fun _=>by rw [show (Ew K a f0 z0).cls "Blend"=a 33 from aJ,show (Ew K a f0 z0).cls "Book"=a 34 from aP]; exact X.qz20) (ac (fun _=>by rw [show (Ew K a f0 z0).cls "Blend"=a 33 from aJ,show (Ew K a f0 z0).cls "Shade"=a 35 from aC]; exact X.qz21) (an)))⟩) (ac (⟨_,_,by rw [show (Ew K a f0 z0).cls "Book"=a 34 from aP]; exact X.qz32,by rw [show (Ew K a f0 z0).cls "Book"=a 34 from aP]; exact X.qz7,(jQ X).mono (by decide),lI X,by rw [show (Ew K a f0 z0).cls "Book"=a 34 from aP]; exact X.qz33,ac (fun _=>by rw [show (Ew K a f0 z0).cls "Book"=a 34 from aP,show (Ew K a f0 z0).cls "Blend"=a 33 from aJ]; exact X.qz34) (ac (fun h=>absurd rfl h) (ac (fun _=>by rw [show (Ew K a f0 z0).cls "Book"=a 34 from aP,show (Ew K a f0 z0).cls "Shade"=a 35 from aC]; exact X.qz35) (an)))⟩) (an))),an,an,an,an,an,an,an,an⟩
theorem tQ (X:Tx K mg a d v):FO P w K mg base a d 50 31 f0 z0 y ["_law_one","_law_other","_law_rows"] "_law_two_right":=by
 rw [FO,lD]; exact bI (T:=T y) X.qz12 tR (ck X) (uA X) sB (xo X) (Tf.no rfl) rfl (fun _=>by decide) (fun z=>by cases z) (by walk_at "sl") (vI hP4 hL4)
theorem aEz (X:Tx K mg a d v):Gf P w K mg base (Ew K a f0 z0) (T y) 58 C_law :=
 ⟨ac (⟨_,_,_,⟨(MJ X).mono (by decide),X.qb,X.qa.kp,by decide +kernel⟩,TW X⟩) (ac (⟨_,_,_,⟨(LK X).mono (by decide),X.qp,X.qo.kp,by decide +kernel⟩,QG X⟩) (ac (⟨_,_,_,⟨(uJ X).mono (by decide),X.qz,X.qy.kp,by decide +kernel⟩,vH X⟩) (ac (⟨_,_,_,⟨(mT X).mono (by decide),X.qz9,X.qz8.kp,by decide +kernel⟩,oG X⟩) (ac (⟨_,_,_,⟨(FB X).mono (by decide),X.qz11,X.qz10.kp,by decide +kernel⟩,JN X⟩) (ac (⟨_,_,_,⟨(pS X).mono (by decide),X.qx,X.qw.kp,by decide +kernel⟩,tX X⟩) (ac (⟨_,_,_,⟨(tQ X).mono (by decide),X.qz13,X.qz12.kp,by decide +kernel⟩,vJ X⟩) (an))))))),an,an,an,an,ac (⟨X.qz67,⟨"int",PyProof.Rows.boot_int,IG⟩,by decide +kernel⟩) (an),ac (X.qz67) (ac (X.qz69) (ac (X.qz71) (ac (X.qz72) (ac (X.qz73) (an))))),an,an,an,an,an,an,an,an,an,an,an,an,an,an,an,an⟩
theorem aCS (X:Tx K mg a d v):FO P w K mg base a d 60 32 f0 z0 y ["_law_script"] "law":=by
 rw [FO,aA4]; exact bI (T:=T y) X.qz14 aBS (ck X) (aEz X) aFa (xo X) (Tf.no rfl) rfl (fun _=>by decide) (fun z=>by cases z) (by walk_at "sl") (aID hLT hL4)
local macro_rules | `(tactic| walk_at "fm") => `(tactic| (refine ZJ (oc := .type "function") (od := none) (osl := #[]) ?_ ?_ ?_ <;> kernel_rfl))
noncomputable def aA (i:Nat):Addr:=([638,239,232,246,302,316,652,678,659,666,671,685,699,401,467,474,501,354,361,368,288,295,333,340,328,692,323,433,598,711,645,704,718,457,622,343]:List Addr).getD i 0
noncomputable def dA (i:Nat):FuncData:=([fX "_law_cell" "_law_cell" gD .none zS1 (.ref 637),fX "common" "common" fM .none zS4 (.ref 238),fX "is_whole" "is_whole" dJ .none zS4 (.ref 231),fX "is_fraction" "is_fraction" bV .none zS4 (.ref 245),fX "is_share" "is_share" dN .none zS3 (.ref 301),fX "__init__" "Shade.__init__" aZ .none zS3 (.ref 315),fX "_law_pick" "_law_pick" fN .none zS1 (.ref 651),fX "_law_made" "_law_made" fR .none zS1 (.ref 677),fX "_law_low" "_law_low" iD .none zS1 (.ref 658),fX "_law_share" "_law_share" eJ .none zS1 (.ref 665),fX "_law_shares" "_law_shares" dO .none zS1 (.ref 670),fX "_law_other_row" "_law_other_row" bT .none zS1 (.ref 684),fX "_law_is" "_law_is" lM .none zS1 (.ref 698),fX "__init__" "Blend.__init__" bA .none zS5 (.ref 400),fX "is_eye" "is_eye" gB .none zS6 (.ref 466),fX "eye_of" "eye_of" fV .none zS6 (.ref 473),fX "__init__" "Book.__init__" bH (.ref 494) zS2 (.ref 500),fX "is_shade" "is_shade" dL .none zS3 (.ref 353),fX "need_shade" "need_shade" cQ .none zS3 (.ref 360),fX "shares_of" "shares_of" dC .none zS3 (.ref 367),fX "figures" "figures" eN .none zS4 (.ref 287),fX "written" "written" eT .none zS4 (.ref 294),fX "__str__" "Shade.__str__" bF .none zS3 (.ref 332),fX "__repr__" "Shade.__repr__" aX .none zS3 (.ref 339),fX "__len__" "Shade.__len__" bG .none zS3 (.ref 327),fX "_law_others" "_law_others" dP .none zS1 (.ref 691),fX "__eq__" "Shade.__eq__" bL .none zS3 (.ref 322),fX "__eq__" "Blend.__eq__" bN .none zS5 (.ref 432),fX "__eq__" "Book.__eq__" bU .none zS2 (.ref 597),fX "_law_others_right" "_law_others_right" bB .none zS1 (.ref 710),fX "_law_purse" "_law_purse" eS .none zS1 (.ref 644),fX "_law_two_right" "_law_two_right" bW .none zS1 (.ref 703),fX "law" "law" pH .none zS1 (.ref 717)]:List FuncData).getD i (fX "law" "law" pH .none zS1 (.ref 717))
noncomputable def vA (i:Nat):Value:=([.none,.none,.none,.none,.none,.none,.none,.none,.none,.none,.none,.none,.none,.none,.none,.none,(.ref 494),.none,.none,.none,.none,.none,.none,.none,.none,.none,.none,.none,.none,.none,.none,.none,.none]:List Value).getD i .none
theorem tx {w:World} {h:Heap} {mg:Str→Option Value} (X:(K0 w.params).In h) (G:h.Ns mainGlobals mg):Tx (K0 w.params) mg aA dA vA:=by
 refine ⟨by walk_at "fm",
    W.mg_of X G ?_,
    by walk_at "fm",
    W.mg_of X G ?_,
    by walk_at "fm",
    W.mg_of X G ?_,
    by walk_at "fm",
    W.mg_of X G ?_,
    by walk_at "fm",
    W.mg_of X G ?_,
    by walk_at "fm",
    by walk_at "fm",
    W.mg_of X G ?_,
    by walk_at "fm",
    W.mg_of X G ?_,
    by walk_at "fm",
    W.mg_of X G ?_,
    by walk_at "fm",
    W.mg_of X G ?_,
    by walk_at "fm",
    W.mg_of X G ?_,
    by walk_at "fm",
    W.mg_of X G ?_,
    by walk_at "fm",
    W.mg_of X G ?_,
    by walk_at "fm",
    by walk_at "fm",
    W.mg_of X G ?_,
    by walk_at "fm",
    W.mg_of X G ?_,
    by walk_at "fm",
    ⟨494,(.type "tuple"),none,0, #[],rfl, ?_⟩,
    by walk_at "fm",
    W.mg_of X G ?_,
    by walk_at "fm",
    W.mg_of X G ?_,
    by walk_at "fm",
    W.mg_of X G ?_,
    by walk_at "fm",
    W.mg_of X G ?_,
    by walk_at "fm",
    W.mg_of X G ?_,
    by walk_at "fm",
    ⟨?_, ?_, ?_⟩,
    by walk_at "fm",
    ⟨?_, ?_, ?_⟩,
    by walk_at "fm",
    ⟨?_, ?_, ?_⟩,
    by walk_at "fm",
    W.mg_of X G ?_,
    by walk_at "fm",
    ⟨?_, ?_, ?_⟩,
    by walk_at "fm",
    ⟨?_, ?_, ?_⟩,
    by walk_at "fm",
    ⟨?_, ?_, ?_⟩,
    by walk_at "fm",
    W.mg_of X G ?_,
    by walk_at "fm",
    W.mg_of X G ?_,
    by walk_at "fm",
    W.mg_of X G ?_,
    by walk_at "fm",
    W.mg_of X G ?_,
    ⟨⟨?_, ?_, ?_, ?_⟩, ?_, ?_, ?_, ?_⟩,
    W.mg_of X G ?_,
    ⟨?_, ?_, ?_, ?_⟩,
    ⟨?_, ?_, ?_⟩,
    ⟨ac (?_) (ac (?_) (ac (?_) (ac (?_) (ac (?_) (ac (?_) (ac (?_) (an))))))),ac (?_) (ac (?_) (ac (?_) (ac (?_) (ac (?_) (ac (?_) (ac (?_) (an)))))))⟩,
    ⟨by decide +kernel, ?_, ?_⟩,
    ⟨by decide +kernel, ?_, ?_⟩,
    ac (?_) (ac (?_) (ac (?_) (ac (?_) (ac (?_) (ac (?_) (ac (?_) (an))))))),
    ac (?_) (ac (?_) (ac (?_) (ac (?_) (ac (?_) (ac (?_) (an)))))),
    ?_,
    ?_,
    ?_,
    ?_,
    ?_,
    ⟨⟨?_, ?_, ?_, ?_⟩, ?_, ?_, ?_, ?_⟩,
    W.mg_of X G ?_,
    ⟨?_, ?_, ?_, ?_⟩,
    ⟨?_, ?_, ?_⟩,
    ⟨ac (?_) (ac (?_) (ac (?_) (ac (?_) (ac (?_) (ac (?_) (ac (?_) (an))))))),ac (?_) (ac (?_) (ac (?_) (ac (?_) (ac (?_) (ac (?_) (ac (?_) (an)))))))⟩,
    ⟨by decide +kernel, ?_, ?_⟩,
    ⟨by decide +kernel, ?_, ?_⟩,
    ac (?_) (ac (?_) (ac (?_) (ac (?_) (ac (?_) (ac (?_) (ac (?_) (an))))))),
    ac (?_) (ac (?_) (ac (?_) (ac (?_) (ac (?_) (ac (?_) (an)))))),
    ?_,
    ?_,
    ?_,
    ?_,
    ?_,
    ⟨⟨?_, ?_, ?_, ?_⟩, ?_, ?_, ?_, ?_⟩,
    W.mg_of X G ?_,
    ⟨?_, ?_, ?_, ?_⟩,
    ⟨?_, ?_, ?_⟩,
    ⟨ac (?_) (ac (?_) (ac (?_) (ac (?_) (ac (?_) (ac (?_) (ac (?_) (an))))))),ac (?_) (ac (?_) (ac (?_) (ac (?_) (ac (?_) (ac (?_) (ac (?_) (an)))))))⟩,
    ⟨by decide +kernel, ?_, ?_⟩,
    ⟨by decide +kernel, ?_, ?_⟩,
    ac (?_) (ac (?_) (ac (?_) (ac (?_) (ac (?_) (ac (?_) (ac (?_) (an))))))),
    ac (?_) (ac (?_) (ac (?_) (ac (?_) (ac (?_) (ac (?_) (an)))))),
    ?_,
    ?_,
    ?_,
    ?_,
    ?_,
    ⟨462,774,775,776,0, #[],W.mg_of X G ?_, ?_⟩,
    ⟨778,W.mg_of X G ?_⟩,
    ⟨477,W.mg_of X G ?_⟩,
    ⟨473,W.mg_of X G ?_⟩,
    ⟨225,470,471,0, #[],W.mg_of X G ?_, ?_⟩,
    W.mg_none_of X G ?_,
    W.mg_none_of X G ?_,
    W.mg_none_of X G ?_,
    W.mg_none_of X G ?_,
    W.mg_none_of X G ?_,
    W.mg_none_of X G ?_,
    W.mg_none_of X G ?_,
    W.mg_none_of X G ?_,
    W.mg_none_of X G ?_,
    W.mg_none_of X G ?_,
    W.mg_none_of X G ?_,
    W.mg_none_of X G ?_,
    W.mg_none_of X G ?_,
    W.mg_none_of X G ?_,
    W.mg_none_of X G ?_⟩
 all_goals first | kernel_rfl | (unfold cA; kernel_rfl)
theorem fin {l:W.OpenLaw} {w:World} {h:Heap} {mg:Str→Option Value} {fa:Addr} (X:(K0 w.params).In h) (G:h.Ns mainGlobals mg) (hfa:mg "law"=some (.ref fa)):∃ fd:FuncData,(∀ (s:Shared) (v:Value),BindsTo s fd ⟨[v],[]⟩ [("_law_script",v)])∧∀ base:Heap,(K0 w.params).In base→base.Ns mainGlobals mg→bC l.prog w (K0 w.params) mg base CX0 60 fa fd ["_law_script"] (HW (K0 w.params)):=by
 have T:=tx X G;have e:=hfa.symm.trans T.m_law;obtain rfl:fa=aA 32:=by injection e with e; injection e
 refine ⟨dA 32,fun s v=>.of_eq rfl,fun base _ _=>?_⟩;have ok:=aCS (P:=l.prog) (w:=w) (base:=base) (f0:=fun _=>none) (z0:=fun _=>none) (y:=fun _ _ _ _=>False) T;unfold FO at ok;rw [aA4] at ok;exact ok.imp fun vs H Q E h=>aE4 (fun _ _ z=>nomatch z) (fun _ _ z=>z) h
theorem wsd:W.OpenLaw.wellSaid PySem.Challenge.rw_lightshares_k04_shades_alike_or_not=true:=by kernel_rfl
noncomputable abbrev hk0:W.Hook:=W.kHook K0 aK fun _=>rfl
noncomputable def mo0 (P:Params):Obj:=⟨.none,none,.dict #[kE P "type.__subclasses__.ArithmeticError.0" 230 (.int 44 0),kE P "type.__subclasses__.ArithmeticError.n" 231 (.int 1 0)] 2, #[]⟩
noncomputable def mo1 (P:Params):Obj:=⟨(.type "dict"),none,.dict #[kE P "__name__" 165 zS0,kD P 166,kE P "__package__" 167 .none,kE P "__loader__" 168 (.builtin "__main__.__loader__#opaque"),kE P "__spec__" 169 .none,kE P "__annotations__" 170 (.ref 6),kE P "__builtins__" 171 (.ref 4),kE P "__file__" 173 (.str "/claim/cut.py" 172),kE P "__cached__" 174 .none,kE P "_wall" 193 (.ref 21),kE P "ShadeError" 213 (.ref 31),kE P "MixError" 233 (.ref 44),kE P "BookError" 251 (.ref 57),kE P "NoNumber" 276 (.ref 77)] 14, #[]⟩
def M2:=oT []
def M3:=oL [iV 1,iV 0,.ref 20,iV 5,iV 0,.ref 27,iV 7,iV 0,.ref 40,iV 9,iV 0,.ref 53,iV 11,iV 0,.ref 66]
def M4:=zOf "<module>" 182 1 0 0 11 12 0 0 0 185
def M5:=oR 13 3 (.str "__main__" 164)
def M6:=oL []
def M7:=oT [.str "k" 190]
def M8:=oN "_wall" "_wall" (top 0)
def M9:=zOt "_wall" 187 1 1 3 15 16 17 18 19 191
def M10:=oF "_wall" "_wall" (top 0) .none (.str "__main__" 164) 20
def M11:=oT [.type "ValueError"]
def M12:=oB "type.__prepare__" (.type "type")
def xP (P:Params):=oDn [kM P 203,kQ P 205 "ShadeError",kL P 207 5,kT P 208 29] 4
def M14:=zOf "ShadeError" 198 5 0 0 25 26 0 0 0 201
def M15:=oR 27 24 zS0
noncomputable def M16:Obj:=⟨(.type "type"),none,.cls ⟨"ShadeError",[(.type "ValueError")],[(.ref 31),(.type "ValueError"),(.type "Exception"),(.type "BaseException"),(.type "object")],30,"ShadeError",true,[],[(.ref 77)],false,none,false⟩, #[(some (.ref 22)),none,(some (.str "ShadeError" 196)),(some (.str "ShadeError" 204)),(some (.builtin "ValueError.__new__")),(some (.bool true))]⟩
noncomputable def M17:Obj:=⟨(.type "getset_descriptor"),none,.fields #[(.str "__weakref__" 209),(.ref 31),(.builtin "ExceptionGroup.__weakref__"),.none], #[]⟩
def M18:=oS 31
def M19:=oB "object.__init_subclass__" (.ref 31)
def M20:=oT [.type "ArithmeticError"]
def yO (P:Params):=oDn [kM P 221,kQ P 223 "MixError",kL P 225 7,kT P 226 42] 4
def M22:=zOf "MixError" 216 7 0 0 38 39 0 0 0 219
def M23:=oR 40 37 zS0
noncomputable def M24:Obj:=⟨(.type "type"),none,.cls ⟨"MixError",[(.type "ArithmeticError")],[(.ref 44),(.type "ArithmeticError"),(.type "Exception"),(.type "BaseException"),(.type "object")],43,"MixError",true,[],[],false,none,false⟩, #[(some (.ref 35)),none,(some (.str "MixError" 214)),(some (.str "MixError" 222)),(some (.builtin "ArithmeticError.__new__")),(some (.bool true))]⟩
noncomputable def M25:Obj:=⟨(.type "getset_descriptor"),none,.fields #[(.str "__weakref__" 227),(.ref 44),(.builtin "ExceptionGroup.__weakref__"),.none], #[]⟩
def M26:=oS 44
def M27:=oB "object.__init_subclass__" (.ref 44)
def M28:=oT [.type "LookupError"]
def zN (P:Params):=oDn [kM P 241,kQ P 243 "BookError",kL P 245 9,kT P 246 55] 4
def M30:=zOf "BookError" 236 9 0 0 51 52 0 0 0 239
def M31:=oR 53 50 zS0
noncomputable def M32:Obj:=⟨(.type "type"),none,.cls ⟨"BookError",[(.type "LookupError")],[(.ref 57),(.type "LookupError"),(.type "Exception"),(.type "BaseException"),(.type "object")],56,"BookError",true,[],[],false,none,false⟩, #[(some (.ref 48)),none,(some (.str "BookError" 234)),(some (.str "BookError" 242)),(some (.builtin "LookupError.__new__")),(some (.bool true))]⟩
noncomputable def M33:Obj:=⟨(.type "getset_descriptor"),none,.fields #[(.str "__weakref__" 247),(.ref 57),(.builtin "ExceptionGroup.__weakref__"),.none], #[]⟩
def M34:=oS 57
def M35:=oB "object.__init_subclass__" (.ref 57)
def M36:=oT [.ref 31]
def yK (P:Params):=oDn [kM P 259,kQ P 261 "NoNumber",kL P 263 11,kI P 271 74,kT P 273 75] 5
def M38:=oL [iV 13,iV 4,.ref 73]
def M39:=zOf "NoNumber" 254 11 0 0 64 65 0 0 0 257
def M40:=oR 66 63 zS0
def M41:=oT [.str "self" 267,.str "place" 268]
def M42:=oN "__init__" "NoNumber.__init__" (aB (top 5) 0)
def M43:=zXt "__init__" "NoNumber.__init__" 264 13 2 3 68 69 70 71 72 269
def M44:=oF "__init__" "NoNumber.__init__" (aB (top 5) 0) .none zS0 73
def M45:=oT [.str "place" 272]
def M46:=oS 77
def M47:=oB "object.__init_subclass__" (.ref 77)
noncomputable def aJ3 (P:Params):Obj:=⟨(.type "dict"),none,.dict #[kE P "__name__" 165 zS0,kD P 166,kE P "__package__" 167 .none,kE P "__loader__" 168 (.builtin "__main__.__loader__#opaque"),kE P "__spec__" 169 .none,kE P "__annotations__" 170 (.ref 6),kE P "__builtins__" 171 (.ref 4),kE P "__file__" 173 (.str "/claim/cut.py" 172),kE P "__cached__" 174 .none,kE P "_wall" 193 (.ref 21),kE P "ShadeError" 213 (.ref 31),kE P "MixError" 233 (.ref 44),kE P "BookError" 251 (.ref 57),kE P "NoNumber" 276 (.ref 77),kE P "NoShade" 301 (.ref 96),kE P "NoEye" 326 (.ref 115)] 16, #[]⟩
def M49:=oL [iV 1,iV 0,.ref 20,iV 5,iV 0,.ref 27,iV 7,iV 0,.ref 40,iV 9,iV 0,.ref 53,iV 11,iV 0,.ref 66,iV 16,iV 0,.ref 85,iV 21,iV 0,.ref 104]
def AT (P:Params):=oDn [kM P 284,kQ P 286 "NoShade",kL P 288 16,kI P 296 93,kT P 298 94] 5
def M51:=oL [iV 18,iV 4,.ref 92]
def M52:=zOf "NoShade" 279 16 0 0 83 84 0 0 0 282
def M53:=oR 85 82 zS0
def M54:=oT [.str "self" 292,.str "light" 293]
def M55:=oN "__init__" "NoShade.__init__" (aB (top 6) 0)
def M56:=zXt "__init__" "NoShade.__init__" 289 18 2 3 87 88 89 90 91 294
def M57:=oF "__init__" "NoShade.__init__" (aB (top 6) 0) .none zS0 92
def M58:=oT [.str "light" 297]
def M59:=oS 96
def M60:=oB "object.__init_subclass__" (.ref 96)
def BV (P:Params):=oDn [kM P 309,kQ P 311 "NoEye",kL P 313 21,kI P 321 112,kT P 323 113] 5
def M62:=oL [iV 23,iV 4,.ref 111]
def M63:=zOf "NoEye" 304 21 0 0 102 103 0 0 0 307
def M64:=oR 104 101 zS0
def M65:=oT [.str "self" 317,.str "eye" 318]
def M66:=oN "__init__" "NoEye.__init__" (aB (top 7) 0)
def M67:=zXt "__init__" "NoEye.__init__" 314 23 2 3 106 107 108 109 110 319
def M68:=oF "__init__" "NoEye.__init__" (aB (top 7) 0) .none zS0 111
def M69:=oT [.str "eye" 322]
def M70:=oS 115
def M71:=oB "object.__init_subclass__" (.ref 115)
noncomputable def aJS (P:Params):Obj:=⟨(.type "dict"),none,.dict #[kE P "__name__" 165 zS0,kD P 166,kE P "__package__" 167 .none,kE P "__loader__" 168 (.builtin "__main__.__loader__#opaque"),kE P "__spec__" 169 .none,kE P "__annotations__" 170 (.ref 6),kE P "__builtins__" 171 (.ref 4),kE P "__file__" 173 (.str "/claim/cut.py" 172),kE P "__cached__" 174 .none,kE P "_wall" 193 (.ref 21),kE P "ShadeError" 213 (.ref 31),kE P "MixError" 233 (.ref 44),kE P "BookError" 251 (.ref 57),kE P "NoNumber" 276 (.ref 77),kE P "NoShade" 301 (.ref 96),kE P "NoEye" 326 (.ref 115),kE P "NoWeight" 351 (.ref 134),kE P "EmptyMix" 367 (.ref 146),kE P "NoWord" 392 (.ref 165)] 19, #[]⟩
def M73:=oL [iV 1,iV 0,.ref 20,iV 5,iV 0,.ref 27,iV 7,iV 0,.ref 40,iV 9,iV 0,.ref 53,iV 11,iV 0,.ref 66,iV 16,iV 0,.ref 85,iV 21,iV 0,.ref 104,iV 26,iV 0,.ref 123,iV 31,iV 0,.ref 142,iV 33,iV 0,.ref 154]
noncomputable def M74:Obj:=⟨(.type "type"),none,.cls ⟨"BookError",[(.type "LookupError")],[(.ref 57),(.type "LookupError"),(.type "Exception"),(.type "BaseException"),(.type "object")],56,"BookError",true,[],[(.ref 165)],false,none,false⟩, #[(some (.ref 48)),none,(some (.str "BookError" 234)),(some (.str "BookError" 242)),(some (.builtin "LookupError.__new__")),(some (.bool true))]⟩
def M75:=oT [.ref 44]
def FH (P:Params):=oDn [kM P 334,kQ P 336 "NoWeight",kL P 338 26,kI P 346 131,kT P 348 132] 5
def M77:=oL [iV 28,iV 4,.ref 130]
def M78:=zOf "NoWeight" 329 26 0 0 121 122 0 0 0 332
def M79:=oR 123 120 zS0
def M80:=oT [.str "self" 342,.str "weight" 343]
def M81:=oN "__init__" "NoWeight.__init__" (aB (top 8) 0)
def M82:=zXt "__init__" "NoWeight.__init__" 339 28 2 3 125 126 127 128 129 344
def M83:=oF "__init__" "NoWeight.__init__" (aB (top 8) 0) .none zS0 130
def M84:=oT [.str "weight" 347]
def M85:=oS 134
def M86:=oB "object.__init_subclass__" (.ref 134)
def FW (P:Params):=oDn [kM P 359,kQ P 361 "EmptyMix",kL P 363 31,kT P 364 144] 4
def M88:=zOf "EmptyMix" 354 31 0 0 140 141 0 0 0 357
def M89:=oR 142 139 zS0
def M90:=oS 146
def M91:=oB "object.__init_subclass__" (.ref 146)
def M92:=oT [.ref 57]
def FE (P:Params):=oDn [kM P 375,kQ P 377 "NoWord",kL P 379 33,kI P 387 162,kT P 389 163] 5
def M94:=oL [iV 35,iV 4,.ref 161]
def M95:=zOf "NoWord" 370 33 0 0 152 153 0 0 0 373
def M96:=oR 154 151 zS0
def M97:=oT [.str "self" 383,.str "word" 384]
def M98:=oN "__init__" "NoWord.__init__" (aB (top 10) 0)
def M99:=zXt "__init__" "NoWord.__init__" 380 35 2 3 156 157 158 159 160 385
def GL:=oF "__init__" "NoWord.__init__" (aB (top 10) 0) .none zS0 161
def GN:=oT [.str "word" 388]
def GG:=oS 165
def EO:=oB "object.__init_subclass__" (.ref 165)
noncomputable def aGW (P:Params):Obj:=⟨(.type "dict"),none,.dict #[kE P "__name__" 165 zS0,kD P 166,kE P "__package__" 167 .none,kE P "__loader__" 168 (.builtin "__main__.__loader__#opaque"),kE P "__spec__" 169 .none,kE P "__annotations__" 170 (.ref 6),kE P "__builtins__" 171 (.ref 4),kE P "__file__" 173 (.str "/claim/cut.py" 172),kE P "__cached__" 174 .none,kE P "_wall" 193 (.ref 21),kE P "ShadeError" 213 (.ref 31),kE P "MixError" 233 (.ref 44),kE P "BookError" 251 (.ref 57),kE P "NoNumber" 276 (.ref 77),kE P "NoShade" 301 (.ref 96),kE P "NoEye" 326 (.ref 115),kE P "NoWeight" 351 (.ref 134),kE P "EmptyMix" 367 (.ref 146),kE P "NoWord" 392 (.ref 165),kE P "NoName" 417 (.ref 184),kE P "NameStands" 442 (.ref 203)] 21, #[]⟩
def aJ4:=oL [iV 1,iV 0,.ref 20,iV 5,iV 0,.ref 27,iV 7,iV 0,.ref 40,iV 9,iV 0,.ref 53,iV 11,iV 0,.ref 66,iV 16,iV 0,.ref 85,iV 21,iV 0,.ref 104,iV 26,iV 0,.ref 123,iV 31,iV 0,.ref 142,iV 33,iV 0,.ref 154,iV 38,iV 0,.ref 173,iV 43,iV 0,.ref 192]
noncomputable def aJD:Obj:=⟨(.type "type"),none,.cls ⟨"BookError",[(.type "LookupError")],[(.ref 57),(.type "LookupError"),(.type "Exception"),(.type "BaseException"),(.type "object")],56,"BookError",true,[],[(.ref 165),(.ref 184),(.ref 203)],false,none,false⟩, #[(some (.ref 48)),none,(some (.str "BookError" 234)),(some (.str "BookError" 242)),(some (.builtin "LookupError.__new__")),(some (.bool true))]⟩
def wR (P:Params):=oDn [kM P 400,kQ P 402 "NoName",kL P 404 38,kI P 412 181,kT P 414 182] 5
def NV:=oL [iV 40,iV 4,.ref 180]
def NX:=zOf "NoName" 395 38 0 0 171 172 0 0 0 398
def NL:=oR 173 170 zS0
def MI:=oT [.str "self" 408,.str "name" 409]
def MX:=oN "__init__" "NoName.__init__" (aB (top 11) 0)
def NO:=zXt "__init__" "NoName.__init__" 405 40 2 3 175 176 177 178 179 410
def KN:=oF "__init__" "NoName.__init__" (aB (top 11) 0) .none zS0 180
def JY:=oT [.str "name" 413]
def MG:=oS 184
def KY:=oB "object.__init_subclass__" (.ref 184)
def wB (P:Params):=oDn [kM P 425,kQ P 427 "NameStands",kL P 429 43,kI P 437 200,kT P 439 201] 5
def NC:=oL [iV 45,iV 4,.ref 199]
def MK:=zOf "NameStands" 420 43 0 0 190 191 0 0 0 423
def KR:=oR 192 189 zS0
def LH:=oT [.str "self" 433,.str "name" 434]
def KK:=oN "__init__" "NameStands.__init__" (aB (top 12) 0)
def JM:=zXt "__init__" "NameStands.__init__" 430 45 2 3 194 195 196 197 198 435
def MZ:=oF "__init__" "NameStands.__init__" (aB (top 12) 0) .none zS0 199
def MT:=oT [.str "name" 438]
def JV:=oS 203
def KI:=oB "object.__init_subclass__" (.ref 203)
noncomputable def aGG (P:Params):Obj:=⟨(.type "dict"),none,.dict #[kE P "__name__" 165 zS4,kD P 166,kE P "__package__" 167 .none,kE P "__loader__" 168 (.builtin "__main__.__loader__#opaque"),kE P "__spec__" 169 .none,kE P "__annotations__" 170 (.ref 6),kE P "__builtins__" 171 (.ref 4),kE P "__file__" 173 (.str "/claim/cut.py" 172),kE P "__cached__" 174 .none,kE P "_wall" 193 (.ref 21),kE P "ShadeError" 213 (.ref 31),kE P "MixError" 233 (.ref 44),kE P "BookError" 251 (.ref 57),kE P "NoNumber" 276 (.ref 77),kE P "NoShade" 301 (.ref 96),kE P "NoEye" 326 (.ref 115),kE P "NoWeight" 351 (.ref 134),kE P "EmptyMix" 367 (.ref 146),kE P "NoWord" 392 (.ref 165),kE P "NoName" 417 (.ref 184),kE P "NameStands" 442 (.ref 203),kE P "BookFull" 467 (.ref 222),kE P "ZERO" 472 (.ref 225),kE P "PIECE_FIGURES" 474 (.int 64 473),kE P "PIECE" 478 (.int 10000000000000000000000000000000000000000000000000000000000000000 477),kE P "is_whole" 485 (.ref 232),kE P "common" 493 (.ref 239),kE P "is_fraction" 502 (.ref 246),kE P "lowest" 511 (.ref 253),kE P "need_fractions" 520 (.ref 260),kE P "plus" 528 (.ref 267),kE P "times" 536 (.ref 274),kE P "over" 544 (.ref 281),kE P "figures" 553 (.ref 288),kE P "written" 560 (.ref 295)] 35, #[]⟩
def aIX:=oL [iV 1,iV 0,.ref 20,iV 5,iV 0,.ref 27,iV 7,iV 0,.ref 40,iV 9,iV 0,.ref 53,iV 11,iV 0,.ref 66,iV 16,iV 0,.ref 85,iV 21,iV 0,.ref 104,iV 26,iV 0,.ref 123,iV 31,iV 0,.ref 142,iV 33,iV 0,.ref 154,iV 38,iV 0,.ref 173,iV 43,iV 0,.ref 192,iV 48,iV 0,.ref 211,iV 57,iV 0,.ref 231,iV 59,iV 0,.ref 238,iV 63,iV 0,.ref 245,iV 68,iV 0,.ref 252,iV 73,iV 0,.ref 259,iV 77,iV 0,.ref 266,iV 80,iV 0,.ref 273,iV 83,iV 0,.ref 280,iV 88,iV 0,.ref 287,iV 95,iV 0,.ref 294]
def CZ (P:Params):=oDn [kM P 450,kQ P 452 "BookFull",kL P 454 48,kI P 462 219,kT P 464 220] 5
def QL:=oL [iV 50,iV 4,.ref 218]
def OX:=zOf "BookFull" 445 48 0 0 209 210 0 0 0 448
def RX:=oR 211 208 zS0
def VX:=oT [.str "self" 458,.str "many" 459]
def UB:=oN "__init__" "BookFull.__init__" (aB (top 13) 0)
def QP:=zXt "__init__" "BookFull.__init__" 455 50 2 3 213 214 215 216 217 460
def SS:=oF "__init__" "BookFull.__init__" (aB (top 13) 0) .none zS0 218
def SJ:=oT [.str "many" 463]
def RB:=oS 222
def OY:=oB "object.__init_subclass__" (.ref 222)
def OZ:=oT [.str "thing" 482]
def QE:=oN "is_whole" "is_whole" dJ
def VU:=oT [.str "one" 489,.str "other" 490]
def RM:=oN "common" "common" fM
def TB:=oT [.str "thing" 497,.str "top" 498,.str "bottom" 499]
def UQ:=oN "is_fraction" "is_fraction" bV
def VA:=oT [.str "top" 506,.str "bottom" 507,.str "shared" 508]
def SZ:=oN "lowest" "lowest" (top 21)
def QK:=zOt "lowest" 503 68 2 3 247 248 249 250 251 509
def QN:=oF "lowest" "lowest" (top 21) .none zS4 252
def UG:=oT [.str "things" 515,.str "place" 516,.str "thing" 517]
def TV:=oN "need_fractions" "need_fractions" (top 22)
def UV:=zOt "need_fractions" 512 73 1 3 254 255 256 257 258 518
def QX:=oF "need_fractions" "need_fractions" (top 22) .none zS4 259
def SF:=oT [.str "one" 524,.str "other" 525]
def ST:=oN "plus" "plus" (top 23)
def OW:=zOt "plus" 521 77 2 3 261 262 263 264 265 526
def RI:=oF "plus" "plus" (top 23) .none zS4 266
def WD:=oT [.str "one" 532,.str "other" 533]
def OP:=oN "times" "times" (top 24)
def VL:=zOt "times" 529 80 2 3 268 269 270 271 272 534
def QO:=oF "times" "times" (top 24) .none zS4 273
def OH:=oT [.str "one" 540,.str "other" 541]
def OQ:=oN "over" "over" (top 25)
def PP:=zOt "over" 537 83 2 3 275 276 277 278 279 542
def UM:=oF "over" "over" (top 25) .none zS4 280
def VW:=oT [.str "number" 548,.str "pieces" 549,.str "piece" 550]
def RU:=oN "figures" "figures" eN
def SB:=oT [.str "one" 557]
def TR:=oN "written" "written" eT
noncomputable def aFY (P:Params):Obj:=⟨(.type "dict"),none,.dict #[kE P "__name__" 165 zS5,kD P 166,kE P "__package__" 167 .none,kE P "__loader__" 168 (.builtin "__main__.__loader__#opaque"),kE P "__spec__" 169 .none,kE P "__annotations__" 170 (.ref 6),kE P "__builtins__" 171 (.ref 4),kE P "__file__" 173 (.str "/claim/cut.py" 172),kE P "__cached__" 174 .none,kE P "_wall" 193 (.ref 21),kE P "ShadeError" 213 (.ref 31),kE P "MixError" 233 (.ref 44),kE P "BookError" 251 (.ref 57),kE P "NoNumber" 276 (.ref 77),kE P "NoShade" 301 (.ref 96),kE P "NoEye" 326 (.ref 115),kE P "NoWeight" 351 (.ref 134),kE P "EmptyMix" 367 (.ref 146),kE P "NoWord" 392 (.ref 165),kE P "NoName" 417 (.ref 184),kE P "NameStands" 442 (.ref 203),kE P "BookFull" 467 (.ref 222),kE P "ZERO" 472 (.ref 225),kE P "PIECE_FIGURES" 474 (.int 64 473),kE P "PIECE" 478 (.int 10000000000000000000000000000000000000000000000000000000000000000 477),kE P "is_whole" 485 (.ref 232),kE P "common" 493 (.ref 239),kE P "is_fraction" 502 (.ref 246),kE P "lowest" 511 (.ref 253),kE P "need_fractions" 520 (.ref 260),kE P "plus" 528 (.ref 267),kE P "times" 536 (.ref 274),kE P "over" 544 (.ref 281),kE P "figures" 553 (.ref 288),kE P "written" 560 (.ref 295),kE P "is_share" 569 (.ref 302),kE P "Shade" 632 (.ref 343),kE P "is_shade" 639 (.ref 354),kE P "need_shade" 646 (.ref 361),kE P "shares_of" 653 (.ref 368),kE P "shade_of" 663 (.ref 375),kE P "MOST_WEIGHT" 667 (.int 1000000 666),kE P "is_weight" 675 (.ref 382),kE P "added" 683 (.ref 387)] 44, #[]⟩
def aKw:=oL [iV 1,iV 0,.ref 20,iV 5,iV 0,.ref 27,iV 7,iV 0,.ref 40,iV 9,iV 0,.ref 53,iV 11,iV 0,.ref 66,iV 16,iV 0,.ref 85,iV 21,iV 0,.ref 104,iV 26,iV 0,.ref 123,iV 31,iV 0,.ref 142,iV 33,iV 0,.ref 154,iV 38,iV 0,.ref 173,iV 43,iV 0,.ref 192,iV 48,iV 0,.ref 211,iV 57,iV 0,.ref 231,iV 59,iV 0,.ref 238,iV 63,iV 0,.ref 245,iV 68,iV 0,.ref 252,iV 73,iV 0,.ref 259,iV 77,iV 0,.ref 266,iV 80,iV 0,.ref 273,iV 83,iV 0,.ref 280,iV 88,iV 0,.ref 287,iV 95,iV 0,.ref 294,iV 100,iV 0,.ref 301,iV 102,iV 0,.ref 308,iV 123,iV 0,.ref 353,iV 125,iV 0,.ref 360,iV 128,iV 0,.ref 367,iV 131,iV 0,.ref 374,iV 136,iV 0,.ref 381,iV 139,iV 0,.ref 386]
def XS:=oT [.str "thing" 566]
def WL:=oN "is_share" "is_share" dN
def HG (P:Params):=oDn [kE P "__module__" 577 zS3,kQ P 579 "Shade",kL P 581 102,kI P 593 316,kE P "__eq__" 601 (.ref 323),kE P "__len__" 607 (.ref 328),kE P "__str__" 613 (.ref 333),kE P "__repr__" 620 (.ref 340),kT P 624 341] 9
def aAO:=oL [iV 104,iV 4,.ref 315,iV 112,iV 4,.ref 322,iV 115,iV 4,.ref 327,iV 118,iV 4,.ref 332,iV 121,iV 4,.ref 339]
def WM:=zOf "Shade" 572 102 0 0 306 307 0 0 0 575
def XO:=oR 308 305 zS3
def WV:=oT [.str "self" 585,.str "ember" 586,.str "leaf" 587,.str "sky" 588,.str "light" 589,.str "share" 590]
def aAq:=oN "__init__" "Shade.__init__" aZ
def YB:=oT [.str "self" 597,.str "other" 598]
def aAt:=oN "__eq__" "Shade.__eq__" bL
def aAg:=oN "__len__" "Shade.__len__" bG
def ZY:=oN "__str__" "Shade.__str__" bF
def aAk:=oT [.str "self" 617]
def ZU:=oN "__repr__" "Shade.__repr__" aX
def ZD:=oT [.str "ember" 621,.str "leaf" 622,.str "sky" 623]
noncomputable def WS:Obj:=⟨(.type "getset_descriptor"),none,.fields #[(.str "__dict__" 625),(.ref 343),(.builtin "function.__dict__"),(.builtin "function.__dict__#set")], #[]⟩
noncomputable def WU:Obj:=⟨(.type "getset_descriptor"),none,.fields #[(.str "__weakref__" 627),(.ref 343),(.builtin "ExceptionGroup.__weakref__"),.none], #[]⟩
def XR:=oS 343
def XW:=oB "object.__init_subclass__" (.ref 343)
def XT:=oT [.str "thing" 636]
def YV:=oN "is_shade" "is_shade" dL
def WH:=oT [.str "thing" 643]
def WN:=oN "need_shade" "need_shade" cQ
def WT:=oT [.str "shade" 650]
def XQ:=oN "shares_of" "shares_of" dC
def aAd:=oT [.str "shares" 657,.str "ember" 658,.str "leaf" 659,.str "sky" 660]
def aAD:=oN "shade_of" "shade_of" (top 34)
def ZT:=zOt "shade_of" 654 131 1 3 369 370 371 372 373 661
def YX:=oF "shade_of" "shade_of" (top 34) .none zS3 374
def aAC:=oT [.str "thing" 671,.str "least" 672]
def aAA:=oN "is_weight" "is_weight" (top 37)
def ZC:=zOt "is_weight" 668 136 2 3 376 377 378 379 380 673
def XA:=oF "is_weight" "is_weight" (top 37) .none (.str "lightshares.mixing" 664) 381
def aAI:=oN "added" "added" (top 39)
def aAe:=zOt "added" 678 139 2 3 383 384 0 0 385 681
def WO:=oF "added" "added" (top 39) .none zS5 386
noncomputable def aGm (P:Params):Obj:=⟨(.type "dict"),none,.dict #[kE P "__name__" 165 zS2,kD P 166,kE P "__package__" 167 .none,kE P "__loader__" 168 (.builtin "__main__.__loader__#opaque"),kE P "__spec__" 169 .none,kE P "__annotations__" 170 (.ref 6),kE P "__builtins__" 171 (.ref 4),kE P "__file__" 173 (.str "/claim/cut.py" 172),kE P "__cached__" 174 .none,kE P "_wall" 193 (.ref 21),kE P "ShadeError" 213 (.ref 31),kE P "MixError" 233 (.ref 44),kE P "BookError" 251 (.ref 57),kE P "NoNumber" 276 (.ref 77),kE P "NoShade" 301 (.ref 96),kE P "NoEye" 326 (.ref 115),kE P "NoWeight" 351 (.ref 134),kE P "EmptyMix" 367 (.ref 146),kE P "NoWord" 392 (.ref 165),kE P "NoName" 417 (.ref 184),kE P "NameStands" 442 (.ref 203),kE P "BookFull" 467 (.ref 222),kE P "ZERO" 472 (.ref 225),kE P "PIECE_FIGURES" 474 (.int 64 473),kE P "PIECE" 478 (.int 10000000000000000000000000000000000000000000000000000000000000000 477),kE P "is_whole" 485 (.ref 232),kE P "common" 493 (.ref 239),kE P "is_fraction" 502 (.ref 246),kE P "lowest" 511 (.ref 253),kE P "need_fractions" 520 (.ref 260),kE P "plus" 528 (.ref 267),kE P "times" 536 (.ref 274),kE P "over" 544 (.ref 281),kE P "figures" 553 (.ref 288),kE P "written" 560 (.ref 295),kE P "is_share" 569 (.ref 302),kE P "Shade" 632 (.ref 343),kE P "is_shade" 639 (.ref 354),kE P "need_shade" 646 (.ref 361),kE P "shares_of" 653 (.ref 368),kE P "shade_of" 663 (.ref 375),kE P "MOST_WEIGHT" 667 (.int 1000000 666),kE P "is_weight" 675 (.ref 382),kE P "added" 683 (.ref 387),kE P "Blend" 771 (.ref 457),kE P "EVEN_EYE" 777 (.ref 462),kE P "MOST_OF_EYE" 779 (.int 99 778),kE P "is_eye" 785 (.ref 467),kE P "eye_of" 792 (.ref 474),kE P "MOST_NAMES" 796 (.int 24 795),kE P "MOST_LETTERS" 798 (.int 12 797),kE P "is_name" 804 (.ref 479),kE P "need_word" 811 (.ref 486)] 53, #[]⟩
def aI3:=oL [iV 1,iV 0,.ref 20,iV 5,iV 0,.ref 27,iV 7,iV 0,.ref 40,iV 9,iV 0,.ref 53,iV 11,iV 0,.ref 66,iV 16,iV 0,.ref 85,iV 21,iV 0,.ref 104,iV 26,iV 0,.ref 123,iV 31,iV 0,.ref 142,iV 33,iV 0,.ref 154,iV 38,iV 0,.ref 173,iV 43,iV 0,.ref 192,iV 48,iV 0,.ref 211,iV 57,iV 0,.ref 231,iV 59,iV 0,.ref 238,iV 63,iV 0,.ref 245,iV 68,iV 0,.ref 252,iV 73,iV 0,.ref 259,iV 77,iV 0,.ref 266,iV 80,iV 0,.ref 273,iV 83,iV 0,.ref 280,iV 88,iV 0,.ref 287,iV 95,iV 0,.ref 294,iV 100,iV 0,.ref 301,iV 102,iV 0,.ref 308,iV 123,iV 0,.ref 353,iV 125,iV 0,.ref 360,iV 128,iV 0,.ref 367,iV 131,iV 0,.ref 374,iV 136,iV 0,.ref 381,iV 139,iV 0,.ref 386,iV 141,iV 0,.ref 393,iV 184,iV 0,.ref 466,iV 188,iV 0,.ref 473,iV 197,iV 0,.ref 478,iV 201,iV 0,.ref 485]
def QS (P:Params):=oDn [kE P "__module__" 691 zS5,kQ P 693 "Blend",kL P 695 141,kI P 702 401,kE P "put" 709 (.ref 407),kE P "joined" 717 (.ref 414),kE P "total" 724 (.ref 421),kE P "shade" 730 (.ref 426),kE P "__eq__" 738 (.ref 433),kE P "__len__" 745 (.ref 440),kE P "__str__" 752 (.ref 447),kE P "__repr__" 759 (.ref 454),kT P 763 455] 13
def aEx:=oL [iV 143,iV 4,.ref 400,iV 148,iV 4,.ref 406,iV 157,iV 4,.ref 413,iV 160,iV 4,.ref 420,iV 163,iV 4,.ref 425,iV 168,iV 4,.ref 432,iV 171,iV 4,.ref 439,iV 174,iV 4,.ref 446,iV 179,iV 4,.ref 453]
def aED:=zOf "Blend" 686 141 0 0 391 392 0 0 0 689
def aE9:=oR 393 390 zS5
def aDh:=oT [.str "self" 699]
def aC3:=oN "__init__" "Blend.__init__" bA
def aDH:=oT [.int 1 703]
def aCp:=oN "put" "Blend.put" (aB (top 40) 1)
def aCa:=zXt "put" "Blend.put" 704 148 3 3 403 404 0 0 405 707
def aEh:=oF "put" "Blend.put" (aB (top 40) 1) (.ref 402) zS5 406
def aEK:=oT [.str "self" 713,.str "other" 714]
def aCM:=oN "joined" "Blend.joined" (aB (top 40) 2)
def aET:=zXt "joined" "Blend.joined" 710 157 2 3 408 409 410 411 412 715
def aCx:=oF "joined" "Blend.joined" (aB (top 40) 2) .none zS5 413
def aER:=oT [.str "self" 721]
def aBL:=oN "total" "Blend.total" (aB (top 40) 3)
def aCo:=zXt "total" "Blend.total" 718 160 1 3 415 416 417 418 419 722
def aDG:=oF "total" "Blend.total" (aB (top 40) 3) .none zS5 420
def aEM:=oN "shade" "Blend.shade" (aB (top 40) 4)
def aDM:=zXt "shade" "Blend.shade" 725 163 1 3 422 423 0 0 424 728
def aDQ:=oF "shade" "Blend.shade" (aB (top 40) 4) .none zS5 425
def aCb:=oT [.str "self" 734,.str "other" 735]
def aDT:=oN "__eq__" "Blend.__eq__" bN
def aCB:=oT [.str "self" 742]
def aD9:=oN "__len__" "Blend.__len__" (aB (top 40) 6)
def aEi:=zXt "__len__" "Blend.__len__" 739 171 1 3 434 435 436 437 438 743
def aEZ:=oF "__len__" "Blend.__len__" (aB (top 40) 6) .none zS5 439
def aCU:=oT [.str "self" 749]
def aCP:=oN "__str__" "Blend.__str__" (aB (top 40) 7)
def aEC:=zXt "__str__" "Blend.__str__" 746 174 1 3 441 442 443 444 445 750
def aDX:=oF "__str__" "Blend.__str__" (aB (top 40) 7) .none zS5 446
def aBO:=oT [.str "self" 756]
def aCF:=oN "__repr__" "Blend.__repr__" (aB (top 40) 8)
def aCQ:=zXt "__repr__" "Blend.__repr__" 753 179 1 3 448 449 450 451 452 757
def aCI:=oF "__repr__" "Blend.__repr__" (aB (top 40) 8) .none zS5 453
def aBN:=oT [.str "many" 760,.str "sums" 761,.str "weight" 762]
noncomputable def aB1:Obj:=⟨(.type "getset_descriptor"),none,.fields #[(.str "__dict__" 764),(.ref 457),(.builtin "function.__dict__"),(.builtin "function.__dict__#set")], #[]⟩
noncomputable def aCq:Obj:=⟨(.type "getset_descriptor"),none,.fields #[(.str "__weakref__" 766),(.ref 457),(.builtin "ExceptionGroup.__weakref__"),.none], #[]⟩
def aCs:=oS 457
def aEy:=oB "object.__init_subclass__" (.ref 457)
def aC7:=oN "is_eye" "is_eye" gB
def aC6:=oT [.str "eye" 789]
def aDJ:=oN "eye_of" "eye_of" fV
def aDn:=oN "is_name" "is_name" (top 49)
def aE3:=zOt "is_name" 799 197 1 3 475 476 0 0 477 802
def aCn:=oF "is_name" "is_name" (top 49) .none zS2 478
def aBY:=oT [.str "thing" 808]
def aEW:=oN "need_word" "need_word" (top 50)
def aDe:=zOt "need_word" 805 201 1 3 480 481 482 483 484 809
def aCE:=oF "need_word" "need_word" (top 50) .none zS2 485
noncomputable def aH5 (P:Params):Obj:=⟨(.type "dict"),none,.dict #[kE P "__name__" 165 zS2,kD P 166,kE P "__package__" 167 .none,kE P "__loader__" 168 (.builtin "__main__.__loader__#opaque"),kE P "__spec__" 169 .none,kE P "__annotations__" 170 (.ref 6),kE P "__builtins__" 171 (.ref 4),kE P "__file__" 173 (.str "/claim/cut.py" 172),kE P "__cached__" 174 .none,kE P "_wall" 193 (.ref 21),kE P "ShadeError" 213 (.ref 31),kE P "MixError" 233 (.ref 44),kE P "BookError" 251 (.ref 57),kE P "NoNumber" 276 (.ref 77),kE P "NoShade" 301 (.ref 96),kE P "NoEye" 326 (.ref 115),kE P "NoWeight" 351 (.ref 134),kE P "EmptyMix" 367 (.ref 146),kE P "NoWord" 392 (.ref 165),kE P "NoName" 417 (.ref 184),kE P "NameStands" 442 (.ref 203),kE P "BookFull" 467 (.ref 222),kE P "ZERO" 472 (.ref 225),kE P "PIECE_FIGURES" 474 (.int 64 473),kE P "PIECE" 478 (.int 10000000000000000000000000000000000000000000000000000000000000000 477),kE P "is_whole" 485 (.ref 232),kE P "common" 493 (.ref 239),kE P "is_fraction" 502 (.ref 246),kE P "lowest" 511 (.ref 253),kE P "need_fractions" 520 (.ref 260),kE P "plus" 528 (.ref 267),kE P "times" 536 (.ref 274),kE P "over" 544 (.ref 281),kE P "figures" 553 (.ref 288),kE P "written" 560 (.ref 295),kE P "is_share" 569 (.ref 302),kE P "Shade" 632 (.ref 343),kE P "is_shade" 639 (.ref 354),kE P "need_shade" 646 (.ref 361),kE P "shares_of" 653 (.ref 368),kE P "shade_of" 663 (.ref 375),kE P "MOST_WEIGHT" 667 (.int 1000000 666),kE P "is_weight" 675 (.ref 382),kE P "added" 683 (.ref 387),kE P "Blend" 771 (.ref 457),kE P "EVEN_EYE" 777 (.ref 462),kE P "MOST_OF_EYE" 779 (.int 99 778),kE P "is_eye" 785 (.ref 467),kE P "eye_of" 792 (.ref 474),kE P "MOST_NAMES" 796 (.int 24 795),kE P "MOST_LETTERS" 798 (.int 12 797),kE P "is_name" 804 (.ref 479),kE P "need_word" 811 (.ref 486),kE P "Book" 982 (.ref 622)] 54, #[]⟩
def aKk:=oL [iV 1,iV 0,.ref 20,iV 5,iV 0,.ref 27,iV 7,iV 0,.ref 40,iV 9,iV 0,.ref 53,iV 11,iV 0,.ref 66,iV 16,iV 0,.ref 85,iV 21,iV 0,.ref 104,iV 26,iV 0,.ref 123,iV 31,iV 0,.ref 142,iV 33,iV 0,.ref 154,iV 38,iV 0,.ref 173,iV 43,iV 0,.ref 192,iV 48,iV 0,.ref 211,iV 57,iV 0,.ref 231,iV 59,iV 0,.ref 238,iV 63,iV 0,.ref 245,iV 68,iV 0,.ref 252,iV 73,iV 0,.ref 259,iV 77,iV 0,.ref 266,iV 80,iV 0,.ref 273,iV 83,iV 0,.ref 280,iV 88,iV 0,.ref 287,iV 95,iV 0,.ref 294,iV 100,iV 0,.ref 301,iV 102,iV 0,.ref 308,iV 123,iV 0,.ref 353,iV 125,iV 0,.ref 360,iV 128,iV 0,.ref 367,iV 131,iV 0,.ref 374,iV 136,iV 0,.ref 381,iV 139,iV 0,.ref 386,iV 141,iV 0,.ref 393,iV 184,iV 0,.ref 466,iV 188,iV 0,.ref 473,iV 197,iV 0,.ref 478,iV 201,iV 0,.ref 485,iV 204,iV 0,.ref 492]
def aBA (P:Params):=oDn [kE P "__module__" 819 zS2,kQ P 821 "Book",kL P 823 204,kI P 831 501,kE P "turn_to" 839 (.ref 508),kE P "need_name" 847 (.ref 515),kE P "need_free" 855 (.ref 522),kE P "put" 865 (.ref 529),kE P "alter" 874 (.ref 536),kE P "rename" 883 (.ref 543),kE P "drop" 891 (.ref 550),kE P "back" 898 (.ref 557),kE P "shade" 906 (.ref 564),kE P "names" 918 (.ref 572),kE P "those" 924 (.ref 577),kE P "apart" 933 (.ref 584),kE P "called" 941 (.ref 591),kE P "__eq__" 949 (.ref 598),kE P "__len__" 956 (.ref 605),kE P "__str__" 963 (.ref 612),kE P "__repr__" 970 (.ref 619),kT P 974 620] 22
def aFt:=oL [iV 206,iV 4,.ref 500,iV 211,iV 4,.ref 507,iV 215,iV 4,.ref 514,iV 219,iV 4,.ref 521,iV 223,iV 4,.ref 528,iV 233,iV 4,.ref 535,iV 236,iV 4,.ref 542,iV 239,iV 4,.ref 549,iV 242,iV 4,.ref 556,iV 245,iV 4,.ref 563,iV 249,iV 4,.ref 571,iV 257,iV 4,.ref 576,iV 260,iV 4,.ref 583,iV 263,iV 4,.ref 590,iV 266,iV 4,.ref 597,iV 269,iV 4,.ref 604,iV 272,iV 4,.ref 611,iV 275,iV 4,.ref 618]
def aFy:=zOf "Book" 814 204 0 0 490 491 0 0 0 817
def aHI:=oR 492 489 zS2
def aG2:=oT [.str "self" 827,.str "eye" 828]
def aGP:=oN "__init__" "Book.__init__" bH
def aFu:=oT [.str "self" 835,.str "pages" 836]
def aIO:=oN "turn_to" "Book.turn_to" (aB (top 51) 1)
def aF5:=zXt "turn_to" "Book.turn_to" 832 211 2 3 502 503 504 505 506 837
def aHM:=oF "turn_to" "Book.turn_to" (aB (top 51) 1) .none zS2 507
def aHs:=oT [.str "self" 843,.str "name" 844]
def aGr:=oN "need_name" "Book.need_name" (aB (top 51) 2)
def aF6:=zXt "need_name" "Book.need_name" 840 215 2 3 509 510 511 512 513 845
def aGJ:=oF "need_name" "Book.need_name" (aB (top 51) 2) .none zS2 514
def aH7:=oT [.str "self" 851,.str "name" 852]
def aIl:=oN "need_free" "Book.need_free" (aB (top 51) 3)
def aHp:=zXt "need_free" "Book.need_free" 848 219 2 3 516 517 518 519 520 853
def aGC:=oF "need_free" "Book.need_free" (aB (top 51) 3) .none zS2 521
def aFT:=oT [.str "self" 859,.str "name" 860,.str "shade" 861,.str "pages" 862]
def aHm:=oN "put" "Book.put" (aB (top 51) 4)
def aGY:=zXt "put" "Book.put" 856 223 3 3 523 524 525 526 527 863
def aGX:=oF "put" "Book.put" (aB (top 51) 4) .none zS2 528
def aIE:=oT [.str "self" 869,.str "name" 870,.str "deed" 871]
def aIo:=oN "alter" "Book.alter" (aB (top 51) 5)
def aIN:=zXt "alter" "Book.alter" 866 233 3 3 530 531 532 533 534 872
def aHj:=oF "alter" "Book.alter" (aB (top 51) 5) .none zS2 535
def aGU:=oT [.str "self" 878,.str "name" 879,.str "new" 880]
def aFN:=oN "rename" "Book.rename" (aB (top 51) 6)
def aHd:=zXt "rename" "Book.rename" 875 236 3 3 537 538 539 540 541 881
def aHr:=oF "rename" "Book.rename" (aB (top 51) 6) .none zS2 542
def aIs:=oT [.str "self" 887,.str "name" 888]
def aG9:=oN "drop" "Book.drop" (aB (top 51) 7)
def aF7:=zXt "drop" "Book.drop" 884 239 2 3 544 545 546 547 548 889
def aHY:=oF "drop" "Book.drop" (aB (top 51) 7) .none zS2 549
def aIP:=oT [.str "self" 895]
def aIJ:=oN "back" "Book.back" (aB (top 51) 8)
def aFO:=zXt "back" "Book.back" 892 242 1 3 551 552 553 554 555 896
def aHR:=oF "back" "Book.back" (aB (top 51) 8) .none zS2 556
def aIe:=oT [.str "self" 902,.str "name" 903]
def aFG:=oN "shade" "Book.shade" (aB (top 51) 9)
def aIr:=zXt "shade" "Book.shade" 899 245 2 3 558 559 560 561 562 904
def aHi:=oF "shade" "Book.shade" (aB (top 51) 9) .none zS2 563
def aGv:=oT [.none,.bool false]
def aIf:=oT [.str "self" 910,.str "key" 911,.str "about" 912,.str "told" 913]
def aGn:=oT [.str "self" 914,.str "key" 915]
def aG5:=oN "names" "Book.names" (aB (top 51) 10)
def aHz:=zXt "names" "Book.names" 907 249 3 3 566 567 568 569 570 916
def aFQ:=oF "names" "Book.names" (aB (top 51) 10) (.ref 565) zS2 571
def aFU:=oN "those" "Book.those" (aB (top 51) 11)
def aHt:=zXt "those" "Book.those" 919 257 2 3 573 574 0 0 575 922
def aGD:=oF "those" "Book.those" (aB (top 51) 11) .none zS2 576
def aFj:=oT [.str "self" 928,.str "name" 929,.str "other" 930]
def aFq:=oN "apart" "Book.apart" (aB (top 51) 12)
def aHy:=zXt "apart" "Book.apart" 925 260 3 3 578 579 580 581 582 931
def aFV:=oF "apart" "Book.apart" (aB (top 51) 12) .none zS2 583
def aFR:=oT [.str "self" 937,.str "shade" 938]
def aGe:=oN "called" "Book.called" (aB (top 51) 13)
def aHK:=zXt "called" "Book.called" 934 263 2 3 585 586 587 588 589 939
def aH1:=oF "called" "Book.called" (aB (top 51) 13) .none zS2 590
def aGQ:=oT [.str "self" 945,.str "other" 946]
def aFS:=oN "__eq__" "Book.__eq__" bU
def aIn:=oT [.str "self" 953]
def aGV:=oN "__len__" "Book.__len__" (aB (top 51) 15)
def aFn:=zXt "__len__" "Book.__len__" 950 269 1 3 599 600 601 602 603 954
def aGg:=oF "__len__" "Book.__len__" (aB (top 51) 15) .none zS2 604
def aF0:=oT [.str "self" 960]
def aGO:=oN "__str__" "Book.__str__" (aB (top 51) 16)
def aHw:=zXt "__str__" "Book.__str__" 957 272 1 3 606 607 608 609 610 961
def aFF:=oF "__str__" "Book.__str__" (aB (top 51) 16) .none zS2 611
def aFW:=oT [.str "self" 967]
def aGK:=oN "__repr__" "Book.__repr__" (aB (top 51) 17)
def aGI:=zXt "__repr__" "Book.__repr__" 964 275 1 3 613 614 615 616 617 968
def aFP:=oF "__repr__" "Book.__repr__" (aB (top 51) 17) .none zS2 618
def aF3:=oT [.str "eye" 971,.str "pages" 972,.str "past" 973]
noncomputable def aIh:Obj:=⟨(.type "getset_descriptor"),none,.fields #[(.str "__dict__" 975),(.ref 622),(.builtin "function.__dict__"),(.builtin "function.__dict__#set")], #[]⟩
noncomputable def aFv:Obj:=⟨(.type "getset_descriptor"),none,.fields #[(.str "__weakref__" 977),(.ref 622),(.builtin "ExceptionGroup.__weakref__"),.none], #[]⟩
def aGq:=oS 622
def aGE:=oB "object.__init_subclass__" (.ref 622)
def aI7:=oL [iV 1,iV 0,.ref 20,iV 5,iV 0,.ref 27,iV 7,iV 0,.ref 40,iV 9,iV 0,.ref 53,iV 11,iV 0,.ref 66,iV 16,iV 0,.ref 85,iV 21,iV 0,.ref 104,iV 26,iV 0,.ref 123,iV 31,iV 0,.ref 142,iV 33,iV 0,.ref 154,iV 38,iV 0,.ref 173,iV 43,iV 0,.ref 192,iV 48,iV 0,.ref 211,iV 57,iV 0,.ref 231,iV 59,iV 0,.ref 238,iV 63,iV 0,.ref 245,iV 68,iV 0,.ref 252,iV 73,iV 0,.ref 259,iV 77,iV 0,.ref 266,iV 80,iV 0,.ref 273,iV 83,iV 0,.ref 280,iV 88,iV 0,.ref 287,iV 95,iV 0,.ref 294,iV 100,iV 0,.ref 301,iV 102,iV 0,.ref 308,iV 123,iV 0,.ref 353,iV 125,iV 0,.ref 360,iV 128,iV 0,.ref 367,iV 131,iV 0,.ref 374,iV 136,iV 0,.ref 381,iV 139,iV 0,.ref 386,iV 141,iV 0,.ref 393,iV 184,iV 0,.ref 466,iV 188,iV 0,.ref 473,iV 197,iV 0,.ref 478,iV 201,iV 0,.ref 485,iV 204,iV 0,.ref 492,iV 277,iV 0,.ref 630,iV 281,iV 0,.ref 637,iV 288,iV 0,.ref 644,iV 290,iV 0,.ref 651,iV 299,iV 0,.ref 658,iV 306,iV 0,.ref 665,iV 310,iV 0,.ref 670,iV 319,iV 0,.ref 677,iV 326,iV 0,.ref 684,iV 338,iV 0,.ref 691,iV 341,iV 0,.ref 698,iV 343,iV 0,.ref 703,iV 350,iV 0,.ref 710,iV 360,iV 0,.ref 717]
def aI9:=oN "text_rows" "text_rows" (top 52)
def aJG:=zOt "text_rows" 983 277 1 3 627 628 0 0 629 986
def aJ6:=oF "text_rows" "text_rows" (top 52) .none zS2 630
def aKc:=oT [.str "_law_script" 994,.str "_law_k" 995,.str "_law_state" 996,.str "_law_cell_here" 997]
def aJX:=oN "_law_cell" "_law_cell" gD
def aKs:=oT [.str "_law_cell_here" 1004]
def aJE:=oN "_law_purse" "_law_purse" eS
def aJa:=oT [.str "_law_purse_here" 1011,.str "_law_many" 1012,.str "_law_state" 1013,.str "_law_taken" 1014]
def aKv:=oN "_law_pick" "_law_pick" fN
def aI0:=oT [.str "_law_top" 1021,.str "_law_bottom" 1022,.str "_law_one" 1023,.str "_law_other" 1024]
def aJB:=oN "_law_low" "_law_low" iD
def aJH:=oT [.str "_law_purse_here" 1031,.str "_law_way" 1032,.str "_law_bottom" 1033]
def aJN:=oN "_law_share" "_law_share" eJ
def aJA:=oN "_law_shares" "_law_shares" dO
def aI8:=oT [.str "_law_purse_here" 1046,.str "_law_row" 1047,.str "_law_way" 1048]
def aJe:=oN "_law_made" "_law_made" fR
def aI5:=oT [.str "_law_purse_here" 1055,.str "_law_row" 1056,.str "_law_way" 1057,.str "_law_at" 1058]
def aKm:=oN "_law_other_row" "_law_other_row" bT
def aIU:=oT [.str "_law_shade" 1065,.str "_law_row" 1066,.str "_law_some" 1067]
def aJv:=oN "_law_others" "_law_others" dP
def aJZ:=oT [.str "_law_told" 1074,.str "_law_due" 1075]
def aKl:=oN "_law_is" "_law_is" lM
def aJn:=oN "_law_two_right" "_law_two_right" bW
def aJi:=oT [.str "_law_shade" 1088,.str "_law_row" 1089,.str "_law_some" 1090,.str "_law_stuff" 1091]
def aI1:=oN "_law_others_right" "_law_others_right" bB
def aJl:=oT [.str "_law_script" 1098,.str "_law_k" 1099,.str "_law_purse_here" 1100,.str "_law_row" 1101,.str "_law_other" 1102,.str "_law_shade" 1103,.str "_law_again" 1104,.str "_law_twin" 1105,.str "_law_at" 1106,.str "_law_share_here" 1107,.str "_law_third" 1108]
def aJ2:=oN "law" "law" pH
noncomputable abbrev pW:Program:=PySem.Challenge.pw_lightshares_k04_shades_alike_or_not
noncomputable abbrev bdy:List Stmt:=W.behindTheImports pW
noncomputable abbrev env0:Env:={ scope:=pW.main.scope,locals:=mainNs,globals:=mainNs,cells:=[],code:=(.ref 13),frame:=some 14 }
noncomputable abbrev cE0:Code:=.body bdy env0
noncomputable abbrev B0:List Frame:=[W.topFrame ⟨0,0,0,0⟩]
noncomputable abbrev S0 (w:World) (os:OsState):Shared:=⟨W.boot_heap w.params,Array.mk [],W.boot_drawn,W.boot_toks,os⟩
theorem aKp:∀ w:World,(W.fencedOpening treeTable pW w 11280).map (fun s=>(s.heap,s.gens,s.drawn,s.toks))=some (W.boot_heap w.params,Array.mk [],W.boot_drawn,W.boot_toks):=W.boot_open (by rfl) (by decide) (fun _=>by rfl)
theorem aJ7:∀ w:World,((W.boot_heap w.params).isNs mainGlobals && (Array.mk []:Array GenState).size == 0,(W.boot_heap w.params).objs.size,(W.boot_heap w.params).nsMap mainGlobals "__annotations__")=(true,11,(some (.ref 6))):=by
 intro w;kernel_rfl
noncomputable def Sa (w:World) (os:OsState):Shared:=aHl (W.topGo treeTable pW w 11 (some (.ref 6)) 12 (S0 w os) (W.topStub pW)) (S0 w os)
theorem aGS:∀ (w:World) (os:OsState),W.topGo treeTable pW w 11 (some (.ref 6)) 12 (S0 w os) (W.topStub pW)=some (Sa w os,⟨denote treeTable cE0,cE0,⟨0,0,0,0⟩,B0⟩):=by
 intro w os;kernel_rfl
noncomputable def Sb (w:World) (os:OsState):Shared:=aIv (W.segRun treeTable pW w 11 (some (.ref 6)) 1 1 (Sa w os) (W.blockOf bdy env0 cE0 ⟨0,0,0,0⟩ B0)) (S0 w os)
theorem aFm:∀ (w:World) (os:OsState),W.segRun treeTable pW w 11 (some (.ref 6)) 1 1 (Sa w os) (W.blockOf bdy env0 cE0 ⟨0,0,0,0⟩ B0)=some (.next,Sb w os,cE0,⟨0,0,0,0⟩):=by
 intro w os;kernel_rfl
def hm0 (P:Params):Heap:=⟨#[W.boot_o_0 P,W.boot_o_1 P,mo0 P,mo1 P,W.boot_o_4 P,W.boot_o_5 P,W.boot_o_6 P,W.boot_o_7 P,W.boot_o_8 P,W.boot_o_9 P,W.boot_o_10 P,M2,M3,M4,M5,M2,M6,M7,M2,M8,M9,M10,M11,M12,xP P,M2,M6,M14,M15,M2,vG P,M16,M17,M18,M19,M20,M12,yO P,M2,M6,M22,M23,M2,vP P,M24,M25,M26,M27,M28,M12,zN P,M2,M6,M30,M31,M2,vC P,M32,M33,M34,M35,M36,M12,yK P,M2,M38,M39,M40,M2,M6,M41,M2,M42,M43,M44,M45,uT P,vO,M46,M47],(W.boot_heap P).life⟩
noncomputable abbrev Sm0 (w:World) (os:OsState):Shared:=⟨hm0 w.params,Array.mk [],W.boot_drawn,277,os⟩
noncomputable abbrev l0:List Stmt:=bdy.take 6
noncomputable abbrev r0:List Stmt:=bdy.drop 6
theorem aJt:∀ (w:World),∀ os:OsState,W.segRun treeTable pW w 11 (some (.ref 6)) 1 852 (Sb w os) (W.piecesOf l0 env0 cE0 ⟨0,0,0,0⟩ B0)=some (.next,Sm0 w os,cE0,⟨11,0,15,26⟩):=by
 intro w os;kernel_rfl
def hm1 (P:Params):Heap:=⟨#[W.boot_o_0 P,W.boot_o_1 P,mo0 P,aJ3 P,W.boot_o_4 P,W.boot_o_5 P,W.boot_o_6 P,W.boot_o_7 P,W.boot_o_8 P,W.boot_o_9 P,W.boot_o_10 P,M2,M49,M4,M5,M2,M6,M7,M2,M8,M9,M10,M11,M12,xP P,M2,M6,M14,M15,M2,vG P,zM,M17,M18,M19,M20,M12,yO P,M2,M6,M22,M23,M2,vP P,M24,M25,M26,M27,M28,M12,zN P,M2,M6,M30,M31,M2,vC P,M32,M33,M34,M35,M36,M12,yK P,M2,M38,M39,M40,M2,M6,M41,M2,M42,M43,M44,M45,uT P,vO,M46,M47,M36,M12,AT P,M2,M51,M52,M53,M2,M6,M54,M2,M55,M56,M57,M58,xQ P,zP,M59,M60,M36,M12,BV P,M2,M62,M63,M64,M2,M6,M65,M2,M66,M67,M68,M69,nL P,lZ,M70,M71],(W.boot_heap P).life⟩
noncomputable abbrev Sm1 (w:World) (os:OsState):Shared:=⟨hm1 w.params,Array.mk [],W.boot_drawn,327,os⟩
noncomputable abbrev l1:List Stmt:=r0.take 2
noncomputable abbrev r1:List Stmt:=r0.drop 2
theorem aJs:∀ (w:World),∀ os:OsState,W.segRun treeTable pW w 11 (some (.ref 6)) 1 491 (Sm0 w os) (W.piecesOf l1 env0 cE0 ⟨11,0,15,26⟩ B0)=some (.next,Sm1 w os,cE0,⟨21,0,25,22⟩):=by
 intro w os;kernel_rfl
def hm2 (P:Params):Heap:=⟨#[W.boot_o_0 P,W.boot_o_1 P,mo0 P,aJS P,W.boot_o_4 P,W.boot_o_5 P,W.boot_o_6 P,W.boot_o_7 P,W.boot_o_8 P,W.boot_o_9 P,W.boot_o_10 P,M2,M73,M4,M5,M2,M6,M7,M2,M8,M9,M10,M11,M12,xP P,M2,M6,M14,M15,M2,vG P,zM,M17,M18,M19,M20,M12,yO P,M2,M6,M22,M23,M2,vP P,DM,M25,M26,M27,M28,M12,zN P,M2,M6,M30,M31,M2,vC P,M74,M33,M34,M35,M36,M12,yK P,M2,M38,M39,M40,M2,M6,M41,M2,M42,M43,M44,M45,uT P,vO,M46,M47,M36,M12,AT P,M2,M51,M52,M53,M2,M6,M54,M2,M55,M56,M57,M58,xQ P,zP,M59,M60,M36,M12,BV P,M2,M62,M63,M64,M2,M6,M65,M2,M66,M67,M68,M69,nL P,lZ,M70,M71,M75,M12,FH P,M2,M77,M78,M79,M2,M6,M80,M2,M81,M82,M83,M84,pP P,pU,M85,M86,M75,M12,FW P,M2,M6,M88,M89,M2,pT P,pV,M90,M91,M92,M12,FE P,M2,M94,M95,M96,M2,M6,M97,M2,M98,M99,GL,GN,pK P,pR,GG,EO],(W.boot_heap P).life⟩
noncomputable abbrev Sm2 (w:World) (os:OsState):Shared:=⟨hm2 w.params,Array.mk [],W.boot_drawn,393,os⟩
noncomputable abbrev l2:List Stmt:=r1.take 3
noncomputable abbrev r2:List Stmt:=r1.drop 3
theorem aJO:∀ (w:World),∀ os:OsState,W.segRun treeTable pW w 11 (some (.ref 6)) 1 704 (Sm1 w os) (W.piecesOf l2 env0 cE0 ⟨21,0,25,22⟩ B0)=some (.next,Sm2 w os,cE0,⟨33,0,37,24⟩):=by
 intro w os;kernel_rfl
def hm3 (P:Params):Heap:=⟨#[W.boot_o_0 P,W.boot_o_1 P,mo0 P,aGW P,W.boot_o_4 P,W.boot_o_5 P,W.boot_o_6 P,W.boot_o_7 P,W.boot_o_8 P,W.boot_o_9 P,W.boot_o_10 P,M2,aJ4,M4,M5,M2,M6,M7,M2,M8,M9,M10,M11,M12,xP P,M2,M6,M14,M15,M2,vG P,zM,M17,M18,M19,M20,M12,yO P,M2,M6,M22,M23,M2,vP P,DM,M25,M26,M27,M28,M12,zN P,M2,M6,M30,M31,M2,vC P,aJD,M33,M34,M35,M36,M12,yK P,M2,M38,M39,M40,M2,M6,M41,M2,M42,M43,M44,M45,uT P,vO,M46,M47,M36,M12,AT P,M2,M51,M52,M53,M2,M6,M54,M2,M55,M56,M57,M58,xQ P,zP,M59,M60,M36,M12,BV P,M2,M62,M63,M64,M2,M6,M65,M2,M66,M67,M68,M69,nL P,lZ,M70,M71,M75,M12,FH P,M2,M77,M78,M79,M2,M6,M80,M2,M81,M82,M83,M84,pP P,pU,M85,M86,M75,M12,FW P,M2,M6,M88,M89,M2,pT P,pV,M90,M91,M92,M12,FE P,M2,M94,M95,M96,M2,M6,M97,M2,M98,M99,GL,GN,pK P,pR,GG,EO,M92,M12,wR P,M2,NV,NX,NL,M2,M6,MI,M2,MX,NO,KN,JY,sO P,uG,MG,KY,M92,M12,wB P,M2,NC,MK,KR,M2,M6,LH,M2,KK,JM,MZ,MT,sE P,uC,JV,KI],(W.boot_heap P).life⟩
noncomputable abbrev Sm3 (w:World) (os:OsState):Shared:=⟨hm3 w.params,Array.mk [],W.boot_drawn,443,os⟩
noncomputable abbrev l3:List Stmt:=r2.take 2
noncomputable abbrev r3:List Stmt:=r2.drop 2
theorem aIY:∀ (w:World),∀ os:OsState,W.segRun treeTable pW w 11 (some (.ref 6)) 1 491 (Sm2 w os) (W.piecesOf l3 env0 cE0 ⟨33,0,37,24⟩ B0)=some (.next,Sm3 w os,cE0,⟨43,0,47,24⟩):=by
 intro w os;kernel_rfl
def hm4 (P:Params):Heap:=⟨#[W.boot_o_0 P,W.boot_o_1 P,mo0 P,aGG P,W.boot_o_4 P,W.boot_o_5 P,W.boot_o_6 P,W.boot_o_7 P,W.boot_o_8 P,W.boot_o_9 P,W.boot_o_10 P,M2,aIX,M4,M5,M2,M6,M7,M2,M8,M9,M10,M11,M12,xP P,M2,M6,M14,M15,M2,vG P,zM,M17,M18,M19,M20,M12,yO P,M2,M6,M22,M23,M2,vP P,DM,M25,M26,M27,M28,M12,zN P,M2,M6,M30,M31,M2,vC P,LL,M33,M34,M35,M36,M12,yK P,M2,M38,M39,M40,M2,M6,M41,M2,M42,M43,M44,M45,uT P,vO,M46,M47,M36,M12,AT P,M2,M51,M52,M53,M2,M6,M54,M2,M55,M56,M57,M58,xQ P,zP,M59,M60,M36,M12,BV P,M2,M62,M63,M64,M2,M6,M65,M2,M66,M67,M68,M69,nL P,lZ,M70,M71,M75,M12,FH P,M2,M77,M78,M79,M2,M6,M80,M2,M81,M82,M83,M84,pP P,pU,M85,M86,M75,M12,FW P,M2,M6,M88,M89,M2,pT P,pV,M90,M91,M92,M12,FE P,M2,M94,M95,M96,M2,M6,M97,M2,M98,M99,GL,GN,pK P,pR,GG,EO,M92,M12,wR P,M2,NV,NX,NL,M2,M6,MI,M2,MX,NO,KN,JY,sO P,uG,MG,KY,M92,M12,wB P,M2,NC,MK,KR,M2,M6,LH,M2,KK,JM,MZ,MT,sE P,uC,JV,KI,M92,M12,CZ P,M2,QL,OX,RX,M2,M6,VX,M2,UB,QP,SS,SJ,wK P,xH,RB,OY,wG,M2,M6,OZ,M2,QE,wD,xB,M2,M6,VU,M2,RM,xI,xF,M2,M6,TB,M2,UQ,xD,wL,M2,M6,VA,M2,SZ,QK,QN,M2,M6,UG,M2,TV,UV,QX,M2,M6,SF,M2,ST,OW,RI,M2,M6,WD,M2,OP,VL,QO,M2,M6,OH,M2,OQ,PP,UM,M2,M6,VW,M2,RU,wS,wH,M2,M6,SB,M2,TR,wY,wO],(W.boot_heap P).life⟩
noncomputable abbrev Sm4 (w:World) (os:OsState):Shared:=⟨hm4 w.params,Array.mk [],W.boot_drawn,561,os⟩
noncomputable abbrev l4:List Stmt:=r3.take 15
noncomputable abbrev r4:List Stmt:=r3.drop 15
theorem aI4:∀ (w:World),∀ os:OsState,W.segRun treeTable pW w 11 (some (.ref 6)) 1 593 (Sm3 w os) (W.piecesOf l4 env0 cE0 ⟨43,0,47,24⟩ B0)=some (.next,Sm4 w os,cE0,⟨95,0,98,49⟩):=by
 intro w os;kernel_rfl
def hm5 (P:Params):Heap:=⟨#[W.boot_o_0 P,W.boot_o_1 P,mo0 P,aFY P,W.boot_o_4 P,W.boot_o_5 P,W.boot_o_6 P,W.boot_o_7 P,W.boot_o_8 P,W.boot_o_9 P,W.boot_o_10 P,M2,aKw,M4,M5,M2,M6,M7,M2,M8,M9,M10,M11,M12,xP P,M2,M6,M14,M15,M2,vG P,zM,M17,M18,M19,M20,M12,yO P,M2,M6,M22,M23,M2,vP P,DM,M25,M26,M27,M28,M12,zN P,M2,M6,M30,M31,M2,vC P,LL,M33,M34,M35,M36,M12,yK P,M2,M38,M39,M40,M2,M6,M41,M2,M42,M43,M44,M45,uT P,vO,M46,M47,M36,M12,AT P,M2,M51,M52,M53,M2,M6,M54,M2,M55,M56,M57,M58,xQ P,zP,M59,M60,M36,M12,BV P,M2,M62,M63,M64,M2,M6,M65,M2,M66,M67,M68,M69,nL P,lZ,M70,M71,M75,M12,FH P,M2,M77,M78,M79,M2,M6,M80,M2,M81,M82,M83,M84,pP P,pU,M85,M86,M75,M12,FW P,M2,M6,M88,M89,M2,pT P,pV,M90,M91,M92,M12,FE P,M2,M94,M95,M96,M2,M6,M97,M2,M98,M99,GL,GN,pK P,pR,GG,EO,M92,M12,wR P,M2,NV,NX,NL,M2,M6,MI,M2,MX,NO,KN,JY,sO P,uG,MG,KY,M92,M12,wB P,M2,NC,MK,KR,M2,M6,LH,M2,KK,JM,MZ,MT,sE P,uC,JV,KI,M92,M12,CZ P,M2,QL,OX,RX,M2,M6,VX,M2,UB,QP,SS,SJ,wK P,xH,RB,OY,wG,M2,M6,OZ,M2,QE,wD,xB,M2,M6,VU,M2,RM,xI,xF,M2,M6,TB,M2,UQ,xD,wL,M2,M6,VA,M2,SZ,QK,QN,M2,M6,UG,M2,TV,UV,QX,M2,M6,SF,M2,ST,OW,RI,M2,M6,WD,M2,OP,VL,QO,M2,M6,OH,M2,OQ,PP,UM,M2,M6,VW,M2,RU,wS,wH,M2,M6,SB,M2,TR,wY,wO,M2,M6,XS,M2,WL,AB,CU,M2,M12,HG P,M2,aAO,WM,XO,M2,M6,WV,M2,aAq,BA,CY,M2,M6,YB,M2,aAt,AJ,DP,M2,M6,aAg,DU,CD,M2,M6,ZY,AN,AC,M2,M6,aAk,M2,ZU,DS,CM,ZD,CK P,AA,WS,WU,XR,XW,M2,M6,XT,M2,YV,CP,BR,M2,M6,WH,M2,WN,BT,AR,M2,M6,WT,M2,XQ,DF,EA,M2,M6,aAd,M2,aAD,ZT,YX,M2,M6,aAC,M2,aAA,ZC,XA,M2,M6,aAI,aAe,WO],(W.boot_heap P).life⟩
noncomputable abbrev Sm5 (w:World) (os:OsState):Shared:=⟨hm5 w.params,Array.mk [],W.boot_drawn,684,os⟩
noncomputable abbrev l5:List Stmt:=r4.take 12
noncomputable abbrev r5:List Stmt:=r4.drop 12
theorem aJR:∀ (w:World),∀ os:OsState,W.segRun treeTable pW w 11 (some (.ref 6)) 1 594 (Sm4 w os) (W.piecesOf l5 env0 cE0 ⟨95,0,98,49⟩ B0)=some (.next,Sm5 w os,cE0,⟨139,0,140,74⟩):=by
 intro w os;kernel_rfl
def hm6 (P:Params):Heap:=⟨#[W.boot_o_0 P,W.boot_o_1 P,mo0 P,aGm P,W.boot_o_4 P,W.boot_o_5 P,W.boot_o_6 P,W.boot_o_7 P,W.boot_o_8 P,W.boot_o_9 P,W.boot_o_10 P,M2,aI3,M4,M5,M2,M6,M7,M2,M8,M9,M10,M11,M12,xP P,M2,M6,M14,M15,M2,vG P,zM,M17,M18,M19,M20,M12,yO P,M2,M6,M22,M23,M2,vP P,DM,M25,M26,M27,M28,M12,zN P,M2,M6,M30,M31,M2,vC P,LL,M33,M34,M35,M36,M12,yK P,M2,M38,M39,M40,M2,M6,M41,M2,M42,M43,M44,M45,uT P,vO,M46,M47,M36,M12,AT P,M2,M51,M52,M53,M2,M6,M54,M2,M55,M56,M57,M58,xQ P,zP,M59,M60,M36,M12,BV P,M2,M62,M63,M64,M2,M6,M65,M2,M66,M67,M68,M69,nL P,lZ,M70,M71,M75,M12,FH P,M2,M77,M78,M79,M2,M6,M80,M2,M81,M82,M83,M84,pP P,pU,M85,M86,M75,M12,FW P,M2,M6,M88,M89,M2,pT P,pV,M90,M91,M92,M12,FE P,M2,M94,M95,M96,M2,M6,M97,M2,M98,M99,GL,GN,pK P,pR,GG,EO,M92,M12,wR P,M2,NV,NX,NL,M2,M6,MI,M2,MX,NO,KN,JY,sO P,uG,MG,KY,M92,M12,wB P,M2,NC,MK,KR,M2,M6,LH,M2,KK,JM,MZ,MT,sE P,uC,JV,KI,M92,M12,CZ P,M2,QL,OX,RX,M2,M6,VX,M2,UB,QP,SS,SJ,wK P,xH,RB,OY,wG,M2,M6,OZ,M2,QE,wD,xB,M2,M6,VU,M2,RM,xI,xF,M2,M6,TB,M2,UQ,xD,wL,M2,M6,VA,M2,SZ,QK,QN,M2,M6,UG,M2,TV,UV,QX,M2,M6,SF,M2,ST,OW,RI,M2,M6,WD,M2,OP,VL,QO,M2,M6,OH,M2,OQ,PP,UM,M2,M6,VW,M2,RU,wS,wH,M2,M6,SB,M2,TR,wY,wO,M2,M6,XS,M2,WL,AB,CU,M2,M12,HG P,M2,aAO,WM,XO,M2,M6,WV,M2,aAq,BA,CY,M2,M6,YB,M2,aAt,AJ,DP,M2,M6,aAg,DU,CD,M2,M6,ZY,AN,AC,M2,M6,aAk,M2,ZU,DS,CM,ZD,CK P,AA,WS,WU,XR,XW,M2,M6,XT,M2,YV,CP,BR,M2,M6,WH,M2,WN,BT,AR,M2,M6,WT,M2,XQ,DF,EA,M2,M6,aAd,M2,aAD,ZT,YX,M2,M6,aAC,M2,aAA,ZC,XA,M2,M6,aAI,aAe,WO,M2,M12,QS P,M2,aEx,aED,aE9,M2,M6,aDh,M2,aC3,HL,HJ,aDH,M2,M6,aCp,aCa,aEh,M2,M6,aEK,M2,aCM,aET,aCx,M2,M6,aER,M2,aBL,aCo,aDG,M2,M6,aEM,aDM,aDQ,M2,M6,aCb,M2,aDT,HZ,IV,M2,M6,aCB,M2,aD9,aEi,aEZ,M2,M6,aCU,M2,aCP,aEC,aDX,M2,M6,aBO,M2,aCF,aCQ,aCI,aBN,HA P,IE,aB1,aCq,aCs,aEy,IJ,M2,M6,aC7,HI,HC,M2,M6,aC6,M2,aDJ,IF,ID,M2,M6,aDn,aE3,aCn,M2,M6,aBY,M2,aEW,aDe,aCE],(W.boot_heap P).life⟩
noncomputable abbrev Sm6 (w:World) (os:OsState):Shared:=⟨hm6 w.params,Array.mk [],W.boot_drawn,812,os⟩
noncomputable abbrev l6:List Stmt:=r5.take 11
noncomputable abbrev r6:List Stmt:=r5.drop 11
theorem aJd:∀ (w:World),∀ os:OsState,W.segRun treeTable pW w 11 (some (.ref 6)) 1 644 (Sm5 w os) (W.piecesOf l6 env0 cE0 ⟨139,0,140,74⟩ B0)=some (.next,Sm6 w os,cE0,⟨201,0,203,27⟩):=by
 intro w os;kernel_rfl
def hm7 (P:Params):Heap:=⟨#[W.boot_o_0 P,W.boot_o_1 P,mo0 P,aH5 P,W.boot_o_4 P,W.boot_o_5 P,W.boot_o_6 P,W.boot_o_7 P,W.boot_o_8 P,W.boot_o_9 P,W.boot_o_10 P,M2,aKk,M4,M5,M2,M6,M7,M2,M8,M9,M10,M11,M12,xP P,M2,M6,M14,M15,M2,vG P,zM,M17,M18,M19,M20,M12,yO P,M2,M6,M22,M23,M2,vP P,DM,M25,M26,M27,M28,M12,zN P,M2,M6,M30,M31,M2,vC P,LL,M33,M34,M35,M36,M12,yK P,M2,M38,M39,M40,M2,M6,M41,M2,M42,M43,M44,M45,uT P,vO,M46,M47,M36,M12,AT P,M2,M51,M52,M53,M2,M6,M54,M2,M55,M56,M57,M58,xQ P,zP,M59,M60,M36,M12,BV P,M2,M62,M63,M64,M2,M6,M65,M2,M66,M67,M68,M69,nL P,lZ,M70,M71,M75,M12,FH P,M2,M77,M78,M79,M2,M6,M80,M2,M81,M82,M83,M84,pP P,pU,M85,M86,M75,M12,FW P,M2,M6,M88,M89,M2,pT P,pV,M90,M91,M92,M12,FE P,M2,M94,M95,M96,M2,M6,M97,M2,M98,M99,GL,GN,pK P,pR,GG,EO,M92,M12,wR P,M2,NV,NX,NL,M2,M6,MI,M2,MX,NO,KN,JY,sO P,uG,MG,KY,M92,M12,wB P,M2,NC,MK,KR,M2,M6,LH,M2,KK,JM,MZ,MT,sE P,uC,JV,KI,M92,M12,CZ P,M2,QL,OX,RX,M2,M6,VX,M2,UB,QP,SS,SJ,wK P,xH,RB,OY,wG,M2,M6,OZ,M2,QE,wD,xB,M2,M6,VU,M2,RM,xI,xF,M2,M6,TB,M2,UQ,xD,wL,M2,M6,VA,M2,SZ,QK,QN,M2,M6,UG,M2,TV,UV,QX,M2,M6,SF,M2,ST,OW,RI,M2,M6,WD,M2,OP,VL,QO,M2,M6,OH,M2,OQ,PP,UM,M2,M6,VW,M2,RU,wS,wH,M2,M6,SB,M2,TR,wY,wO,M2,M6,XS,M2,WL,AB,CU,M2,M12,HG P,M2,aAO,WM,XO,M2,M6,WV,M2,aAq,BA,CY,M2,M6,YB,M2,aAt,AJ,DP,M2,M6,aAg,DU,CD,M2,M6,ZY,AN,AC,M2,M6,aAk,M2,ZU,DS,CM,ZD,CK P,AA,WS,WU,XR,XW,M2,M6,XT,M2,YV,CP,BR,M2,M6,WH,M2,WN,BT,AR,M2,M6,WT,M2,XQ,DF,EA,M2,M6,aAd,M2,aAD,ZT,YX,M2,M6,aAC,M2,aAA,ZC,XA,M2,M6,aAI,aAe,WO,M2,M12,QS P,M2,aEx,aED,aE9,M2,M6,aDh,M2,aC3,HL,HJ,aDH,M2,M6,aCp,aCa,aEh,M2,M6,aEK,M2,aCM,aET,aCx,M2,M6,aER,M2,aBL,aCo,aDG,M2,M6,aEM,aDM,aDQ,M2,M6,aCb,M2,aDT,HZ,IV,M2,M6,aCB,M2,aD9,aEi,aEZ,M2,M6,aCU,M2,aCP,aEC,aDX,M2,M6,aBO,M2,aCF,aCQ,aCI,aBN,HA P,IE,aB1,aCq,aCs,aEy,IJ,M2,M6,aC7,HI,HC,M2,M6,aC6,M2,aDJ,IF,ID,M2,M6,aDn,aE3,aCn,M2,M6,aBY,M2,aEW,aDe,aCE,M2,M12,aBA P,M2,aFt,aFy,aHI,OJ,M2,M6,aG2,M2,aGP,RE,OL,M2,M6,aFu,M2,aIO,aF5,aHM,M2,M6,aHs,M2,aGr,aF6,aGJ,M2,M6,aH7,M2,aIl,aHp,aGC,M2,M6,aFT,M2,aHm,aGY,aGX,M2,M6,aIE,M2,aIo,aIN,aHj,M2,M6,aGU,M2,aFN,aHd,aHr,M2,M6,aIs,M2,aG9,aF7,aHY,M2,M6,aIP,M2,aIJ,aFO,aHR,M2,M6,aIe,M2,aFG,aIr,aHi,aGv,M2,M6,aIf,aGn,aG5,aHz,aFQ,M2,M6,aFU,aHt,aGD,M2,M6,aFj,M2,aFq,aHy,aFV,M2,M6,aFR,M2,aGe,aHK,aH1,M2,M6,aGQ,M2,aFS,VG,QU,M2,M6,aIn,M2,aGV,aFn,aGg,M2,M6,aF0,M2,aGO,aHw,aFF,M2,M6,aFW,M2,aGK,aGI,aFP,aF3,QH P,RN,aIh,aFv,aGq,aGE],(W.boot_heap P).life⟩
noncomputable abbrev Sm7 (w:World) (os:OsState):Shared:=⟨hm7 w.params,Array.mk [],W.boot_drawn,983,os⟩
noncomputable abbrev l7:List Stmt:=r6.take 1
noncomputable abbrev r7:List Stmt:=r6.drop 1
theorem aJh:∀ (w:World),∀ os:OsState,W.segRun treeTable pW w 11 (some (.ref 6)) 1 778 (Sm6 w os) (W.piecesOf l7 env0 cE0 ⟨201,0,203,27⟩ B0)=some (.next,Sm7 w os,cE0,⟨204,0,276,41⟩):=by
 intro w os;kernel_rfl
def hm8 (P:Params):Heap:=⟨#[W.boot_o_0 P,W.boot_o_1 P,mo0 P,ko3 P,W.boot_o_4 P,W.boot_o_5 P,W.boot_o_6 P,W.boot_o_7 P,W.boot_o_8 P,W.boot_o_9 P,W.boot_o_10 P,M2,aI7,M4,M5,M2,M6,M7,M2,M8,M9,M10,M11,M12,xP P,M2,M6,M14,M15,M2,vG P,zM,M17,M18,M19,M20,M12,yO P,M2,M6,M22,M23,M2,vP P,DM,M25,M26,M27,M28,M12,zN P,M2,M6,M30,M31,M2,vC P,LL,M33,M34,M35,M36,M12,yK P,M2,M38,M39,M40,M2,M6,M41,M2,M42,M43,M44,M45,uT P,vO,M46,M47,M36,M12,AT P,M2,M51,M52,M53,M2,M6,M54,M2,M55,M56,M57,M58,xQ P,zP,M59,M60,M36,M12,BV P,M2,M62,M63,M64,M2,M6,M65,M2,M66,M67,M68,M69,nL P,lZ,M70,M71,M75,M12,FH P,M2,M77,M78,M79,M2,M6,M80,M2,M81,M82,M83,M84,pP P,pU,M85,M86,M75,M12,FW P,M2,M6,M88,M89,M2,pT P,pV,M90,M91,M92,M12,FE P,M2,M94,M95,M96,M2,M6,M97,M2,M98,M99,GL,GN,pK P,pR,GG,EO,M92,M12,wR P,M2,NV,NX,NL,M2,M6,MI,M2,MX,NO,KN,JY,sO P,uG,MG,KY,M92,M12,wB P,M2,NC,MK,KR,M2,M6,LH,M2,KK,JM,MZ,MT,sE P,uC,JV,KI,M92,M12,CZ P,M2,QL,OX,RX,M2,M6,VX,M2,UB,QP,SS,SJ,wK P,xH,RB,OY,wG,M2,M6,OZ,M2,QE,wD,xB,M2,M6,VU,M2,RM,xI,xF,M2,M6,TB,M2,UQ,xD,wL,M2,M6,VA,M2,SZ,QK,QN,M2,M6,UG,M2,TV,UV,QX,M2,M6,SF,M2,ST,OW,RI,M2,M6,WD,M2,OP,VL,QO,M2,M6,OH,M2,OQ,PP,UM,M2,M6,VW,M2,RU,wS,wH,M2,M6,SB,M2,TR,wY,wO,M2,M6,XS,M2,WL,AB,CU,M2,M12,HG P,M2,aAO,WM,XO,M2,M6,WV,M2,aAq,BA,CY,M2,M6,YB,M2,aAt,AJ,DP,M2,M6,aAg,DU,CD,M2,M6,ZY,AN,AC,M2,M6,aAk,M2,ZU,DS,CM,ZD,CK P,AA,WS,WU,XR,XW,M2,M6,XT,M2,YV,CP,BR,M2,M6,WH,M2,WN,BT,AR,M2,M6,WT,M2,XQ,DF,EA,M2,M6,aAd,M2,aAD,ZT,YX,M2,M6,aAC,M2,aAA,ZC,XA,M2,M6,aAI,aAe,WO,M2,M12,QS P,M2,aEx,aED,aE9,M2,M6,aDh,M2,aC3,HL,HJ,aDH,M2,M6,aCp,aCa,aEh,M2,M6,aEK,M2,aCM,aET,aCx,M2,M6,aER,M2,aBL,aCo,aDG,M2,M6,aEM,aDM,aDQ,M2,M6,aCb,M2,aDT,HZ,IV,M2,M6,aCB,M2,aD9,aEi,aEZ,M2,M6,aCU,M2,aCP,aEC,aDX,M2,M6,aBO,M2,aCF,aCQ,aCI,aBN,HA P,IE,aB1,aCq,aCs,aEy,IJ,M2,M6,aC7,HI,HC,M2,M6,aC6,M2,aDJ,IF,ID,M2,M6,aDn,aE3,aCn,M2,M6,aBY,M2,aEW,aDe,aCE,M2,M12,aBA P,M2,aFt,aFy,aHI,OJ,M2,M6,aG2,M2,aGP,RE,OL,M2,M6,aFu,M2,aIO,aF5,aHM,M2,M6,aHs,M2,aGr,aF6,aGJ,M2,M6,aH7,M2,aIl,aHp,aGC,M2,M6,aFT,M2,aHm,aGY,aGX,M2,M6,aIE,M2,aIo,aIN,aHj,M2,M6,aGU,M2,aFN,aHd,aHr,M2,M6,aIs,M2,aG9,aF7,aHY,M2,M6,aIP,M2,aIJ,aFO,aHR,M2,M6,aIe,M2,aFG,aIr,aHi,aGv,M2,M6,aIf,aGn,aG5,aHz,aFQ,M2,M6,aFU,aHt,aGD,M2,M6,aFj,M2,aFq,aHy,aFV,M2,M6,aFR,M2,aGe,aHK,aH1,M2,M6,aGQ,M2,aFS,VG,QU,M2,M6,aIn,M2,aGV,aFn,aGg,M2,M6,aF0,M2,aGO,aHw,aFF,M2,M6,aFW,M2,aGK,aGI,aFP,aF3,QH P,RN,aIh,aFv,aGq,aGE,M2,M6,aI9,aJG,aJ6,M2,M6,aKc,M2,aJX,aA6,aBd,M2,M6,aKs,M2,aJE,aBg,aBJ,M2,M6,aJa,M2,aKv,aA7,aBr,M2,M6,aI0,M2,aJB,aBk,aBt,M2,M6,aJH,M2,aJN,aBE,aBo,M2,M6,aJA,aBv,aBD,M2,M6,aI8,M2,aJe,aBB,aBq,M2,M6,aI5,M2,aKm,aA9,aBe,M2,M6,aIU,M2,aJv,aBx,aA5,M2,M6,aJZ,M2,aKl,aBf,aBa,M2,M6,aJn,aBm,aBH,M2,M6,aJi,M2,aI1,aBn,aBu,M2,M6,aJl,M2,aJ2,aBs,aBG],(W.boot_heap P).life⟩
noncomputable abbrev Sm8 (w:World) (os:OsState):Shared:=⟨hm8 w.params,Array.mk [],W.boot_drawn,1112,os⟩
noncomputable abbrev l8:List Stmt:=r7.take 15
noncomputable abbrev r8:List Stmt:=r7.drop 15
theorem aJI:∀ (w:World),∀ os:OsState,W.segRun treeTable pW w 11 (some (.ref 6)) 1 439 (Sm7 w os) (W.piecesOf l8 env0 cE0 ⟨204,0,276,41⟩ B0)=some (.next,Sm8 w os,cE0,⟨360,0,375,15⟩):=by
 intro w os;kernel_rfl
theorem aIH:∀ (w:World) (os:OsState),(W.topRun treeTable pW w 11 (some (.ref 6)) 21 (Sm8 w os) (W.restOf r8 env0 cE0 ⟨360,0,375,15⟩ B0)).map (fun s₁=>(W.staticsOk (importedModules pW.main.body) (W.boot_heap w.params) s₁.heap && W.namesBound pW s₁.heap && W.gensDone s₁ && W.laidKept (W.boot_heap w.params) s₁.heap,W.openSeen qv lo (importedModules pW.main.body) (fun s=>W.recOk [] s) true s₁,hk0.obs s₁))=some (true,W.openGood qv lo,hk0.val w):=by
 intro w os;kernel_rfl
theorem hlt:W.LeftO PySem.Challenge.pw_lightshares_k04_shades_alike_or_not qv lo (fun s=>W.recOk [] s) hk0.obs hk0.val 11280:=by
 refine L3.aGw (M:=12 + (1 + (852 + (491 + (704 + (491 + (593 + (594 + (644 + (778 + (439 + 21))))))))))) aKp aJ7 (by decide) fun w os=>?_;obtain ⟨s₁,e,h⟩:=Option.map_eq_some_iff.mp (aIH w os);refine ⟨s₁,W.go_top (aGS w os) (W.piece_block (aFm w os) ?_),h⟩;rw [show bdy=l0 ++ r0 from (List.take_append_drop _ _).symm];refine W.piece_app (aJt w os) ?_;rw [show r0=l1 ++ r1 from (List.take_append_drop _ _).symm];refine W.piece_app (aJs w os) ?_;rw [show r1=l2 ++ r2 from (List.take_append_drop _ _).symm];refine W.piece_app (aJO w os) ?_;rw [show r2=l3 ++ r3 from (List.take_append_drop _ _).symm];refine W.piece_app (aIY w os) ?_;rw [show r3=l4 ++ r4 from (List.take_append_drop _ _).symm];refine W.piece_app (aI4 w os) ?_;rw [show r4=l5 ++ r5 from (List.take_append_drop _ _).symm];refine W.piece_app (aJR w os) ?_;rw [show r5=l6 ++ r6 from (List.take_append_drop _ _).symm];refine W.piece_app (aJd w os) ?_;rw [show r6=l7 ++ r7 from (List.take_append_drop _ _).symm];refine W.piece_app (aJh w os) ?_;rw [show r7=l8 ++ r8 from (List.take_append_drop _ _).symm];refine W.piece_app (aJI w os) ?_;exact e
end My
open PySem PySem.W PyProof.Rows
set_option maxRecDepth 100000 in
set_option maxHeartbeats 0 in
theorem PySem.Challenge.cw_lightshares_k04_shades_alike_or_not_holds : PySem.Challenge.rw_lightshares_k04_shades_alike_or_not.Holds := by
 w_on
 refine W.holds_law My.wsd fun said=>?_
 refine W.holds_open (q:=My.qv) (loose:=My.lo) (N:=11280) (XP:=fun _ _=>True)
   (Xt:=fun s=>W.recOk [] s)
   (Yf:=My.hk0.obs) (Ya:=My.hk0.val) (YP:=My.hk0.says)
   My.hlt My.hk0.of My.hk0.keeps
   (fun _ _=>trivial) (fun _ _ _ _ _=>trivial) (by rfl) (by rfl) (by rfl)
   (fun s e=>W.recFacts_of e) (by rfl) (by assumption) (by decide +kernel)
   ⟨rfl,rfl,rfl,rfl,rfl,by decide +kernel⟩ ?hw ?hc
 case hw=>w_witness2
 refine L2.RD (K:=My.K0) (l:=PySem.Challenge.rw_lightshares_k04_shades_alike_or_not) (n:=63) (k:=60) (x:="_law_script") (CX:=L2.CX0) (sp:=L3.HW)
   rfl (by decide) rfl ⟨fun _=>rfl,by decide,by decide,fun _=>rfl⟩ (fun w h Y=>W.kIn_of Y) ?F (fun K H a ns hl hO hS=>L3.KZ hl hO hS) (fun _ _ _ _ z=>z)
 case F =>
   intro w mg fa h KX G hmg
   exact My.fin KX G hmg
