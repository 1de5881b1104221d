import PyProof.Rows.All
import Wide.All
import OpenK.AllK
import Wide.FinOn
import Lean
import PyProof.EqAt
import PyProof.EqKinds
import PyProof.TupleCall
import PySem.Challenge.RW_lightshares_k29_whole_no_row_of_fewer
set_option Elab.async false
set_option linter.all false
set_option maxRecDepth 100000
noncomputable section
def wAq:=@PySem.wpAny_bind
def wBq:=@PySem.wpAny_pure
def wCq:=@List.mem_cons_of_mem
def wDq:=@List.mem_cons_self
def wEq:=@PySem.Heap.get?_push_of_some
def wFq:=@Nat.lt_of_lt_of_le
def wGq:=@PySem.Heap.get?_push_size
def wHq:=@List.getElem?_eq_getElem
def wIq:=@List.size_toArray
namespace L2
open PySem PySem.Spec PyProof.Rows
noncomputable abbrev Key:=Sum Int Str
noncomputable def tB:Key→Value→Bool
 | .inl k,v=>Value.isInt k v
 | .inr x,v=>Value.isStrOf x v
noncomputable def aJh (w:World):Key→Int
 | .inl k=>hashInt k
 | .inr x=>hashStr w x
theorem bS:∀ {k:Key} {v:Value},tB k v=true→(∃ i t,k=Sum.inl i∧v=Value.int i t)∨(∃ x t,k=Sum.inr x∧v=Value.str x t)
 | .inl i,v,h=>by
   obtain ⟨t,e⟩:=Value.isInt_shape (k:=i) (v:=v) h;exact .inl ⟨i,t,rfl,e⟩
 | .inr x,v,h=>by
   obtain ⟨t,e⟩:=Value.isStrOf_shape (x:=x) (v:=v) h;exact .inr ⟨x,t,rfl,e⟩
theorem NH (i:Int) (t:Tok):tB (.inl i) (.int i t)=true:=by simp [tB,Value.isInt]
theorem NC (x:Str) (t:Tok):tB (.inr x) (.str x t)=true:=by simp [tB,Value.isStrOf]
theorem aE6 (a b:Int):decide ((Sum.inl a:Key)=Sum.inl b)=(a == b):=by
 by_cases e:a=b
 · subst e; simp
 · have h:¬(Sum.inl a:Key)=Sum.inl b:=fun q=>e (Sum.inl.inj q);rw [decide_eq_false h];exact (beq_eq_false_iff_ne.mpr e).symm
theorem aEY (a b:Str):decide ((Sum.inr a:Key)=Sum.inr b)=decide (a=b):=by
 by_cases e:a=b
 · subst e; simp
 · have h:¬(Sum.inr a:Key)=Sum.inr b:=fun q=>e (Sum.inr.inj q);rw [decide_eq_false h,decide_eq_false e]
theorem aC3 (a:Int) (b:Str):decide ((Sum.inl a:Key)=Sum.inr b)=false:=decide_eq_false (fun q=>nomatch q)
theorem aDw (a:Str) (b:Int):decide ((Sum.inr a:Key)=Sum.inl b)=false:=decide_eq_false (fun q=>nomatch q)
noncomputable def dD (prog:Program) (w:World):PySem.KeyKind prog w Key where
 is:=tB
 hash:=aJh w
 inj :=fun v a b ha hb=>by
   rcases bS ha with ⟨i,t,rfl,rfl⟩ | ⟨x,t,rfl,rfl⟩
   · rcases bS hb with ⟨j,u,rfl,e⟩ | ⟨y,u,rfl,e⟩
     · injection e with e1 _; rw [e1]
     · exact nomatch e
   · rcases bS hb with ⟨j,u,rfl,e⟩ | ⟨y,u,rfl,e⟩
     · exact nomatch e
     · injection e with e1 _; rw [e1]
 byValue:=fun k v h=>by
   rcases bS h with ⟨i,t,rfl,rfl⟩ | ⟨x,t,rfl,rfl⟩ <;> rfl
 pyHash:=fun hv h=>by
   rcases bS hv with ⟨i,t,rfl,rfl⟩ | ⟨x,t,rfl,rfl⟩
   · exact wpAny_pyHash_int h
   · exact wpAny_pyHash_str h
 eqBool:=fun hu hv h=>by
   rcases bS hu with ⟨i,t,rfl,rfl⟩ | ⟨x,t,rfl,rfl⟩
   · rcases bS hv with ⟨j,u,rfl,rfl⟩ | ⟨y,u,rfl,rfl⟩
     · rw [aE6] at h; exact wpAny_eqBool_int h
     · rw [aC3] at h; exact SeqAt.EqAt.int_str i t y u _ _ _ _ h
   · rcases bS hv with ⟨j,u,rfl,rfl⟩ | ⟨y,u,rfl,rfl⟩
     · rw [aDw] at h; exact SeqAt.EqAt.str_int x t j u _ _ _ _ h
     · rw [aEY] at h; exact wpAny_eqBool_str h
 «strs» :=fun k x t v h=>by
   rcases bS h with ⟨i,u,rfl,e⟩ | ⟨y,u,rfl,e⟩
   · exact nomatch e
   · injection e with e1 _;subst e1;cases v <;> rfl
theorem aCj (prog:Program) (w:World) (k:Key) (v:Value):(dD prog w).is k v=tB k v:=rfl
theorem CF (prog:Program) (w:World) (i:Int) (t:Tok):(dD prog w).is (.inl i) (.int i t)=true:=NH i t
theorem BD (prog:Program) (w:World) (x:Str) (t:Tok):(dD prog w).is (.inr x) (.str x t)=true:=NC x t
inductive V where
 | non | bl (b:Bool) | int (i:Int) | str (x:Str) | byt (b:Array UInt8) | flt (b:UInt64) | ref (a:Addr) | ty (n:String)
 deriving DecidableEq
noncomputable def aP:V→Value→Prop
 | .non,u=>u=Value.none
 | .bl b,u=>u=Value.bool b
 | .int i,u=>∃ t,u=Value.int i t
 | .str x,u=>∃ t,u=Value.str x t
 | .byt b,u=>∃ t,u=Value.bytes b t
 | .flt b,u=>∃ t,u=Value.float b t
 | .ref a,u=>u=Value.ref a
 | .ty n,u=>u=Value.type n
noncomputable abbrev aM:List V→List Value→Prop:=Paired aP
theorem aM.length {xs:List V} {us:List Value} (r:aM xs us):xs.length=us.length:=Paired.length r
theorem aM.get:∀ {xs:List V} {us:List Value} {i:Nat} {x:V},aM xs us→xs[i]? =some x→∃ u,us[i]? =some u∧aP x u
 | _,_,_,_,.nil,e=>by simp at e
 | _,_,0,_,.cons r _,e=>by simp at e; subst e; exact ⟨_,rfl,r⟩
 | _,_,i + 1,x,.cons _ t,e=>by
   obtain ⟨u,h1,h2⟩:=aM.get (i:=i) (x:=x) t (by simpa using e);exact ⟨u,by simpa using h1,h2⟩
theorem aM.set {x:V} {u:Value} (r:aP x u):∀ {xs:List V} {us:List Value} (i:Nat),aM xs us→aM (xs.set i x) (us.set i u)
 | _,_,_,.nil=>.nil
 | _,_,0,.cons _ t=>.cons r t
 | _,_,i + 1,.cons q t=>.cons q (aM.set r i t)
theorem aM.append:∀ {xs ys:List V} {us ws:List Value},aM xs us→aM ys ws→aM (xs ++ ys) (us ++ ws)
 | _,_,_,_,.nil,s=>s
 | _,_,_,_,.cons r t,s=>.cons r (aM.append t s)
theorem aM.take:∀ {xs:List V} {us:List Value} (n:Nat),aM xs us→aM (xs.take n) (us.take n)
 | _,_,0,_=>.nil
 | _,_,_ + 1,.nil=>.nil
 | _,_,n + 1,.cons r t=>.cons r (aM.take n t)
theorem aM.drop:∀ {xs:List V} {us:List Value} (n:Nat),aM xs us→aM (xs.drop n) (us.drop n)
 | _,_,0,r=>r
 | _,_,_ + 1,.nil=>.nil
 | _,_,n + 1,.cons _ t=>aM.drop n t
noncomputable def oX:Option V→Option Value→Prop
 | some v,some u=>aP v u
 | none,none=>True
 | _,_=>False
noncomputable def KV {κ:Type}:List (κ×V)→List (κ×Value)→Prop:=Paired fun (p:κ×V) (q:κ×Value)=>p.1=q.1∧aP p.2 q.2
noncomputable def kV:Key→V
 | .inl i=>.int i
 | .inr x=>.str x
inductive HO where
 | lst (xs:List V)
 | tup (xs:List V)
 | dK (kvs:List (Key×V)) | dT (kvs:List (List Key×V))
 | set (S:Int→Bool) (n:Nat)
 | ins (C dx:Addr) (fs:List (Str×V))
 | own (x:Addr)
 | xd (fs:List (Str×V))
 | met (f x:Addr)
 | rng (lo hi:Int)
 | frz (o:Obj) (u:HO)
 | tbl (ps:Array Value)
 | ext (φ:Heap→Prop)
noncomputable abbrev Hp:=Addr→Option HO
noncomputable def upd (H:Hp) (a:Addr) (o:HO):Hp:=fun b=>if b=a then some o else H b
theorem aJ {H:Hp} {a:Addr} {o:HO}:upd H a o a=some o:=by unfold upd; rw [if_pos rfl]
theorem aC {H:Hp} {a b:Addr} {o:HO} (h:b≠a):upd H a o b=H b:=by unfold upd; rw [if_neg h]
theorem aFj {H:Hp} {a b:Addr} {o u:HO} (h:H a=some o) (h':H b=some u) (d:o≠u):a≠b:=by
 intro e; subst e; rw [h] at h'; exact d (Option.some.inj h')
theorem aH {H:Hp} {a b:Addr} {o:HO} (h:H a=some o) (h':H b=none):a≠b:=by
 intro e; subst e; rw [h] at h'; cases h'
def gH (h:Heap) (a:Addr) (items:Array Value):Prop:=IsTup h a items∧∀ o,h.get? a=some o→o.dict=none
theorem gH.new (h:Heap) (items:Array Value):gH (h.push { cls:=.type "tuple",data:=.seq items }) h.objs.size items:=⟨IsTup.new h items,fun o e=>by rw [wGq _ rfl] at e; cases e; rfl⟩
section
variable (P:Program) (w:World)
noncomputable def bY (H:Hp) (h:Heap) (a:Addr):HO→Prop
 | .lst xs=>xs.length≤sizeLine∧∃ (its:List Value) (n:Nat),aM xs its∧h.get? a=some { cls:=.type "list",data:=.seq its.toArray n }
 | .tup xs=>xs.length≤sizeLine∧∃ its:List Value,aM xs its∧gH h a its.toArray
 | .dK kvs=>kvs.length≤sizeLine∧(a == sysModules)=false∧∃ vs,KV kvs vs∧h.DictOf (dD P w) a vs
 | .dT kvs=>kvs.length≤sizeLine∧(a == sysModules)=false∧∃ xs:List (List Key×Addr×Value),
     Paired (fun (p:List Key×V) (q:List Key×Addr×Value)=>p.1=q.1∧H q.2.1=some (.tup (p.1.map kV))∧aP p.2 q.2.2) kvs xs∧
     ∃ o es ep,h.get? a=some o∧o.ExactDict∧o.data= .dict es ep∧es.toList=xs.map (entryOfKey (tupleKind (dD P w)))∧(xs.map (·.1)).Nodup
 | .set S n=>h.SetOf (intKind P w) a S n
 | .ins C dx fs=>H dx=some (.own a)∧fs.length≤1000∧dx≠a∧h.get? a=some (W.instObj C dx)∧
     ∃ mA,h.Ns1 dx mA∧(∀ f,oX (fs.lookup f) (mA f))∧PySem.Within mA (fs.map (·.1))
 | .own _=>∃ o,h.get? a=some o
 | .xd fs=>∃ mA,h.Ns1 a mA∧∀ f,oX (fs.lookup f) (mA f)
 | .rng lo hi=>∃ t u v,h.get? a=some { cls:=.type "range",data:=.fields #[.int lo t,.int hi u,.int 1 v] }
 | .frz o u=>h.get? a=some o∧bY H h a u
 | .tbl ps=>h.get? a=some { cls:=.none,data:=.fields ps }
 | .met f x=>h.get? a=some (W.methodObj (.ref f) (.ref x))
 | .ext φ=>φ h∧(∃ o,h.get? a=some o)∧∀ h1 h2:Heap,φ h1→(∀ o,h1.get? a=some o→h2.get? a=some o)→φ h2
def HOk (H:Hp) (h:Heap):Prop:= ∀ a o,H a=some o→bY P w H h a o
end
section
variable {P:Program} {w:World} {H H':Hp} {h h':Heap} {a:Addr} {o:HO}
theorem bY.lt (x:bY P w H h a o):a < h.objs.size:=by
 cases o with
 | lst xs=>obtain ⟨_,_,_,_,e⟩:=x; exact Heap.lt_size e
 | tup xs=>obtain ⟨_,_,_,p⟩:=x; exact p.1.lt
 | dK kvs=>obtain ⟨_,_,_,_,o,_,_,e,_⟩:=x; exact Heap.lt_size e
 | dT kvs=>obtain ⟨_,_,_,_,o,_,_,e,_⟩:=x; exact Heap.lt_size e
 | set S n=>obtain ⟨o,_,_,_,e,_⟩:=x; exact Heap.lt_size e
 | ins C dx fs=>obtain ⟨_,_,_,e,_⟩:=x; exact Heap.lt_size e
 | own y=>obtain ⟨_,e⟩:=x; exact Heap.lt_size e
 | xd fs=>obtain ⟨_,⟨_,_,_,e,_⟩,_⟩:=x; exact Heap.lt_size e
 | rng lo hi=>obtain ⟨_,_,_,e⟩:=x; exact Heap.lt_size e
 | frz ob u=>obtain ⟨e,_⟩:=x; exact Heap.lt_size e
 | tbl ps=>exact Heap.lt_size (show h.get? a=some _ from x)
 | met f y=>exact Heap.lt_size (show h.get? a=some _ from x)
 | ext φ=>obtain ⟨_,⟨_,e⟩,_⟩:=x; exact Heap.lt_size e
theorem Paired.mapP {α β:Type} {F G:α→β→Prop}:∀ {l₁:List α} {l₂:List β},Paired F l₁ l₂→(∀ a b,F a b→G a b)→Paired G l₁ l₂
 | _,_,.nil,_=>.nil
 | _,_,.cons r t,f=>.cons (f _ _ r) (Paired.mapP t f)
theorem bY.stay (x:bY P w H h a o) (k:∀ b u,(b=a∨H b=some (.own a))→h.get? b=some u→h'.get? b=some u)
   (ho:∀ b,H b=some (.own a)→H' b=some (.own a)) (ht:∀ b xs,H b=some (.tup xs)→H' b=some (.tup xs)):bY P w H' h' a o:=by
 induction o with
 | lst xs=>obtain ⟨z,its,n,r,e⟩:=x; exact ⟨z,its,n,r,k _ _ (.inl rfl) e⟩
 | tup xs=>obtain ⟨z,its,r,⟨ob,e,c⟩,dn⟩:=x; exact ⟨z,its,r,⟨ob,k _ _ (.inl rfl) e,c⟩,fun o q=>by rw [k _ _ (.inl rfl) e] at q; cases q; exact dn _ e⟩
 | dK kvs=>obtain ⟨z,y,vs,r,ob,es,ep,e,c⟩:=x; exact ⟨z,y,vs,r,ob,es,ep,k _ _ (.inl rfl) e,c⟩
 | dT kvs =>
   obtain ⟨z,y,xs,r,ob,es,ep,e,c⟩:=x;exact ⟨z,y,xs,Paired.mapP r fun p q z=>⟨z.1,ht _ _ z.2.1,z.2.2⟩,ob,es,ep,k _ _ (.inl rfl) e,c⟩
 | set S n=>obtain ⟨ob,es,ep,t,e,c⟩:=x; exact ⟨ob,es,ep,t,k _ _ (.inl rfl) e,c⟩
 | ins C dx fs =>
   obtain ⟨d,z,ne,e,mA,⟨od,es,ep,e2,c⟩,r⟩:=x;exact ⟨ho _ d,z,ne,k _ _ (.inl rfl) e,mA,⟨od,es,ep,k _ _ (.inr d) e2,c⟩,r⟩
 | own y=>obtain ⟨ob,e⟩:=x; exact ⟨ob,k _ _ (.inl rfl) e⟩
 | xd fs=>obtain ⟨mA,⟨od,es,ep,e,c⟩,r⟩:=x; exact ⟨mA,⟨od,es,ep,k _ _ (.inl rfl) e,c⟩,r⟩
 | rng lo hi=>obtain ⟨t,u,v,e⟩:=x; exact ⟨t,u,v,k _ _ (.inl rfl) e⟩
 | frz ob u ih=>obtain ⟨e,q⟩:=x; exact ⟨k _ _ (.inl rfl) e,ih q⟩
 | tbl ps =>
   have e:h.get? a=some { cls:=.none,data:=.fields ps }:=x;show h'.get? a=some { cls:=.none,data:=.fields ps };exact k a _ (.inl rfl) e
 | met f y =>
   have e:h.get? a=some (W.methodObj (.ref f) (.ref y)):=x;show h'.get? a=some (W.methodObj (.ref f) (.ref y));exact k a _ (.inl rfl) e
 | ext φ=>obtain ⟨p,⟨o,e⟩,st⟩:=x; exact ⟨st _ _ p fun o q=>k _ _ (.inl rfl) q,⟨o,k _ _ (.inl rfl) e⟩,st⟩
theorem HOk.lt (x:HOk P w H h) (e:H a=some o):a < h.objs.size:=(x a o e).lt
theorem HOk.fresh (x:HOk P w H h) (e:h.objs.size≤a):H a=none:=by
 cases q:H a with
 | none=>rfl
 | some u=>exact absurd (wFq (x.lt q) e) (Nat.lt_irrefl _)
theorem HOk.kept (x:HOk P w H h) (k:∀ b u,h.get? b=some u→h'.get? b=some u):HOk P w H h':=fun a o e =>
 (x a o e).stay (fun b u _ q=>k b u q) (fun _ q=>q) fun _ _ q=>q
theorem HOk.laid (x:HOk P w H h) (k:∀ b u,h.get? b=some u→h'.get? b=some u) (hp:h.objs.size≤a) (new:bY P w (upd H a o) h' a o):HOk P w (upd H a o) h':=fun b u e=>by
 have hn:=x.fresh hp;by_cases hb:b=a
 · subst hb; rw [aJ] at e; cases e; exact new
 · rw [aC hb] at e;exact (x b u e).stay (fun c v _ q=>k c v q) (fun c q=>by rw [aC (aH q hn)]; exact q) fun c xs q=>by rw [aC (aH q hn)]; exact q
end
def Rd (H:Hp) (a:Addr) (u:HO):Prop:=H a=some u∨∃ o,H a=some (.frz o u)
theorem Rd.ok {P:Program} {w:World} {H:Hp} {h:Heap} {a:Addr} {u:HO} (r:Rd H a u) (x:HOk P w H h):bY P w H h a u:=by
 rcases r with r | ⟨o,r⟩
 · exact x a u r
 · obtain ⟨_,q⟩:=x a _ r;exact q
noncomputable def Mut:Option HO→Prop
 | some (.lst _)=>True
 | some (.dK _)=>True
 | some (.dT _)=>True
 | some (.set _ _)=>True
 | some (.ins _ _ _)=>True
 | some (.ext _)=>True
 | _=>False
section
variable {P:Program} {w:World} {H:Hp} {h h':Heap} {x e:Addr} {o':HO}
theorem HOk.write (ok:HOk P w H h) (mu:Mut (H x)) (he:e=x∨H e=some (.own x)) (k:∀ b u,b≠e→h.get? b=some u→h'.get? b=some u) (heo:∃ u,h'.get? e=some u)
   (new:bY P w (upd H x o') h' x o'):HOk P w (upd H x o') h':=fun b u q=>by
 have nown:∀ c y,H c=some (.own y)→c≠x:=fun c y r z=>by subst z; rw [r] at mu; exact mu
 have ntup:∀ c xs,H c=some (.tup xs)→c≠x:=fun c xs r z=>by subst z; rw [r] at mu; exact mu
 by_cases hb:b=x
 · subst hb; rw [aJ] at q; cases q; exact new
 · rw [aC hb] at q;by_cases hbe:b=e
   · have q':H b=some (.own x):=by
       rcases he with z | z
       · exact absurd (hbe.trans z) hb
       · rw [hbe]; exact z
     rw [q] at q'; cases q';obtain ⟨v,hv⟩:=heo;exact ⟨v,by rw [hbe]; exact hv⟩
   · refine (ok b u q).stay (fun c v hc r=>k c v ?_ r) (fun c r=>by rw [aC (nown c b r)]; exact r) fun c xs r=>by rw [aC (ntup c xs r)]; exact r
     rcases hc with rfl | hc
     · exact hbe
     · rintro rfl;rcases he with z | z
       · exact nown c b hc z
       · rw [hc] at z; cases z; exact hb rfl
end
structure Un (fs ex:List Addr) (H H':Hp) (h h':Heap):Prop where
 keep:∀ b o,h.get? b=some o→H b=none→b∉ fs→b∉ ex→h'.get? b=some o
 slot:∀ b o,h.get? b=some o→H b=none→b∈fs→b∉ ex→∃ sl,h'.get? b=some { o with slots:=sl }
 free:∀ b o,h.get? b=some o→H b=none→b∉ ex→H' b=none
 there:∀ b o,h.get? b=some o→b∉ ex→∃ o',h'.get? b=some o'
 tups:∀ b xs,H b=some (.tup xs)→H' b=some (.tup xs)
 frzs:∀ b o u,H b=some (.frz o u)→H' b=some (.frz o u)
 tbls:∀ b ps,H b=some (.tbl ps)→∃ more,H' b=some (.tbl (ps ++ more))
section
variable {fs fs' ex ex':List Addr} {H H1 H2:Hp} {h h1 h2 h':Heap} {a x e:Addr} {o:HO}
theorem Un.any (u:Un fs ex H H1 h h1) {b:Addr} {ob:Obj} (q:h.get? b=some ob) (n:H b=none) (hx:b∉ ex):∃ sl,h1.get? b=some { ob with slots:=sl }:=by
 by_cases hb:b∈fs
 · exact u.slot b ob q n hb hx
 · exact ⟨ob.slots,u.keep b ob q n hb hx⟩
theorem Un.kept (k:∀ b u,h.get? b=some u→h'.get? b=some u):Un fs ex H H h h' :=
 ⟨fun b ob q _ _ _=>k b ob q,fun b ob q _ _ _=>⟨ob.slots,k b ob q⟩,fun _ _ _ n _=>n,fun b ob q _=>⟨ob,k b ob q⟩,fun _ _ q=>q,fun _ _ _ q=>q,fun _ ps q=>⟨#[],by rw [q]; simp⟩⟩
theorem Un.refl:Un fs ex H H h h:=Un.kept fun _ _ q=>q
theorem Un.laid (k:∀ b u,h.get? b=some u→h'.get? b=some u) (hp:h.objs.size≤a) (hn:H a=none):Un fs ex H (upd H a o) h h' where
 keep:=fun b u q _ _ _=>k b u q
 slot:=fun b u q _ _ _=>⟨u.slots,k b u q⟩
 free:=fun b u q n _=>by rw [aC (Nat.ne_of_lt (wFq (Heap.lt_size q) hp))]; exact n
 there:=fun b u q _=>⟨u,k b u q⟩
 tups:=fun b xs q=>by rw [aC (aH q hn)]; exact q
 frzs:=fun b u xs q=>by rw [aC (aH q hn)]; exact q
 tbls:=fun b ps q=>⟨#[],by rw [aC (aH q hn),q]; simp⟩
theorem Un.write (mu:Mut (H x)) (he:e=x∨H e=some (.own x)) (k:∀ b u,b≠e→h.get? b=some u→h'.get? b=some u) (heo:∃ u,h'.get? e=some u):Un fs ex H (upd H x o) h h':=by
 have hx:∀ b,H b=none→b≠x:=fun b n z=>by subst z; rw [n] at mu; exact mu
 have hb:∀ b,H b=none→b≠e:=fun b n z=>by
   subst z;rcases he with r | r
   · exact hx b n r
   · rw [n] at r; cases r
 have hm:∀ b u,H b=some u→¬Mut (some u)→b≠x:=fun b u q nm z=>by subst z; rw [q] at mu; exact nm mu
 refine ⟨fun b u q n _ _=>k b u (hb b n) q,fun b u q n _ _=>⟨u.slots,k b u (hb b n) q⟩,fun b u q n _=>by rw [aC (hx b n)]; exact n,fun b u q _=>?_,
   fun b xs q=>by rw [aC (hm b _ q fun z=>z)]; exact q,fun b u xs q=>by rw [aC (hm b _ q fun z=>z)]; exact q,fun b ps q=>⟨#[],by rw [aC (hm b _ q fun z=>z),q]; simp⟩⟩
 by_cases hbe:b=e
 · subst hbe; exact heo
 · exact ⟨u,k b u hbe q⟩
end
noncomputable def trk (h:Heap) (H:Hp):List Addr:=(List.range h.objs.size).filter fun a=>(H a).isSome
noncomputable def AQ (h:Heap) (H:Hp):Heap:=W.hideAll h (trk h H)
theorem LC (h:Heap) (H:Hp):(AQ h H).objs.size=h.objs.size:=W.hideAll_size _ _
theorem SK {h:Heap} {H:Hp} {b:Addr} {o:Obj} (e:h.get? b=some o) (n:H b=none):(AQ h H).get? b=some o :=
 W.hideAll_get _ e fun hm=>by
   have q:(H b).isSome=true:=(List.mem_filter.mp hm).2;rw [n] at q; simp at q
theorem aAi {h:Heap} {H:Hp} {b:Addr} {o:Obj} (e:(AQ h H).get? b=some o):h.get? b=some o∧H b=none:=by
 have e':h.get? b=some o:=W.of_hideAll (trk h H) e;refine ⟨e', ?_⟩;cases q:H b with
 | none=>rfl
 | some x =>
   have hm:b∈trk h H:=List.mem_filter.mpr ⟨List.mem_range.mpr (Heap.lt_size e'),by simp [q]⟩;have z:(AQ h H).get? b=none:=W.hideAll_none (trk h H) hm;rw [z] at e; cases e
noncomputable def ZY (g h:Heap) (L:Addr):List (Addr×Obj):=(List.range h.objs.size).filterMap fun a=>if a=L∨(g.get? a).isSome=true then none else (h.get? a).map fun o=>(a,o)
noncomputable def bA (g h:Heap) (L d:Addr):List (Addr×Obj):=(ZY g h L).filter fun p=>decide (p.1≠d)
structure Mod (K:W.Frag) (mg:Str→Option Value) (base:Heap):Prop where
 kin:K.In base
 glob:base.Ns mainGlobals mg
 blt:∃ mb,base.Ns builtinsNs mb∧∀ x:Str,x≠"__name__"→mb x=bootBuiltins x
 nolimit:base.NoLimit
structure Cx where
 prog:Program
 w:World
 K:W.Frag
 mg:Str→Option Value
 base:Heap
 A:Around
 N:List Str
 s₀:Shared
 H₀:Hp
 env:Env
 outer:List Env
 stack:List Env
 ex:List Addr
 fn:Str→Bool
 calm:Bool
 pn:List (Addr×Obj)
 xe:Value→Shared→Prop
noncomputable def frs (l:List Env):List Addr:=l.filterMap (·.frame)
noncomputable abbrev Cx.fs (X:Cx):List Addr:=frs X.outer
def Vis (sc:Scope) (x:Str):Prop:=sc.names.lookup x=some .local∨sc.names.lookup x=some .cell∨sc.names.lookup x=some .free
def Loc (sc:Scope) (x:Str):Prop:=sc.names.lookup x=some .local∨sc.names.lookup x=some .cell
noncomputable def aIE (env:Env) (h:Heap) (m:Str→Option Value) (x:Str) (u:Value):Prop :=
 (env.kindOf x=some .local∧m x=some u)∨((env.kindOf x=some .cell∨env.kindOf x=some .free)∧∃ c,env.cells.lookup x=some c∧h.IsCell c (some u))
structure Cx.Ok (X:Cx):Prop where
 mod:Mod X.K X.mg X.base
 kind:X.env.scope.kind= .function
 glob:X.env.globals=mainGlobals
 blt:X.env.builtins=builtinsNs
 above:X.s₀.heap.objs.size≤X.env.locals
 inj:∀ x y c,X.env.cells.lookup x=some c→X.env.cells.lookup y=some c→x=y
 has:∀ x,(X.env.kindOf x=some .cell∨X.env.kindOf x=some .free)→∃ c,X.env.cells.lookup x=some c
 cab:∀ x c,X.fn x=true→X.env.cells.lookup x=some c→X.s₀.heap.objs.size≤c
 hd:X.calm=true→X.A.handled=none
 frames:X.A.frames=some X.stack
 stk:X.stack=X.outer∨(X.stack=X.env :: X.outer∧X.env.frame=some X.env.locals)
 exf:∀ b∈X.ex,b≠X.env.locals∧∀ x c,X.env.cells.lookup x=some c→c≠b
 bs:∀ b o,X.base.get? b=some o→X.s₀.heap.get? b=some o∧X.H₀ b=none
 bsz:X.base.objs.size≤X.s₀.heap.objs.size
 noex:∀ b o,X.base.get? b=some o→b∉ X.ex
 exfs:∀ b∈X.ex,b∉ X.fs
 funs:X.s₀.heap.FunFrames X.base X.outer
 frf:∀ b∈X.fs,X.H₀ b=none
structure Inv (X:Cx) (pins:List (Addr×Obj)) (σ:List (Option V)) (H:Hp) (s:Shared):Prop where
 ok:X.Ok
 os:s.os=X.s₀.os
 bare:AllBare s.gens
 base:Un X.fs X.ex X.H₀ H X.s₀.heap s.heap
 loc:∃ m,s.heap.Ns X.env.locals m∧∀ (i:Nat) (x:Str) (v:V),X.N[i]? =some x→σ[i]? =some (some v)→Vis X.env.scope x→∃ u,aP v u∧aIE X.env s.heap m x u
 cell:∀ x c,X.env.cells.lookup x=some c→∃ v,s.heap.IsCell c v
 free:H X.env.locals=none
 freeC:∀ x c,X.env.cells.lookup x=some c→H c=none
 pin:∀ p∈X.pn ++ pins,s.heap.get? p.1=some p.2∧H p.1=none∧p.1≠X.env.locals∧p.1∉ X.fs∧∀ v,p.2.data≠.cell v
 hok:HOk X.prog X.w H s.heap
 len:σ.length=X.N.length
section
variable {X:Cx} {pins:List (Addr×Obj)} {σ:List (Option V)} {H H':Hp} {s:Shared} {h':Heap}
theorem Cx.Ok.nofr (ok:X.Ok) {b:Addr} {o:Obj} (e:X.base.get? b=some o):b∉ X.fs:=fun hb=>by
 have:=(ok.funs.mem hb).1;rw [e] at this; cases this
theorem Inv.bs (I:Inv X pins σ H s):∀ b o,X.base.get? b=some o→s.heap.get? b=some o∧H b=none:=fun b o e =>
 ⟨I.base.keep b o (I.ok.bs b o e).1 (I.ok.bs b o e).2 (I.ok.nofr e) (I.ok.noex b o e),I.base.free b o (I.ok.bs b o e).1 (I.ok.bs b o e).2 (I.ok.noex b o e)⟩
theorem Inv.bk (I:Inv X pins σ H s):∀ b o,X.base.get? b=some o→s.heap.get? b=some o:=fun b o e=>(I.bs b o e).1
theorem Inv.mod (I:Inv X pins σ H s):Mod X.K X.mg X.base:=I.ok.mod
theorem Inv.kIn (I:Inv X pins σ H s):X.K.In s.heap:=I.ok.mod.kin.keeps I.bk
theorem Inv.fr (I:Inv X pins σ H s):∃ m,Fr X.base X.env.locals s.heap m :=
 let ⟨m,hn,_⟩:=I.loc
 ⟨m,hn,I.bk,Nat.le_trans I.ok.bsz I.ok.above⟩
theorem Inv.lt (I:Inv X pins σ H s):X.env.locals < s.heap.objs.size:=let ⟨_,hn,_⟩:=I.loc; hn.lt
theorem Inv.sz (I:Inv X pins σ H s):X.s₀.heap.objs.size≤s.heap.objs.size:=Nat.le_trans I.ok.above (Nat.le_of_lt I.lt)
theorem Inv.nofs (I:Inv X pins σ H s) {a:Addr} (h:s.heap.objs.size≤a):a∉ X.fs:=fun hb=>by
 obtain ⟨_,o,ho,_⟩:=I.ok.funs.mem hb;exact absurd (wFq (Heap.lt_size ho) (Nat.le_trans I.sz h)) (Nat.lt_irrefl _)
theorem Inv.cne (I:Inv X pins σ H s):∀ x c,X.env.cells.lookup x=some c→c≠X.env.locals:=fun x c e z=>by
 obtain ⟨v,o,ho,hd⟩:=I.cell x c e;obtain ⟨m,⟨o',es,ep,ho',hd',_⟩,_⟩:=I.loc;rw [z,ho'] at ho; cases ho; rw [hd'] at hd; cases hd
theorem Inv.funs (I:Inv X pins σ H s):s.heap.FunFrames X.base X.outer:=by
 have all:∀ (l:List Env),(∀ b∈frs l,b∈X.fs)→X.s₀.heap.FunFrames X.base l→s.heap.FunFrames X.base l:=by
   intro l;induction l with
   | nil=>intro _ _; trivial
   | cons env r ih =>
     intro hs hl;obtain ⟨hk,⟨L,o,hf,hn,ho,hd⟩,hr⟩:=hl;have hL:L∈X.fs:=hs L (by unfold frs; rw [List.filterMap_cons,hf]; exact wDq);obtain ⟨sl,e⟩:=I.base.slot L o ho (I.ok.frf L hL) hL fun z=>I.ok.exfs L z hL;exact ⟨hk,⟨L,_,hf,hn,e,hd⟩,ih (fun b hb=>hs b (by unfold frs; rw [List.filterMap_cons,hf]; exact wCq _ hb)) hr⟩
 exact all X.outer (fun _ hb=>hb) I.ok.funs
theorem Inv.stack (I:Inv X pins σ H s):s.heap.FunFrames X.base X.stack:=by
 rcases I.ok.stk with e | ⟨e,hf⟩
 · rw [e]; exact I.funs
 · rw [e];obtain ⟨m,hn,_⟩:=I.loc;refine .cons (by rw [I.ok.kind]; decide) hf hn ?_ I.funs;exact Heap.get?_none_of_le (Nat.le_trans I.ok.bsz I.ok.above)
theorem Inv.stkSub (I:Inv X pins σ H s):∀ b∈frs X.stack,b∈X.env.locals :: X.fs:=fun b hb=>by
 rcases I.ok.stk with e | ⟨e,hf⟩
 · rw [e] at hb; exact wCq _ hb
 · rw [e] at hb;unfold frs at hb;rw [List.filterMap_cons,hf] at hb;exact hb
theorem Inv.stkFree (I:Inv X pins σ H s):∀ b∈frs X.stack,H b=none:=fun b hb=>by
 rcases List.mem_cons.mp (I.stkSub b hb) with e | hb
 · rw [e]; exact I.free
 · obtain ⟨_,o,ho,_⟩:=I.ok.funs.mem hb;exact I.base.free b o ho (I.ok.frf b hb) fun z=>I.ok.exfs b z hb
theorem Inv.step {g':Array GenState} {t':Nat} {d':Drawn} {ch:List Addr} (I:Inv X pins σ H s)
   (hch:∀ b∈ch,(b∈X.ex∨X.s₀.heap.objs.size≤b)∧b≠X.env.locals∧(∀ x c,X.env.cells.lookup x=some c→c≠b)∧∀ p∈X.pn ++ pins,p.1≠b)
   (keep:∀ b o,b≠X.env.locals→b∉ X.fs→b∉ ch→s.heap.get? b=some o→H b=none→h'.get? b=some o)
   (slot:∀ b o,b≠X.env.locals→b∈X.fs→b∉ ch→s.heap.get? b=some o→H b=none→∃ sl,h'.get? b=some { o with slots:=sl }) (free:∀ b o,b∉ ch→s.heap.get? b=some o→H b=none→H' b=none)
   (there:∀ b o,b∉ ch→s.heap.get? b=some o→∃ o',h'.get? b=some o')
   (tups:∀ b xs,H b=some (.tup xs)→H' b=some (.tup xs)) (frzs:∀ b o u,H b=some (.frz o u)→H' b=some (.frz o u)) (tbls:∀ b ps,H b=some (.tbl ps)→∃ more,H' b=some (.tbl (ps ++ more)))
   (ns:∀ m,s.heap.Ns X.env.locals m→h'.Ns X.env.locals m) (hok:HOk X.prog X.w H' h') (hg:AllBare g') :
   Inv X pins σ H' { s with heap:=h',gens:=g',drawn:=d',toks:=t' }:=by
 have neL:∀ b o,X.s₀.heap.get? b=some o→b≠X.env.locals:=fun b o e=>Nat.ne_of_lt (wFq (Heap.lt_size e) I.ok.above);have neC:∀ b o,X.s₀.heap.get? b=some o→b∉ X.ex→b∉ ch:=fun b o e hx hb=>by
   rcases (hch b hb).1 with z | z
   · exact hx z
   · exact absurd (wFq (Heap.lt_size e) z) (Nat.lt_irrefl _)
 have cellK:∀ x c,X.env.cells.lookup x=some c→∀ v,s.heap.IsCell c v→h'.IsCell c v:=by
   rintro x c e v ⟨o,ho,hd⟩;have nch:c∉ ch:=fun z=>(hch c z).2.2.1 x c e rfl;by_cases hc:c∈X.fs
   · obtain ⟨sl,q⟩:=slot c o (I.cne x c e) hc nch ho (I.freeC x c e);exact ⟨_,q,hd⟩
   · exact ⟨o,keep c o (I.cne x c e) hc nch ho (I.freeC x c e),hd⟩
 refine ⟨I.ok,I.os,hg,⟨fun b o e n hb hx=>?_,fun b o e n hb hx=>?_,fun b o e n hx=>?_,fun b o e hx=>?_,fun b xs e=>tups b xs (I.base.tups b xs e),fun b o xs e=>frzs b o xs (I.base.frzs b o xs e),fun b ps e=>?_⟩, ?_,fun x c e=>?_, ?_,fun x c e=>?_,fun p hp=>?_,hok,I.len⟩
 · exact keep b o (neL b o e) hb (neC b o e hx) (I.base.keep b o e n hb hx) (I.base.free b o e n hx)
 · obtain ⟨sl,e1⟩:=I.base.slot b o e n hb hx;obtain ⟨sl',e2⟩:=slot b _ (neL b o e) hb (neC b o e hx) e1 (I.base.free b o e n hx);exact ⟨sl',e2⟩
 · obtain ⟨o',e1⟩:=I.base.there b o e hx;exact free b o' (neC b o e hx) e1 (I.base.free b o e n hx)
 · obtain ⟨o',e1⟩:=I.base.there b o e hx;exact there b o' (neC b o e hx) e1
 · obtain ⟨m1,e1⟩:=I.base.tbls b ps e;obtain ⟨m2,e2⟩:=tbls b _ e1;exact ⟨m1 ++ m2,by rw [e2,Array.append_assoc]⟩
 · obtain ⟨m,hn,hl⟩:=I.loc;refine ⟨m,ns m hn,fun i x v e1 e2 e3=>?_⟩;obtain ⟨u,r,l⟩:=hl i x v e1 e2 e3;refine ⟨u,r, ?_⟩;rcases l with l | ⟨k,c,e,z⟩
   · exact .inl l
   · exact .inr ⟨k,c,e,cellK x c e _ z⟩
 · obtain ⟨v,z⟩:=I.cell x c e;exact ⟨v,cellK x c e v z⟩
 · obtain ⟨m,⟨o,_,_,ho,_⟩,_⟩:=I.loc;exact free _ o (fun z=>(hch _ z).2.1 rfl) ho I.free
 · obtain ⟨v,o,ho,hd⟩:=I.cell x c e;exact free c o (fun z=>(hch c z).2.2.1 x c e rfl) ho (I.freeC x c e)
 · obtain ⟨e,n,ne,nf,d⟩:=I.pin p hp;have nch:p.1∉ ch:=fun z=>(hch p.1 z).2.2.2 p hp rfl;exact ⟨keep p.1 p.2 ne nf nch e n,free p.1 p.2 nch e n,ne,nf,d⟩
theorem Inv.un {t':Nat} (I:Inv X pins σ H s) (u:Un X.fs [] H H' s.heap h') (hok:HOk X.prog X.w H' h'):Inv X pins σ H' { s with heap:=h',toks:=t' }:=by
 obtain ⟨m,⟨o,es,ep,ho,r⟩,_⟩:=id I.loc;obtain ⟨sl,hL⟩:=u.any ho I.free (by simp);exact I.step (g':=s.gens) (d':=s.drawn) (ch:=[]) (fun _ z=>nomatch z) (fun b o _ hb _ e n=>u.keep b o e n hb (by simp)) (fun b o _ hb _ e n=>u.slot b o e n hb (by simp)) (fun b o _ e n=>u.free b o e n (by simp)) (fun b o _ e=>u.there b o e (by simp)) u.tups u.frzs u.tbls (fun m' hm=>by
   obtain ⟨o',es',ep',ho',r'⟩:=hm;rw [ho] at ho'; cases ho';exact ⟨_,es',ep',hL,r'⟩) hok I.bare
theorem Inv.call {g':Array GenState} {t':Nat} {d':Drawn} {ch:List Addr} (I:Inv X pins σ H s) (u:Un (frs X.stack) ch H H' s.heap h') (hok:HOk X.prog X.w H' h') (hg:AllBare g')
   (hch:∀ b∈ch,(b∈X.ex∨X.s₀.heap.objs.size≤b)∧b≠X.env.locals∧(∀ x c,X.env.cells.lookup x=some c→c≠b)∧∀ p∈X.pn ++ pins,p.1≠b) :
   Inv X pins σ H' { s with heap:=h',gens:=g',drawn:=d',toks:=t' }:=by
 obtain ⟨m,⟨o,es,ep,ho,r⟩,_⟩:=id I.loc;obtain ⟨sl,hL⟩:=u.any ho I.free fun z=>(hch _ z).2.1 rfl;exact I.step (ch:=ch) hch (fun b o hL hb hc e n=>u.keep b o e n (fun z=>(List.mem_cons.mp (I.stkSub b z)).elim hL hb) hc) (fun b o _ _ hc e n=>u.any e n hc) (fun b o hc e n=>u.free b o e n hc) (fun b o hc e=>u.there b o e hc) u.tups u.frzs u.tbls (fun m' hm=>by
   obtain ⟨o',es',ep',ho',r'⟩:=hm;rw [ho] at ho'; cases ho';exact ⟨_,es',ep',hL,r'⟩) hok hg
theorem Inv.turned {t':Nat} {it:Addr} (I:Inv X pins σ H s) (k:∀ b o,b≠it→s.heap.get? b=some o→h'.get? b=some o) (hn:H it=none) (hL:it≠X.env.locals)
   (h1:it∈X.ex∨X.s₀.heap.objs.size≤it) (h2:∀ x c,X.env.cells.lookup x=some c→c≠it) (h3:∀ p∈X.pn ++ pins,p.1≠it):Inv X pins σ H { s with heap:=h',toks:=t' }:=by
 have nit:∀ b u,H b=some u→b≠it:=fun b u e z=>by rw [z,hn] at e; cases e
 refine I.step (g':=s.gens) (d':=s.drawn) (ch:=[it]) (fun b hb=>?_) (fun b o _ _ hc e _=>k b o (fun z=>hc (by simp [z])) e) (fun b o _ _ hc e _=>⟨o.slots,k b o (fun z=>hc (by simp [z])) e⟩) (fun _ _ _ _ n=>n)
   (fun b o hc e=>⟨o,k b o (fun z=>hc (by simp [z])) e⟩) (fun _ _ e=>e) (fun _ _ _ e=>e) (fun b ps e=>⟨#[],by rw [e]; simp⟩) (fun m hm=>?_) (fun b u e=>?_) I.bare
 · have e:b=it:=by simpa using hb
   subst e;exact ⟨h1,hL,h2,h3⟩
 · obtain ⟨o,es,ep,ho,r⟩:=hm;exact ⟨o,es,ep,k _ o (Ne.symm hL) ho,r⟩
 · refine (I.hok b u e).stay (fun c v hc q=>k c v ?_ q) (fun _ q=>q) fun _ _ q=>q;rcases hc with z | z
   · rw [z]; exact nit b u e
   · exact nit c _ z
theorem Inv.tok (I:Inv X pins σ H s) (t:Nat):Inv X pins σ H { s with toks:=t }:=I.un (h':=s.heap) (t':=t) Un.refl I.hok
theorem Inv.kept {t':Nat} (I:Inv X pins σ H s) (k:∀ b u,s.heap.get? b=some u→h'.get? b=some u):Inv X pins σ H { s with heap:=h',toks:=t' }:=I.un (Un.kept k) (I.hok.kept k)
theorem Inv.laid {a:Addr} {o:HO} {t':Nat} (I:Inv X pins σ H s) (k:∀ b u,s.heap.get? b=some u→h'.get? b=some u) (hp:s.heap.objs.size≤a) (new:bY X.prog X.w (upd H a o) h' a o) :
   Inv X pins σ (upd H a o) { s with heap:=h',toks:=t' }:=I.un (Un.laid k hp (I.hok.fresh hp)) (I.hok.laid k hp new)
theorem Inv.write {x e:Addr} {o:HO} {t':Nat} (I:Inv X pins σ H s) (mu:Mut (H x)) (he:e=x∨H e=some (.own x)) (k:∀ b u,b≠e→s.heap.get? b=some u→h'.get? b=some u) (heo:∃ u,h'.get? e=some u)
   (new:bY X.prog X.w (upd H x o) h' x o):Inv X pins σ (upd H x o) { s with heap:=h',toks:=t' }:=I.un (Un.write mu he k heo) (I.hok.write mu he k heo new)
theorem Inv.weak {σ':List (Option V)} (I:Inv X pins σ H s) (hl:σ'.length=σ.length) (w:∀ (i:Nat) v,σ'[i]? =some (some v)→σ[i]? =some (some v)):Inv X pins σ' H s :=
 ⟨I.ok,I.os,I.bare,I.base,let ⟨m,hn,hl'⟩:=I.loc; ⟨m,hn,fun i x v e1 e2 e3=>hl' i x v e1 (w i v e2) e3⟩,I.cell,I.free,I.freeC,I.pin,I.hok,hl.trans I.len⟩
theorem Inv.pins_of {pins':List (Addr×Obj)} (I:Inv X pins σ H s) (h:∀ p∈pins',s.heap.get? p.1=some p.2∧H p.1=none∧p.1≠X.env.locals∧p.1∉ X.fs∧∀ v,p.2.data≠.cell v):Inv X pins' σ H s :=
 ⟨I.ok,I.os,I.bare,I.base,I.loc,I.cell,I.free,I.freeC,fun p hp=>(List.mem_append.mp hp).elim (fun z=>I.pin p (List.mem_append_left _ z)) (h p),I.hok,I.len⟩
theorem tE {N:List Str} (hN:N.Nodup) {i j:Nat} {x:Str} (a:N[i]? =some x) (b:N[j]? =some x):i=j:=by
 obtain ⟨h1,e1⟩:=List.getElem?_eq_some_iff.mp a;obtain ⟨h2,e2⟩:=List.getElem?_eq_some_iff.mp b;exact (List.getElem_inj hN).mp (e1.trans e2.symm)
theorem OA {M:Model} {A:Around} {E:Value→Shared→Prop} {i:Nat} {x:Str} {v:V} {u:Value} {Q:Unit→Shared→Prop} (I:Inv X pins σ H s) (hN:X.N.Nodup) (hi:X.N[i]? =some x) (hx:Loc X.env.scope x) (r:aP v u)
   (h:∀ s',Inv X pins (σ.set i (some v)) H s'→(∃ a,Heap.SameBut a s.heap s'.heap∧(a=X.env.locals∨X.env.cells.lookup x=some a))→Q () s') (hf:X.fn x=true∨X.env.scope.names.lookup x=some .local:=by first | exact .inl rfl | exact .inr rfl | assumption):wpAny M A (storeName X.env x u) Q E s:=by
 obtain ⟨m,hn,hl⟩:=id I.loc;have hcls:(X.env.scope.kind == .class || (X.env.scope.kind == .module && X.env.locals != X.env.globals))=false:=by rw [I.ok.kind]; rfl
 have hiσ:i < σ.length:=by rw [I.len]; exact (List.getElem?_eq_some_iff.mp hi).1
 have cne:=I.cne;have tracked:∀ {a:Addr} {h':Heap},(∃ o,s.heap.get? a=some o∧H a=none)→Heap.SameBut a s.heap h'→HOk X.prog X.w H h':=fun {a h'} ha hs b ob e=>by
   obtain ⟨_,_,hfree⟩:=ha;refine (I.hok b ob e).stay (fun c w' hc q=>(hs.2 c ?_).trans q) (fun _ q=>q) fun _ _ q=>q;rintro rfl;rcases hc with rfl | hc
   · rw [hfree] at e; cases e
   · rw [hfree] at hc; cases hc
 rcases hx with hk | hk
 · refine wpAny_storeName_local hk hn (fun h' hn' hs=>?_) hcls;obtain ⟨oL,_,_,hoL,_⟩:=id hn;refine h _ ⟨I.ok,I.os,I.bare,⟨fun b o e n hb hx=>?_,fun b o e n hb hx=>?_,I.base.free,fun b o e hx=>?_,I.base.tups,I.base.frzs,I.base.tbls⟩,⟨_,hn',fun j y v' e1 e2 e3=>?_⟩,fun y c e=>?_,I.free,I.freeC,fun p hp=>?_,tracked ⟨oL,hoL,I.free⟩ hs,by simpa using I.len⟩ ⟨_,hs,.inl rfl⟩
   · exact (hs.2 b (Nat.ne_of_lt (wFq (Heap.lt_size e) I.ok.above))).trans (I.base.keep b o e n hb hx)
   · obtain ⟨sl,e1⟩:=I.base.slot b o e n hb hx;exact ⟨sl,(hs.2 b (Nat.ne_of_lt (wFq (Heap.lt_size e) I.ok.above))).trans e1⟩
   · obtain ⟨o',e1⟩:=I.base.there b o e hx;exact ⟨o',(hs.2 b (Nat.ne_of_lt (wFq (Heap.lt_size e) I.ok.above))).trans e1⟩
   · by_cases hj:j=i
     · subst hj;rw [hi] at e1; cases e1;rw [List.getElem?_set_self hiσ] at e2;cases e2;exact ⟨u,r,.inl ⟨hk,by simp⟩⟩
     · rw [List.getElem?_set_ne (Ne.symm hj)] at e2;obtain ⟨u',r',q⟩:=hl j y v' e1 e2 e3;refine ⟨u',r', ?_⟩;rcases q with ⟨k,e⟩ | ⟨k,c,e,z⟩
       · refine .inl ⟨k, ?_⟩;have:y≠x:=fun e=>hj (tE hN e1 (e▸hi));simp [this,e]
       · exact .inr ⟨k,c,e,z.sameBut hs (cne y c e)⟩
   · obtain ⟨w',z⟩:=I.cell y c e;exact ⟨w',z.sameBut hs (cne y c e)⟩
   · obtain ⟨e,n,ne,nf,d⟩:=I.pin p hp;exact ⟨(hs.2 p.1 ne).trans e,n,ne,nf,d⟩
 · have hfn:X.fn x=true:=by
     rcases hf with z | z
     · exact z
     · rw [z] at hk; cases hk
   obtain ⟨c,hc⟩:=I.ok.has x (.inl hk);obtain ⟨w',z⟩:=I.cell x c hc;refine wpAny_storeName_cell I.ok.kind hk hc z (fun h' hc' hs=>?_);obtain ⟨oc,hoc,hocd⟩:=id z;refine h { s with heap:=h' } ⟨I.ok,I.os,I.bare,⟨fun b o e n hb hx=>?_,fun b o e n hb hx=>?_,I.base.free,fun b o e hx=>?_,I.base.tups,I.base.frzs,I.base.tbls⟩,⟨m,hn.sameBut hs (Ne.symm (cne x c hc)),fun j y v' e1 e2 e3=>?_⟩,fun y c' e=>?_,I.free,I.freeC,fun p hp=>?_,tracked ⟨oc,hoc,I.freeC x c hc⟩ hs,by simpa using I.len⟩ ⟨c,hs,.inr hc⟩
   · exact (hs.2 b (Nat.ne_of_lt (wFq (Heap.lt_size e) (I.ok.cab x c hfn hc)))).trans (I.base.keep b o e n hb hx)
   · obtain ⟨sl,e1⟩:=I.base.slot b o e n hb hx;exact ⟨sl,(hs.2 b (Nat.ne_of_lt (wFq (Heap.lt_size e) (I.ok.cab x c hfn hc)))).trans e1⟩
   · obtain ⟨o',e1⟩:=I.base.there b o e hx;exact ⟨o',(hs.2 b (Nat.ne_of_lt (wFq (Heap.lt_size e) (I.ok.cab x c hfn hc)))).trans e1⟩
   · by_cases hj:j=i
     · subst hj;rw [hi] at e1; cases e1;rw [List.getElem?_set_self hiσ] at e2;cases e2;exact ⟨u,r,.inr ⟨.inl hk,c,hc,hc'⟩⟩
     · rw [List.getElem?_set_ne (Ne.symm hj)] at e2;obtain ⟨u',r',q⟩:=hl j y v' e1 e2 e3;refine ⟨u',r', ?_⟩;rcases q with q | ⟨k,c',e,z'⟩
       · exact .inl q
       · refine .inr ⟨k,c',e,z'.sameBut hs ?_⟩;rintro rfl;exact hj (tE hN e1 (I.ok.inj _ _ _ e hc▸hi))
   · by_cases hcc:c'=c
     · subst hcc; exact ⟨_,hc'⟩
     · obtain ⟨w2,z2⟩:=I.cell y c' e;exact ⟨w2,z2.sameBut hs hcc⟩
   · obtain ⟨e,n,ne,nf,d⟩:=I.pin p hp;refine ⟨(hs.2 p.1 ?_).trans e,n,ne,nf,d⟩;intro q;rw [q,hoc] at e;have q':oc=p.2:=Option.some.inj e;exact d w' (by rw [←q']; exact hocd)
theorem jZ {M:Model} {A:Around} {E:Value→Shared→Prop} {i:Nat} {x:Str} {v:V} {u:Value} {Q:Unit→Shared→Prop} (I:Inv X pins σ H s) (hN:X.N.Nodup) (hi:X.N[i]? =some x) (hx:Loc X.env.scope x) (r:aP v u)
   (h:∀ s',Inv X pins (σ.set i (some v)) H s'→Q () s') (hf:X.fn x=true∨X.env.scope.names.lookup x=some .local:=by first | exact .inl rfl | exact .inr rfl | assumption):wpAny M A (storeName X.env x u) Q E s :=
 OA I hN hi hx r (fun s' I' _=>h s' I') hf
theorem Inv.call' {s':Shared} {ch:List Addr} (I:Inv X pins σ H s) (ho:s'.os=s.os) (u:Un (frs X.stack) ch H H' s.heap s'.heap) (hok:HOk X.prog X.w H' s'.heap) (hg:AllBare s'.gens)
   (hch:∀ b∈ch,(b∈X.ex∨X.s₀.heap.objs.size≤b)∧b≠X.env.locals∧(∀ x c,X.env.cells.lookup x=some c→c≠b)∧∀ p∈X.pn ++ pins,p.1≠b):Inv X pins σ H' s':=by
 obtain ⟨h',g',d',t',o'⟩:=s';have e:o'=s.os:=ho;subst e;exact I.call (g':=g') (t':=t') (d':=d') u hok hg hch
end
noncomputable abbrev XK:=Value→Option Addr→Hp→Prop
noncomputable abbrev St:=List (Option V)
noncomputable abbrev VK:=V→Hp→Prop
noncomputable abbrev TE:=St→Hp→VK→Prop
noncomputable abbrev TT:=St→Hp→(Bool→Hp→Prop)→Prop
noncomputable abbrev TA:=St→Hp→(List V→Hp→Prop)→Prop
structure uT where
 nx:St→Hp→Prop
 rt:VK
 bk:St→Hp→Prop:=fun _ _=>False
 ct:St→Hp→Prop:=fun _ _=>False
noncomputable abbrev TS:=uT→St→Hp→Prop
def EP (X:Cx) (pins:List (Addr×Obj)) (σ:St) (Q:VK) (u:Value) (s':Shared):Prop:= ∃ v H',Inv X pins σ H' s'∧aP v u∧Q v H'
def TP (X:Cx) (pins:List (Addr×Obj)) (σ:St) (Q:Bool→Hp→Prop) (b:Bool) (s':Shared):Prop:= ∃ H',Inv X pins σ H' s'∧Q b H'
def AP (X:Cx) (pins:List (Addr×Obj)) (σ:St) (Q:List V→Hp→Prop) (us:List Value) (s':Shared):Prop:= ∃ vs H',Inv X pins σ H' s'∧aM vs us∧Q vs H'
noncomputable def SP (X:Cx) (pins:List (Addr×Obj)) (D:uT) (f:Flow) (s':Shared):Prop :=
 match f with
 | .next=>∃ σ' H',Inv X pins σ' H' s'∧D.nx σ' H'
 | .brk=>∃ σ' H',Inv X pins σ' H' s'∧D.bk σ' H'
 | .cont=>∃ σ' H',Inv X pins σ' H' s'∧D.ct σ' H'
 | .ret u=>∃ v σ' H',Inv X pins σ' H' s'∧aP v u∧D.rt v H'
noncomputable def PE (X:Cx) (e:Expr) (t:TE):Prop :=
 ∀ (pins:List (Addr×Obj)) (s:Shared) (σ:St) (H:Hp) (Q:VK),Inv X pins σ H s→t σ H Q→wpAny (model X.prog X.w) X.A (eval e X.env) (EP X pins σ Q) X.xe s
noncomputable def PT (X:Cx) (e:Expr) (t:TT):Prop :=
 ∀ (pins:List (Addr×Obj)) (s:Shared) (σ:St) (H:Hp) (Q:Bool→Hp→Prop),Inv X pins σ H s→t σ H Q→wpAny (model X.prog X.w) X.A (isTrue e X.env (eval e X.env)) (TP X pins σ Q) X.xe s
noncomputable def PW (X:Cx) (e:Expr) (t:TT):Prop :=
 ∀ (whole:Sem Value) (pins:List (Addr×Obj)) (s:Shared) (σ:St) (H:Hp) (Q:Bool→Hp→Prop),Inv X pins σ H s→t σ H Q→wpAny (model X.prog X.w) X.A (isTrue e X.env whole) (TP X pins σ Q) X.xe s
theorem PW.pt {X:Cx} {e:Expr} {t:TT} (h:PW X e t):PT X e t:=h _
noncomputable def PA (X:Cx) (es:List Expr) (t:TA):Prop :=
 ∀ (pos:Pos) (pins:List (Addr×Obj)) (s:Shared) (σ:St) (H:Hp) (Q:List V→Hp→Prop),Inv X pins σ H s→t σ H Q→wpAny (model X.prog X.w) X.A (spliced (backTo pos (starEach es X.env))) (AP X pins σ Q) X.xe s
noncomputable def PS (X:Cx) (st:Stmt) (t:TS):Prop :=
 ∀ (pins:List (Addr×Obj)) (s:Shared) (σ:St) (H:Hp) (D:uT),Inv X pins σ H s→t D σ H→wpAny (model X.prog X.w) X.A (exec st X.env) (SP X pins D) X.xe s
noncomputable def PSs (X:Cx) (st:List Stmt) (t:TS):Prop :=
 ∀ (pins:List (Addr×Obj)) (s:Shared) (σ:St) (H:Hp) (D:uT),Inv X pins σ H s→t D σ H→wpAny (model X.prog X.w) X.A (execs st X.env) (SP X pins D) X.xe s
theorem thn {α:Type} {t:Sem α} {Q Q':α→Shared→Prop} {M:Model} {A:Around} {E:Value→Shared→Prop} {s:Shared} (h:wpAny M A t Q E s) (hQ:∀ a s,Q a s→Q' a s):wpAny M A t Q' E s:=wpAny_mono h hQ fun _ _ x=>x
section
variable {X:Cx}
theorem bin {a b:Expr} {ta tb:TE} (ha:PE X a ta) (hb:PE X b tb) {pins:List (Addr×Obj)} {s:Shared} {σ:St} {H:Hp} {R:V→V→Hp→Prop} (I:Inv X pins σ H s) (h:ta σ H fun x H1=>tb σ H1 fun y H2=>R x y H2)
   {α:Type} {Q:α→Shared→Prop} {f:Value→Value→Sem α}
   (hf:∀ v u s2 x y H2,Inv X pins σ H2 s2→aP x v→aP y u→R x y H2→wpAny (model X.prog X.w) X.A (f v u) Q X.xe s2) :
   wpAny (model X.prog X.w) X.A (eval a X.env) (fun v s₁=>wpAny (model X.prog X.w) X.A (eval b X.env) (fun u s₂=>wpAny (model X.prog X.w) X.A (f v u) Q X.xe s₂) X.xe s₁) X.xe s:=by
 refine thn (ha pins s σ H _ I h) fun v s1 zz=>?_;obtain ⟨x,H1,I1,r1,q1⟩:=zz;refine thn (hb pins s1 σ H1 _ I1 q1) fun u s2 zz=>?_;obtain ⟨y,H2,I2,r2,q2⟩:=zz;exact hf v u s2 x y H2 I2 r1 r2 q2
def aFK (i:Nat):TE:=fun σ H Q=>∃ v,σ[i]? =some (some v)∧Q v H
def tC (v:V):TE:=fun _ H Q=>Q v H
theorem VU {i:Nat} {x:Str} {pos:Pos} (hN:X.N[i]? =some x) (hv:Vis X.env.scope x) (hd:(x == ("__debug__":Str))=false:=by decide) (hcd:(x == ("__classdict__":Str))=false:=by decide):PE X (.Name x pos) (aFK i):=by
 intro pins s σ H Q I h;obtain ⟨v,e,h⟩:=h;obtain ⟨m,hn,hl⟩:=I.loc;obtain ⟨u,r,l⟩:=hl i x v hN e hv;have fin:EP X pins σ Q u s:=⟨v,H,I,r,h⟩;rcases l with ⟨hk,hm⟩ | ⟨hk,c,hc,hcell⟩
 · exact wpAny_Name (wpAny_loadName_local I.ok.kind hk hn hm fin) hd
 · rcases hk with hk | hk
   · exact wpAny_Name (wpAny_loadName_cell I.ok.kind hk hc hcell fin) hd
   · exact wpAny_Name (wpAny_loadName_free I.ok.kind hk hc hcell fin hcd) hd
theorem aEh {i j pos}:PE X (.Constant (.int i) j pos) (tC (.int i)):=fun _ _ _ H _ I h=>wpAny_Constant_int ⟨.int i,H,I.tok _,⟨_,rfl⟩,h⟩
theorem aGD {b j pos}:PE X (.Constant (.bool b) j pos) (tC (.bl b)):=fun _ _ _ H _ I h=>Constant_bool ⟨.bl b,H,I,rfl,h⟩
theorem aDq {j pos}:PE X (.Constant .none j pos) (tC .non):=fun _ _ _ H _ I h=>Constant_none ⟨.non,H,I,rfl,h⟩
theorem aFa {x j pos}:PE X (.Constant (.str x) j pos) (tC (.str x)):=fun _ _ _ H _ I h=>Calls.Constant_str ⟨.str x,H,I.tok _,⟨_,rfl⟩,h⟩
def Gl (X:Cx) (x:Str):Prop:=X.env.kindOf x=some .globalImplicit
theorem fL {E:Value→Shared→Prop} {pins:List (Addr×Obj)} {s:Shared} {σ:St} {H:Hp} {x:Str} {u:Value} {pos:Pos} {Q:Value→Shared→Prop} (I:Inv X pins σ H s) (hg:Gl X x) (hm:X.mg x=some u) (h:Q u s)
   (hd:(x == ("__debug__":Str))=false:=by decide):wpAny (model X.prog X.w) X.A (eval (.Name x pos) X.env) Q E s :=
 Calls.Name_function_global I.ok.kind hg (Calls.loadGlobal_global (by rw [I.ok.glob]; exact I.mod.glob.keeps I.bk) hm h) hd
theorem mR {E:Value→Shared→Prop} {pins:List (Addr×Obj)} {s:Shared} {σ:St} {H:Hp} {x:Str} {u:Value} {pos:Pos} {Q:Value→Shared→Prop} (I:Inv X pins σ H s) (hg:Gl X x) (hm:X.mg x=none) (hv:bootBuiltins x=some u) (h:Q u s)
   (hn:x≠"__name__":=by decide) (hd:(x == ("__debug__":Str))=false:=by decide):wpAny (model X.prog X.w) X.A (eval (.Name x pos) X.env) Q E s:=by
 obtain ⟨mb,h1,h2⟩:=I.mod.blt;exact Calls.Name_function_global I.ok.kind hg (Calls.loadGlobal_builtin (by rw [I.ok.glob]; exact I.mod.glob.keeps I.bk) hm (by rw [I.ok.blt]; exact h1.keeps I.bk) ((h2 x hn).trans hv) h) hd
theorem aAN {x:Str} {v:V} {u:Value} {pos:Pos} (hg:Gl X x) (hm:X.mg x=some u) (r:aP v u) (hd:(x == ("__debug__":Str))=false:=by decide):PE X (.Name x pos) (tC v) :=
 fun _ _ _ H _ I h=>fL I hg hm ⟨v,H,I,r,h⟩ hd
theorem aAp {x:Str} {v:V} {u:Value} {pos:Pos} (hg:Gl X x) (hm:X.mg x=none) (hv:bootBuiltins x=some u) (r:aP v u) (hn:x≠"__name__":=by decide) (hd:(x == ("__debug__":Str))=false:=by decide):PE X (.Name x pos) (tC v) :=
 fun _ _ _ H _ I h=>mR I hg hm hv ⟨v,H,I,r,h⟩ hn hd
variable {a b:Expr} {ta tb:TE} {pos:Pos}
variable {tA tB':TT} {bA:List Expr}
def aHC (t u:TT):TT:=fun σ H Q=>t σ H fun c H1=>if c=true then u σ H1 Q else Q false H1
def tOr (t u:TT):TT:=fun σ H Q=>t σ H fun c H1=>if c=true then Q true H1 else u σ H1 Q
def aIK (t:TT):TT:=fun σ H Q=>t σ H fun c H1=>Q (!c) H1
theorem ZB (ha:PT X a tA):PW X (.BoolOp .And [a] pos) tA:=by
 intro wh pins s σ H Q I h;refine isTrue_and (thn (ha pins s σ H Q I h) fun c s1 e=>?_);cases c with
 | true=>exact isTrue_and_nil e
 | false=>exact e
theorem aE1 (ha:PT X a tA):PW X (.BoolOp .Or [a] pos) tA:=by
 intro wh pins s σ H Q I h;refine isTrue_or (thn (ha pins s σ H Q I h) fun c s1 e=>?_);cases c with
 | false=>exact isTrue_or_nil e
 | true=>exact e
theorem aD4 (ha:PT X a tA) (hb:PW X (.BoolOp .And (b :: bA) pos) tB'):PW X (.BoolOp .And (a :: b :: bA) pos) (aHC tA tB'):=by
 intro wh pins s σ H Q I h;refine isTrue_and (thn (ha pins s σ H _ I h) fun c s1 zz=>?_);obtain ⟨H1,I1,q1⟩:=zz;cases c with
 | true=>exact hb wh pins s1 σ H1 Q I1 q1
 | false=>exact ⟨H1,I1,q1⟩
theorem aH1 (ha:PT X a tA) (hb:PW X (.BoolOp .Or (b :: bA) pos) tB'):PW X (.BoolOp .Or (a :: b :: bA) pos) (tOr tA tB'):=by
 intro wh pins s σ H Q I h;refine isTrue_or (thn (ha pins s σ H _ I h) fun c s1 zz=>?_);obtain ⟨H1,I1,q1⟩:=zz;cases c with
 | true=>exact ⟨H1,I1,q1⟩
 | false=>exact hb wh pins s1 σ H1 Q I1 q1
theorem aCi (ha:PT X a tA):PT X (.UnaryOp .Not a pos) (aIK tA):=by
 intro pins s σ H Q I h;exact isTrue_not (ha pins s σ H (fun c H1=>Q (!c) H1) I h)
theorem aCR {op} {t:TE} (h:PE X a t):PE X (.BoolOp op [a] pos) t:=fun pins s σ H Q I hw=>BoolOp_one (h pins s σ H Q I hw)
end
noncomputable def SqL (K:W.Frag) (H:Hp) (a:Addr) (xs:List V):Prop :=
 Rd H a (.lst xs)∨
   ∃ (o:Obj) (its:Array Value) (n:Nat),K.lookup a=some o∧o.cls= .type "list"∧o.dict=none∧o.data= .seq its n∧its.size≤sizeLine∧aM xs its.toList
noncomputable def SqT (K:W.Frag) (H:Hp) (a:Addr) (xs:List V):Prop :=
 Rd H a (.tup xs)∨
   ∃ (o:Obj) (its:Array Value) (n:Nat),K.lookup a=some o∧o.cls= .type "tuple"∧o.data= .seq its n∧its.size≤sizeLine∧aM xs its.toList∧o.dict=none
noncomputable def aJA:Value→Option V
 | .none=>some .non
 | .bool b=>some (.bl b)
 | .int i _=>some (.int i)
 | .str x _=>some (.str x)
 | .bytes b _=>some (.byt b)
 | .float b _=>some (.flt b)
 | .ref a=>some (.ref a)
 | .type n=>some (.ty n)
 | _=>none
theorem aP.abs {x:V} {u:Value} (r:aP x u):aJA u=some x:=by
 cases x with
 | non=>cases r; rfl
 | bl _=>cases r; rfl
 | int _=>obtain ⟨t,rfl⟩:=r; rfl
 | str _=>obtain ⟨t,rfl⟩:=r; rfl
 | byt _=>obtain ⟨t,rfl⟩:=r; rfl
 | flt _=>obtain ⟨t,rfl⟩:=r; rfl
 | ref _=>cases r; rfl
 | ty _=>cases r; rfl
theorem aP.inj {x y:V} {u:Value} (r:aP x u) (q:aP y u):x=y:=Option.some.inj (r.abs.symm.trans q.abs)
theorem aM.inj:∀ {xs ys:List V} {us:List Value},aM xs us→aM ys us→xs=ys
 | _,_,_,.nil,.nil=>rfl
 | _,_,_,.cons r t,.cons r' t'=>by rw [r.inj r',aM.inj t t']
section
variable {X:Cx} {pins:List (Addr×Obj)} {σ:St} {H:Hp} {s:Shared} {a:Addr} {xs ys:List V}
theorem SqL.of {K:W.Frag} (h:H a=some (.lst xs)):SqL K H a xs:=.inl (.inl h)
theorem SqT.of {K:W.Frag} (h:H a=some (.tup xs)):SqT K H a xs:=.inl (.inl h)
theorem Inv.list (I:Inv X pins σ H s) (h:SqL X.K H a xs):∃ its:List Value,aM xs its∧PlainL s.heap a its.toArray∧xs.length≤sizeLine:=by
 rcases h with h | ⟨o,its,n,hk,hc,hd,hs,hz,r⟩
 · obtain ⟨z,its,n,r,e⟩:=h.ok I.hok;exact ⟨its,r,⟨_,n,e,rfl,rfl,rfl⟩,z⟩
 · refine ⟨its.toList,r,⟨o,n,I.kIn a o hk,hc,hd,by simpa using hs⟩, ?_⟩;have e:=r.length;simp only [Array.length_toList] at e;omega
theorem Inv.tuple (I:Inv X pins σ H s) (h:SqT X.K H a xs):∃ its:List Value,aM xs its∧IsTup s.heap a its.toArray∧xs.length≤sizeLine:=by
 rcases h with h | ⟨o,its,n,hk,hc,hs,hz,r,_⟩
 · obtain ⟨z,its,r,p⟩:=h.ok I.hok;exact ⟨its,r,p.1,z⟩
 · refine ⟨its.toList,r,⟨o,I.kIn a o hk,hc,n,by simpa using hs⟩, ?_⟩;have e:=r.length;simp only [Array.length_toList] at e;omega
theorem Inv.list_inj (I:Inv X pins σ H s) (h:SqL X.K H a xs) (h':SqL X.K H a ys):xs=ys:=by
 obtain ⟨its,r,⟨o,n,e,_,_,d⟩,_⟩:=I.list h;obtain ⟨its',r',⟨o',n',e',_,_,d'⟩,_⟩:=I.list h';rw [e] at e'; cases e';rw [d] at d';injection d' with d1 _;have:its=its':=by simpa using congrArg Array.toList d1
 subst this;exact r.inj r'
theorem Inv.tuple_inj (I:Inv X pins σ H s) (h:SqT X.K H a xs) (h':SqT X.K H a ys):xs=ys:=by
 obtain ⟨its,r,⟨o,e,_,n,d⟩,_⟩:=I.tuple h;obtain ⟨its',r',⟨o',e',_,n',d'⟩,_⟩:=I.tuple h';rw [e] at e'; cases e';rw [d] at d';injection d' with d1 _;have:its=its':=by simpa using congrArg Array.toList d1
 subst this;exact r.inj r'
end
noncomputable abbrev Cx.wish (X:Cx) (E:Value→Shared→Prop):Cx:={ X with xe:=E }
noncomputable abbrev Cx.nox (X:Cx):Cx:=X.wish fun _ _=>False
theorem Cx.Ok.wish {X:Cx} (ok:X.Ok) (E:Value→Shared→Prop):(X.wish E).Ok :=
 ⟨ok.mod,ok.kind,ok.glob,ok.blt,ok.above,ok.inj,ok.has,ok.cab,ok.hd,ok.frames,ok.stk,ok.exf,ok.bs,ok.bsz,ok.noex,ok.exfs,ok.funs,ok.frf⟩
theorem Cx.Ok.unwish {X:Cx} {E:Value→Shared→Prop} (ok:(X.wish E).Ok):X.Ok :=
 ⟨ok.mod,ok.kind,ok.glob,ok.blt,ok.above,ok.inj,ok.has,ok.cab,ok.hd,ok.frames,ok.stk,ok.exf,ok.bs,ok.bsz,ok.noex,ok.exfs,ok.funs,ok.frf⟩
section
variable {X:Cx} {pins:List (Addr×Obj)} {σ:St} {H:Hp} {s:Shared} {E:Value→Shared→Prop}
theorem Inv.wish (I:Inv X pins σ H s) (E:Value→Shared→Prop):Inv (X.wish E) pins σ H s:=⟨I.ok.wish E,I.os,I.bare,I.base,I.loc,I.cell,I.free,I.freeC,I.pin,I.hok,I.len⟩
theorem Inv.unwish (I:Inv (X.wish E) pins σ H s):Inv X pins σ H s:=⟨I.ok.unwish,I.os,I.bare,I.base,I.loc,I.cell,I.free,I.freeC,I.pin,I.hok,I.len⟩
theorem SP.unwish {D:uT} {f:Flow} {s':Shared} (h:SP (X.wish E) pins D f s'):SP X pins D f s':=by
 cases f with
 | next=>obtain ⟨σ',H',I,q⟩:=h; exact ⟨σ',H',I.unwish,q⟩
 | brk=>obtain ⟨σ',H',I,q⟩:=h; exact ⟨σ',H',I.unwish,q⟩
 | cont=>obtain ⟨σ',H',I,q⟩:=h; exact ⟨σ',H',I.unwish,q⟩
 | ret u=>obtain ⟨v,σ',H',I,r,q⟩:=h; exact ⟨v,σ',H',I.unwish,r,q⟩
theorem PSs.nox {st:List Stmt} {t:TS} (h:PSs X.nox st t):PSs X st t:=fun pins s σ H D I hw =>
 wpAny_mono (h pins s σ H D (I.wish _) hw) (fun _ _ q=>q.unwish) fun _ _ z=>False.elim z
end
section
variable {X:Cx} {st:Stmt} {bA:List Stmt} {t u:TS} {e:Expr} {te:TE} {pos:Pos}
def QS:TS:=fun D σ H=>D.nx σ H
def aIB (t u:TS):TS:=fun D σ H=>t { D with nx:=u D } σ H
theorem ZR:PSs X [] QS:=fun _ _ σ H _ I h=>wpAny_execs_nil ⟨σ,H,I,h⟩
theorem VM (h1:PS X st t) (h2:PSs X bA u):PSs X (st :: bA) (aIB t u):=by
 intro pins s σ H D I h;refine wpAny_execs_cons (thn (h1 pins s σ H { D with nx:=u D } I h) fun f s1 q=>?_);cases f with
 | next =>
   obtain ⟨σ',H',I',q⟩:=q;exact h2 pins s1 σ' H' D I' q
 | ret v=>exact q
 | brk=>exact q
 | cont=>exact q
theorem ZO (h1:PS X st t):PSs X [st] t:=by
 intro pins s σ H D I h;refine wpAny_execs_cons (thn (h1 pins s σ H D I h) fun f s1 q=>?_);cases f with
 | next=>exact wpAny_execs_nil q
 | ret v=>exact q
 | brk=>exact q
 | cont=>exact q
theorem aAo:PS X (.Pass pos) QS:=fun _ _ σ H _ I h=>wpAny_Pass ⟨σ,H,I,h⟩
theorem Inv.quiet {pins:List (Addr×Obj)} {σ:St} {H:Hp} {s:Shared} (I:Inv X pins σ H s):interactive X.env=false:=by simp [interactive,I.ok.kind]
theorem aE8 {x j pos pos'}:PS X (.Expr (.Constant (.str x) j pos) pos') QS:=fun _ s σ H _ I h=>wpAny_Expr (Calls.Constant_str (show SP X _ _ .next { s with toks:=s.toks + 1 } from ⟨σ,H,I.tok _,h⟩)) I.quiet
def aHx (te:TE):TS:=fun D σ H=>te σ H fun _ H1=>D.nx σ H1
theorem YQ (he:PE X e te) (hs:swapsWith e none pos.line X.env=pure false:=by rfl):PS X (.Expr e pos) (aHx te):=by
 intro pins s σ H D I h;exact wpAny_Expr_any (thn (he pins s σ H _ I h) <|by rintro v s1 ⟨x,H1,I1,r1,q1⟩;exact ⟨σ,H1,I1,q1⟩) I.quiet hs
def aIA (te:TE):TS:=fun D σ H=>te σ H D.rt
theorem aDM (he:PE X e te):PS X (.Return (some e) pos) (aIA te):=by
 intro pins s σ H D I h;exact wpAny_Return_some (thn (he pins s σ H _ I h) <|by rintro v s1 ⟨x,H1,I1,r1,q1⟩;exact ⟨x,σ,H1,I1,r1,q1⟩)
def aHY:TS:=fun D _ H=>D.rt .non H
theorem aAC:PS X (.Return none pos) aHY:=fun _ _ σ H _ I h=>wpAny_Return_none ⟨.non,σ,H,I,rfl,h⟩
def aI8 (c:TT) (t u:TS):TS:=fun D σ H=>c σ H fun b H1=>if b=true then t D σ H1 else u D σ H1
theorem aGX {c:Expr} {a b:List Stmt} {tc:TT} (hc:PT X c tc) (ha:PSs X a t) (hb:PSs X b u):PS X (.If c a b pos) (aI8 tc t u):=by
 intro pins s σ H D I h;refine wpAny_If (thn (hc pins s σ H _ I h) fun d s1 zz=>?_);obtain ⟨H1,I1,q1⟩:=zz;cases d with
 | true=>exact ha pins s1 σ H1 D I1 q1
 | false=>exact hb pins s1 σ H1 D I1 q1
def UJ:TS:=fun _ _ _=>False
theorem VH:PS X st UJ:=fun _ _ _ _ _ _ h=>h.elim
theorem NA {sts:List Stmt}:PSs X sts UJ:=fun _ _ _ _ _ _ h=>h.elim
end
noncomputable abbrev TG:=V→St→Hp→(St→Hp→Prop)→Prop
noncomputable abbrev TGs:=List V→St→Hp→(St→Hp→Prop)→Prop
noncomputable def PG (X:Cx) (target:Expr) (t:TG):Prop :=
 ∀ (pins:List (Addr×Obj)) (s:Shared) (σ:St) (H:Hp) (v:V) (u:Value) (Q:St→Hp→Prop),Inv X pins σ H s→aP v u→t v σ H Q→
   wpAny (model X.prog X.w) X.A (assign target X.env u) (fun _ s'=>∃ σ' H',Inv X pins σ' H' s'∧Q σ' H') X.xe s
noncomputable def PGs (X:Cx) (ts:List Expr) (t:TGs):Prop :=
 ∀ (pins:List (Addr×Obj)) (s:Shared) (σ:St) (H:Hp) (vs:List V) (us:List Value) (Q:St→Hp→Prop),Inv X pins σ H s→aM vs us→t vs σ H Q→
   wpAny (model X.prog X.w) X.A (assignInOrder ((assignEach ts X.env).map (·.2)) us) (fun _ s'=>∃ σ' H',Inv X pins σ' H' s'∧Q σ' H') X.xe s
noncomputable abbrev aAE:=V→V→V→Hp→(Hp→Prop)→Prop
noncomputable def aCz (X:Cx) (t:aAE):Prop :=
 ∀ (pins:List (Addr×Obj)) (s:Shared) (σ:St) (H:Hp) (o i v:V) (ov iv u:Value) (Q:Hp→Prop),Inv X pins σ H s→aP o ov→aP i iv→aP v u→t o i v H Q→
   wpAny (model X.prog X.w) X.A (setItem ov iv u) (fun _ s'=>∃ H',Inv X pins σ H' s'∧Q H') X.xe s
section
variable {X:Cx} {pos:Pos}
def XH (i:Nat):TG:=fun v σ H Q=>Q (σ.set i (some v)) H
theorem JN {i:Nat} {x:Str} (hN:X.N.Nodup) (hi:X.N[i]? =some x) (hx:Loc X.env.scope x) (hf:X.fn x=true∨X.env.scope.names.lookup x=some .local:=by first | exact .inl rfl | exact .inr rfl | assumption):PG X (.Name x pos) (XH i):=by
 intro pins s σ H v u Q I r h;exact wpAny_assign_Name (jZ I hN hi hx r (fun s' I'=>⟨_,H,I',h⟩) hf)
noncomputable def aJF:TGs:=fun vs σ H Q=>vs=[]∧Q σ H
noncomputable def aGx (t:TG) (u:TGs):TGs:=fun vs σ H Q=>∃ v r,vs=v :: r∧t v σ H fun σ' H'=>u r σ' H' Q
theorem YW:PGs X [] aJF:=by
 intro pins s σ H vs us Q I r h;obtain ⟨e,h⟩:=h;subst e;cases r;exact assignInOrder_nil ⟨σ,H,I,h⟩
theorem RK {e:Expr} {es:List Expr} {t:TG} {u:TGs} (h1:PG X e t) (h2:PGs X es u)
   (hs:(assignEach (e :: es) X.env).map (·.2)=assign e X.env :: (assignEach es X.env).map (·.2):=by rfl):PGs X (e :: es) (aGx t u):=by
 intro pins s σ H vs us Q I r h;obtain ⟨v,vr,e1,h⟩:=h;subst e1;cases r with
 | cons r rr =>
   rw [hs];refine assignInOrder_cons (thn (h1 pins s σ H _ _ _ I r h) fun _ s1 zz=>?_);obtain ⟨σ1,H1,I1,q1⟩:=zz;exact h2 pins s1 σ1 H1 _ _ Q I1 rr q1
def aIC (K:W.Frag) (n:Nat) (t:TGs):TG:=fun v σ H Q=>∃ a xs,v= .ref a∧SqT K H a xs∧xs.length=n∧t xs σ H Q
theorem aEo {es:List Expr} {k:Nat} {t:TGs} {n:Nat} (hc:X.calm=true) (h:PGs X es t)
   (hn:(assignEach es X.env).length=n:=by rfl) (hst:(assignEach es X.env).findIdx? (·.1)=none:=by rfl):PG X (.Tuple es k pos) (aIC X.K n t):=by
 intro pins s σ H v u Q I r hw;obtain ⟨a,xs,e1,hq,hl,hw⟩:=hw;subst e1;cases r;obtain ⟨its,rv,ht,hz⟩:=I.tuple hq;refine assign_Tuple_tuple (I.ok.hd hc) ht (by simp [hn,←hl,rv.length]) hst fun h' hx=>?_;have I1:Inv X pins σ H { s with heap:=h' }:=I.kept (t':=s.toks) fun b o e=>hx b o (Nat.ne_of_lt (Heap.lt_size e)) e;exact h pins _ σ H xs _ Q I1 (by simpa using rv) hw
def aJo (to ti:TE) (t:aAE):TG:=fun v σ H Q=>to σ H fun o H1=>ti σ H1 fun i H2=>t o i v H2 fun H3=>Q σ H3
theorem aC2 {o i:Expr} {to ti:TE} {t:aAE} (ho:PE X o to) (hi:PE X i ti) (hs:aCz X t)
   (ha:∀ v,assign (.Subscript o i pos) X.env v=(do
     let ov ←holding [v] (eval o X.env)
     let iv ←holding [v,ov] (eval i X.env)
     standAt pos
     holding [v,ov,iv] (setItem ov iv v)
     release [v,ov,iv] []):=by intro _; rfl):PG X (.Subscript o i pos) (aJo to ti t):=by
 intro pins s σ H v u Q I r h;rw [ha];refine wAq (wpAny_holding (thn (ho pins s σ H _ I h) fun ov s1 zz=>?_));obtain ⟨x,H1,I1,r1,q1⟩:=zz;refine wAq (wpAny_holding (thn (hi pins s1 σ H1 _ I1 q1) fun iv s2 zz=>?_));obtain ⟨y,H2,I2,r2,q2⟩:=zz;refine wAq (wpAny_standAt (wAq (wpAny_holding (thn (hs pins s2 σ H2 x y v ov iv u _ I2 r1 r2 r q2) fun _ s3 zz=>?_))));obtain ⟨H3,I3,q3⟩:=zz;exact wpAny_release ⟨σ,H3,I3,q3⟩
def aCv (te:TE) (g:TG):TS:=fun D σ H=>te σ H fun x H1=>g x σ H1 D.nx
theorem XQ {tg e:Expr} {te:TE} {g:TG} (he:PE X e te) (hg:PG X tg g) (hs:swapsWithSole [tg] e pos.line X.env=pure false:=by rfl) (hw:swappedStores [tg] e X.env=pure none:=by rfl)
   (h1:(assignEach [tg] X.env).map (·.2)=[assign tg X.env]:=by rfl):PS X (.Assign [tg] e pos) (aCv te g):=by
 intro pins s σ H D I h;refine wpAny_Assign_stores (thn (he pins s σ H _ I h) fun v s1 zz=>?_) hs hw;obtain ⟨x,H1,I1,r1,q1⟩:=zz;rw [h1];exact thn (hg pins s1 σ H1 x v _ I1 r1 q1) fun _ s2 q=>q
def aJg (i j:Nat) (ta:TA):TS:=fun D σ H=>ta σ H fun vs H1=>∃ v w,vs=[v,w]∧D.nx ((σ.set i (some v)).set j (some w)) H1
theorem aCD {i j:Nat} {x y:Str} {a b:Expr} {ta:TA} {px py pt:Pos} {kt k2 pt2} (hc:X.calm=true) (hN:X.N.Nodup) (hi:X.N[i]? =some x) (hj:X.N[j]? =some y) (hij:i≠j)
   (hx:X.env.scope.names.lookup x=some .local) (hy:X.env.scope.names.lookup y=some .local) (ha:PA X [a,b] ta)
   (hw:swappedStores [.Tuple [.Name x px,.Name y py] kt pt] (.Tuple [a,b] k2 pt2) X.env=pure (some [x,y]))
   (hs:swapsWithSole [.Tuple [.Name x px,.Name y py] kt pt] (.Tuple [a,b] k2 pt2) pos.line X.env=pure false:=by rfl) :
   PS X (.Assign [.Tuple [.Name x px,.Name y py] kt pt] (.Tuple [a,b] k2 pt2) pos) (aJg i j ta):=by
 intro pins s σ H D I h;rw [exec_Assign_arm];refine wAq (wpAny_standAt ?_);rw [hs];refine wAq (wBq ?_);rw [if_neg (by decide)];refine wAq (Tuple_ (thn (ha _ pins s σ H _ I h) fun us s1 zz=>?_));obtain ⟨vs,H1,I1,r1,q1⟩:=zz;obtain ⟨v,w,e1,q1⟩:=q1;subst e1;obtain ⟨u1,u2,rfl,rv,rw'⟩:∃ u1 u2,us=[u1,u2]∧aP v u1∧aP w u2:=by
   cases r1 with
   | cons p q =>
     cases q with
     | cons p' q' =>
       cases q';exact ⟨_,_,rfl,p,p'⟩
 refine wpAny_newObj_type ?_ (by show 2≤sizeLine; decide);have I2:Inv X pins σ H1 { s1 with heap:=s1.heap.push { cls:=.type "tuple",data:=.seq [u1,u2].toArray } }:=I1.kept (t':=s1.toks) fun b o e=>wEq _ e;rw [hw];refine wAq (wBq ?_);show wpAny (model X.prog X.w) X.A (do rule "assign.swapped-stores"; let items ←unpackItems (.ref s1.heap.objs.size) 2 none; assignInOrder [fun v=>bindName X.env y v,fun v=>bindName X.env x v] items.reverse; pure Flow.next) _ _ _;refine wAq (wpAny_rule (wAq (unpackItems_tuple (items:= #[u1,u2]) (I.ok.hd hc) (IsTup.new s1.heap _) fun h' hx'=>?_)));have I3:=I2.kept (h':=h') (t':=s1.toks) fun b o e=>hx' b o (Nat.ne_of_lt (Heap.lt_size e)) e;show wpAny _ _ (assignInOrder [fun v=>bindName X.env y v,fun v=>bindName X.env x v] [u2,u1] >>= fun _=>pure Flow.next) _ _ _;refine wAq (assignInOrder_cons (wpAny_bindName (jZ I3 hN hj (.inl hy) rw' (fun s2 I4=>?_) (.inr hy))));refine assignInOrder_cons (wpAny_bindName (jZ I4 hN hi (.inl hx) rv (fun s3 I5=>assignInOrder_nil (wBq ?_)) (.inr hx)));rw [List.set_comm _ _ (Ne.symm hij)] at I5;exact ⟨_,H1,I5,q1⟩
end
section
variable {X:Cx} {pos:Pos}
def aD2 (c:TT) (tb:TS):TS:=fun D σ H=>∃ W:Nat→St→Hp→Prop,(∃ m,W m σ H)∧∀ m σ H,W m σ H→
 c σ H fun b H1=>if b=true then ∃ N:St→Hp→Prop,(∀ σ' H',N σ' H'→∃ m',m' < m∧W m' σ' H')∧tb { D with nx:=N,ct:=N,bk:=D.nx } σ H1 else D.nx σ H1
theorem RI {c:Expr} {body:List Stmt} {tc:TT} {tb:TS} (hp:PassesOwn (model X.prog X.w) X.A X.env X.xe) (hc:PT X c tc) (hb:PSs X body tb):PS X (.While c body [] pos) (aD2 tc tb):=by
 intro pins s σ H D I h;obtain ⟨W,⟨m0,w0⟩,turn⟩:=h;refine wpAny_While (codeAny_whileLoop (fun n s'=>∃ σ' H',Inv X pins σ' H' s'∧W n σ' H') ?_ m0 ⟨σ,H,I,w0⟩);rintro n s1 ⟨σ1,H1,I1,w1⟩;refine wpAny_passesOwn hp (thn (hc pins s1 σ1 H1 _ I1 (turn n σ1 H1 w1)) fun b s2 zz=>?_);obtain ⟨H2,I2,q2⟩:=zz;cases b with
 | true =>
   obtain ⟨N,hN,q2⟩:=q2;rw [if_pos rfl];refine wpAny_passesOwn hp (thn (hb pins s2 σ1 H2 _ I2 q2) fun f s3 q3=>?_);cases f with
   | next =>
     obtain ⟨σ3,H3,I3,n3⟩:=q3;obtain ⟨m',hm,w3⟩:=hN σ3 H3 n3;exact ⟨m',hm,σ3,H3,I3,w3⟩
   | cont =>
     obtain ⟨σ3,H3,I3,n3⟩:=q3;obtain ⟨m',hm,w3⟩:=hN σ3 H3 n3;exact ⟨m',hm,σ3,H3,I3,w3⟩
   | brk=>exact q3
   | ret v=>exact q3
 | false =>
   rw [if_neg Bool.false_ne_true];exact wpAny_execs_nil ⟨σ1,H2,I2,q2⟩
end
structure It where
 go:Nat→Hp→Prop
 yld:Nat→Hp→V→Hp→Prop
 stop:Nat→Hp→Prop
noncomputable def vV (X:Cx) (pins:List (Addr×Obj)) (H:Hp) (b:Addr):Prop :=
 H b=none∧b≠X.env.locals∧b∉ X.fs∧(b∈X.ex∨X.s₀.heap.objs.size≤b)∧(∀ x c,X.env.cells.lookup x=some c→c≠b)∧∀ p∈X.pn ++ pins,p.1≠b
theorem Inv.fpOk {X:Cx} {pins:List (Addr×Obj)} {σ:St} {H H':Hp} {s:Shared} {b:Addr} (I:Inv X pins σ H s) (hb:s.heap.objs.size≤b) (hn:H' b=none):vV X pins H' b:=by
 refine ⟨hn,Nat.ne_of_gt (wFq I.lt hb),I.nofs hb,.inr (Nat.le_trans I.sz hb),fun x c e z=>?_,fun p hp z=>?_⟩
 · obtain ⟨v,q⟩:=I.cell x c e;exact absurd (wFq q.lt (by rw [z]; exact hb)) (Nat.lt_irrefl _)
 · exact absurd (wFq (Heap.lt_size (I.pin p hp).1) (by rw [z]; exact hb)) (Nat.lt_irrefl _)
structure EL (P:Program) (w:World) (K:W.Frag) (tg:Expr) (J:It) (fp:List Addr) (it:Addr) (tn:Nat→Heap→Prop):Prop where
 mem:it∈fp
 obj:∀ i h,tn i h→∀ b∈fp,∃ o,h.get? b=some o∧∀ v,o.data≠.cell v
 keep:∀ i h h',tn i h→(∀ b∈fp,∀ o,h.get? b=some o→h'.get? b=some o)→tn i h'
 item :∀ (X:Cx),X.prog=P→X.w=w→X.K=K→X.calm=true→∀ (i:Nat) (pins:List (Addr×Obj)) (s:Shared) (σ:St) (H:Hp) (E:Value→Shared→Prop),Inv X pins σ H s→(∀ b∈fp,vV X pins H b)→tn i s.heap→J.go i H→
   wpAny (model P w) X.A (pyNext (.ref it)) (fun r s1=>∃ u,r=some u∧
     wpAny (model P w) X.A (letOwnedTupleGo tg (.ref it) u) (fun _ s2=>∃ x H',Inv X pins σ H' s2∧aP x u∧J.yld i H x H'∧tn (i + 1) s2.heap∧∀ b∈fp,H' b=none) E s1) E s
 done:∀ (X:Cx),X.prog=P→X.w=w→X.K=K→X.calm=true→∀ (i:Nat) (pins:List (Addr×Obj)) (s:Shared) (σ:St) (H:Hp) (E:Value→Shared→Prop),Inv X pins σ H s→(∀ b∈fp,vV X pins H b)→tn i s.heap→J.stop i H→
   wpAny (model P w) X.A (pyNext (.ref it)) (fun r s1=>r=none∧Inv X pins σ H s1) E s
 self:∀ (A:Around) (i:Nat) (s:Shared) (Q:Value→Shared→Prop) (E:Value→Shared→Prop),tn i s.heap→Q (.ref it) s→wpAny (model P w) A (pyIter (.ref it)) Q E s
noncomputable abbrev TI:=St→Hp→(It→Hp→Prop)→Prop
noncomputable def PIE (X:Cx) (pins:List (Addr×Obj)) (σ:St) (tg:Expr) (R:It→Hp→Prop) (itv:Value) (s2:Shared):Prop :=
 ∃ (it:Addr) (fp:List Addr) (tn:Nat→Heap→Prop) (J:It) (H':Hp),itv= .ref it∧Inv X pins σ H' s2∧EL X.prog X.w X.K tg J fp it tn∧tn 0 s2.heap∧(∀ b∈fp,vV X pins H' b)∧R J H'
noncomputable def PI (X:Cx) (tg iter:Expr) (wi:TI):Prop :=
 ∀ (pins:List (Addr×Obj)) (s:Shared) (σ:St) (H:Hp) (R:It→Hp→Prop),Inv X pins σ H s→wi σ H R→
   wpAny (model X.prog X.w) X.A (eval iter X.env) (fun v s1=>wpAny (model X.prog X.w) X.A (pyIter v) (PIE X pins σ tg R) X.xe s1) X.xe s
theorem VB {M:Model} {A:Around} {E:Value→Shared→Prop} {s:Shared} {tg:Expr} {it:Addr} {u:Value} {o:Obj} {n:String} {vs:Array Value} {Q:Unit→Shared→Prop} (ho:s.heap.get? it=some o) (hc:o.cls= .type n) (hd:o.data= .fields vs)
   (hn: ["enumerate","zip","dict_itemiterator","dict_reverseitemiterator","odict_iterator","itertools.zip_longest","itertools.pairwise"].contains n=false) (hQ:Q () s):wpAny M A (letOwnedTupleGo tg (.ref it) u) Q E s:=by
 unfold letOwnedTupleGo;cases tg <;> first
   | exact wBq hQ
   | (cases u <;> first
       | exact wBq hQ
       | (refine wAq (wpAny_load ho ?_)
          rw [hc,hd];show wpAny M A (if (["enumerate","zip","dict_itemiterator","dict_reverseitemiterator","odict_iterator","itertools.zip_longest","itertools.pairwise"].contains n && vs[0]? == some (rawInt _))=true then _ else _) Q E s;rw [if_neg (by intro h; rw [hn,Bool.false_and] at h; cases h)];exact wBq hQ))
noncomputable def Itl (K:W.Frag) (a:Addr):It :=
 ⟨fun i H=>∃ xs x,SqL K H a xs∧xs[i]? =some x,fun i H x H'=>H'=H∧∀ xs,SqL K H a xs→xs[i]? =some x,fun i H=>∃ xs,SqL K H a xs∧xs.length≤i⟩
noncomputable def Itt (K:W.Frag) (a:Addr):It :=
 ⟨fun i H=>∃ xs x,SqT K H a xs∧xs[i]? =some x,fun i H x H'=>H'=H∧∀ xs,SqT K H a xs→xs[i]? =some x,fun i H=>∃ xs,SqT K H a xs∧xs.length≤i⟩
noncomputable def Itr (lo:Int) (n:Nat):It:=⟨fun i _=>i < n,fun i H x H'=>H'=H∧x= .int (lo + i),fun i _=>n≤i⟩
theorem MR {P:Program} {w:World} {K:W.Frag} {tg:Expr} (a it:Addr):EL P w K tg (Itl K a) [it] it (fun i h=>h.IsListIter it a i) where
 mem:=by simp
 obj:=fun i h st b hb=>by
   have e:b=it:=by simpa using hb
   subst e;obtain ⟨o,e,c,d⟩:=st;exact ⟨o,e,fun v z=>by rw [d] at z; cases z⟩
 keep:=fun i h h' st k=>st.at fun o e=>k it (by simp) o e
 item:=by
   intro X hP hw hK hc i pins s σ H E I hf st hg;subst hP hw hK;obtain ⟨xs,x,hq,hx⟩:=hg;obtain ⟨its,rv,p,hz⟩:=I.list hq;obtain ⟨u,hu,ru⟩:=rv.get hx;obtain ⟨f0,f1,f2,f3,f4,f5⟩:=hf it (by simp);refine wpAny_pyNext_list_item st p.isList (x:=u) (by simpa using hu) fun h' st' sb=>?_;have I1:Inv X pins σ H { s with heap:=h' }:=I.turned (t':=s.toks) (fun b o hb e=>(sb.2 b hb).trans e) f0 f1 f3 f4 f5;obtain ⟨o,e,c,d⟩:=id st';exact ⟨u,rfl,VB (s:={ s with heap:=h' }) e c d (by decide) ⟨x,H,I1,ru,⟨rfl,fun ys hy=>by rw [I.list_inj hy hq]; exact hx⟩,st',fun b hb=>(hf b hb).1⟩⟩
 done:=by
   intro X hP hw hK hc i pins s σ H E I hf st hg;subst hP hw hK;obtain ⟨xs,hq,hx⟩:=hg;obtain ⟨its,rv,p,hz⟩:=I.list hq;obtain ⟨f0,f1,f2,f3,f4,f5⟩:=hf it (by simp);have hl:=rv.length;exact wpAny_pyNext_list_end (I.ok.hd hc) st p.isList (by simp; omega) fun h' eb=>⟨rfl,I.turned (t':=s.toks) (fun b o hb e=>eb b o hb e) f0 f1 f3 f4 f5⟩
 self:=fun _ _ _ _ _ st h=>wpAny_pyIter_listiter st h
theorem ES {P:Program} {w:World} {K:W.Frag} {tg:Expr} (a it:Addr):EL P w K tg (Itt K a) [it] it (fun i h=>h.IsTupleIter it a i) where
 mem:=by simp
 obj:=fun i h st b hb=>by
   have e:b=it:=by simpa using hb
   subst e;obtain ⟨o,e,c,d⟩:=st;exact ⟨o,e,fun v z=>by rw [d] at z; cases z⟩
 keep:=fun i h h' st k=>st.at fun o e=>k it (by simp) o e
 item:=by
   intro X hP hw hK hc i pins s σ H E I hf st hg;subst hP hw hK;obtain ⟨xs,x,hq,hx⟩:=hg;obtain ⟨its,rv,p,hz⟩:=I.tuple hq;obtain ⟨u,hu,ru⟩:=rv.get hx;obtain ⟨f0,f1,f2,f3,f4,f5⟩:=hf it (by simp);refine wpAny_pyNext_tuple_item st (show s.heap.IsTuple a its.toArray from p) (x:=u) (by simpa using hu) fun h' st' sb=>?_;have I1:Inv X pins σ H { s with heap:=h' }:=I.turned (t':=s.toks) (fun b o hb e=>(sb.2 b hb).trans e) f0 f1 f3 f4 f5;obtain ⟨o,e,c,d⟩:=id st';exact ⟨u,rfl,VB (s:={ s with heap:=h' }) e c d (by decide) ⟨x,H,I1,ru,⟨rfl,fun ys hy=>by rw [I.tuple_inj hy hq]; exact hx⟩,st',fun b hb=>(hf b hb).1⟩⟩
 done:=by
   intro X hP hw hK hc i pins s σ H E I hf st hg;subst hP hw hK;obtain ⟨xs,hq,hx⟩:=hg;obtain ⟨its,rv,p,hz⟩:=I.tuple hq;obtain ⟨f0,f1,f2,f3,f4,f5⟩:=hf it (by simp);have hl:=rv.length;exact wpAny_pyNext_tuple_end (I.ok.hd hc) st (show s.heap.IsTuple a its.toArray from p) (by simp; omega) fun h' eb=>⟨rfl,I.turned (t':=s.toks) (fun b o hb e=>eb b o hb e) f0 f1 f3 f4 f5⟩
 self:=fun _ _ _ _ _ st h=>wpAny_pyIter_tupleiter st h
theorem EF {P:Program} {w:World} {K:W.Frag} {tg:Expr} (it:Addr) (lo:Int) (n:Nat):EL P w K tg (Itr lo n) [it] it (fun i h=>IsRangeIter h it (lo + (i:Nat) * 1) ((n:Int) - (i:Nat)) 1) where
 mem:=by simp
 obj :=fun i h st b hb=>by
   have e:b=it:=by simpa using hb
   subst e;exact ⟨_,st,fun v z=>by
     have z':Data.fields _=Data.cell v:=z;cases z'⟩
 keep:=fun i h h' st k=>k it (by simp) _ st
 item:=by
   intro X hP hw hK hc i pins s σ H E I hf st hg;subst hP hw hK;obtain ⟨f0,f1,f2,f3,f4,f5⟩:=hf it (by simp);have W:=Walks.range (prog:=X.prog) (w:=X.w) (I.ok.hd hc) it lo 1 n;refine W.item i s _ _ hg st fun v h' tk hv st' kk=>?_;obtain ⟨t,rfl⟩:=hv;have I1:Inv X pins σ H { s with heap:=h',toks:=tk }:=I.turned (fun b o hb e=>kk b o (by simpa using hb) e) f0 f1 f3 f4 f5;refine ⟨_,rfl,VB (s:={ s with heap:=h',toks:=tk }) (n:="range_iterator") st' rfl rfl (by decide) ⟨.int (lo + i),H,I1,⟨t, ?_⟩,⟨rfl,rfl⟩,st',fun b hb=>(hf b hb).1⟩⟩;rw [Int.mul_one]
 done:=by
   intro X hP hw hK hc i pins s σ H E I hf st hg;subst hP hw hK;obtain ⟨f0,f1,f2,f3,f4,f5⟩:=hf it (by simp);exact wpAny_pyNext_range_end (I.ok.hd hc) st (by have:n≤i:=hg; omega) fun h' eb=>⟨rfl,I.turned (t':=s.toks) (fun b o hb e=>eb b o hb e) f0 f1 f3 f4 f5⟩
 self:=fun _ _ _ _ _ st h=>wpAny_pyIter_rangeiter st h
section
variable {X:Cx} {tg:Expr}
theorem CN {pins:List (Addr×Obj)} {σ:St} {H:Hp} {s:Shared} {R:It→Hp→Prop} {E:Value→Shared→Prop} {lo hi:Int} {t u v:Tok} {tk:Nat} (I:Inv X pins σ H s) (h1: -(2 ^ 62)≤lo) (h2:lo < 2 ^ 62) (h3: -(2 ^ 62)≤hi) (h4:hi < 2 ^ 62)
   (q:R (Itr lo (hi - lo).toNat) H):wpAny (model X.prog X.w) X.A (pyIter (.ref s.heap.objs.size)) (PIE X pins σ tg R) E { s with heap:=s.heap.push { cls:=.type "range",data:=.fields #[.int lo t,.int hi u,.int 1 v] },toks:=tk }:=by
 refine wpAny_pyIter_range (IsRange.new ..) (small_one h1 h2 h3 h4) ?_;have I1:Inv X pins σ H { s with heap:=s.heap.push { cls:=.type "range",data:=.fields #[.int lo t,.int hi u,.int 1 v] },toks:=tk }:=I.kept fun b o e=>wEq _ e;refine ⟨(s.heap.push { cls:=.type "range",data:=.fields #[.int lo t,.int hi u,.int 1 v] }).objs.size,[(s.heap.push { cls:=.type "range",data:=.fields #[.int lo t,.int hi u,.int 1 v] }).objs.size],_,_,H,rfl,
   I1.kept (t':=tk) fun b o e=>wEq _ e,EF _ lo (hi - lo).toNat, ?_,fun b hb=>?_,q⟩
 · have e1:lo + ((0:Nat):Int) * 1=lo:=by simp
   have e2:(((hi - lo).toNat:Nat):Int) - ((0:Nat):Int)=Builtin.Range.rangeSize lo hi 1:=by rw [rangeSize_one]; split <;> omega
   show IsRangeIter _ _ (lo + ((0:Nat):Int) * 1) ((((hi - lo).toNat:Nat):Int) - ((0:Nat):Int)) 1;rw [e1,e2];exact wGq _ rfl
 · have e:b=(s.heap.push { cls:=.type "range",data:=.fields #[.int lo t,.int hi u,.int 1 v] }).objs.size:=by simpa using hb
   subst e;exact I1.fpOk (Nat.le_refl _) (I1.hok.fresh (Nat.le_refl _))
def aFW (ta:TA):TI:=fun σ H R=>ta σ H fun vs H1=>∃ j:Int,vs=[.int j]∧ -(2 ^ 62)≤j∧j < 2 ^ 62∧R (Itr 0 j.toNat) H1
def aGA (ta:TA):TI:=fun σ H R=>ta σ H fun vs H1=>∃ i j:Int,vs=[.int i,.int j]∧(-(2 ^ 62)≤i∧i < 2 ^ 62∧ -(2 ^ 62)≤j∧j < 2 ^ 62)∧R (Itr i (j - i).toNat) H1
theorem MK {a:Expr} {ta:TA} {p pos:Pos} (hg:Gl X "range") (hm:X.mg "range"=none) (ha:PA X [a] ta) (hs:starEach [a] X.env=[(false,eval a X.env)]:=by rfl):PI X tg (.Call (.Name "range" p) [a] [] pos) (aFW ta):=by
 intro pins s σ H R I h;refine Call_ (mR I hg hm boot_range (PyProof.Rows.callWith_type1 (thn (ha pos pins s σ H _ I h) fun us s1 zz=>?_) hs rfl));obtain ⟨vs,H1,I1,r1,q1⟩:=zz;obtain ⟨j,e,q1,q2,q⟩:=q1;subst e;cases r1 with
 | cons r rr =>
   cases rr;obtain ⟨t,rfl⟩:=r;exact call_range_1 (CN I1 (by omega) (by omega) q1 q2 (by simpa using q))
theorem MF {a b:Expr} {ta:TA} {p pos:Pos} (hg:Gl X "range") (hm:X.mg "range"=none) (ha:PA X [a,b] ta) (hs:starEach [a,b] X.env=[(false,eval a X.env),(false,eval b X.env)]:=by rfl) (hs2:starEach [b] X.env=[(false,eval b X.env)]:=by rfl) :
   PI X tg (.Call (.Name "range" p) [a,b] [] pos) (aGA ta):=by
 intro pins s σ H R I h;refine Call_ (mR I hg hm boot_range (PyProof.Rows.callWith_type1 (thn (ha pos pins s σ H _ I h) fun us s1 ⟨vs,H1,I1,r1,q1⟩=>?_) (by rw [hs,hs2]) (by rw [hs2]; rfl)));obtain ⟨i,j,e,⟨q1,q2,q3,q4⟩,q⟩:=q1;subst e;cases r1 with
 | cons r rr =>
   cases rr with
   | cons r' rr =>
     cases rr;obtain ⟨t,rfl⟩:=r;obtain ⟨t',rfl⟩:=r';exact call_range_2 (CN I1 q1 q2 q3 q4 q)
def aI5 (wi:TI) (g:TG) (tb:TS):TS:=fun D σ H=>wi σ H fun J H1=>∃ W:Nat→Nat→St→Hp→Prop,(∃ m,W 0 m σ H1)∧∀ i m σ H,W i m σ H→
 (J.stop i H∧D.nx σ H)∨(J.go i H∧∃ N:St→Hp→Prop,(∀ σ' H',N σ' H'→∃ m',m' < m∧W (i + 1) m' σ' H')∧∀ x H',J.yld i H x H'→g x σ H' fun σ2 H2=>tb { D with nx:=N,ct:=N,bk:=D.nx } σ2 H2)
noncomputable def tG (fp:List Addr) (h:Heap):List (Addr×Obj):=fp.filterMap fun b=>(h.get? b).map fun o=>(b,o)
theorem iX {fp:List Addr} {h:Heap} {b:Addr} {o:Obj} (hb:b∈fp) (e:h.get? b=some o):(b,o)∈tG fp h:=List.mem_filterMap.mpr ⟨b,hb,by rw [e]; rfl⟩
theorem OF {fp:List Addr} {h:Heap} {p:Addr×Obj} (hp:p∈tG fp h):p.1∈fp∧h.get? p.1=some p.2:=by
 obtain ⟨b,hb,e⟩:=List.mem_filterMap.mp hp;cases q:h.get? b with
 | none=>rw [q] at e; cases e
 | some o =>
   rw [q] at e;have e':(b,o)=p:=Option.some.inj e;subst e';exact ⟨hb,q⟩
theorem Inv.pinned {pins:List (Addr×Obj)} {σ:St} {H:Hp} {s:Shared} {fp:List Addr} (I:Inv X pins σ H s) (hf:∀ b∈fp,vV X pins H b) (ho:∀ b∈fp,∃ o,s.heap.get? b=some o∧∀ v,o.data≠.cell v):Inv X (pins ++ tG fp s.heap) σ H s :=
 I.pins_of fun p hp=>(List.mem_append.mp hp).elim (fun z=>I.pin p (List.mem_append_right _ z)) fun z=>by
   obtain ⟨hb,e⟩:=OF z;obtain ⟨f0,f1,f2,_⟩:=hf p.1 hb;obtain ⟨o,e',d⟩:=ho p.1 hb;rw [e] at e'; cases e';exact ⟨e,f0,f1,f2,d⟩
theorem Inv.unpinned {pins pl:List (Addr×Obj)} {σ:St} {H:Hp} {s:Shared} (I:Inv X (pins ++ pl) σ H s):Inv X pins σ H s:=I.pins_of fun p hp=>I.pin p (List.mem_append_right _ (List.mem_append_left _ hp))
theorem aCq {iter:Expr} {body:List Stmt} {wi:TI} {g:TG} {tb:TS} {pos:Pos} (hp:PassesOwn (model X.prog X.w) X.A X.env X.xe) (hc:X.calm=true) (hi:PI X tg iter wi) (hg:PG X tg g) (hb:PSs X body tb)
   (hs:∀ x,foldedSetIterable iter X.env x=pure x:=by intro _; rfl):PS X (.For tg iter body [] pos) (aI5 wi g tb):=by
 intro pins s σ H D I h;refine wpAny_For (thn (hi pins s σ H _ I h) fun v s1 h1=>thn h1 fun itv s2 h2=>?_) hs;obtain ⟨it,fp,tn,J,H2,e,I2,T,st2,f2,W,⟨m0,w0⟩,turn⟩:=h2;subst e;have stat:∀ {H':Hp},(∀ b∈fp,H' b=none)→∀ b∈fp,vV X pins H' b:=fun hn b hb=>⟨hn b hb,(f2 b hb).2⟩;refine codeAny_forLoop_any (fun n s'=>∃ i σ' H',Inv X pins σ' H' s'∧tn i s'.heap∧(∀ b∈fp,H' b=none)∧W i n σ' H') ?_ m0 ⟨0,σ,H2,I2,st2,fun b hb=>(f2 b hb).1,w0⟩;rintro n s3 ⟨i,σ3,H3,I3,st3,fr3,w3⟩;rcases turn i n σ3 H3 w3 with ⟨stop,qn⟩ | ⟨go,N,hN,step⟩
 · refine wpAny_passesOwn hp (thn (T.done X rfl rfl rfl hc i pins s3 σ3 H3 X.xe I3 (stat fr3) st3 stop) fun r s4 zz=>?_);obtain ⟨hr,I4⟩:=zz;subst hr;exact wpAny_execs_nil ⟨σ3,H3,I4,qn⟩
 · refine wpAny_passesOwn hp (thn (T.item X rfl rfl rfl hc i pins s3 σ3 H3 X.xe I3 (stat fr3) st3 go) fun r s4 zz=>?_);obtain ⟨u,hr,h4⟩:=zz;subst hr;refine wpAny_passesOwn hp (thn h4 fun _ s5 zz=>?_);obtain ⟨x,H5,I5,r5,y5,st5,fr5⟩:=zz;have I5':=I5.pinned (stat fr5) (T.obj _ _ st5);refine wpAny_passesOwn hp (thn (hg _ s5 σ3 H5 x u _ I5' r5 (step x H5 y5)) fun _ s6 zz=>?_);obtain ⟨σ6,H6,I6,q6⟩:=zz;refine wpAny_passesOwn hp (thn (hb _ s6 σ6 H6 _ I6 q6) fun f s7 q7=>?_);have again:∀ {σ7:St} {H7:Hp},Inv X (pins ++ tG fp s5.heap) σ7 H7 s7→N σ7 H7→∃ m,m < n∧∃ i σ' H',Inv X pins σ' H' s7∧tn i s7.heap∧(∀ b∈fp,H' b=none)∧W i m σ' H':=fun {σ7 H7} I7 n7=>by
     obtain ⟨m',hm,w7⟩:=hN σ7 H7 n7;refine ⟨m',hm,i + 1,σ7,H7,I7.unpinned,T.keep _ _ _ st5 fun b hb o e=>(I7.pin (b,o) (List.mem_append_right _ (List.mem_append_right _ (iX hb e)))).1,fun b hb=>?_,w7⟩;obtain ⟨o,e,d⟩:=T.obj _ _ st5 b hb;exact (I7.pin (b,o) (List.mem_append_right _ (List.mem_append_right _ (iX hb e)))).2.1
   cases f with
   | next=>obtain ⟨σ7,H7,I7,n7⟩:=q7; exact again I7 n7
   | cont=>obtain ⟨σ7,H7,I7,n7⟩:=q7; exact again I7 n7
   | brk=>obtain ⟨σ7,H7,I7,q7⟩:=q7; exact ⟨σ7,H7,I7.unpinned,q7⟩
   | ret v=>obtain ⟨x7,σ7,H7,I7,r7,q7⟩:=q7; exact ⟨x7,σ7,H7,I7.unpinned,r7,q7⟩
end
noncomputable abbrev R2:=V→V→Hp→VK→Prop
noncomputable def OpR (X:Cx) (f:Value→Value→Sem Value) (r:R2):Prop :=
 ∀ (pins:List (Addr×Obj)) (s:Shared) (σ:St) (H:Hp) (x y:V) (v u:Value) (Q:VK),Inv X pins σ H s→aP x v→aP y u→r x y H Q→
   wpAny (model X.prog X.w) X.A (f v u) (EP X pins σ Q) X.xe s
noncomputable def UnR (X:Cx) (f:Value→Sem Value) (r:V→Hp→VK→Prop):Prop :=
 ∀ (pins:List (Addr×Obj)) (s:Shared) (σ:St) (H:Hp) (x:V) (v:Value) (Q:VK),Inv X pins σ H s→aP x v→r x H Q→
   wpAny (model X.prog X.w) X.A (f v) (EP X pins σ Q) X.xe s
noncomputable def bL (X:Cx) (f:Value) (r:List V→Hp→VK→Prop):Prop :=
 ∀ (pins:List (Addr×Obj)) (s:Shared) (σ:St) (H:Hp) (xs:List V) (us:List Value) (Q:VK),Inv X pins σ H s→aM xs us→r xs H Q→
   wpAny (model X.prog X.w) X.A (call f us) (EP X pins σ Q) X.xe s
noncomputable def aJL (X:Cx) (r:V→Hp→(Bool→Hp→Prop)→Prop):Prop :=
 ∀ (pins:List (Addr×Obj)) (s:Shared) (σ:St) (H:Hp) (x:V) (v:Value) (Q:Bool→Hp→Prop),Inv X pins σ H s→aP x v→r x H Q→
   wpAny (model X.prog X.w) X.A (truthy v) (TP X pins σ Q) X.xe s
def tOp (r:R2) (ta tb:TE):TE:=fun σ H Q=>ta σ H fun x H1=>tb σ H1 fun y H2=>r x y H2 Q
def tUn (r:V→Hp→VK→Prop) (ta:TE):TE:=fun σ H Q=>ta σ H fun x H1=>r x H1 Q
def rI (C:Int→Int→Prop) (g:Int→Int→V):R2:=fun x y H Q=>∃ i j,x= .int i∧y= .int j∧C i j∧Q (g i j) H
def rI0 (g:Int→Int→V):R2:=fun x y H Q=>∃ i j,x= .int i∧y= .int j∧Q (g i j) H
noncomputable def rU (g:Int→V):V→Hp→VK→Prop:=fun x H Q=>∃ i,x= .int i∧Q (g i) H
section
variable {X:Cx} {a b c:Expr} {ta tb tc:TE} {pos:Pos}
theorem aCu (ha:PE X a ta) (hb:PE X b tb) {pins:List (Addr×Obj)} {s:Shared} {σ:St} {H:Hp} {R:V→V→Hp→Prop} (I:Inv X pins σ H s)
   (h:ta σ H fun x H1=>tb σ H1 fun y H2=>R x y H2) {Q:Value→Shared→Prop} {f:Value→Value→Sem Value}
   (hf:∀ v u s2 x y H2,Inv X pins σ H2 s2→aP x v→aP y u→R x y H2→wpAny (model X.prog X.w) X.A (f v u) Q X.xe s2) :
   wpAny (model X.prog X.w) X.A (eval a X.env) (fun v s₁=>wpAny (model X.prog X.w) X.A (eval b X.env) (fun u s₂=>wpAny (model X.prog X.w) X.A (f v u) Q X.xe s₂) X.xe s₁) X.xe s:=by
 refine thn (ha pins s σ H _ I h) fun v s1 zz=>?_;obtain ⟨x,H1,I1,r1,q1⟩:=zz;refine thn (hb pins s1 σ H1 _ I1 q1) fun u s2 zz=>?_;obtain ⟨y,H2,I2,r2,q2⟩:=zz;exact hf v u s2 x y H2 I2 r1 r2 q2
theorem aHu {op:Operator} {r:R2} (ho:OpR X (binaryOp op) r) (ha:PE X a ta) (hb:PE X b tb):PE X (.BinOp a op b pos) (tOp r ta tb):=by
 intro pins s σ H Q I h;exact wpAny_BinOp (aCu ha hb I h fun v u s2 x y H2 I2 rx ry q=>ho pins s2 σ H2 x y v u Q I2 rx ry q)
theorem aGN {op:UnaryOp} {r:V→Hp→VK→Prop} (ho:UnR X (unaryOp op) r) (ha:PE X a ta):PE X (.UnaryOp op a pos) (tUn r ta):=by
 intro pins s σ H Q I h;exact UnaryOp_ (thn (ha pins s σ H _ I h) <|by rintro v s1 ⟨x,H1,I1,r1,q1⟩;exact ho pins s1 σ H1 x v Q I1 r1 q1)
theorem opI {f:Value→Value→Sem Value} {C:Int→Int→Prop} {g:Int→Int→Int}
   (rule:∀ (i j:Int) (t u:Tok) (s:Shared) (Q:Value→Shared→Prop) (E:Value→Shared→Prop),C i j→Q (.int (g i j) s.toks) { s with toks:=s.toks + 1 }→wpAny (model X.prog X.w) X.A (f (.int i t) (.int j u)) Q E s) :
   OpR X f (rI C fun i j=>.int (g i j)):=by
 intro pins s σ H x y v u Q I rx ry h;obtain ⟨i,j,rfl,rfl,hc,q⟩:=h;obtain ⟨t,rfl⟩:=rx;obtain ⟨t',rfl⟩:=ry;exact rule i j t t' s _ _ hc ⟨.int (g i j),H,I.tok _,⟨_,rfl⟩,q⟩
theorem aGW {f:Value→Value→Sem Value} {g:Int→Int→Int}
   (rule:∀ (i j:Int) (t u:Tok) (s:Shared) (Q:Value→Shared→Prop) (E:Value→Shared→Prop),Q (.int (g i j) s.toks) { s with toks:=s.toks + 1 }→wpAny (model X.prog X.w) X.A (f (.int i t) (.int j u)) Q E s) :
   OpR X f (rI0 fun i j=>.int (g i j)):=by
 intro pins s σ H x y v u Q I rx ry h;obtain ⟨i,j,rfl,rfl,q⟩:=h;obtain ⟨t,rfl⟩:=rx;obtain ⟨t',rfl⟩:=ry;exact rule i j t t' s _ _ ⟨.int (g i j),H,I.tok _,⟨_,rfl⟩,q⟩
theorem YX {f:Value→Value→Sem Value} {g:Int→Int→Bool}
   (rule:∀ (i j:Int) (t u:Tok) (s:Shared) (Q:Value→Shared→Prop) (E:Value→Shared→Prop),Q (.bool (g i j)) s→wpAny (model X.prog X.w) X.A (f (.int i t) (.int j u)) Q E s) :
   OpR X f (rI0 fun i j=>.bl (g i j)):=by
 intro pins s σ H x y v u Q I rx ry h;obtain ⟨i,j,rfl,rfl,q⟩:=h;obtain ⟨t,rfl⟩:=rx;obtain ⟨t',rfl⟩:=ry;exact rule i j t t' s _ _ ⟨.bl (g i j),H,I,rfl,q⟩
def MM (i j:Int):Prop:=0≤j∧j≤1000000∧i.natAbs < 2 ^ 64
theorem aEB:OpR X (binaryOp .Add) (rI0 fun i j=>.int (i + j)):=aGW fun _ _ _ _ _ _ _ q=>add_int q
theorem aEU:OpR X (binaryOp .Sub) (rI0 fun i j=>.int (i - j)):=aGW fun _ _ _ _ _ _ _ q=>sub_int q
theorem aE0:OpR X (binaryOp .Mod) (rI (fun _ j=>0 < j) fun i j=>.int (i % j)):=opI fun i j _ _ _ _ _ hc q=>by
 have h1:(0:Int) < j:=hc;exact mod_int' (by omega) (by rw [Int.fmod_eq_emod_of_nonneg i (by omega)]; exact q)
theorem aEV:OpR X (binaryOp .Pow) (rI MM fun i j=>.int (i ^ j.toNat)):=opI fun _ _ _ _ _ _ _ hc q=>pow_int_small hc.1 hc.2.1 hc.2.2 q
theorem aE9:OpR X (binaryOp .LShift) (rI MM fun i j=>.int (i * 2 ^ j.toNat)):=opI fun _ _ _ _ _ _ _ hc q=>lshift_int_small hc.1 hc.2.1 hc.2.2 q
theorem unI {f:Value→Sem Value} {g:Int→Int}
   (rule:∀ (i:Int) (t:Tok) (s:Shared) (Q:Value→Shared→Prop) (E:Value→Shared→Prop),Q (.int (g i) s.toks) { s with toks:=s.toks + 1 }→wpAny (model X.prog X.w) X.A (f (.int i t)) Q E s) :
   UnR X f (rU fun i=>.int (g i)):=by
 intro pins s σ H x v Q I rx h;obtain ⟨i,rfl,q⟩:=h;obtain ⟨t,rfl⟩:=rx;exact rule i t s _ _ ⟨.int (g i),H,I.tok _,⟨_,rfl⟩,q⟩
theorem aDL:UnR X (unaryOp .USub) (rU fun i=>.int (-i)):=unI fun _ _ _ _ _ q=>neg_int q
end
theorem YF {i j:Int}:decide (V.int i=V.int j)=(i == j):=by
 rw [Bool.eq_iff_iff];simp
theorem aAW {i j:Str}:decide (V.str i=V.str j)=(i == j):=by
 rw [Bool.eq_iff_iff];simp
section
variable {X:Cx} {a b c:Expr} {ta tb tc:TE} {pos:Pos}
theorem QD {pins:List (Addr×Obj)} {σ:St} {H:Hp} {s:Shared} {Q:VK} {k k':Bool} (I:Inv X pins σ H s) (q:Q (.bl k) H) (e:k=k'):EP X pins σ Q (.bool k') s:=by
 subst e;exact ⟨.bl k,H,I,rfl,q⟩
theorem aFM:OpR X (compareOp .Lt) (rI0 fun i j=>.bl (decide (i < j))):=YX fun _ _ _ _ _ _ _ q=>lt_int q
theorem aG0:OpR X (compareOp .LtE) (rI0 fun i j=>.bl (decide (i≤j))):=YX fun _ _ _ _ _ _ _ q=>le_int q
theorem aHt:OpR X (compareOp .Gt) (rI0 fun i j=>.bl (decide (j < i))):=YX fun _ _ _ _ _ _ _ q=>gt_int q
theorem aFc:OpR X (compareOp .GtE) (rI0 fun i j=>.bl (decide (j≤i))):=YX fun _ _ _ _ _ _ _ q=>ge_int q
theorem aE2:OpR X (compareOp .Is) (fun x y H Q=>y= .non∧Q (.bl (decide (x= .non))) H):=by
 intro pins s σ H x y v u Q I rx ry h;obtain ⟨rfl,q⟩:=h;cases ry;refine is_none_gen (QD I q ?_);cases x <;> first
   | (cases rx; rfl)
   | (obtain ⟨t,rfl⟩:=rx; rfl)
theorem aAY:OpR X (compareOp .IsNot) (fun x y H Q=>y= .non∧Q (.bl (!decide (x= .non))) H):=by
 intro pins s σ H x y v u Q I rx ry h;obtain ⟨rfl,q⟩:=h;cases ry;refine isnot_none_gen (QD I q ?_);cases x <;> first
   | (cases rx; rfl)
   | (obtain ⟨t,rfl⟩:=rx; rfl)
theorem OpR.or {f:Value→Value→Sem Value} {r r':R2} (h:OpR X f r) (h':OpR X f r'):OpR X f (fun x y H Q=>r x y H Q∨r' x y H Q):=by
 intro pins s σ H x y v u Q I rx ry q;rcases q with q | q
 · exact h pins s σ H x y v u Q I rx ry q
 · exact h' pins s σ H x y v u Q I rx ry q
theorem JF {op:CmpOp} {r:R2} (ho:OpR X (compareOp op) r) (ha:PE X a ta) (hb:PE X b tb) (hm:behindInMarks op b=false):PE X (.Compare a [op] [b] pos) (tOp r ta tb):=by
 intro pins s σ H Q I h;exact wpAny_Compare1 (aCu ha hb I h fun v u s2 x y H2 I2 rx ry q=>ho pins s2 σ H2 x y v u Q I2 rx ry q) hm
def aBj (t:TE):TT:=fun σ H Q=>t σ H fun x H'=>∃ k,x= .bl k∧Q k H'
theorem HX {op:CmpOp} {r:R2} (ho:OpR X (compareOp op) r) (ha:PE X a ta) (hb:PE X b tb) (hm:behindInMarks op b=false):PT X (.Compare a [op] [b] pos) (aBj (tOp r ta tb)):=by
 intro pins s σ H Q I h;refine wpAny_isTrue_Compare1 (thn (ha pins s σ H _ I h) fun v s1 ⟨x,H1,I1,r1,q1⟩=>thn (hb pins s1 σ H1 _ I1 q1) fun u s2 ⟨y,H2,I2,r2,q2⟩ =>
   thn (ho pins s2 σ H2 x y v u _ I2 r1 r2 q2) fun c s3 ⟨z,H3,I3,r3,k,e,q3⟩=>?_) hm
 subst e;cases r3;exact wpAny_truthy_bool ⟨H3,I3,q3⟩
def FM (r r':R2) (ta tb tc:TE):TE:=fun σ H Q=>ta σ H fun x H1=>tb σ H1 fun y H2=>r x y H2 fun z H3=>∃ k,z= .bl k∧
 (if k=true then tc σ H3 fun w' H4=>r' y w' H4 Q else Q (.bl false) H3)
theorem PM {op op':CmpOp} {r r':R2} (ho:OpR X (compareOp op) r) (ho':OpR X (compareOp op') r') (ha:PE X a ta) (hb:PE X b tb) (hc:PE X c tc)
   (hm:lastMarks [op,op'] [b,c]=false:=by with_unfolding_all rfl):PE X (.Compare a [op,op'] [b,c] pos) (FM r r' ta tb tc):=by
 intro pins s σ H Q I h;refine Compare_chain (thn (ha pins s σ H _ I h) fun v s1 ⟨x,H1,I1,r1,q1⟩=>chain_link (thn (hb pins s1 σ H1 _ I1 q1) fun u s2 ⟨y,H2,I2,r2,q2⟩ =>
   thn (ho pins s2 σ H2 x y v u _ I2 r1 r2 q2) fun d s3 ⟨z,H3,I3,r3,k,e,q3⟩=>?_)) hm
 subst e;cases r3;refine wpAny_truthy_bool ?_;cases k with
 | false=>exact ite_ff ⟨.bl false,H3,I3,rfl,q3⟩
 | true=>exact ite_tt (chain_last (thn (hc pins s3 σ H3 _ I3 q3) <|by rintro w' s4 ⟨z',H4,I4,r4,q4⟩;exact ho' pins s4 σ H4 y z' u w' Q I4 r2 r4 q4))
theorem RQ {op op':CmpOp} {r r':R2} (ho:OpR X (compareOp op) r) (ho':OpR X (compareOp op') r') (ha:PE X a ta) (hb:PE X b tb) (hc:PE X c tc)
   (hm:lastMarks [op,op'] [b,c]=false:=by with_unfolding_all rfl):PT X (.Compare a [op,op'] [b,c] pos) (aBj (FM r r' ta tb tc)):=by
 intro pins s σ H Q I h;refine isTrue_chain (thn (ha pins s σ H _ I h) fun v s1 ⟨x,H1,I1,r1,q1⟩=>test_link (thn (hb pins s1 σ H1 _ I1 q1) fun u s2 ⟨y,H2,I2,r2,q2⟩ =>
   thn (ho pins s2 σ H2 x y v u _ I2 r1 r2 q2) fun d s3 ⟨z,H3,I3,r3,k,e,q3⟩=>?_)) hm
 subst e;cases r3;refine wpAny_truthy_bool ?_;cases k with
 | false =>
   obtain ⟨k',e',q'⟩:=q3;cases e';exact ite_ff ⟨H3,I3,q'⟩
 | true =>
   refine ite_tt (test_last (thn (hc pins s3 σ H3 _ I3 q3) fun w' s4 ⟨z',H4,I4,r4,q4⟩=>thn (ho' pins s4 σ H4 y z' u w' _ I4 r2 r4 q4) fun d' s5 zz=>?_));obtain ⟨z2,H5,I5,r5,k2,e2,q5⟩:=zz;subst e2;cases r5;exact wpAny_truthy_bool ⟨H5,I5,q5⟩
noncomputable def MY (K:W.Frag) (x:V) (H:Hp) (k:Bool):Prop :=
 match x with
 | .non=>k=false
 | .bl b=>k=b
 | .int i=>k=(i != 0)
 | .str y=>y.length≤sizeLine∧k=((y.length:Int) != 0)
 | .byt y=>y.size≤sizeLine∧k=((y.size:Int) != 0)
 | .ref p=>(∃ xs,SqL K H p xs∧k= !xs.isEmpty)∨(∃ xs,SqT K H p xs∧k= !xs.isEmpty)∨∃ kvs,H p=some (.dK kvs)∧k= !kvs.isEmpty
 | _=>False
theorem FW {κ:Type} {kvs:List (κ×V)} {vs:List (κ×Value)} (r:KV kvs vs):(!vs.isEmpty)= !kvs.isEmpty:=by
 cases r <;> rfl
theorem sX {xs:List V} {its:List Value} (r:aM xs its):(!its.toArray.isEmpty)= !xs.isEmpty:=by
 cases r <;> simp
theorem mQ:(sizeLine:Nat) < 2 ^ 63:=by rw [sizeLine_eq]; decide
theorem yL:aJL X (fun x H Q=>∃ k,MY X.K x H k∧Q k H):=by
 intro pins s σ H x v Q I rx h;obtain ⟨k,e,q⟩:=h;have hl:=mQ;have hs:sizeLine=16777216:=sizeLine_eq;cases x with
 | non =>
   cases rx;have e':k=false:=e;subst e';exact truthy_none ⟨H,I,q⟩
 | bl b =>
   cases rx;have e':k=b:=e;subst e';exact wpAny_truthy_bool ⟨H,I,q⟩
 | int i =>
   obtain ⟨t,rfl⟩:=rx;have e':k=(i != 0):=e;subst e';exact PySem.P.truthy_int ⟨H,I,q⟩
 | str y =>
   obtain ⟨t,rfl⟩:=rx;obtain ⟨hy,e'⟩:y.length≤sizeLine∧k=((y.length:Int) != 0):=e;subst e';exact PySem.P.truthy_str (by omega) ⟨H,I.tok _,q⟩
 | byt y =>
   obtain ⟨t,rfl⟩:=rx;obtain ⟨hy,e'⟩:y.size≤sizeLine∧k=((y.size:Int) != 0):=e;subst e';exact W.truthy_bytes (by omega) ⟨H,I.tok _,q⟩
 | ref p =>
   cases rx;have e':(∃ xs,SqL X.K H p xs∧k= !xs.isEmpty)∨(∃ xs,SqT X.K H p xs∧k= !xs.isEmpty)∨∃ kvs,H p=some (.dK kvs)∧k= !kvs.isEmpty:=e;rcases e' with ⟨xs,hx,e'⟩ | ⟨xs,hx,e'⟩ | ⟨kvs,hx,e'⟩
   · subst e';obtain ⟨its,r,pl,hz⟩:=I.list hx;have hlen:=r.length;exact wpAny_truthy_list pl.isList (by simp only [wIq]; omega) ⟨H,I.tok _,by rw [sX r]; exact q⟩
   · subst e';obtain ⟨its,r,pl,hz⟩:=I.tuple hx;have hlen:=r.length;exact truthy_tuple pl (by simp only [wIq]; omega) ⟨H,I.tok _,by rw [sX r]; exact q⟩
   · subst e';obtain ⟨hz,hS,vs,r,m⟩:kvs.length≤sizeLine∧(p == sysModules)=false∧∃ vs,KV kvs vs∧s.heap.DictOf (dD X.prog X.w) p vs:=I.hok p _ hx;have hlen:kvs.length=vs.length:=Paired.length r;exact wpAny_truthy_dict hS m (by omega) ⟨H,I.tok _,by rw [FW r]; exact q⟩
 | _=>exact (show False from e).elim
theorem SB (ha:PE X a ta) (he:∀ whole,isTrue a X.env whole=(do let v ←whole; standAt a.pos; holding [v] (truthy v))) :
   PT X a (fun σ H Q=>ta σ H fun x H'=>∃ k,MY X.K x H' k∧Q k H'):=by
 intro pins s σ H Q I h;exact isTrue_plain (thn (ha pins s σ H _ I h) <|by rintro v s1 ⟨x,H1,I1,r1,q1⟩;exact yL pins s1 σ H1 x v Q I1 r1 q1) (he _)
theorem GD:OpR X (binaryOp .Add) (fun x y H Q=>∃ i j,x= .str i∧y= .str j∧i.length + j.length≤sizeLine∧Q (.str (i ++ j)) H):=by
 intro pins s σ H x y v u Q I rx ry h;obtain ⟨i,j,rfl,rfl,hz,q⟩:=h;obtain ⟨t,rfl⟩:=rx;obtain ⟨t',rfl⟩:=ry;exact add_str (fun t' tk=>⟨.str (i ++ j),H,I.tok _,⟨_,rfl⟩,q⟩) hz
theorem gG {x:V} {us:List Value} (r:aM [x] us):∃ u,us=[u]∧aP x u:=by
 cases r with
 | cons r1 r2=>cases r2; exact ⟨_,rfl,r1⟩
theorem IJ {x y:V} {us:List Value} (r:aM [x,y] us):∃ u w',us=[u,w']∧aP x u∧aP y w':=by
 cases r with
 | cons r1 r2 =>
   cases r2 with
   | cons r3 r4=>cases r4; exact ⟨_,_,rfl,r1,r3⟩
theorem WT:bL X (.builtin "abs") (fun xs H Q=>∃ i,xs=[.int i]∧Q (.int (if i < 0 then -i else i)) H):=by
 intro pins s σ H xs us Q I r h;obtain ⟨i,rfl,q⟩:=h;obtain ⟨u,rfl,t,rfl⟩:=gG r;exact call_abs_int fun u tk=>⟨.int (if i < 0 then -i else i),H,I.tok _,⟨_,rfl⟩,q⟩
theorem LB (hc:X.calm=true):bL X (.builtin "max") (fun xs H Q=>∃ i j,xs=[.int i,.int j]∧Q (.int (if j > i then j else i)) H):=by
 intro pins s σ H xs us Q I r h;obtain ⟨i,j,rfl,q⟩:=h;obtain ⟨u,w',rfl,⟨t,rfl⟩,⟨t',rfl⟩⟩:=IJ r;refine max_two_ints (I.ok.hd hc) fun h' tk k=>⟨_,H,I.kept k, ?_,q⟩;by_cases hj:j > i
 · rw [if_pos hj,if_pos hj]; exact ⟨_,rfl⟩
 · rw [if_neg hj,if_neg hj]; exact ⟨_,rfl⟩
theorem KO (hc:X.calm=true):bL X (.builtin "min") (fun xs H Q=>∃ i j,xs=[.int i,.int j]∧Q (.int (if j < i then j else i)) H):=by
 intro pins s σ H xs us Q I r h;obtain ⟨i,j,rfl,q⟩:=h;obtain ⟨u,w',rfl,⟨t,rfl⟩,⟨t',rfl⟩⟩:=IJ r;refine min_two_ints (I.ok.hd hc) fun h' tk k=>⟨_,H,I.kept k, ?_,q⟩;by_cases hj:j < i
 · rw [if_pos hj,if_pos hj]; exact ⟨_,rfl⟩
 · rw [if_neg hj,if_neg hj]; exact ⟨_,rfl⟩
theorem OI:bL X (.type "int") (fun xs H Q=>(∃ i,xs=[.int i]∧Q (.int i) H)∨∃ k,xs=[.bl k]∧Q (.int (if k then 1 else 0)) H):=by
 intro pins s σ H xs us Q I r h;rcases h with ⟨i,rfl,q⟩ | ⟨k,rfl,q⟩
 · obtain ⟨u,rfl,t,rfl⟩:=gG r;exact call_int_int ⟨.int i,H,I,⟨_,rfl⟩,q⟩
 · obtain ⟨u,rfl,r1⟩:=gG r;cases r1;exact call_int_bool ⟨.int (if k then 1 else 0),H,I.tok _,⟨_,rfl⟩,q⟩
end
structure EK (h:Heap) (x dx C:Addr) (mA:Str→Option Value):Prop where
 obj:h.get? x=some (W.instObj C dx)
 ns:h.Ns1 dx mA
 ne:dx≠x
theorem KN {h:Heap} {dx:Addr} {mA:Str→Option Value} (n:h.Ns1 dx mA):∃ od,h.get? dx=some od∧∀ name,W.lookIn name od=some (mA name):=by
 obtain ⟨o,es,ep,ho,hd,hk,_,hm⟩:=n;refine ⟨o,ho,fun name=>?_⟩;have e:=hm name;unfold nsFind findBy at e;rw [←Array.find?_toList] at e;unfold W.lookIn;rw [hd];dsimp only;split
 · rename_i y q;rw [q] at e;exact congrArg some e
 · rename_i q;rw [q] at e;have a:es.toList.any (·.refKey)=false:=by
     rw [List.any_eq_false];intro y hy;obtain ⟨z,t,hkey⟩:=hk y (Array.mem_toList_iff.mp hy);simp [DictEntry.refKey,hkey]
   have a':¬es.toList.any (·.refKey)=true:=by rw [a]; exact Bool.false_ne_true
   rw [if_neg a'];exact congrArg some e
theorem EK.look {h:Heap} {x dx C:Addr} {mA:Str→Option Value} (I:EK h x dx C mA):∃ od,W.InstAt h x (W.instObj C dx) C (some od)∧∀ name,W.lookIn name od=some (mA name) :=
 let ⟨od,ho,hl⟩:=KN I.ns
 ⟨od,⟨I.obj,rfl,rfl,ho⟩,hl⟩
section
variable {prog:Program} {w:World} {A:Around} {E:Value→Shared→Prop} {s:Shared} {K:W.Frag} {x dx C f:Addr} {mA:Str→Option Value} {name:Str} {v:Value}
theorem aAa {expr:Bool} {Q:Value→Shared→Prop} (X:K.In s.heap) (I:EK s.heap x dx C mA) (hg:W.plainGet K C name=true) (hh:W.hasDictIn K C=true)
   (ha:W.findIn K (.ref C) name=some none) (hv:mA name=some v) (hv':W.handedIn v=true) (h:Q v { s with toks:=s.toks + 1 }) :
   wpAny (model prog w) A (getAttr (.ref x) name expr) Q E s:=by
 obtain ⟨od,J,hl⟩:=I.look;exact W.get_value X J (W.plainGet_of hg).1 (W.findObj_own hh ha rfl (by rw [hl,hv])) hv' h
theorem OT {pl:Sem Bool} {Q:Value×List Value→Shared→Prop} (X:K.In s.heap) (I:EK s.heap x dx C mA) (hg:W.plainGet K C name=true)
   (hf:W.findIn K (.ref C) name=some (some (.ref f))) (ht:W.isFn K (.ref f)=true) (hv:mA name=none) (h:Q (.ref f,[.ref x]) s) :
   wpAny (model prog w) A (getMethod (.ref x) name pl) Q E s:=by
 obtain ⟨od,J,hl⟩:=I.look;exact W.method_fn X J (W.plainGet_of hg).1 (W.plainGet_of hg).2 hf (beq_iff_eq.mp ht) (by show (W.lookIn name od).map (·.isSome)=some false; rw [hl,hv]; rfl) h
theorem aA2 {ns:List Str} {Q:Unit→Shared→Prop} (X:K.In s.heap) (I:EK s.heap x dx C mA)
   (hs:W.findIn K (.ref C) "__setattr__"=some (some (.builtin "object.__setattr__"))) (hp:W.plainOver K C=true) (ht:W.takerIn K C name=some none) (hh:W.hasDictIn K C=true)
   (hw:PySem.Within mA ns) (hsz:ns.length≤sizeLine)
   (h:∀ h',EK h' x dx C (fun y=>if y=name then some v else mA y)→Heap.SameBut dx s.heap h'→Q () { s with heap:=h',toks:=s.toks + 2 }) :
   wpAny (model prog w) A (setAttr (.ref x) name v) Q E s:=by
 obtain ⟨od,J,hl⟩:=I.look;refine W.set_plain X J hs (W.osa_open (s:={ s with toks:=s.toks + 1 }) (r:=none) X J hp ht fun b=>?_);obtain ⟨cd,hc,hd'⟩:=W.any_some hh;have hx:s.heap.get? x=some ⟨.ref C,some dx,.plain, #[]⟩:=I.obj;refine wAq (wBq (wAq (wAq (wpAny_loadPart hx (wAq (W.Looks.here (s:={ s with toks:=s.toks + 1 }) (W.looks_clsIn X hc) ?_))))));rw [hd'];refine wBq (a:=some dx) (wAq (wBq (wAq ?_)));refine wpAny_nsSet1 (s:={ s with toks:=s.toks + 1 }) I.ns fun h' hn2 hs2=>?_;obtain ⟨oD,esD,epD,hoD,hdD,hcD⟩:=hn2.count (PySem.Within.cons name v hw);refine wAq (wpAny_lookBehind hoD (by rw [hdD]; exact pastItsLine_dict (Nat.le_trans hcD (by rw [List.length_cons]; omega))) ?_);exact wBq (h _ ⟨(hs2.2 _ (Ne.symm I.ne)).trans I.obj,hn2,I.ne⟩ hs2)
theorem BQ {R:Result→Shared→Prop} {vs:List Value} {kw:List (Str×Value)} (X:K.In s.heap) (hm:W.makesIn K C=true)
   (hi:W.findIn K (.ref C) "__init__"=some (some (.ref f))) (hf:W.typeIn K (.ref f)=some (.type "function"))
   (h :codeAny (model prog w) (A.under (.builtin "type.__call__" ⟨.ref C :: vs,kw⟩)) (.call (.ref f) ⟨.ref (s.heap.objs.size + 1) :: vs,kw⟩) (W.InitBack (s.heap.objs.size + 1) R)
     { s with heap:=(s.heap.push W.emptyDict).push (W.instObj C s.heap.objs.size) }) :
   codeAny (model prog w) A (.call (.ref C) ⟨vs,kw⟩) R s:=by
 obtain ⟨hh,g,d,t,os⟩:=s;exact W.make_core (W.makes_of X hm) (W.looks_findIn X hi) (fun self=>W.bind_fn X self hf) (.inl rfl) h
end
noncomputable def jS (f:Str) (v:V):List (Str×V)→List (Str×V)
 | []=>[(f,v)]
 | (g,x) :: r=>if g=f then (g,v) :: r else (g,x) :: jS f v r
theorem rE (f g:Str) (v:V):∀ fs:List (Str×V),(jS f v fs).lookup g=if g=f then some v else fs.lookup g
 | [] =>by
   show List.lookup g [(f,v)]=_;by_cases h:g=f
   · have hb:(g == f)=true:=beq_iff_eq.mpr h;simp only [List.lookup,hb,if_pos h]
   · have hb:(g == f)=false:=beq_eq_false_iff_ne.mpr h;simp only [List.lookup,hb,if_neg h]
 | (k, x) :: r=>by
   have ih:=rE f g v r;rw [show jS f v ((k,x) :: r)=(if k=f then (k,v) :: r else (k,x) :: jS f v r) from rfl];by_cases hk:k=f
   · rw [if_pos hk];by_cases h:g=k
     · have hb:(g == k)=true:=beq_iff_eq.mpr h;simp only [List.lookup,hb,if_pos (h.trans hk)]
     · have hb:(g == k)=false:=beq_eq_false_iff_ne.mpr h;simp only [List.lookup,hb,if_neg (fun e:g=f=>h (e.trans hk.symm))]
   · rw [if_neg hk];by_cases h:g=k
     · have hb:(g == k)=true:=beq_iff_eq.mpr h;simp only [List.lookup,hb,if_neg (fun e:g=f=>hk (h.symm.trans e))]
     · have hb:(g == k)=false:=beq_eq_false_iff_ne.mpr h;simp only [List.lookup,hb];exact ih
theorem pK (f:Str) (v:V):∀ fs:List (Str×V),f∈(jS f v fs).map (·.1)∧∀ g,g∈fs.map (·.1)→g∈(jS f v fs).map (·.1)
 | []=>⟨by simp [jS],fun g h=>by simp at h⟩
 | (k, x) :: r=>by
   obtain ⟨i1,i2⟩:=pK f v r;rw [show jS f v ((k,x) :: r)=(if k=f then (k,v) :: r else (k,x) :: jS f v r) from rfl];by_cases hk:k=f
   · rw [if_pos hk];subst hk;exact ⟨by simp,fun g h=>by simpa using h⟩
   · rw [if_neg hk];refine ⟨?_,fun g h=>?_⟩
     · rw [List.map_cons];exact wCq _ i1
     · rw [List.map_cons] at h ⊢;rcases List.mem_cons.mp h with e | e
       · exact List.mem_cons.mpr (.inl e)
       · exact wCq _ (i2 g e)
theorem rF (f:Str) (v:V):∀ fs:List (Str×V),(jS f v fs).length≤fs.length + 1
 | []=>by simp [jS]
 | (k,x) :: r=>by
   have ih:=rF f v r;rw [show jS f v ((k,x) :: r)=(if k=f then (k,v) :: r else (k,x) :: jS f v r) from rfl];by_cases hk:k=f
   · rw [if_pos hk,List.length_cons,List.length_cons]; omega
   · rw [if_neg hk,List.length_cons,List.length_cons]; omega
theorem oX.some_of {v:V} {o:Option Value} (r:oX (some v) o):∃ u,o=some u∧aP v u:=by
 cases o with
 | none=>exact (show False from r).elim
 | some u=>exact ⟨u,rfl,r⟩
theorem oX.none_of {o:Option Value} (r:oX none o):o=none:=by
 cases o with
 | none=>rfl
 | some u=>exact (show False from r).elim
theorem MU {v:V} {u:Value} (r:aP v u):W.handedIn u=true:=by
 cases v with
 | non=>cases (show u=Value.none from r); rfl
 | bl b=>cases (show u=Value.bool b from r); rfl
 | int i=>obtain ⟨t,e⟩:=(show ∃ t,u=Value.int i t from r); cases e; rfl
 | str x=>obtain ⟨t,e⟩:=(show ∃ t,u=Value.str x t from r); cases e; rfl
 | byt b=>obtain ⟨t,e⟩:=(show ∃ t,u=Value.bytes b t from r); cases e; rfl
 | flt b=>obtain ⟨t,e⟩:=(show ∃ t,u=Value.float b t from r); cases e; rfl
 | ref a=>cases (show u=Value.ref a from r); rfl
 | ty n=>cases (show u=Value.type n from r); rfl
section
variable {P:Program} {w:World} {H H':Hp} {h h':Heap} {a C dx:Addr} {fs fs':List (Str×V)}
theorem nM (hok:HOk P w H h) (e:H a=some (.ins C dx fs)):∃ mA,EK h a dx C mA∧(∀ f,oX (fs.lookup f) (mA f))∧PySem.Within mA (fs.map (·.1))∧fs.length≤1000∧H dx=some (.own a):=by
 obtain ⟨d,z,ne,ob,mA,n,r,q⟩:=(show bY P w H h a (.ins C dx fs) from hok a _ e);exact ⟨mA,⟨ob,n,ne⟩,r,q,z,d⟩
end
structure Cls (K:W.Frag) (C:Addr):Prop where
 pg:W.plainGet K C Str.empty=true
 hd:W.hasDictIn K C=true
 po:W.plainOver K C=true
 sa:W.findIn K (.ref C) "__setattr__"=some (some (.builtin "object.__setattr__"))
theorem Cls.get {K:W.Frag} {C:Addr} (c:Cls K C) (f:Str):W.plainGet K C f=true:=c.pg
def eA (K:W.Frag) (C:Addr) (f:Str):Prop:=W.findIn K (.ref C) f=some none
theorem eA.taker {K:W.Frag} {C:Addr} {f:Str} (n:eA K C f):W.takerIn K C f=some none:=by
 unfold W.takerIn;rw [show W.findIn K (.ref C) f=some none from n];rfl
structure iN (K:W.Frag) (C:Addr) (m:Str) (f:Addr):Prop where
 at_:W.findIn K (.ref C) m=some (some (.ref f))
 fn:W.isFn K (.ref f)=true
 kp:W.keepIn K (.ref f)=true
section
variable {X:Cx} {pins:List (Addr×Obj)} {σ:St} {H:Hp} {s:Shared} {a C dx:Addr} {fs:List (Str×V)} {f:Str} {v:V} {A:Around} {E:Value→Shared→Prop}
theorem FB {b:Bool} {Q:Value→Shared→Prop} (I:Inv X pins σ H s) (e:H a=some (.ins C dx fs)) (c:Cls X.K C) (n:eA X.K C f) (l:fs.lookup f=some v)
   (h:∀ u s',Inv X pins σ H s'→aP v u→Q u s'):wpAny (model X.prog X.w) A (getAttr (.ref a) f b) Q E s:=by
 obtain ⟨mA,O,r,_,_,_⟩:=nM I.hok e;obtain ⟨u,hu,ru⟩:=oX.some_of (v:=v) (o:=mA f) (by rw [←l]; exact r f);exact aAa I.kIn O (c.get f) c.hd n hu (MU ru) (h u _ (I.tok _) ru)
theorem uU {m:Str} {g:Addr} {pl:Sem Bool} {Q:Value×List Value→Shared→Prop} (I:Inv X pins σ H s) (e:H a=some (.ins C dx fs)) (c:Cls X.K C) (k:iN X.K C m g) (l:fs.lookup m=none)
   (h:Q (.ref g,[.ref a]) s):wpAny (model X.prog X.w) A (getMethod (.ref a) m pl) Q E s:=by
 obtain ⟨mA,O,r,_,_,_⟩:=nM I.hok e;have hn:mA m=none:=oX.none_of (by rw [←l]; exact r m);exact OT I.kIn O (c.get m) k.at_ k.fn hn h
theorem GJ {y:V} {u:Value} {Q:Unit→Shared→Prop} (I:Inv X pins σ H s) (e:H a=some (.ins C dx fs)) (c:Cls X.K C) (n:eA X.K C f) (hl:fs.length < 1000) (ry:aP y u)
   (h:∀ s',Inv X pins σ (upd H a (.ins C dx (jS f y fs))) s'→Q () s'):wpAny (model X.prog X.w) A (setAttr (.ref a) f u) Q E s:=by
 obtain ⟨mA,O,r,wi,_,ho⟩:=nM I.hok e;have hz:(fs.map (·.1)).length≤sizeLine:=by rw [List.length_map,sizeLine_eq]; omega
 refine aA2 I.kIn O c.sa c.po n.taker c.hd wi hz fun h' O' sb=>h _ ?_;have hd:∃ o,h'.get? dx=some o:=let ⟨o,_,_,e',_⟩:=O'.ns; ⟨o,e'⟩
 refine I.write (x:=a) (e:=dx) (by rw [e]; exact True.intro) (.inr ho) (fun b q hb z=>(sb.2 b hb).trans z) hd ?_;refine ⟨by rw [aC O.ne]; exact ho, ?_,O.ne,O'.obj,_,O'.ns,fun g=>?_,fun g hg=>?_⟩
 · have:=rF f y fs; omega
 · show oX ((jS f y fs).lookup g) (if g=f then some u else mA g);rw [rE];by_cases q:g=f
   · rw [if_pos q,if_pos q]; exact ry
   · rw [if_neg q,if_neg q]; exact r g
 · by_cases q:g=f
   · rw [q]; exact (pK f y fs).1
   · refine (pK f y fs).2 g (wi g fun z=>hg ?_);show (if g=f then some u else mA g)=none;rw [if_neg q]; exact z
theorem Inv.made (I:Inv X pins σ H s):Inv X pins σ (upd (upd H s.heap.objs.size (.own (s.heap.objs.size + 1))) (s.heap.objs.size + 1) (.ins C s.heap.objs.size []))
   { s with heap:=(s.heap.push W.emptyDict).push (W.instObj C s.heap.objs.size) }:=by
 have e1:(s.heap.push W.emptyDict).get? s.heap.objs.size=some W.emptyDict:=wGq s.heap rfl;have e2:((s.heap.push W.emptyDict).push (W.instObj C s.heap.objs.size)).get? (s.heap.objs.size + 1)=some (W.instObj C s.heap.objs.size):=by
   have:=wGq (s.heap.push W.emptyDict) (o:=W.instObj C s.heap.objs.size) rfl
   rwa [Heap.size_push] at this
 have e3:(s.heap.push W.emptyDict).Ns s.heap.objs.size (fun _=>none):=⟨W.emptyDict, #[],_,e1,rfl,(fun e he=>absurd he (by simp)),fun _=>rfl⟩;have I1:=I.laid (a:=s.heap.objs.size) (o:=.own (s.heap.objs.size + 1)) (h':=s.heap.push W.emptyDict) (t':=s.toks) (fun b u q=>wEq _ q) (Nat.le_refl _) ⟨_,e1⟩;refine I1.laid (a:=s.heap.objs.size + 1) (o:=.ins C s.heap.objs.size []) (t':=s.toks) (fun b u q=>wEq _ q) (Nat.le_of_eq (Heap.size_push _ _)) ?_;have ne:s.heap.objs.size≠s.heap.objs.size + 1:=Nat.ne_of_lt (Nat.lt_succ_self _);refine ⟨by rw [aC ne,aJ],Nat.zero_le _,ne,e2,fun _=>none,(Heap.Ns1.of_empty e3).at fun o q=>wEq _ q,fun _=>True.intro,fun y hy=>absurd rfl hy⟩
theorem YK {prog:Program} {w:World} {env:Env} {e:Expr} {f:Str} {pos:Pos} {s:Shared} {Q:Value→Shared→Prop} (hb:attributeBase e f env (eval e env)=eval e env)
   (h:wpAny (model prog w) A (eval e env) (fun o s₁=>wpAny (model prog w) A (getAttr o f true) Q E s₁) E s):wpAny (model prog w) A (eval (.Attribute e f pos) env) Q E s :=
 Attribute_any_ h (by rw [arm_eval_Attribute,hb])
end
def aIP (K:W.Frag) (ta:TE) (f:Str):TE:=fun σ H Q=>ta σ H fun x H1=>∃ a C dx fs v,x= .ref a∧H1 a=some (.ins C dx fs)∧Cls K C∧eA K C f∧fs.lookup f=some v∧Q v H1
def aIY (K:W.Frag) (ta tv:TE) (f:Str):TS:=fun D σ H=>tv σ H fun y H1=>ta σ H1 fun x H2=>∃ a C dx fs,x= .ref a∧H2 a=some (.ins C dx fs)∧Cls K C∧eA K C f∧fs.length < 1000∧
 D.nx σ (upd H2 a (.ins C dx (jS f y fs)))
section
variable {X:Cx} {o e value:Expr} {f:Str} {pos pos' tpos:Pos} {ta tv:TE}
theorem aEj (he:PE X e ta) (hb:attributeBase e f X.env (eval e X.env)=eval e X.env):PE X (.Attribute e f pos) (aIP X.K ta f):=by
 intro pins s σ H Q I h;refine YK hb (thn (he pins s σ H _ I h) fun u s1 zz=>?_);obtain ⟨x,H1,I1,rx,a,C,dx,fs,v,ex,ea,c,n,l,q⟩:=zz;subst ex;obtain rfl:u=Value.ref a:=rx;exact FB I1 ea c n l fun u' s2 I2 ru=>⟨v,H1,I2,ru,q⟩
theorem aEJ (ha:PE X o ta) (hv:PE X value tv) (hs:swapsWith value (some (.Attribute o f pos')) pos.line X.env=pure false):PS X (.Assign [.Attribute o f pos'] value pos) (aIY X.K ta tv f):=by
 intro pins s σ H D I h;refine plainObj_wpAny_Assign_Attribute (thn (hv pins s σ H _ I h) fun u s1 ⟨y,H1,I1,ry,q⟩=>thn (ha pins s1 σ H1 _ I1 q) fun ov s2 zz=>?_) hs;obtain ⟨x,H2,I2,rx,a,C,dx,fs,ex,ea,c,n,l,q2⟩:=zz;subst ex;obtain rfl:ov=Value.ref a:=rx;exact GJ I2 ea c n l ry fun s3 I3=>⟨σ,_,I3,q2⟩
end
section
variable {X:Cx} {pins:List (Addr×Obj)} {σ:St} {H:Hp} {s:Shared} {A:Around} {E:Value→Shared→Prop} {Q:Value→Shared→Prop} {c:Value} {b:Bool}
inductive pQ (K:W.Frag) (H:Hp):V→Value→Prop where
 | non:pQ K H .non (.type "NoneType")
 | bl (x:Bool):pQ K H (.bl x) (.type "bool")
 | int (i:Int):pQ K H (.int i) (.type "int")
 | str (x:Str):pQ K H (.str x) (.type "str")
 | flt (x:UInt64):pQ K H (.flt x) (.type "float")
 | lst {a:Addr} {xs:List V} (e:H a=some (.lst xs)):pQ K H (.ref a) (.type "list")
 | frz {a:Addr} {o:Obj} {xs:List V} (e:H a=some (.frz o (.lst xs))):pQ K H (.ref a) (.type "list")
 | tup {a:Addr} {xs:List V} (e:H a=some (.tup xs)):pQ K H (.ref a) (.type "tuple")
 | dK {a:Addr} {kvs:List (Key×V)} (e:H a=some (.dK kvs)):pQ K H (.ref a) (.type "dict")
 | dT {a:Addr} {kvs:List (List Key×V)} (e:H a=some (.dT kvs)):pQ K H (.ref a) (.type "dict")
 | ins {a C dx:Addr} {fs:List (Str×V)} (e:H a=some (.ins C dx fs)) (cl:Cls K C) (ha:W.findIn K (.ref C) "__class__"=some (some (.builtin "object.__class__")))
     (hn:W.specialIn K (.builtin "object.__class__") "__get__"=some (some (.builtin "getset_descriptor.__get__"))) (htk:W.takesIn K (.builtin "object.__class__")=some true)
     (hm:W.mroIn K C (.type "object")=some true):pQ K H (.ref a) (.ref C)
theorem xQ {x:V} {u t:Value} (I:Inv X pins σ H s) (rx:aP x u) (ty:pQ X.K H x t) (e:W.kitOne X.K t c=some b) (h:∀ tk,Q (.bool b) { s with toks:=tk }) :
   wpAny (model X.prog X.w) A (call (.builtin "isinstance") [u,c]) Q E s:=by
 cases ty with
 | non=>cases (show u=Value.none from rx); exact W.kia_one W.kitx_none I.kIn True.intro e (fun z=>nomatch z) h
 | bl y=>cases (show u=Value.bool y from rx); exact W.kia_one W.kitx_bool I.kIn True.intro e (fun z=>nomatch z) h
 | int i=>obtain ⟨t,q⟩:=(show ∃ t,u=Value.int i t from rx); cases q; exact W.kia_one W.kitx_int I.kIn True.intro e (fun z=>nomatch z) h
 | str y=>obtain ⟨t,q⟩:=(show ∃ t,u=Value.str y t from rx); cases q; exact W.kia_one W.kitx_str I.kIn True.intro e (fun z=>nomatch z) h
 | flt y=>obtain ⟨t,q⟩:=(show ∃ t,u=Value.float y t from rx); cases q; exact W.kia_one W.kitx_float I.kIn True.intro e (fun z=>nomatch z) h
 | @lst a xs ea =>
   cases (show u=Value.ref a from rx);obtain ⟨_,_,n,_,h1⟩:=(show bY X.prog X.w H s.heap a (.lst xs) from I.hok a _ ea);exact W.kia_one W.kitx_list I.kIn ⟨_,h1,rfl⟩ e (fun z=>nomatch z) h
 | @frz a ob xs ea =>
   cases (show u=Value.ref a from rx);obtain ⟨_,_,_,n,_,h1⟩:=(show bY X.prog X.w H s.heap a (.frz ob (.lst xs)) from I.hok a _ ea);exact W.kia_one W.kitx_list I.kIn ⟨_,h1,rfl⟩ e (fun z=>nomatch z) h
 | @tup a xs ea =>
   cases (show u=Value.ref a from rx);obtain ⟨_,_,_,p⟩:=(show bY X.prog X.w H s.heap a (.tup xs) from I.hok a _ ea);obtain ⟨o,h1,h2,_⟩:=p.1;exact W.kia_one W.kitx_tuple I.kIn ⟨o,h1,h2⟩ e (fun z=>nomatch z) h
 | @dK a kvs ea =>
   cases (show u=Value.ref a from rx);obtain ⟨_,_,vs,_,p⟩:=(show bY X.prog X.w H s.heap a (.dK kvs) from I.hok a _ ea);obtain ⟨o,es,ep,h1,h2,_⟩:=p;exact W.kia_one W.kitx_dict I.kIn ⟨o,h1,h2.1⟩ e (fun z=>nomatch z) h
 | @dT a kvs ea =>
   cases (show u=Value.ref a from rx);obtain ⟨_,_,xs,_,o,es,ep,h1,h2,_⟩:=(show bY X.prog X.w H s.heap a (.dT kvs) from I.hok a _ ea);exact W.kia_one W.kitx_dict I.kIn ⟨o,h1,h2.1⟩ e (fun z=>nomatch z) h
 | @ins a C dx fs ea cl ha hn htk hm =>
   cases (show u=Value.ref a from rx);obtain ⟨mA,O,_⟩:=nM I.hok ea;obtain ⟨od,J,_⟩:=O.look;exact W.kia_one (W.kitx_own (cl.get _) cl.hd ha hn htk hm) I.kIn J e (fun z=>nomatch z) h
end
structure bE (k:Nat) (A:Around):Prop where
 hd:40≤k→A.handled=none
 dp:A.depth + 3 * k + 5 < recursionLimit
 un:A.units + 16 * k + 200 < cLine
 gd:80≤k→A.guards=some []
theorem bE.mono {j k:Nat} {A:Around} (r:bE k A) (h:j≤k):bE j A:=⟨fun z=>r.hd (Nat.le_trans z h),by have:=r.dp; omega,by have:=r.un; omega,fun z=>r.gd (Nat.le_trans z h)⟩
theorem bE.deeper {k:Nat} {A:Around} (r:bE (k + 1) A) (env:Env):bE k (A.deeper env) :=
 ⟨fun z=>r.hd (Nat.le_succ_of_le z),by have:=r.dp; show A.depth + 1 + 3 * k + 5 < _; omega,by have:=r.un; show A.units + 3 + 16 * k + 200 < _; omega,fun z=>r.gd (Nat.le_succ_of_le z)⟩
theorem bE.in1 {k:Nat} {A:Around} (r:bE (k + 1) A):bE k A.in1 :=
 ⟨fun z=>r.hd (Nat.le_succ_of_le z),by have:=r.dp; show A.depth + 3 * k + 5 < _; omega,by have:=r.un; show A.units + 1 + 16 * k + 200 < _; omega,fun z=>r.gd (Nat.le_succ_of_le z)⟩
theorem FV {A:Around} {C:Addr} {us:List Value} {kw:List (Str×Value)}:(A.under (.builtin "type.__call__" ⟨.ref C :: us,kw⟩)).depth=A.depth + 1:=by
 first | rfl | simp [Around.under,Code.weight,Code.isCreation,Code.isGuard,Code.isCaller,Code.frames,Code.isFrame,guardIds]
theorem GU {A:Around} {C:Addr} {us:List Value} {kw:List (Str×Value)}:(A.under (.builtin "type.__call__" ⟨.ref C :: us,kw⟩)).units=A.units + 1:=by
 first | rfl | simp [Around.under,Code.cUnits,Code.frames,Code.isFrame]
theorem bE.make {k:Nat} {A:Around} (r:bE (k + 1) A) (C:Addr) (us:List Value) (kw:List (Str×Value)):bE k (A.under (.builtin "type.__call__" ⟨.ref C :: us,kw⟩)) :=
 ⟨fun z=>r.hd (Nat.le_succ_of_le z),by have:=r.dp; rw [FV]; omega,by have:=r.un; rw [GU]; omega,fun z=>by
   have e:=r.gd (Nat.le_succ_of_le z);first | exact e | (simp only [Around.under,Code.isGuard,guardIds]; simpa using e)⟩
theorem bE.depth {k:Nat} {A:Around} (r:bE k A):A.depth < recursionLimit:=by have:=r.dp; omega
theorem bE.units {k:Nat} {A:Around} (r:bE k A):A.units + 64 < cLine:=by have:=r.un; omega
theorem bE.units0 {k:Nat} {A:Around} (r:bE k A):A.units < cLine:=by have:=r.un; omega
def aGE:TA:=fun _ H Q=>Q [] H
def aB3 (ta:TE) (tr:TA):TA:=fun σ H Q=>ta σ H fun x H1=>tr σ H1 fun xs H2=>Q (x :: xs) H2
section
variable {X:Cx} {e:Expr} {es:List Expr} {te:TE} {t:TA} {pos:Pos}
theorem lB:PA X [] aGE:=fun _ _ _ _ H Q I h=>Calls.spliced_nil ⟨[],H,I,.nil,h⟩
theorem eS (ha:PE X e te) (hr:PA X es t) (hs:starEach (e :: es) X.env=(false,eval e X.env) :: starEach es X.env:=by rfl):PA X (e :: es) (aB3 te t):=by
 intro pos pins s σ H Q I h;rw [hs];show wpAny _ _ (spliced ((false,eval e X.env) :: backTo pos (starEach es X.env))) _ _ s;refine Calls.spliced_cons (thn (ha pins s σ H _ I h) fun u s1 zz=>?_);obtain ⟨x,H1,I1,r1,q1⟩:=zz;exact thn (hr pos pins s1 σ H1 _ I1 q1) <|by rintro us s2 ⟨xs,H2,I2,r2,q2⟩;exact ⟨x :: xs,H2,I2,.cons r1 r2,q2⟩
def aJK (t:TA):TE:=fun σ H Q=>t σ H fun xs H1=>xs.length≤sizeLine∧∀ p,H1 p=none→Q (.ref p) (upd H1 p (.tup xs))
def aIR (t:TA):TE:=fun σ H Q=>t σ H fun xs H1=>xs.length≤sizeLine∧∀ p,H1 p=none→Q (.ref p) (upd H1 p (.lst xs))
theorem aCG {x1} (h:PA X es t):PE X (.Tuple es x1 pos) (aJK t):=by
 intro pins s σ H Q I hq;refine wpAny_Tuple_spliced (thn (h pos pins s σ H _ I hq) fun us s1 ⟨xs,H1,I1,r,z,q⟩=>⟨by rw [←r.length]; exact z, ?_⟩);have hf:H1 s1.heap.objs.size=none:=I1.hok.fresh (Nat.le_refl _);refine ⟨.ref s1.heap.objs.size,upd H1 s1.heap.objs.size (.tup xs),I1.laid (t':=s1.toks) (fun b u e=>wEq _ e) (Nat.le_refl _) ?_,rfl,q _ hf⟩;exact ⟨z,us,r,gH.new _ _⟩
theorem aC1 (h:PA X es t):PE X (.List es pos) (aIR t):=by
 intro pins s σ H Q I hq;refine wpAny_List_spliced (thn (h pos pins s σ H _ I hq) fun us s1 ⟨xs,H1,I1,r,z,q⟩=>⟨by rw [←r.length]; exact z, ?_⟩);have hf:H1 s1.heap.objs.size=none:=I1.hok.fresh (Nat.le_refl _);refine ⟨.ref s1.heap.objs.size,upd H1 s1.heap.objs.size (.lst xs),I1.laid (t':=s1.toks) (fun b u e=>wEq _ e) (Nat.le_refl _) ?_,rfl,q _ hf⟩;exact ⟨z,us,0,r,wGq _ rfl⟩
end
noncomputable abbrev Sp:=List V→Hp→VK→XK→Prop
noncomputable abbrev CXT:=List Env→Hp→Shared→XK→Value→Shared→Prop
structure pH (P:Program) (w:World) (K:W.Frag) (mg:Str→Option Value) (base:Heap) (A:Around) (outer:List Env) (s:Shared) (H:Hp):Prop where
 frames:A.frames=some outer
 mod:Mod K mg base
 bs:∀ b o,base.get? b=some o→s.heap.get? b=some o∧H b=none
 bsz:base.objs.size≤s.heap.objs.size
 funs:s.heap.FunFrames base outer
 frf:∀ b∈frs outer,H b=none
 hok:HOk P w H s.heap
 bare:AllBare s.gens
noncomputable def CE (outer:List Env) (P:Program) (w:World) (H:Hp) (s:Shared) (Q:VK) (u:Value) (s':Shared):Prop :=
 ∃ v H',s'.os=s.os∧AllBare s'.gens∧Un (frs outer) [] H H' s.heap s'.heap∧HOk P w H' s'.heap∧aP v u∧Q v H'
noncomputable def CR (CX:CXT) (outer:List Env) (P:Program) (w:World) (H:Hp) (s:Shared) (Q:VK) (E:XK) (r:Result) (s':Shared):Prop :=
 match r with
 | .ok (.ret u)=>CE outer P w H s Q u s'
 | .ok _=>False
 | .error e=>CX outer H s E e s'
structure bP (P:Program) (w:World) (K:W.Frag) (mg:Str→Option Value) (base:Heap) (CX:CXT) (k:Nat) (f:Addr) (fd:FuncData) (ps:List Str) (sp:Sp):Prop where
 len:∀ vs H Q E,sp vs H Q E→vs.length=ps.length
 run:∀ (A:Around) (outer:List Env) (s:Shared) (H:Hp) (args:Args) (us:List Value) (vs:List V) (Q:VK) (E:XK),bE k A→pH P w K mg base A outer s H→BindsTo s fd args (ps.zip us)→aM vs us→sp vs H Q E→
   codeAny (model P w) A (.call (.ref f) args) (CR CX outer P w H s Q E) s
theorem bP.mono {P:Program} {w:World} {K:W.Frag} {mg:Str→Option Value} {base:Heap} {CX:CXT} {j k:Nat} {f:Addr} {fd:FuncData} {ps:List Str} {sp:Sp} (F:bP P w K mg base CX j f fd ps sp) (h:j≤k) :
   bP P w K mg base CX k f fd ps sp:=⟨F.len,fun A outer s H args us vs Q E hr=>F.run A outer s H args us vs Q E (hr.mono h)⟩
theorem bP.imp {P:Program} {w:World} {K:W.Frag} {mg:Str→Option Value} {base:Heap} {CX:CXT} {k:Nat} {f:Addr} {fd:FuncData} {ps:List Str} {sp sp':Sp} (F:bP P w K mg base CX k f fd ps sp)
   (h:∀ vs H Q E,sp' vs H Q E→sp vs H Q E):bP P w K mg base CX k f fd ps sp' :=
 ⟨fun vs H Q E q=>F.len vs H Q E (h _ _ _ _ q),fun A outer s H args us vs Q E hr he hb hv hs=>F.run A outer s H args us vs Q E hr he hb hv (h _ _ _ _ hs)⟩
theorem pH.make {P:Program} {w:World} {K:W.Frag} {mg:Str→Option Value} {base:Heap} {A:Around} {outer:List Env} {s:Shared} {H:Hp} (e:pH P w K mg base A outer s H) (C:Addr) (us:List Value) (kw:List (Str×Value)) :
   pH P w K mg base (A.under (.builtin "type.__call__" ⟨.ref C :: us,kw⟩)) outer s H:=⟨by first | exact e.frames | (simpa [Around.under,Code.envs,Code.isFrame,pushEnvs] using e.frames),e.mod,e.bs,e.bsz,e.funs,e.frf,e.hok,e.bare⟩
theorem pH.in1 {P:Program} {w:World} {K:W.Frag} {mg:Str→Option Value} {base:Heap} {A:Around} {outer:List Env} {s:Shared} {H:Hp} (e:pH P w K mg base A outer s H) :
   pH P w K mg base A.in1 outer s H:=⟨e.frames,e.mod,e.bs,e.bsz,e.funs,e.frf,e.hok,e.bare⟩
section
variable {X:Cx} {pins:List (Addr×Obj)} {σ:St} {H:Hp} {s s':Shared}
theorem Inv.env0 (I:Inv X pins σ H s):pH X.prog X.w X.K X.mg X.base X.A X.stack s H :=
 ⟨I.ok.frames,I.ok.mod,I.bs,Nat.le_trans I.ok.bsz I.sz,I.stack,I.stkFree,I.hok,I.bare⟩
theorem Inv.after {Q:VK} {u:Value} (I:Inv X pins σ H s) (h:CE X.stack X.prog X.w H s Q u s'):EP X pins σ Q u s':=by
 obtain ⟨v,H',os,bare,un,hok,r,q⟩:=h;obtain ⟨hh,g,d,t,os'⟩:=s';obtain rfl:os'=s.os:=os;exact ⟨v,H',I.call (h':=hh) (g':=g) (d':=d) (t':=t) (ch:=[]) un hok bare (fun b z=>absurd z (by simp)),r,q⟩
end
def aGK (sp:Sp) (dvs:List V) (E:XK) (t:TA):TE:=fun σ H Q=>t σ H fun vs H1=>sp (vs ++ dvs) H1 Q E
def aFo (C:Addr) (sp:Sp) (dvs:List V) (E:XK) (t:TA):TE:=fun σ H Q=>t σ H fun vs H1=>∀ x dx,H1 x=none→H1 dx=none→dx≠x→
 sp (.ref x :: (vs ++ dvs)) (upd (upd H1 dx (.own x)) x (.ins C dx [])) (fun v H2=>v= .non∧Q (.ref x) H2) E
noncomputable def aG (K:W.Frag) (fd:FuncData) (ps:List Str) (ds:List Value):Prop :=
 ∀ (s:Shared) (us:List Value),K.In s.heap→(us ++ ds).length=ps.length→BindsTo s fd ⟨us,[]⟩ (ps.zip (us ++ ds))
def jN (CX:CXT) (X:Cx) (E:XK):Prop:= ∀ (pins:List (Addr×Obj)) (σ:St) (H:Hp) (s:Shared) (e:Value) (s':Shared),Inv X pins σ H s→CX X.stack H s E e s'→X.xe e s'
section
variable {X:Cx} {CX:CXT} {k:Nat} {f C:Addr} {fd:FuncData} {ps:List Str} {sp:Sp} {dvs:List V} {ds:List Value} {E:XK} {x m:Str} {p pos apos:Pos} {e o:Expr} {es:List Expr} {ta:TE} {t:TA}
theorem aCC {pins:List (Addr×Obj)} {σ:St} {H:Hp} {s:Shared} {Q:VK} {us:List Value} {vs:List V} (F:bP X.prog X.w X.K X.mg X.base CX k f fd ps sp) (hr:bE k X.A) (hb:aG X.K fd ps ds) (hd:aM dvs ds) (hx:jN CX X E)
   (I:Inv X pins σ H s) (r:aM vs us) (h:sp (vs ++ dvs) H Q E):wpAny (model X.prog X.w) X.A (call (.ref f) us) (EP X pins σ Q) X.xe s:=by
 have r2:aM (vs ++ dvs) (us ++ ds):=r.append hd;have hl:(us ++ ds).length=ps.length:=by rw [←r2.length]; exact F.len _ _ _ _ h
 refine wpAny_call (codeAny_mono (F.run X.A X.stack s H ⟨us,[]⟩ (us ++ ds) (vs ++ dvs) Q E hr I.env0 (hb s us I.kIn hl) r2 h) fun r s' hq=>?_);cases r with
 | error e=>exact hx pins σ H s e s' I hq
 | ok fl =>
   cases fl with
   | ret u=>exact I.after hq
   | next=>exact False.elim hq
   | brk=>exact False.elim hq
   | cont=>exact False.elim hq
theorem YE (F:bP X.prog X.w X.K X.mg X.base CX k f fd ps sp) (hr:bE k X.A) (hg:Gl X x) (hm:X.mg x=some (.ref f)) (hk:W.keepIn X.K (.ref f)=true) (hb:aG X.K fd ps ds) (hd:aM dvs ds) (hx:jN CX X E)
   (ha:PA X (e :: es) t) (hdb:(x == ("__debug__":Str))=false:=by decide) (he:starEach (e :: es) X.env=(false,eval e X.env) :: starEach es X.env:=by rfl) (hpl:(backTo pos (starEach es X.env)).any (·.1)=false:=by rfl) :
   PE X (.Call (.Name x p) (e :: es) [] pos) (aGK sp dvs E t):=by
 intro pins s σ H Q I h;refine wpAny_Call_Name_kw (fL I hg hm ?_ hdb);refine W.callWith_K (h₀:=X.base) I.ok.mod.kin hk (thn (ha pos pins s σ H _ I h) fun us s1 ⟨vs,H1,I1,r,q⟩=>⟨I1.kIn, ?_⟩) he hpl;exact aCC F hr hb hd hx I1 r q
structure Mk (K:W.Frag) (C f:Addr):Prop where
 makes:W.makesIn K C=true
 init:W.findIn K (.ref C) "__init__"=some (some (.ref f))
 fn:W.isFn K (.ref f)=true
 kp:W.keepIn K (.ref C)=true
theorem OX {pins:List (Addr×Obj)} {σ:St} {H:Hp} {s:Shared} {Q:VK} {us:List Value} {vs:List V} (M:Mk X.K C f) (F:bP X.prog X.w X.K X.mg X.base CX k f fd ps sp) (hr:bE (k + 1) X.A) (hb:aG X.K fd ps ds) (hd:aM dvs ds)
   (hx:jN CX X E) (I:Inv X pins σ H s) (r:aM vs us)
   (h:∀ x dx,H x=none→H dx=none→dx≠x→sp (.ref x :: (vs ++ dvs)) (upd (upd H dx (.own x)) x (.ins C dx [])) (fun v H2=>v= .non∧Q (.ref x) H2) E) :
   wpAny (model X.prog X.w) X.A (call (.ref C) us) (EP X pins σ Q) X.xe s:=by
 have hq:=h (s.heap.objs.size + 1) s.heap.objs.size (I.hok.fresh (Nat.le_succ _)) (I.hok.fresh (Nat.le_refl _)) (Nat.ne_of_lt (Nat.lt_succ_self _));have I2:=Inv.made (C:=C) I;have r2:aM (V.ref (s.heap.objs.size + 1) :: (vs ++ dvs)) (Value.ref (s.heap.objs.size + 1) :: (us ++ ds)):=.cons rfl (r.append hd);have hl:(Value.ref (s.heap.objs.size + 1) :: us ++ ds).length=ps.length:=by
   have e:=r2.length;rw [F.len _ _ _ _ hq] at e;exact e.symm
 refine wpAny_call (BQ (f:=f) I.kIn M.makes M.init (beq_iff_eq.mp M.fn) (codeAny_mono (F.run _ X.stack _ _ ⟨Value.ref (s.heap.objs.size + 1) :: us,[]⟩ (Value.ref (s.heap.objs.size + 1) :: (us ++ ds)) _ _ E (hr.make C us [])
   (I2.env0.make C us []) (hb _ (Value.ref (s.heap.objs.size + 1) :: us) I2.kIn hl) r2 hq) fun r s' hq'=>?_))
 cases r with
 | error e=>exact hx pins σ _ _ e s' I2 hq'
 | ok fl =>
   cases fl with
   | ret u =>
     obtain ⟨v,H',I3,rv,ev,q3⟩:=I2.after hq';subst ev;exact ⟨rv,⟨V.ref (s.heap.objs.size + 1),H',I3,rfl,q3⟩⟩
   | next=>exact False.elim hq'
   | brk=>exact False.elim hq'
   | cont=>exact False.elim hq'
theorem aAw (M:Mk X.K C f) (F:bP X.prog X.w X.K X.mg X.base CX k f fd ps sp) (hr:bE (k + 1) X.A) (hg:Gl X x) (hm:X.mg x=some (.ref C)) (hb:aG X.K fd ps ds) (hd:aM dvs ds) (hx:jN CX X E)
   (ha:PA X (e :: es) t) (hdb:(x == ("__debug__":Str))=false:=by decide) (he:starEach (e :: es) X.env=(false,eval e X.env) :: starEach es X.env:=by rfl) (hpl:(backTo pos (starEach es X.env)).any (·.1)=false:=by rfl) :
   PE X (.Call (.Name x p) (e :: es) [] pos) (aFo C sp dvs E t):=by
 intro pins s σ H Q I h;refine wpAny_Call_Name_kw (fL I hg hm ?_ hdb);refine W.callWith_K (h₀:=X.base) I.ok.mod.kin M.kp (thn (ha pos pins s σ H _ I h) fun us s1 ⟨vs,H1,I1,r,q⟩=>⟨I1.kIn, ?_⟩) he hpl;exact OX M F hr hb hd hx I1 r q
end
noncomputable def PK (X:Cx) (kws:List Keyword) (t:TA):Prop :=
 ∀ (pos:Pos) (pins:List (Addr×Obj)) (s:Shared) (σ:St) (H:Hp) (Q:List V→Hp→Prop),Inv X pins σ H s→t σ H Q→wpAny (model X.prog X.w) X.A (evalAll ((backToKw pos (keywordEach kws X.env)).map (·.2))) (AP X pins σ Q) X.xe s
section
variable {X:Cx} {CX:CXT} {k:Nat} {f C:Addr} {fd:FuncData} {ps ks:List Str} {sp:Sp} {E:XK} {x m:Str} {p pos apos kpos:Pos} {e o:Expr} {es:List Expr} {kws:List Keyword} {te ta:TE} {t tk:TA} {nm:Option Str}
theorem aEZ:PK X [] aGE:=fun _ _ _ _ H Q I h=>wpAny_evalAll_nil ⟨[],H,I,.nil,h⟩
theorem ZS (ha:PE X e te) (hr:PK X kws t):PK X (⟨nm,e,kpos⟩ :: kws) (aB3 te t):=by
 intro pos pins s σ H Q I h;show wpAny _ _ (evalAll ((do let v ←eval e X.env; standAt pos; pure v) :: (backToKw pos (keywordEach kws X.env)).map (·.2))) _ _ s;refine wpAny_evalAll_cons (wAq (thn (ha pins s σ H _ I h) fun u s1 ⟨x,H1,I1,r1,q1⟩=>wAq (wpAny_standAt (wBq ?_))));exact thn (hr pos pins s1 σ H1 _ I1 q1) <|by rintro us s2 ⟨xs,H2,I2,r2,q2⟩;exact ⟨x :: xs,H2,I2,.cons r1 r2,q2⟩
variable {g:List Value→List Value→List Value} {gV:List V→List V→List V}
end
structure yY (N P:List Str) (sc:Scope):Prop where
 kind:sc.kind= .function
 co:sc.isCoroutine=false
 gen:sc.isGenerator=false
 nd:N.Nodup
 pre:N.take P.length=P
 par:∀ x∈P,sc.names.lookup x=some .local∨sc.names.lookup x=some .cell
 nofree:∀ y∈sc.names,y.2≠.free
theorem wZ {kindOf:Str→Option NameKind} {x:Str}:∀ {binds:List (Str×Value)} {m:Str→Option Value},(∀ v,(x,v)∉ binds)→bindL kindOf binds m x=m x
 | [],_,_=>rfl
 | (n,v) :: r,m,h=>by
   unfold bindL;rw [wZ fun w hw=>h w (wCq _ hw)];split
   · have:x≠n:=by rintro rfl; exact h v wDq
     simp [this]
   · rfl
theorem xS {kindOf:Str→Option NameKind} {x:Str}:∀ {binds:List (Str×Value)} {m:Str→Option Value},(∀ v,(x,v)∉ binds)→bindC kindOf binds m x=m x
 | [],_,_=>rfl
 | (n,v) :: r,m,h=>by
   unfold bindC;rw [xS fun w hw=>h w (wCq _ hw)];split
   · rfl
   · have:x≠n:=by rintro rfl; exact h v wDq
     simp [this]
theorem yA {kindOf:Str→Option NameKind} {x:Str} {v:Value}:∀ {P:List Str} {vs:List Value} {i:Nat} {m:Str→Option Value},P.Nodup→P[i]? =some x→vs[i]? =some v→kindOf x=some .local→
   bindL kindOf (P.zip vs) m x=some v
 | [],_,_,_,_,h,_,_=>by simp at h
 | _ :: _,[],_,_,_,_,h,_=>by simp at h
 | p :: P,w :: vs,0,m,nd,h1,h2,hk=>by
   simp at h1 h2; subst h1; subst h2
   show bindL kindOf ((p,w) :: P.zip vs) m p=_;unfold bindL;rw [wZ fun v hv=>(List.nodup_cons.mp nd).1 (List.of_mem_zip hv).1,if_pos hk];simp
 | p :: P,w :: vs,i + 1,m,nd,h1,h2,hk=>by
   show bindL kindOf ((p,w) :: P.zip vs) m x=_;unfold bindL;exact yA (i:=i) (List.nodup_cons.mp nd).2 (by simpa using h1) (by simpa using h2) hk
theorem xV {kindOf:Str→Option NameKind} {x:Str} {v:Value}:∀ {P:List Str} {vs:List Value} {i:Nat} {m:Str→Option Value},P.Nodup→P[i]? =some x→vs[i]? =some v→kindOf x≠some .local→
   bindC kindOf (P.zip vs) m x=some v
 | [],_,_,_,_,h,_,_=>by simp at h
 | _ :: _,[],_,_,_,_,h,_=>by simp at h
 | p :: P,w :: vs,0,m,nd,h1,h2,hk=>by
   simp at h1 h2; subst h1; subst h2
   show bindC kindOf ((p,w) :: P.zip vs) m p=_;unfold bindC;rw [xS fun v hv=>(List.nodup_cons.mp nd).1 (List.of_mem_zip hv).1,if_neg hk];simp
 | p :: P,w :: vs,i + 1,m,nd,h1,h2,hk=>by
   show bindC kindOf ((p,w) :: P.zip vs) m x=_;unfold bindC;exact xV (i:=i) (List.nodup_cons.mp nd).2 (by simpa using h1) (by simpa using h2) hk
noncomputable def start (N:List Str) (vs:List V):St:=vs.map some ++ List.replicate (N.length - vs.length) none
noncomputable def LV (CX:CXT) (P:Program) (w:World) (K:W.Frag) (mg:Str→Option Value) (base:Heap) (N:List Str) (qual:Str) (scope:Scope) (f:Addr) (cd:Value) (A:Around) (outer:List Env) (s:Shared) (H:Hp) (E:XK):Cx where
 prog:=P
 w:=w
 K:=K
 mg:=mg
 base:=base
 A:=A.deeper (envOfC qual scope s.heap.objs.size f cd)
 N:=N
 s₀:=s
 H₀:=H
 env:=envOfC qual scope s.heap.objs.size f cd
 outer:=outer
 stack:=envOfC qual scope s.heap.objs.size f cd :: outer
 ex:=[]
 calm:=A.handled.isNone
 fn:=fun _=>true
 pn:=[]
 xe:=fun e s'=>wpAny (model P w) (A.deeper (envOfC qual scope s.heap.objs.size f cd)) (leaving (envOfC qual scope s.heap.objs.size f cd) e) (fun _ s''=>CX outer H s E e s'') (fun e' s''=>CX outer H s E e' s'') s'
theorem tQ {sc:Scope} {n:Nat} {x:Str} (h:sc.names.lookup x=some .cell):∃ c,(cellsFrom n sc.names []).lookup x=some c:=by
 have q:=W.cellsFrom_some sc.names n [] (.inl h);exact Option.isSome_iff_exists.mp q
theorem KY {CX:CXT} {P:Program} {w:World} {K:W.Frag} {mg:Str→Option Value} {base:Heap} {N ps:List Str} {qual:Str} {scope:Scope} {f:Addr} {cd:Value} {A:Around} {outer:List Env} {s s1:Shared} {H:Hp} {E:XK} {us:List Value} {vs:List V}
   (S:yY N ps scope) (e0:pH P w K mg base A outer s H) (hl:vs.length=ps.length) (r:aM vs us)
   (x:InCallC s s.heap.objs.size (bindL (envOfC qual scope s.heap.objs.size f cd).kindOf (ps.zip us) fun _=>none) (cellsFrom (s.heap.objs.size + 1) scope.names []) (bindC (envOfC qual scope s.heap.objs.size f cd).kindOf (ps.zip us) fun _=>none) s1) :
   Inv (LV CX P w K mg base N qual scope f cd A outer s H E) [] (start N vs) H s1:=by
 have hpl:ps.length≤N.length:=by have:=congrArg List.length S.pre; rw [List.length_take] at this; omega
 obtain ⟨h1,tk,rfl,hk⟩:=x.done;have noA:∀ b:Addr,b∉ (LV CX P w K mg base N qual scope f cd A outer s H E).ex:=fun b z=>absurd (show b∈([]:List Addr) from z) (by simp);refine ⟨⟨e0.mod,S.kind,rfl,rfl,Nat.le_refl _,fun y z c h1 h2=>?_,fun y hy=>?_,fun y c _ h=>?_,fun z=>Option.isNone_iff_eq_none.mp z,Around.frames_deeper e0.frames,.inr ⟨rfl,rfl⟩,fun b z=>absurd z (noA b),e0.bs,e0.bsz,fun b _ _=>noA b,fun b z=>absurd z (noA b),e0.funs,e0.frf⟩,
   rfl,e0.bare,Un.kept hk,⟨_,x.toInCall.ns,fun i y v h1 h2 h3=>?_⟩,fun y c h=>⟨_,x.cell y c h⟩,e0.hok.fresh (Nat.le_refl _),fun y c h=>?_,fun p hp=>absurd (show p∈([]:List (Addr×Obj)) from hp) (by simp),e0.hok.kept hk, ?_⟩
 · exact name_of_addr x.apart (PySem.mem_of_lookup h1) (PySem.mem_of_lookup h2)
 · have hy:scope.names.lookup y=some .cell∨scope.names.lookup y=some .free:=hy;rcases hy with hy | hy
   · exact tQ hy
   · exact absurd rfl (S.nofree _ (PySem.mem_of_lookup hy))
 · exact Nat.le_of_lt (x.above y c (PySem.mem_of_lookup h))
 · have hi:i < vs.length:=by
     unfold start at h2;by_cases hi:i < vs.length
     · exact hi
     · rw [List.getElem?_append_right (by simpa using hi)] at h2;rw [List.getElem?_replicate] at h2;split at h2 <;> cases h2
   have ha:vs[i]? =some v:=by
     unfold start at h2;rw [List.getElem?_append_left (by simpa using hi),List.getElem?_map] at h2;cases e:vs[i]? with
     | none=>rw [e] at h2; cases h2
     | some a=>rw [e] at h2; cases h2; rfl
   obtain ⟨u,hu,rv⟩:=r.get ha;have hp:ps[i]? =some y:=by
     rw [←S.pre,List.getElem?_take_of_lt (by omega)]; exact h1
   have ndP:ps.Nodup:=by rw [←S.pre]; exact S.nd.sublist (List.take_sublist _ _)
   refine ⟨u,rv, ?_⟩;rcases S.par y (List.mem_of_getElem? hp) with k | k
   · exact .inl ⟨k,yA ndP hp hu k⟩
   · obtain ⟨c,e⟩:=tQ (n:=s.heap.objs.size + 1) k;refine .inr ⟨.inl k,c,e, ?_⟩;have q:=x.cell y c e;rw [xV ndP hp hu (by show scope.names.lookup y≠_; rw [k]; decide)] at q;exact q
 · exact e0.hok.fresh (Nat.le_of_lt (x.above y c (PySem.mem_of_lookup h)))
 · unfold start;show _=N.length;rw [List.length_append,List.length_map,List.length_replicate];omega
theorem aG4 {CX:CXT} {P:Program} {w:World} {K:W.Frag} {mg:Str→Option Value} {base:Heap} {k:Nat} {f:Addr} {name qual:Str} {params:Arguments} {body:List Stmt} {scope:Scope} {dV kV doc pm cdv ct oc:Value} {an od:Option Addr}
   {osl:Array (Option Value)} {N ps:List Str} {sp:Sp} (lk:K.lookup f=some ⟨oc,od,.func (W.fnOf name qual params body scope dV kV doc pm an cdv ct),osl⟩) (hcd:W.codeIn K cdv qual=true) (S:yY N ps scope)
   (len:∀ vs H Q E,sp vs H Q E→vs.length=ps.length)
   (hbody:∀ (A:Around) (outer:List Env) (s:Shared) (H:Hp) (vs:List V) (Q:VK) (E:XK),bE k (A.deeper (envOfC qual scope s.heap.objs.size f cdv))→sp vs H Q E→
     ∃ t,PSs (LV CX P w K mg base N qual scope f cdv A outer s H E) body t∧t { nx:=fun _ H'=>Q .non H',rt:=Q } (start N vs) H) :
   bP P w K mg base CX (k + 1) f (W.fnOf name qual params body scope dV kV doc pm an cdv ct) ps sp:=by
 refine ⟨len,fun A outer s H args us vs Q E hr e0 hb r hsp=>?_⟩;have hl:=len _ _ _ _ hsp;have KX:K.In s.heap:=e0.mod.kin.keeps fun b o e=>(e0.bs b o e).1;have lim:s.heap.NoLimit:=e0.mod.nolimit.keeps fun b o e=>(e0.bs b o e).1;have hkind:∀ y∈ps.zip us,scope.names.lookup y.1=some .local∨(scope.names.lookup y.1=some .cell∧((cellsFrom (s.heap.objs.size + 1) scope.names []).lookup y.1).isSome=true):=by
   rintro ⟨n,v⟩ hy;rcases S.par n (List.of_mem_zip hy).1 with q | q
   · exact .inl q
   · exact .inr ⟨q,W.cellsFrom_some _ _ _ (.inl q)⟩
 refine codeAny_call_function hr.depth (KX _ _ lk) rfl S.co S.gen rfl (W.codeRec_of KX hcd) (hb _ _ _ _ ?_);refine wpAny_newFunctionEnv_cells S.kind hkind fun env he s1 x=>?_;subst he;refine ⟨lim.keeps x.toInCall.keep,codeAny_func ?_⟩;obtain ⟨t,ht,hq⟩:=hbody A outer s H vs Q E (hr.deeper _) hsp;have I:Inv (LV CX P w K mg base N qual scope f cdv A outer s H E) [] (start N vs) H s1:=KY S e0 hl r x;refine wpAny_mono (ht [] s1 (start N vs) H _ I hq) (fun fl s' hs=>?_) fun e s' hs=>hs;have fin:∀ {σ':St} {H':Hp} {v:V} {u:Value},Inv (LV CX P w K mg base N qual scope f cdv A outer s H E) [] σ' H' s'→aP v u→Q v H'→CE outer P w H s Q u s' :=
   fun {σ' H' v u} J rv q=>⟨v,H',J.os,J.bare,J.base,J.hok,rv,q⟩
 cases fl with
 | ret u =>
   obtain ⟨v,σ',H',J,rv,q⟩:=hs;exact fin J rv q
 | next =>
   obtain ⟨σ',H',J,q⟩:=hs;exact fin (v:=V.non) (u:=Value.none) J rfl q
 | brk =>
   obtain ⟨_,_,_,q⟩:=hs;exact False.elim q
 | cont =>
   obtain ⟨_,_,_,q⟩:=hs;exact False.elim q
section
variable {X:Cx} {x:Str} {p pos:Pos} {e:Expr} {es:List Expr} {t:TA} {id T:String} {r:List V→Hp→VK→Prop}
def tCB (r:List V→Hp→VK→Prop) (t:TA):TE:=fun σ H Q=>t σ H fun vs H1=>r vs H1 Q
theorem DA (hc:bL X (.builtin id) r) (hg:Gl X x) (hm:X.mg x=none) (hv:bootBuiltins x=some (.builtin id)) (ha:PA X (e :: es) t) (hn:x≠"__name__":=by decide) (hdb:(x == ("__debug__":Str))=false:=by decide)
   (he:starEach (e :: es) X.env=(false,eval e X.env) :: starEach es X.env:=by rfl) (hpl:(backTo pos (starEach es X.env)).any (·.1)=false:=by rfl):PE X (.Call (.Name x p) (e :: es) [] pos) (tCB r t):=by
 intro pins s σ H Q I h;refine wpAny_Call_Name_kw (mR I hg hm hv ?_ hn hdb);exact PyProof.Rows.callWith_builtin1 (thn (ha pos pins s σ H _ I h) <|by rintro us s1 ⟨vs,H1,I1,r1,q1⟩;exact hc pins s1 σ H1 vs us Q I1 r1 q1) he hpl
theorem xL (hc:bL X (.type T) r) (hg:Gl X x) (hm:X.mg x=none) (hv:bootBuiltins x=some (.type T)) (ha:PA X (e :: es) t) (hn:x≠"__name__":=by decide) (hdb:(x == ("__debug__":Str))=false:=by decide)
   (he:starEach (e :: es) X.env=(false,eval e X.env) :: starEach es X.env:=by rfl) (hpl:(backTo pos (starEach es X.env)).any (·.1)=false:=by rfl):PE X (.Call (.Name x p) (e :: es) [] pos) (tCB r t):=by
 intro pins s σ H Q I h;refine wpAny_Call_Name_kw (mR I hg hm hv ?_ hn hdb);exact PyProof.Rows.callWith_type1 (thn (ha pos pins s σ H _ I h) <|by rintro us s1 ⟨vs,H1,I1,r1,q1⟩;exact hc pins s1 σ H1 vs us Q I1 r1 q1) he hpl
end
end L2
namespace HT
open PySem PyProof.Rows
noncomputable def xY:List Int→List Int→Bool
 | [],[]=>false
 | [],_ :: _=>true
 | _ :: _,[]=>false
 | x :: xs,y :: ys=>if x=y then xY xs ys else decide (x < y)
theorem aC4 (x y:Int) (xs ys:List Int):xY (x :: xs) (y :: ys)=if x=y then xY xs ys else decide (x < y):=rfl
theorem YC:xY [] []=false:=rfl
theorem SG (y:Int) (ys:List Int):xY [] (y :: ys)=true:=rfl
theorem SD (x:Int) (xs:List Int):xY (x :: xs) []=false:=rfl
section
open PySem.SeqAt
open PySem.AutoSeq1 (wpAny_loadPart')
open PySem.MeetsSeq PySem.MeetsSeq2 PySem.MeetsSeq3
end
section
variable {prog:Program} {w:World} {A:Around} {E:Value→Shared→Prop} {s:Shared}
theorem ZN {t b:Addr} {vs ws:List Value} {Q:Value→Shared→Prop} (ht:IsTup s.heap t vs.toArray) (hb:IsTup s.heap b ws.toArray) (hv:vs≠ [])
   (h1:ws=[]→Q (.ref t) s) (h2:ws≠ []→Q (.ref s.heap.objs.size) { s with heap:=s.heap.push { cls:=.type "tuple",data:=.seq (vs ++ ws).toArray } })
   (hsz:vs.length + ws.length≤sizeLine):wpAny (model prog w) A (binaryOp .Add (.ref t) (.ref b)) Q E s:=by
 obtain ⟨⟨cls,dd,data,sl⟩,ho,hc,n,hd⟩:=id ht;obtain ⟨⟨cls2,dd2,data2,sl2⟩,ho2,hc2,n2,hd2⟩:=id hb;simp only at hc hd hc2 hd2;subst hc hd hc2 hd2;have e:vs.toArray ++ ws.toArray=(vs ++ ws).toArray:=by simp
 by_cases hw:ws=[]
 · exact concat_meets ⟨_,ho,rfl⟩ ⟨_,ho2,rfl⟩ noFill_tuple_add seq_tuple_add PySem.F.slot_tuple_add PySem.F.entry_tuple_add (PySem.F.args_tuple_add_2 _ _)
     (tuple_addW1 t b vs.toArray ws.toArray n n2 dd dd2 sl sl2 (by simpa using hv) (by simp [hw])) ⟨ho,ho2,h1 hw⟩
 · refine concat_meets ⟨_,ho,rfl⟩ ⟨_,ho2,rfl⟩ noFill_tuple_add seq_tuple_add PySem.F.slot_tuple_add PySem.F.entry_tuple_add (PySem.F.args_tuple_add_2 _ _)
     (tuple_addW2 t b vs.toArray ws.toArray n n2 dd dd2 sl sl2 (by simpa using hv) (by simpa using hw) (by rw [wIq,wIq]; exact hsz)) ⟨ho,ho2, ?_⟩
   rw [e];exact h2 hw
noncomputable def sIx (n d:Nat):Option Int→Nat
 | none=>d
 | some v=>if v < 0 then (v + (n:Int)).toNat else min v.toNat n
theorem aH4 (n d:Nat):sIx n d none=d:=rfl
theorem aEb (n d:Nat) (hd:d≤n) (o:Option Int):sIx n d o≤n:=by
 cases o with
 | none=>exact hd
 | some v =>
   show (if v < 0 then (v + (n:Int)).toNat else min v.toNat n)≤n;by_cases hv:v < 0
   · rw [if_pos hv]; omega
   · rw [if_neg hv]; exact Nat.min_le_right _ _
theorem HL (v:Int) (n d:Nat):(if v < 0 then max (v + (n:Int)) 0 else min v (n:Int))=((sIx n d (some v):Nat):Int):=by
 show (if v < 0 then max (v + (n:Int)) 0 else min v (n:Int))=(((if v < 0 then (v + (n:Int)).toNat else min v.toNat n):Nat):Int);by_cases hv:v < 0
 · simp only [if_pos hv]; omega
 · simp only [if_neg hv]; omega
theorem EQ (lo hi:Option Int) (n:Nat):Builtin.Slice.sliceAdjust lo hi 1 (n:Int)=(((sIx n 0 lo:Nat):Int),((sIx n n hi:Nat):Int)):=by
 have h1:¬((1:Int) < 0):=by omega
 unfold Builtin.Slice.sliceAdjust;simp only [h1,if_false];refine Prod.ext ?_ ?_
 · cases lo with
   | none=>rfl
   | some v=>exact HL v n 0
 · cases hi with
   | none=>rfl
   | some v=>exact HL v n n
theorem FF (i j:Nat):Builtin.Slice.slicePlaces (i:Int) (j:Int) 1=j - i:=by
 unfold Builtin.Slice.slicePlaces;have h1:(1:Int) > 0:=by omega
 simp only [h1,if_true,Int.ediv_one];split <;> omega
theorem uE {v:Value} {o:Option Int} {Q:Option Int→Shared→Prop} (p:IsPart v o) (h:Q o s):wpAny (model prog w) A (Builtin.Slice.slicePartIndex v) Q E s:=by
 cases p with
 | none=>exact slicePart_none h
 | int i t=>exact slicePart_int h
theorem iH {sl:Addr} {vl vu:Value} {lo hi:Option Int} {n:Nat} {Q:Int×Int×Nat→Shared→Prop} (hs:s.heap.IsSliceOf sl vl vu .none) (pl:IsPart vl lo) (pu:IsPart vu hi)
   (h:Q (((sIx n 0 lo:Nat):Int),1,sIx n n hi - sIx n 0 lo) s):wpAny (model prog w) A (Builtin.Slice.sliceApplied (.ref sl) (pure (n:Int))) Q E s:=by
 obtain ⟨os,hos,hcs,hds⟩:=id hs;unfold Builtin.Slice.sliceApplied Builtin.Slice.sliceFields;refine wAq (wAq (wpAny_field hos hds (x:=vl) rfl (wAq (wpAny_field hos hds (x:=vu) rfl (wAq (wpAny_field hos hds (x:=.none) rfl (wBq ?_)))))));refine wAq (slicePart_none ?_);show wpAny _ _ (if ((1:Int) == 0)=true then _ else _) _ _ s;rw [if_neg (by decide)];refine wAq (uE pl (wAq (uE pu (wAq (wBq ?_)))));show wpAny _ _ (match Builtin.Slice.sliceAdjust lo hi 1 (n:Int) with | (lo,hi)=>pure (lo,(1:Int),Builtin.Slice.slicePlaces lo hi 1)) _ _ s;rw [EQ lo hi n];show wpAny _ _ (pure (((sIx n 0 lo:Nat):Int),(1:Int),Builtin.Slice.slicePlaces ((sIx n 0 lo:Nat):Int) ((sIx n n hi:Nat):Int) 1)) _ _ s;rw [FF];exact wBq h
theorem WF (xs:Array Value) (i k:Nat):((List.range k).filterMap fun (m:Nat)=>xs[((i:Int) + (m:Int) * 1).toNat]?).toArray=((xs.toList.drop i).take k).toArray:=by
 have e:(fun (m:Nat)=>xs[((i:Int) + (m:Int) * 1).toNat]?)=fun m=>xs[i + m]? :=by
   funext m
   have:((i:Int) + (m:Int) * 1).toNat=i + m:=by omega
   rw [this]
 rw [e];have:=pick_run xs i k;rw [List.filterMap_map] at this;have e2:((fun x=>xs[x]?) ∘ fun x=>i + x)=fun m=>xs[i + m]? :=rfl;rw [e2] at this;rw [this]
theorem nV {t sl:Addr} {items:Array Value} {vl vu:Value} {lo hi:Option Int} {Q:Value→Shared→Prop} (ht:IsTup s.heap t items) (hs:s.heap.IsSliceOf sl vl vu .none) (pl:IsPart vl lo) (pu:IsPart vu hi)
   (hw:¬(sIx items.size 0 lo=0∧sIx items.size items.size hi=items.size))
   (h:Q (.ref s.heap.objs.size) { s with heap:=s.heap.push { cls:=.type "tuple",data:=.seq ((items.toList.drop (sIx items.size 0 lo)).take (sIx items.size items.size hi - sIx items.size 0 lo)).toArray } })
   (hsz:items.size≤sizeLine):wpAny (model prog w) A (getItem (.ref t) (.ref sl)) Q E s:=by
 have htake:sizeOk (.seq ((items.toList.drop (sIx items.size 0 lo)).take (sIx items.size items.size hi - sIx items.size 0 lo)).toArray):=by
   show ((items.toList.drop (sIx items.size 0 lo)).take (sIx items.size items.size hi - sIx items.size 0 lo)).toArray.size≤sizeLine;rw [wIq,List.length_take,List.length_drop,Array.length_toList];omega
 have hj:sIx items.size items.size hi≤items.size:=aEb _ _ (Nat.le_refl _) hi;obtain ⟨os,hos,hcs,hds⟩:=id hs;have hTs:s.TypeIs (.ref sl) "slice":=⟨os,hos,hcs⟩;unfold getItem
 try with_reducible refine wpAny_holding ?_
 first | refine wAq (wBq ?_) | skip
 refine wAq (wpAny_sequenceKey ht.typeIs (by decide) ?_);refine wAq (wpAny_callSpecial?_slot (name:=Str.ofString "__getitem__") ht.typeIs PyProof.Rows.slot_tuple_getitem
   (wpAny_call_entry PyProof.Rows.slot_tuple_getitem ht.typeIs entry_tuple_getitem ?_ (args_tuple_getitem _ _)))
 show wpAny _ _ (Builtin.Tuple.tupleItemsOf (.ref t) >>= _) _ _ s;refine wAq (tupleItemsOf_ ht ?_);refine wAq (wpAny_typeOf hTs ?_);rw [if_pos (by decide)];refine wAq (iH hs pl pu ?_);have hno:¬((((sIx items.size 0 lo:Nat):Int) == 0 && (1:Int) == 1 && (sIx items.size items.size hi - sIx items.size 0 lo) == items.size)=true):=by
   intro q;rw [Bool.and_eq_true,Bool.and_eq_true] at q;have q1:((sIx items.size 0 lo:Nat):Int)=0:=eq_of_beq q.1.1;have q2:sIx items.size items.size hi - sIx items.size 0 lo=items.size:=eq_of_beq q.2;exact hw ⟨by omega,by omega⟩
 show wpAny _ _ (if (((sIx items.size 0 lo:Nat):Int) == 0 && (1:Int) == 1 && (sIx items.size items.size hi - sIx items.size 0 lo) == items.size)=true then _ else _) _ _ s;rw [if_neg hno,WF];first
   | exact wAq (m:=Builtin.Tuple.tupleExact _) (wpAny_newObj_type (wBq ⟨_,rfl,wBq h⟩) htake)
   | exact wAq (m:=Builtin.Tuple.tupleExact _) (wpAny_newObj_type (wAq (wBq (wBq ⟨_,rfl,wBq h⟩))) htake)
   | exact wAq (wAq (m:=Builtin.Tuple.tupleExact _) (wpAny_newObj_type (wBq (wBq ⟨_,rfl,wBq h⟩)) htake))
   | exact wAq (wAq (m:=Builtin.Tuple.tupleExact _) (wpAny_newObj_type (wBq ⟨_,rfl,wBq h⟩) htake))
end
end HT
namespace L2
open PySem PySem.Spec PyProof.Rows
noncomputable abbrev TO:=St→Hp→(Option Int→Hp→Prop)→Prop
noncomputable def PO (X:Cx) (e:Option Expr) (t:TO):Prop :=
 ∀ (pins:List (Addr×Obj)) (s:Shared) (σ:St) (H:Hp) (Q:Option Int→Hp→Prop),Inv X pins σ H s→t σ H Q→
   wpAny (model X.prog X.w) X.A (evalPart e X.env) (fun u s'=>∃ o H',Inv X pins σ H' s'∧IsPart u o∧Q o H') X.xe s
noncomputable def YU:TO:=fun _ H Q=>Q none H
noncomputable def aH5 (t:TE):TO:=fun σ H Q=>t σ H fun x H1=>∃ i,x= .int i∧Q (some i) H1
section
variable {X:Cx} {e:Expr} {te:TE} {lo hi:Option Expr} {tl th:TO} {pos p2:Pos}
theorem aAU:PO X none YU:=by
 intro pins s σ H Q I h;rw [evalPart_none];exact wBq ⟨none,H,I,.none,h⟩
theorem aA6 (h:PE X e te):PO X (some e) (aH5 te):=by
 intro pins s σ H Q I hw;rw [evalPart_some];refine thn (h pins s σ H _ I hw) fun u s1 zz=>?_;obtain ⟨x,H1,I1,r1,q1⟩:=zz;obtain ⟨i,rfl,q⟩:=q1;obtain ⟨t,rfl⟩:=r1;exact ⟨some i,H1,I1,.int i t,q⟩
noncomputable def SlR (X:Cx) (r:V→Option Int→Option Int→Hp→VK→Prop):Prop :=
 ∀ (pins:List (Addr×Obj)) (s:Shared) (σ:St) (H:Hp) (x:V) (v vl vu:Value) (lo hi:Option Int) (sl:Addr) (Q:VK),Inv X pins σ H s→aP x v→s.heap.IsSliceOf sl vl vu .none→IsPart vl lo→IsPart vu hi→r x lo hi H Q→
   ∃ T id,typeLookup (.type T) "__getitem__"=pure (some (.builtin id))∧s.TypeIs v T∧wpAny (model X.prog X.w) X.A (getItem v (.ref sl)) (EP X pins σ Q) X.xe s
theorem SlR.or {r r':V→Option Int→Option Int→Hp→VK→Prop} (h:SlR X r) (h':SlR X r'):SlR X (fun x lo hi H Q=>r x lo hi H Q∨r' x lo hi H Q):=by
 intro pins s σ H x v vl vu lo hi sl Q I rx hs pl pu q;rcases q with q | q
 · exact h pins s σ H x v vl vu lo hi sl Q I rx hs pl pu q
 · exact h' pins s σ H x v vl vu lo hi sl Q I rx hs pl pu q
def tSl (r:V→Option Int→Option Int→Hp→VK→Prop) (te:TE) (tl th:TO):TE:=fun σ H Q=>te σ H fun x H1=>tl σ H1 fun l H2=>th σ H2 fun u H3=>r x l u H3 Q
theorem SW {r:V→Option Int→Option Int→Hp→VK→Prop} (hr:SlR X r) (he:PE X e te) (hl:PO X lo tl) (hu:PO X hi th):PE X (.Subscript e (.Slice lo hi none p2) pos) (tSl r te tl th):=by
 intro pins s σ H Q I h;refine Subscript_ (thn (he pins s σ H _ I h) fun v s1 zz=>?_);obtain ⟨x,H1,I1,r1,q1⟩:=zz;refine wpAny_Slice (thn (hl pins s1 σ H1 _ I1 q1) fun vl s2 ⟨l,H2,I2,pl,q2⟩=>thn (hu pins s2 σ H2 _ I2 q2) fun vu s3 zz=>?_);obtain ⟨u,H3,I3,pu,q3⟩:=zz;rw [evalPart_none];refine wBq ?_;have I4:Inv X pins σ H3 { s3 with heap:=s3.heap.push { cls:=.type "slice",data:=.fields #[vl,vu,.none] } }:=I3.kept (t':=s3.toks) fun b ob q=>wEq _ q;obtain ⟨T,id,hT,ht,hg⟩:=hr pins { s3 with heap:=s3.heap.push { cls:=.type "slice",data:=.fields #[vl,vu,.none] } } σ H3 x v vl vu l u s3.heap.objs.size Q I4 r1 (Heap.IsSliceOf.new ..) pl pu q3;show wpAny (model X.prog X.w) X.A (subscriptTail e (.Slice lo hi none p2) v (.ref s3.heap.objs.size)) (EP X pins σ Q) X.xe { s3 with heap:=s3.heap.push { cls:=.type "slice",data:=.fields #[vl,vu,.none] } };exact tail_any (ops:=[.ref s3.heap.objs.size,v]) ht hT hg (by with_unfolding_all rfl)
noncomputable def CL (xs:List V) (lo hi:Option Int):List V:=(xs.drop (HT.sIx xs.length 0 lo)).take (HT.sIx xs.length xs.length hi - HT.sIx xs.length 0 lo)
theorem rL (xs:List V) (lo hi:Option Int):(CL xs lo hi).length≤xs.length:=by
 unfold CL;rw [List.length_take,List.length_drop];omega
noncomputable def aJB (K:W.Frag):V→Option Int→Option Int→Hp→VK→Prop:=fun x lo hi H Q=>∃ a xs,x= .ref a∧SqT K H a xs∧
 ¬(HT.sIx xs.length 0 lo=0∧HT.sIx xs.length xs.length hi=xs.length)∧∀ p,H p=none→Q (.ref p) (upd H p (.tup (CL xs lo hi)))
theorem aCw:SlR X (aJB X.K):=by
 intro pins s σ H x v vl vu lo hi sl Q I rx hs pl pu h;obtain ⟨a,xs,rfl,hx,hw,q⟩:=h;cases rx;obtain ⟨its,r,ht,hz⟩:=I.tuple hx;have hlen:its.toArray.size=xs.length:=by rw [wIq]; exact r.length.symm
 refine ⟨"tuple",_,PyProof.Rows.slot_tuple_getitem.lookup,ht.typeIs, ?_⟩;refine HT.nV ht hs pl pu (by rw [hlen]; exact hw) ?_ (by rw [hlen]; exact hz);rw [hlen];refine ⟨.ref s.heap.objs.size,_,I.laid (t':=s.toks) (o:=.tup (CL xs lo hi)) (fun b ob q=>wEq _ q) (Nat.le_refl _) ?_,rfl,q _ (I.hok.fresh (Nat.le_refl _))⟩;exact ⟨Nat.le_trans (rL xs lo hi) hz,_,(r.drop (HT.sIx xs.length 0 lo)).take (HT.sIx xs.length xs.length hi - HT.sIx xs.length 0 lo),gH.new _ _⟩
def aGl (K:W.Frag):R2:=fun x y H Q=>∃ a b xs ys,x= .ref a∧y= .ref b∧SqT K H a xs∧SqT K H b ys∧xs≠ []∧xs.length + ys.length≤sizeLine∧
 (ys=[]→Q (.ref a) H)∧(ys≠ []→∀ p,H p=none→Q (.ref p) (upd H p (.tup (xs ++ ys))))
theorem aM.nil_iff {xs:List V} {us:List Value} (r:aM xs us):us=[]↔xs=[]:=by
 cases r with
 | nil=>simp
 | cons _ _=>simp
theorem YR:OpR X (binaryOp .Add) (aGl X.K):=by
 intro pins s σ H x y v u Q I rx ry h;obtain ⟨a,b,xs,ys,rfl,rfl,ha,hb,hx,hz,q1,q2⟩:=h;cases rx;cases ry;obtain ⟨its,r1,p1,_⟩:=I.tuple ha;obtain ⟨its2,r2,p2,_⟩:=I.tuple hb;refine HT.ZN p1 p2 (fun z=>hx (r1.nil_iff.mp z)) (fun z=>⟨.ref a,H,I,rfl,q1 (r2.nil_iff.mp z)⟩) (fun z=>?_) (by rw [←r1.length,←r2.length]; exact hz);refine ⟨.ref s.heap.objs.size,_,I.laid (t':=s.toks) (o:=.tup (xs ++ ys)) (fun b ob q=>wEq _ q) (Nat.le_refl _) ?_,rfl,q2 (fun w=>z (r2.nil_iff.mpr w)) _ (I.hok.fresh (Nat.le_refl _))⟩;exact ⟨by rw [List.length_append]; exact hz,_,r1.append r2,gH.new _ _⟩
end
noncomputable def ixN (n:Nat) (i:Int):Option Nat:=if 0≤i then (if i < n then some i.toNat else none) else if -(n:Int)≤i then some (i + n).toNat else none
noncomputable def atI {α:Type} (xs:List α) (i:Int):Option α:=(ixN xs.length i).bind fun j=>xs[j]?
theorem IK {n:Nat} {i:Int} {j:Nat} (h:ixN n i=some j):seqIndex? i n=some j∧j < n∧ -(n:Int)≤i∧i < n:=by
 unfold ixN at h;by_cases h0:0≤i
 · rw [if_pos h0] at h;by_cases h1:i < n
   · rw [if_pos h1] at h;have e:i.toNat=j:=Option.some.inj h;exact ⟨by rw [seqIndex_of h0 h1,e],by omega,by omega,h1⟩
   · rw [if_neg h1] at h; cases h
 · rw [if_neg h0] at h;by_cases h1: -(n:Int)≤i
   · rw [if_pos h1] at h;have e:(i + n).toNat=j:=Option.some.inj h;exact ⟨by rw [seqIndex_neg (by omega) h1,e],by omega,h1,by omega⟩
   · rw [if_neg h1] at h; cases h
theorem zQ {α:Type} {xs:List α} {i:Int} {v:α} (h:atI xs i=some v):∃ j,seqIndex? i xs.length=some j∧xs[j]? =some v∧j < xs.length∧ -(xs.length:Int)≤i∧i < xs.length:=by
 unfold atI at h;cases e:ixN xs.length i with
 | none=>rw [e] at h; cases h
 | some j =>
   rw [e] at h;obtain ⟨h1,h2,h3,h4⟩:=IK e;exact ⟨j,h1,h,h2,h3,h4⟩
theorem dE {α:Type} {xs:List α} {j:Nat} {v:α} (h:xs[j]? =some v):atI xs (j:Int)=some v:=by
 have hj:j < xs.length:=(List.getElem?_eq_some_iff.mp h).1;have e:ixN xs.length (j:Int)=some j:=by
   unfold ixN;rw [if_pos (by omega),if_pos (by omega)]; simp
 unfold atI; rw [e]; exact h
def AE (b:Expr):Prop:= ∀ o i,subscripted b false o i=operate [o,i] (getItem o i)
noncomputable def IxR (X:Cx) (r:R2):Prop :=
 ∀ (value slice:Expr) (pins:List (Addr×Obj)) (s:Shared) (σ:St) (H:Hp) (x y:V) (v u:Value) (Q:VK),Inv X pins σ H s→aP x v→aP y u→r x y H Q→
   subscripted slice false v u=operate [v,u] (getItem v u)→wpAny (model X.prog X.w) X.A (subscriptTail value slice v u) (EP X pins σ Q) X.xe s
noncomputable def MtR (X:Cx) (id:String) (r:V→List V→Hp→VK→Prop):Prop :=
 ∀ (pins:List (Addr×Obj)) (s:Shared) (σ:St) (H:Hp) (x:V) (xs:List V) (v:Value) (us:List Value) (Q:VK),Inv X pins σ H s→aP x v→aM xs us→r x xs H Q→
   wpAny (model X.prog X.w) X.A (call (.builtin id) (v :: us)) (EP X pins σ Q) X.xe s
section
variable {X:Cx} {a b:Expr} {ta tb:TE} {pos:Pos}
theorem IxR.or {r r':R2} (h:IxR X r) (h':IxR X r'):IxR X (fun x y H Q=>r x y H Q∨r' x y H Q):=by
 intro value slice pins s σ H x y v u Q I rx ry q hs;rcases q with q | q
 · exact h value slice pins s σ H x y v u Q I rx ry q hs
 · exact h' value slice pins s σ H x y v u Q I rx ry q hs
theorem aGP {r:R2} (hr:IxR X r) (ha:PE X a ta) (hb:PE X b tb) (hs:AE b):PE X (.Subscript a b pos) (tOp r ta tb):=by
 intro pins s σ H Q I h;exact Subscript_ (aCu ha hb I h fun v u s2 x y H2 I2 rx ry q=>hr a b pins s2 σ H2 x y v u Q I2 rx ry q (hs _ _))
def aF6 (K:W.Frag):R2:=fun x y H Q=>∃ p xs i v,x= .ref p∧y= .int i∧SqL K H p xs∧atI xs i=some v∧Q v H
def aGJ (K:W.Frag):R2:=fun x y H Q=>∃ p xs i v,x= .ref p∧y= .int i∧SqT K H p xs∧atI xs i=some v∧Q v H
def aIj:R2:=fun x y H Q=>∃ z i c,x= .str z∧y= .int i∧z.length≤sizeLine∧atI z.cps.toList i=some c∧Q (.str ⟨#[c]⟩) H
theorem aBb:IxR X (aF6 X.K):=by
 intro value slice pins s σ H x y v u Q I rx ry h hs;obtain ⟨p,xs,i,z,rfl,rfl,hq,he,q⟩:=h;cases rx;obtain ⟨t,rfl⟩:=ry;obtain ⟨its,r,pl,hz⟩:=I.list hq;obtain ⟨j,h1,h2,h3,h4,h5⟩:=zQ he;obtain ⟨w,ew,rw'⟩:=r.get h2;have hl:=r.length;have hn:=mQ;have fin:EP X pins σ Q w s:=⟨z,H,I,rw',q⟩;by_cases h0:0≤i
 · have hj:i.toNat=j:=by
     rw [seqIndex_of h0 h5] at h1;exact Option.some.inj h1
   exact item_listR pl.isList h0 (by omega) (by rw [hj]; simpa using ew) fin hs
 · have hj:(i + (its.toArray.size:Int)).toNat=j:=by
     rw [seqIndex_neg (by omega) h4] at h1;rw [wIq,←hl];exact Option.some.inj h1
   exact subscriptTail_builtinR (x:=w) pl.isList.typeIs slot_list_getitem.lookup
     (wpAny_getItem_list_neg (Q:=fun r s'=>r=w∧EP X pins σ Q r s') pl.isList (by omega) (by rw [wIq] <;> omega) (by omega) (by rw [hj]; simpa using ew) ⟨rfl,fin⟩) hs
theorem aCW:IxR X (aGJ X.K):=by
 intro value slice pins s σ H x y v u Q I rx ry h hs;obtain ⟨p,xs,i,z,rfl,rfl,hq,he,q⟩:=h;cases rx;obtain ⟨t,rfl⟩:=ry;obtain ⟨its,r,pl,hz⟩:=I.tuple hq;obtain ⟨j,h1,h2,h3,h4,h5⟩:=zQ he;obtain ⟨w,ew,rw'⟩:=r.get h2;have hl:=r.length;have hn:=mQ;have fin:EP X pins σ Q w s:=⟨z,H,I,rw',q⟩;exact subscriptTail_builtinR (x:=w) pl.typeIs slot_tuple_getitem.lookup
   (getItem_tuple (j:=j) (Q:=fun r s'=>r=w∧EP X pins σ Q r s') pl (by omega) (by omega) (by rw [wIq,←hl]; exact h1) (by simpa using ew) ⟨rfl,fin⟩) hs
theorem aEv:IxR X aIj:=by
 intro value slice pins s σ H x y v u Q I rx ry h hs;obtain ⟨z,i,c,rfl,rfl,hz,he,q⟩:=h;obtain ⟨t,rfl⟩:=rx;obtain ⟨t',rfl⟩:=ry;obtain ⟨j,h1,h2,h3,h4,h5⟩:=zQ he;have hl:z.cps.toList.length=z.length:=by simp [Str.length]
 rw [hl] at h1 h4 h5;have hn:=mQ;exact tail_any (typeIs_str s z t) slot_str_getitem.lookup (getItem_str (c:=c) (by
   have e1:decide (i < -(2 ^ 63:Int))=false:=decide_eq_false (by omega);have e2:decide (i ≥ 2 ^ 63)=false:=decide_eq_false (by omega);rw [e1,e2,Bool.or_false]) (by rw [h1]; simpa using h2) ⟨.str ⟨#[c]⟩,H,I.tok _,⟨_,rfl⟩,q⟩) hs
def rIx (K:W.Frag):R2:=fun x y H Q=>aF6 K x y H Q∨aGJ K x y H Q∨aIj x y H Q
theorem aEE:IxR X (rIx X.K):=aBb.or (aCW.or aEv)
theorem HB (its:List Value) (n j:Nat) (u:Value):Obj.mapSeq (·.setIfInBounds j u) { cls:=.type "list",data:=.seq its.toArray n }={ cls:=.type "list",data:=.seq (its.set j u).toArray n }:=by
 simp [Obj.mapSeq]
theorem Inv.lst {pins:List (Addr×Obj)} {σ:St} {H:Hp} {s:Shared} {p:Addr} {xs:List V} (I:Inv X pins σ H s) (h:H p=some (.lst xs)) :
   ∃ (its:List Value) (n:Nat),aM xs its∧s.heap.get? p=some { cls:=.type "list",data:=.seq its.toArray n }∧xs.length≤sizeLine:=by
 obtain ⟨z,its,n,r,e⟩:=I.hok p _ h;exact ⟨its,n,r,e,z⟩
theorem Inv.lstUpd {pins:List (Addr×Obj)} {σ:St} {H:Hp} {s:Shared} {p:Addr} {xs ys:List V} {its its':List Value} {n n':Nat} {f:Obj→Obj} (I:Inv X pins σ H s) (h:H p=some (.lst xs))
   (ho:s.heap.get? p=some { cls:=.type "list",data:=.seq its.toArray n }) (hf:f { cls:=.type "list",data:=.seq its.toArray n }={ cls:=.type "list",data:=.seq its'.toArray n' }) (r:aM ys its') (hz:ys.length≤sizeLine) (t:Nat) :
   Inv X pins σ (upd H p (.lst ys)) { s with heap:=s.heap.update p f,toks:=t }:=by
 have e:(s.heap.update p f).get? p=some { cls:=.type "list",data:=.seq its'.toArray n' }:=by
   rw [Heap.get?_update_self f ho (by rw [hf] <;> rfl),hf]
 refine I.write (x:=p) (e:=p) (by rw [h]; trivial) (.inl rfl) (fun b u hb q=>(Heap.get?_update_other _ _ (Ne.symm hb)).trans q) ⟨_,e⟩ ?_;exact ⟨hz,its',n',r,e⟩
noncomputable def aF9:V→V→V→Hp→(Hp→Prop)→Prop:=fun o i v H Q=>∃ p xs k j,o= .ref p∧i= .int k∧H p=some (.lst xs)∧ixN xs.length k=some j∧Q (upd H p (.lst (xs.set j v)))
theorem VF:aCz X aF9:=by
 intro pins s σ H o i v ov iv u Q I ro ri rv h;obtain ⟨p,xs,k,j,rfl,rfl,hp,hj,q⟩:=h;cases ro;obtain ⟨t,rfl⟩:=ri;obtain ⟨its,n,r,ho,hz⟩:=I.lst hp;obtain ⟨h1,h2,h3,h4⟩:=IK hj;have hl:=r.length;have hn:=mQ;have I':Inv X pins σ (upd H p (.lst (xs.set j v))) { s with heap:=s.heap.update p (Obj.mapSeq (·.setIfInBounds j u)) } :=
   I.lstUpd hp ho (HB its n j u) (r.set rv j) (by rw [List.length_set]; exact hz) s.toks
 by_cases h0:0≤k
 · have hk:k.toNat=j:=by
     rw [seqIndex_of h0 h4] at h1;exact Option.some.inj h1
   exact W.ki_setAt ho h0 (by omega) (by rw [wIq,←hl]; exact h4) (by rw [hk]; exact ⟨_,I',q⟩)
 · have hk:(k + (its.toArray.size:Int)).toNat=j:=by
     rw [seqIndex_neg (by omega) h3] at h1;rw [wIq,←hl];exact Option.some.inj h1
   exact W.ki_setBack ho (by omega) (by rw [wIq,←hl]; exact h3) (by omega) (by rw [hk]; exact ⟨_,I',q⟩)
theorem yZ (lo hi:Option Int) (n:Nat):(sliceBounds lo hi none n).1=((HT.sIx n 0 lo:Nat):Int)∧(sliceBounds lo hi none n).2.1=((HT.sIx n n hi:Nat):Int)∧(sliceBounds lo hi none n).2.2=1:=by
 refine ⟨?_, ?_,rfl⟩
 · cases lo with
   | none=>simp [sliceBounds,HT.sIx]
   | some i =>
     simp only [sliceBounds,HT.sIx,Option.getD_none,show (1:Int) > 0 by decide,if_true];by_cases h:i < 0
     · simp only [h,if_true] <;> omega
     · simp only [h,if_false] <;> omega
 · cases hi with
   | none=>simp [sliceBounds,HT.sIx]
   | some i =>
     simp only [sliceBounds,HT.sIx,Option.getD_none,show (1:Int) > 0 by decide,if_true];by_cases h:i < 0
     · simp only [h,if_true] <;> omega
     · simp only [h,if_false] <;> omega
theorem vW (its:List Value) (lo hi:Option Int):slicePick its.toArray lo hi none=((its.drop (HT.sIx its.length 0 lo)).take (HT.sIx its.length its.length hi - HT.sIx its.length 0 lo)).toArray:=by
 obtain ⟨h1,h2,h3⟩:=yZ lo hi its.toArray.size;unfold slicePick;rw [h1,h2,h3];simp only [sliceRange_one,pick_run,wIq] <;> rfl
noncomputable def aIL (K:W.Frag):V→Option Int→Option Int→Hp→VK→Prop:=fun x lo hi H Q=>∃ a xs,x= .ref a∧SqL K H a xs∧∀ p,H p=none→Q (.ref p) (upd H p (.lst (CL xs lo hi)))
theorem aAy:SlR X (aIL X.K):=by
 intro pins s σ H x v vl vu lo hi sl Q I rx hs pl pu h;obtain ⟨a,xs,rfl,hx,q⟩:=h;cases rx;obtain ⟨its,r,ht,hz⟩:=I.list hx;have hlen:=r.length;refine ⟨"list",_,slot_list_getitem.lookup,ht.isList.typeIs, ?_⟩;refine wpAny_getItem_list_slice ht.isList hs pl pu .none (by simp) ?_ (by rw [wIq] <;> omega);rw [vW,←hlen];refine ⟨.ref s.heap.objs.size,_,I.laid (t':=s.toks) (o:=.lst (CL xs lo hi)) (fun b ob q=>wEq _ q) (Nat.le_refl _) ?_,rfl,q _ (I.hok.fresh (Nat.le_refl _))⟩;exact ⟨Nat.le_trans (rL xs lo hi) hz,_,0,(r.drop (HT.sIx xs.length 0 lo)).take (HT.sIx xs.length xs.length hi - HT.sIx xs.length 0 lo),wGq _ rfl⟩
noncomputable def mF:V→Bool
 | .non=>true
 | .bl _=>true
 | .int _=>true
 | .str _=>true
 | _=>false
noncomputable def eqV:V→V→Bool
 | .non,.non=>true
 | .bl a,.bl b=>a == b
 | .bl a,.int b=>(if a then 1 else 0) == b
 | .int a,.bl b=>a == (if b then 1 else 0)
 | .int a,.int b=>a == b
 | .str a,.str b=>a == b
 | _,_=>false
theorem aEW {A:Around} {s:Shared} {y x:V} {u v:Value} (ry:aP y u) (rx:aP x v) (fy:mF y=true) (fx:mF x=true):SeqAt.EqAt A s u v (eqV y x):=by
 cases y with
 | non =>
   cases ry;cases x with
   | non=>cases rx; exact SeqAt.EqAt.same _
   | bl b=>cases rx; exact SeqAt.EqAt.none_bool b
   | int b=>obtain ⟨t,rfl⟩:=rx; exact SeqAt.EqAt.none_int b t
   | str b=>obtain ⟨t,rfl⟩:=rx; exact SeqAt.EqAt.none_str b t
   | _=>exact absurd (show false=true from fx) Bool.false_ne_true
 | bl a =>
   cases ry;cases x with
   | non=>cases rx; exact SeqAt.EqAt.bool_none a
   | bl b=>cases rx; exact SeqAt.EqAt.bool_bool a b
   | int b=>obtain ⟨t,rfl⟩:=rx; exact SeqAt.EqAt.bool_int a b t
   | str b=>obtain ⟨t,rfl⟩:=rx; exact SeqAt.EqAt.bool_str a b t
   | _=>exact absurd (show false=true from fx) Bool.false_ne_true
 | int a =>
   obtain ⟨t',rfl⟩:=ry;cases x with
   | non=>cases rx; exact SeqAt.EqAt.int_none a t'
   | bl b=>cases rx; exact SeqAt.EqAt.int_bool a t' b
   | int b=>obtain ⟨t,rfl⟩:=rx; exact SeqAt.EqAt.int_int a t' b t
   | str b=>obtain ⟨t,rfl⟩:=rx; exact SeqAt.EqAt.int_str a t' b t
   | _=>exact absurd (show false=true from fx) Bool.false_ne_true
 | str a =>
   obtain ⟨t',rfl⟩:=ry;cases x with
   | non=>cases rx; exact SeqAt.EqAt.str_none a t'
   | bl b=>cases rx; exact SeqAt.EqAt.str_bool a t' b
   | int b=>obtain ⟨t,rfl⟩:=rx; exact SeqAt.EqAt.str_int a t' b t
   | str b=>obtain ⟨t,rfl⟩:=rx; exact SeqAt.EqAt.str_str a t' b t
   | _=>exact absurd (show false=true from fx) Bool.false_ne_true
 | _=>exact absurd (show false=true from fy) Bool.false_ne_true
noncomputable def eqU (x:V) (u:Value):Bool:=match u with
 | .none=>eqV .non x
 | .bool b=>eqV (.bl b) x
 | .int i _=>eqV (.int i) x
 | .str z _=>eqV (.str z) x
 | _=>false
theorem QL {x y:V} {u:Value} (r:aP y u) (f:mF y=true):eqU x u=eqV y x:=by
 cases y with
 | non=>cases r; rfl
 | bl b=>cases r; rfl
 | int i=>obtain ⟨t,rfl⟩:=r; rfl
 | str z=>obtain ⟨t,rfl⟩:=r; rfl
 | _=>exact absurd (show false=true from f) Bool.false_ne_true
theorem nI {x:V}:∀ {xs:List V} {us:List Value},aM xs us→xs.all mF=true→us.any (eqU x)=xs.any fun y=>eqV y x
 | _,_,.nil,_=>rfl
 | y :: xs,u :: us,.cons r t,f=>by
   rw [List.all_cons,Bool.and_eq_true] at f;rw [List.any_cons,List.any_cons,QL r f.1,nI t f.2]
theorem kW {A:Around} {s:Shared} {x:V} {v:Value} (rx:aP x v) (fx:mF x=true):∀ {xs:List V} {us:List Value},aM xs us→xs.all mF=true→∀ u∈us,SeqAt.EqAt A s u v (eqU x u)
 | _,_,.nil,_=>fun u hu=>by cases hu
 | y :: xs,u :: us,.cons r t,f=>fun u' hu=>by
   rw [List.all_cons,Bool.and_eq_true] at f;rcases List.mem_cons.mp hu with rfl | hu
   · rw [QL r f.1]; exact aEW r rx f.1 fx
   · exact kW rx fx t f.2 u' hu
noncomputable def inV (x:V) (xs:List V):Bool:=xs.any fun y=>eqV y x
def rIn (K:W.Frag) (neg:Bool):R2:=fun x y H Q=>∃ p xs,y= .ref p∧(SqL K H p xs∨SqT K H p xs)∧mF x=true∧xs.all mF=true∧Q (.bl (if neg then !inV x xs else inV x xs)) H
theorem NQ:OpR X (compareOp .In) (rIn X.K false):=by
 intro pins s σ H x y v u Q I rx ry h;obtain ⟨p,xs,rfl,hq,fx,fs,q⟩:=h;cases ry;rcases hq with hq | hq
 · obtain ⟨its,r,pl,hz⟩:=I.list hq;refine SeqAt.in_listAt (eqU x) pl.isList (fun w hw=>kW rx fx r fs w (by simpa using hw)) ⟨.bl _,H,I,rfl, ?_⟩;rw [show its.toArray.any (eqU x)=its.any (eqU x) by simp,nI r fs];exact q
 · obtain ⟨its,r,pl,hz⟩:=I.tuple hq;refine SeqAt.in_tupleAt (eqU x) pl (fun w hw=>kW rx fx r fs w (by simpa using hw)) ⟨.bl _,H,I,rfl, ?_⟩;rw [show its.toArray.any (eqU x)=its.any (eqU x) by simp,nI r fs];exact q
theorem AM:OpR X (compareOp .NotIn) (rIn X.K true):=by
 intro pins s σ H x y v u Q I rx ry h;obtain ⟨p,xs,rfl,hq,fx,fs,q⟩:=h;cases ry;rcases hq with hq | hq
 · obtain ⟨its,r,pl,hz⟩:=I.list hq;refine SeqAt.notIn_listAt (eqU x) pl.isList (fun w hw=>kW rx fx r fs w (by simpa using hw)) ⟨.bl _,H,I,rfl, ?_⟩;rw [show its.toArray.any (eqU x)=its.any (eqU x) by simp,nI r fs];exact q
 · obtain ⟨its,r,pl,hz⟩:=I.tuple hq;refine SeqAt.notIn_tupleAt (eqU x) pl (fun w hw=>kW rx fx r fs w (by simpa using hw)) ⟨.bl _,H,I,rfl, ?_⟩;rw [show its.toArray.any (eqU x)=its.any (eqU x) by simp,nI r fs];exact q
theorem zN:bL X (.builtin "len") (fun xs H Q=>∃ p ys,xs=[.ref p]∧(SqL X.K H p ys∨SqT X.K H p ys)∧Q (.int ys.length) H):=by
 intro pins s σ H xs us Q I r h;obtain ⟨p,ys,rfl,hq,q⟩:=h;obtain ⟨u,rfl,rx⟩:=gG r;cases rx;have hn:=mQ;rcases hq with hq | hq
 · obtain ⟨its,r',pl,hz⟩:=I.list hq;have hlen:=r'.length;exact Calls.call_len_list pl.isList (by simp only [wIq] <;> omega) ⟨.int ys.length,H,I.tok _,⟨s.toks + 1,by rw [wIq,hlen]⟩,q⟩
 · obtain ⟨its,r',pl,hz⟩:=I.tuple hq;have hlen:=r'.length;exact len_tuple pl (by simp only [wIq] <;> omega) ⟨.int ys.length,H,I.tok _,⟨s.toks + 1,by rw [wIq,hlen]⟩,q⟩
theorem yI:bL X (.builtin "len") (fun xs H Q=>∃ z,xs=[.str z]∧z.length≤sizeLine∧Q (.int z.length) H):=by
 intro pins s σ H xs us Q I r h;obtain ⟨z,rfl,hz,q⟩:=h;obtain ⟨u,rfl,t,rfl⟩:=gG r;have hn:=mQ;exact len_str (by omega) ⟨.int z.length,H,I.tok _,⟨_,rfl⟩,q⟩
theorem bL.or {f:Value} {r r':List V→Hp→VK→Prop} (h:bL X f r) (h':bL X f r'):bL X f (fun xs H Q=>r xs H Q∨r' xs H Q):=by
 intro pins s σ H xs us Q I rs q;rcases q with q | q
 · exact h pins s σ H xs us Q I rs q
 · exact h' pins s σ H xs us Q I rs q
theorem yX:bL X (.type "list") (fun xs H Q=>∃ p ys,xs=[.ref p]∧(SqL X.K H p ys∨SqT X.K H p ys)∧∀ l,H l=none→Q (.ref l) (upd H l (.lst ys))):=by
 intro pins s σ H xs us Q I r h;obtain ⟨p,ys,rfl,hq,q⟩:=h;obtain ⟨u,rfl,rx⟩:=gG r;cases rx;have fin:∀ (its:List Value),aM ys its→ys.length≤sizeLine→∀ (h':Heap) (c':Nat),(∀ b o',s.heap.get? b=some o'→h'.get? b=some o')→
     h'.get? s.heap.objs.size=some { cls:=.type "list",dict:=none,data:=.seq its.toArray c',slots:= #[] }→EP X pins σ Q (.ref s.heap.objs.size) { s with heap:=h' }:=fun its r' hz h' c' kp e =>
   ⟨.ref s.heap.objs.size,_,I.laid (t':=s.toks) kp (Nat.le_refl _) (show bY X.prog X.w _ h' _ (.lst ys) from ⟨hz,its,c',r',e⟩),rfl,q _ (I.hok.fresh (Nat.le_refl _))⟩
 rcases hq with hq | hq
 · obtain ⟨its,r',pl,hz⟩:=I.list hq;have hlen:=r'.length;obtain ⟨o,ho,hc,n,hd⟩:=pl.isList;exact call_list_seq p (.inl rfl) ho hc hd (fun h' c' kp e=>fin its r' hz h' c' kp e) (by simp only [wIq] <;> omega)
 · obtain ⟨its,r',pl,hz⟩:=I.tuple hq;have hlen:=r'.length;obtain ⟨o,ho,hc,n,hd⟩:=pl;exact call_list_seq p (.inr rfl) ho hc hd (fun h' c' kp e=>fin its r' hz h' c' kp e) (by simp only [wIq] <;> omega)
theorem wS:bL X (.type "tuple") (fun xs H Q=>∃ p ys,xs=[.ref p]∧((SqL X.K H p ys∧∀ l,H l=none→Q (.ref l) (upd H l (.tup ys)))∨(SqT X.K H p ys∧Q (.ref p) H))):=by
 intro pins s σ H xs us Q I r h;obtain ⟨p,ys,rfl,h⟩:=h;obtain ⟨u,rfl,rx⟩:=gG r;cases rx;rcases h with ⟨hq,q⟩ | ⟨hq,q⟩
 · obtain ⟨its,r',pl,hz⟩:=I.list hq;have hlen:=r'.length;refine call_tuple_list pl.isList (fun h' kp=>?_) (by simp only [wIq] <;> omega);have I1:Inv X pins σ H { s with heap:=h' }:=I.kept (t':=s.toks) kp;have I2:Inv X pins σ (upd H h'.objs.size (.tup ys)) { s with heap:=h'.push { cls:=.type "tuple",data:=.seq its.toArray } } :=
     I1.laid (t':=s.toks) (fun b o e=>wEq _ e) (Nat.le_refl _) (show bY X.prog X.w _ _ _ (.tup ys) from ⟨hz,its,r',gH.new _ _⟩)
   exact ⟨.ref h'.objs.size,_,I2,rfl,q _ (I1.hok.fresh (Nat.le_refl _))⟩
 · obtain ⟨its,r',pl,hz⟩:=I.tuple hq;exact call_tuple_same pl ⟨.ref p,H,I,rfl,q⟩
def tyV (K:W.Frag) (T:String) (x:V) (H:Hp):Prop:=match x with
 | .str _=>T="str"
 | .int _=>T="int"
 | .ref p=>(T="list"∧∃ xs,SqL K H p xs)∨(T="tuple"∧∃ o,K.lookup p=some o∧o.cls= .type "tuple"∧o.dict=none)∨
     (T="dict"∧((∃ kvs,H p=some (.dK kvs))∨∃ kvs,H p=some (.dT kvs)))∨(T="set"∧∃ S n,H p=some (.set S n))
 | _=>False
theorem ST {pins:List (Addr×Obj)} {σ:St} {H:Hp} {s:Shared} {T:String} {x:V} {v:Value} (I:Inv X pins σ H s) (r:aP x v) (ty:tyV X.K T x H) :
   s.TypeIs v T∧∀ a,v= .ref a→∃ ob,s.heap.get? a=some ob∧ob.dict=none:=by
 cases x with
 | str z =>
   obtain ⟨t,rfl⟩:=r;cases (show T="str" from ty);exact ⟨typeIs_str s z t,fun _ e=>nomatch e⟩
 | int i =>
   obtain ⟨t,rfl⟩:=r;cases (show T="int" from ty);exact ⟨typeIs_int s i t,fun _ e=>nomatch e⟩
 | ref p =>
   cases r;rcases ty with ⟨rfl,xs,hq⟩ | ⟨rfl,o,hk,hc,hd⟩ | ⟨rfl,hk⟩ | ⟨rfl,S,n,hk⟩
   · obtain ⟨its,_,pl,_⟩:=I.list hq;refine ⟨pl.isList.typeIs,fun a e=>?_⟩;cases e;obtain ⟨o,n,e,c,hd,_⟩:=pl;exact ⟨o,e,hd⟩
   · refine ⟨⟨o,I.kIn p o hk,hc⟩,fun a e=>?_⟩;cases e;exact ⟨o,I.kIn _ o hk,hd⟩
   · have z:∃ o,s.heap.get? p=some o∧o.ExactDict:=by
       rcases hk with ⟨kvs,hk⟩ | ⟨kvs,hk⟩
       · obtain ⟨_,_,_,_,o,_,_,e,ex,_⟩:=I.hok p _ hk;exact ⟨o,e,ex⟩
       · obtain ⟨_,_,_,_,o,_,_,e,ex,_⟩:=I.hok p _ hk;exact ⟨o,e,ex⟩
     obtain ⟨o,e,ex⟩:=z;refine ⟨⟨o,e,ex.1⟩,fun a e2=>?_⟩;cases e2;exact ⟨o,e,ex.2.1⟩
   · obtain ⟨o,_,_,_,e,ex,_⟩:=I.hok p _ hk;refine ⟨⟨o,e,ex.1⟩,fun a e2=>?_⟩;cases e2;exact ⟨o,e,ex.2.1⟩
 | _=>exact False.elim ty
def aJk (K:W.Frag) (T:String) (r:V→List V→Hp→VK→Prop) (to:TE):TE:=fun σ H Q=>to σ H fun x H1=>tyV K T x H1∧r x [] H1 Q
def tBM (K:W.Frag) (T:String) (r:V→List V→Hp→VK→Prop) (to:TE) (t:TA):TE:=fun σ H Q=>to σ H fun x H1=>tyV K T x H1∧t σ H1 fun xs H2=>r x xs H2 Q
variable {o e:Expr} {es:List Expr} {to:TE} {t:TA} {name:Str} {apos cpos:Pos} {T id:String} {r:V→List V→Hp→VK→Prop}
theorem aEd (pa:PlainAttrs T) (slot:Slot T name id) (hty:typeOf (.builtin id)=pure (.type "method_descriptor")) (hm:MtR X id r) (ho:PE X o to)
   (hbase:attributeBase o name X.env (eval o X.env)=eval o X.env:=by rfl) (hline:(apos.endLine == cpos.line)=true:=by rfl):PE X (.Call (.Attribute o name apos) [] [] cpos) (aJk X.K T r to):=by
 intro pins s σ H Q I h;refine wpAny_Call_method0_late hbase hline (thn (ho pins s σ H _ I h) fun v s1 zz=>?_);obtain ⟨x,H1,I1,r1,ty,q1⟩:=zz;obtain ⟨h1,h2⟩:=ST I1 r1 ty;exact ⟨T,id,pa,slot,hty,h1,h2,Calls.callWith_builtin rfl (PySem.evalArgs_none (hm pins s1 σ H1 x [] v [] Q I1 r1 .nil q1))⟩
theorem aGz (pa:PlainAttrs T) (slot:Slot T name id) (hty:typeOf (.builtin id)=pure (.type "method_descriptor")) (hm:MtR X id r) (ho:PE X o to) (ha:PA X (e :: es) t)
   (hbase:attributeBase o name X.env (eval o X.env)=eval o X.env:=by rfl)
   (hfew:((backTo cpos (starEach (e :: es) X.env)).all (fun x=> !x.1) && (backToKw cpos (keywordEach [] X.env)).all (fun x=>x.1.isSome)
     && decide ((e :: es).length + ([]:List Keyword).length + (if ([]:List Keyword).isEmpty then 0 else 1) < 30))=true:=by rfl)
   (hline:(apos.endLine == cpos.line)=true:=by rfl) (hs:starEach (e :: es) X.env=(false,eval e X.env) :: starEach es X.env:=by rfl) (hplain:(backTo cpos (starEach es X.env)).any (·.1)=false:=by rfl) :
   PE X (.Call (.Attribute o name apos) (e :: es) [] cpos) (tBM X.K T r to t):=by
 intro pins s σ H Q I h;refine wpAny_Call_method_late hbase hfew hline rfl (thn (ho pins s σ H _ I h) fun v s1 zz=>?_);obtain ⟨x,H1,I1,r1,ty,q1⟩:=zz;obtain ⟨h1,h2⟩:=ST I1 r1 ty;refine ⟨T,id,pa,slot,hty,h1,h2, ?_⟩;have hA:=ha cpos pins s1 σ H1 _ I1 q1;rw [hs] at hA ⊢;refine Calls.callWith_builtin (by show (false || (backTo cpos (starEach es X.env)).any (·.1))=false; rw [hplain] <;> rfl) (Calls.evalArgs_plain ?_);exact thn hA <|by rintro us s2 ⟨vs,H2,I2,r2,q2⟩;exact hm pins s2 σ H2 x vs v us Q I2 r1 r2 q2
end
noncomputable def MtM (X:Cx) (id:String) (r:V→List V→Hp→VK→Prop):Prop :=
 ∀ (pins:List (Addr×Obj)) (s:Shared) (σ:St) (H:Hp) (x:V) (xs:List V) (v:Value) (us:List Value) (Q:VK),Inv X pins σ H s→aP x v→aM xs us→r x xs H Q→
   wpAny (model X.prog X.w) X.A (call (.builtin id) (v :: us)) (EP X pins σ Q) X.xe s
theorem aM.one:∀ {x:V} {us:List Value},aM [x] us→∃ u,us=[u]∧aP x u
 | _,_,.cons r .nil=>⟨_,rfl,r⟩
section
variable {X:Cx} {pins:List (Addr×Obj)} {σ:St} {H:Hp} {s:Shared} {l b:Addr} {xs ys zs:List V}
theorem Inv.lset {its its':List Value} {n:Nat} {f:Array Value→Array Value} {t':Nat} (I:Inv X pins σ H s) (hH:H l=some (.lst xs))
   (e:s.heap.get? l=some { cls:=.type "list",data:=.seq its.toArray n }) (hf:f its.toArray=its'.toArray) (hv:aM ys its') (hz:ys.length≤sizeLine) :
   Inv X pins σ (upd H l (.lst ys)) { s with heap:=s.heap.update l (Obj.mapSeq f),toks:=t' }:=by
 have q:=PySem.IsL.update e f;rw [hf] at q;refine I.write (x:=l) (e:=l) (by rw [hH]; exact trivial) (.inl rfl) (fun b' u hb hu=>(Heap.get?_update_other s.heap (Obj.mapSeq f) (Ne.symm hb)).trans hu) ⟨_,q⟩ ?_;exact ⟨hz,its',_,hv,q⟩
theorem Inv.lnew {its:List Value} {t':Nat} (I:Inv X pins σ H s) (hv:aM ys its) (hz:ys.length≤sizeLine) :
   Inv X pins σ (upd H s.heap.objs.size (.lst ys)) { s with heap:=s.heap.push { cls:=.type "list",data:=.seq its.toArray },toks:=t' } :=
 I.laid (fun _ _ q=>wEq _ q) (Nat.le_refl _) ⟨hz,its,0,hv,wGq _ rfl⟩
theorem Inv.fresh (I:Inv X pins σ H s):H s.heap.objs.size=none:=I.hok.fresh (Nat.le_refl _)
theorem Inv.lstM (I:Inv X pins σ H s) (hH:H l=some (.lst xs)):xs.length≤sizeLine∧∃ (its:List Value) (n:Nat),aM xs its∧xs.length=its.length∧s.heap.get? l=some { cls:=.type "list",data:=.seq its.toArray n }:=by
 obtain ⟨z,its,n,r,e⟩:=I.hok l _ hH;exact ⟨z,its,n,r,r.length,e⟩
end
section
variable {X:Cx}
noncomputable def aAg:V→List V→Hp→VK→Prop:=fun x vs H Q=>∃ l xs y,x= .ref l∧vs=[y]∧H l=some (.lst xs)∧xs.length < sizeLine∧Q .non (upd H l (.lst (xs ++ [y])))
theorem yB:MtM X "list.append" aAg:=by
 intro pins s σ H x vs v us Q I rx rv h;obtain ⟨l,xs,y,rfl,rfl,hH,hz,q⟩:=h;cases rx;obtain ⟨u,rfl,ru⟩:=rv.one;obtain ⟨z,its,n,r,hl,e⟩:=I.lstM hH;refine call_meets F.slot_list_append ⟨_,e,rfl⟩ F.entry_list_append (F.args_list_append_2 _ _) (PySem.list_append l its.toArray n u (by rw [wIq]; omega)) ⟨e, ?_⟩;refine ⟨.non,_,I.lset (its':=its ++ [u]) hH e (by simp) (r.append (.cons ru .nil)) ?_,rfl,q⟩;rw [List.length_append,List.length_singleton];omega
def aHR:R2:=fun x y H Q=>∃ l b xs zs,x= .ref l∧y= .ref b∧H l=some (.lst xs)∧H b=some (.lst zs)∧xs.length + zs.length≤sizeLine∧∀ p,H p=none→Q (.ref p) (upd H p (.lst (xs ++ zs)))
theorem aDS:OpR X (binaryOp .Add) aHR:=by
 intro pins s σ H x y v u Q I rx ry h;obtain ⟨l,b,xs,zs,rfl,rfl,hH,hB,hz,q⟩:=h;cases rx;cases ry;obtain ⟨z,its,n,r,hl,e⟩:=I.lstM hH;obtain ⟨z2,its2,n2,r2,hl2,e2⟩:=I.lstM hB;refine PySem.P.add_list e e2 ?_ (by rw [wIq,wIq]; omega);have ea:its.toArray ++ its2.toArray=(its ++ its2).toArray:=by simp
 rw [ea];exact ⟨.ref _,_,I.lnew (t':=s.toks) (r.append r2) (by rw [List.length_append]; omega),rfl,q _ I.fresh⟩
end
section
variable {prog:Program} {w:World} {A:Around} {E:Value→Shared→Prop} {s:Shared}
end
section
variable {X:Cx}
end
end L2
namespace Att
open PySem PySem.W PySem.Calls PyProof.Rows
theorem rW {P:Params} {h:Heap}:∀ (ns:List Int) (vs:List Value),WellAll P h vs (ns.map WData.int)→IntsAre vs ns:=by
 intro ns;induction ns with
 | nil =>
   intro vs w;rw [List.map_nil] at w;cases w;exact .nil
 | cons n ns ih =>
   intro vs w;rw [List.map_cons] at w;cases w with
   | cons a b =>
     cases a;exact .cons _ _ (ih _ b)
theorem MI {l:OpenLaw} {n:Nat} (hn:l.most=some n) {P:Params} {h:Heap} {args:List WData} {vals:List Value}
   (hpre:l.row.toRowW.claim.pre args=true) (hwl:WellAll P h vals args) :
   ∃ a vs ns,vals=[Value.ref a]∧args=[WData.list (ns.map WData.int)]∧h.get? a=some { cls:=.type "list",data:=.seq vs.toArray }∧IntsAre vs ns∧ns.length≤n:=by
 have hsh:WShape.hasAll [] args [.list .int]=true:=(pre_splitW hpre).1;have hc:l.pre.holds [] { args:=args }=true:=(pre_splitW hpre).2;obtain ⟨d,r,rfl,h1,h2⟩:=hasAllW_cons hsh;obtain rfl:=hasAllW_nil h2;obtain ⟨xs,rfl,h3⟩:=hasW_list h1;obtain ⟨ns,rfl⟩:=items_int h3;have hlen:ns.length≤n:=by
   unfold OpenLaw.pre at hc;have h4:(WTm.not (.lt (.lit (.int (n:Int))) (.len (.arg 0)))).holds [] { args:=[.list (ns.map .int)] }=true:=by
     have h4:=(holds_andW hc).1;rw [hn] at h4;exact h4
   have h5:=condW_of h4 (w_not (w_lt w_lit (w_len_list (w_arg rfl))));rw [List.length_map] at h5;refine Nat.le_of_not_lt fun q=>?_;have q':(n:Int) < ((ns.length:Nat):Int):=by omega
   first
     | (rw [decide_eq_true q'] at h5; exact absurd h5 (by decide))
     | (simp at h5; omega)
 cases hwl with
 | cons w1 w2 =>
   cases w2;cases w1 with
   | list ho hall=>exact ⟨_,_,ns,rfl,rfl,ho,rW ns _ hall,hlen⟩
theorem ND (l:OpenLaw) (args:List WData):l.row.toRowW.claim.post args (.bool true) args=true :=
 postW_of (r:=l.row.toRowW) (X:=(true == true))
   (show WShape.has [] (.bool true) .bool=true by first | rfl | decide | simp [WShape.has,WShape.arms,WShape.armsAll])
   (show (WTm.eq .res (.lit (.bool true))).value [] { args:=args,res:=some (.bool true),after:=args }=some (.bool (true == true)) from w_eq_bool (w_res rfl) w_lit) rfl
theorem BJ {l:OpenLaw} {n:Nat} {q:Program} {loose:List Str} {XP:(Str→Option Value)→Heap→Prop} {YP:World→Heap→Prop} {d:DefRec}
   (hn:l.most=some n) (hdf:d.params.defaults=[])
   (call:∀ (w:World) (s₀ s₁:Shared) (mg mb:Str→Option Value) (fa:Addr) (o:Obj) (pm cd doc:Value) (a:Addr) (vs:List Value) (ns:List Int),
     Ground q loose [] XP w s₀ mg mb s₁.heap→YP w s₁.heap→
     s₁.heap.get? fa=some o→o.data= .func (docDef d.name d.params d.body d.scope pm cd doc)→s₁.heap.CodeRec cd d.name→mg d.name=some (.ref fa)→
     s₁.heap.get? a=some { cls:=.type "list",data:=.seq vs.toArray }→IntsAre vs ns→ns.length≤n→s₁.gens= #[]→
     codeAny (model l.prog w) callerA (.call (.ref fa) ⟨[.ref a],[]⟩) (fun r s'=>r= .ok (.ret (.bool true))∧OldK s₁.heap s'.heap∧s'.os=s₁.os∧AllBare s'.gens) s₁) :
   WalkO q loose XP YP l.row.toRowW d [] (fun f vs=>PySem.call f vs):=by
 intro w s₀ s₁ mg mb G Y fa o pm cd doc dV kV ho hd hcd hD hmg hg args vals as hpre hlay hrd hwl hlo;obtain rfl:dV= .none:=Dflts.none hD hdf;obtain rfl:kV= .none:=Dflts.noKw hD;obtain ⟨a,vs,ns,rfl,rfl,hobj,hints,hlen⟩:=MI hn hpre hwl;refine enter_call (codeAny_mono (call w s₀ s₁ mg mb fa o pm cd doc a vs ns G Y ho (fd_plain hd) hcd hmg hobj hints hlen hg) fun r s' hq=>?_);obtain ⟨rfl,h2,h3,h4⟩:=hq;exact ⟨.inl ⟨.bool true,.bool true,[],rfl,fun _=>rfl,.bool true,ND l _,fun _=>⟨List.Pairwise.nil,fun _ hm=>(nomatch hm)⟩⟩,h2,h3,h4⟩
section
variable {prog:Program} {w:World} {A:Around} {E:Value→Shared→Prop} {s:Shared} {K:Frag}
end
end Att
namespace L2
open PySem PySem.Spec PyProof.Rows
theorem xU:∀ {vs:List Value} {ns:List Int},IntsAre vs ns→aM (ns.map V.int) vs
 | _,_,.nil=>.nil
 | _,_,.cons n t h=>.cons ⟨t,rfl⟩ (xU h)
def QN (H:Hp):Prop:= ∀ b,H b=none∨∃ o xs,H b=some (.frz o (.lst xs))
theorem QC {P:Program} {w:World} {K:W.Frag} {mg mb:Str→Option Value} {CX:CXT} {k:Nat} {fa a:Addr} {fd:FuncData} {x:Str} {sp:Sp} {s₁:Shared} {vs:List Value} {ns:List Int}
   (KX:K.In s₁.heap) (hns:s₁.heap.Ns mainGlobals mg) (hb:s₁.heap.Ns builtinsNs mb) (hbb:∀ x:Str,x≠"__name__"→mb x=bootBuiltins x) (hlim:s₁.heap.NoLimit) (hg:s₁.gens= #[])
   (ha:s₁.heap.get? a=some { cls:=.type "list",data:=.seq vs.toArray }) (hi:IntsAre vs ns) (hl:ns.length≤sizeLine) (hr:bE k callerA)
   (F:∀ base:Heap,K.In base→base.Ns mainGlobals mg→bP P w K mg base CX k fa fd [x] sp) (hbind:∀ (s:Shared) (u:Value),BindsTo s fd ⟨[u],[]⟩ [(x,u)])
   (hsp:∀ H:Hp,QN H→SqL K H a (ns.map V.int)→sp [.ref a] H (fun v _=>v= .bl true) fun _ _ _=>False)
   (hCX:∀ H e s',CX [] H s₁ (fun _ _ _=>False) e s'→False) :
   codeAny (model P w) callerA (.call (.ref fa) ⟨[.ref a],[]⟩) (fun r s'=>r= .ok (.ret (.bool true))∧OldK s₁.heap s'.heap∧s'.os=s₁.os∧AllBare s'.gens) s₁:=by
 have rv:=xU hi;have lenV:=hi.length;have core :∀ H:Hp,QN H→SqL K H a (ns.map V.int)→HOk P w H s₁.heap→(∀ b,H b≠none→b=a)→(H a≠none→K.lookup a=none)→
     codeAny (model P w) callerA (.call (.ref fa) ⟨[.ref a],[]⟩) (fun r s'=>r= .ok (.ret (.bool true))∧OldK s₁.heap s'.heap∧s'.os=s₁.os∧AllBare s'.gens) s₁:=by
   intro H hO hS hok hA hK;have base_of:∀ {b:Addr} {o:Obj},s₁.heap.get? b=some o→H b=none→(AQ s₁.heap H).get? b=some o:=fun e n=>SK e n;have noA:∀ {b:Addr} {o:Obj} {es:Array DictEntry} {ep:Nat},s₁.heap.get? b=some o→o.data= .dict es ep→H b=none:=fun {b o es ep} e d=>by
     cases q:H b with
     | none=>rfl
     | some u =>
       have e':b=a:=hA b (by rw [q]; simp);subst e';rw [ha] at e; cases e;have d':Data.seq vs.toArray _=Data.dict es ep:=d;cases d'
   have nsK:∀ {b:Addr} {m:Str→Option Value},s₁.heap.Ns b m→(AQ s₁.heap H).Ns b m:=fun {b m} ⟨o,es,ep,e,d,r⟩=>⟨o,es,ep,base_of e (noA e d),d,r⟩;have hKb:K.In (AQ s₁.heap H):=fun b o e=>base_of (KX b o e) (by
     cases q:H b with
     | none=>rfl
     | some u =>
       have e':b=a:=hA b (by rw [q]; simp);subst e';rw [hK (by rw [q]; simp)] at e; cases e)
   have hM:Mod K mg (AQ s₁.heap H):=⟨hKb,nsK hns,⟨mb,nsK hb,hbb⟩,let ⟨mc,h1,h2⟩:=hlim; ⟨mc,nsK h1,h2⟩⟩;have e0:pH P w K mg (AQ s₁.heap H) callerA [] s₁ H:=⟨rfl,hM,fun b o e=>aAi e,Nat.le_of_eq (LC _ _),trivial,fun b hb=>absurd (show b∈([]:List Addr) from hb) (by simp),hok,.of_eq hg⟩;refine codeAny_mono ((F _ hKb (nsK hns)).run callerA [] s₁ H ⟨[.ref a],[]⟩ [.ref a] [.ref a] _ _ hr e0 (hbind s₁ (.ref a)) (.cons rfl .nil) (hsp H hO hS)) fun r s' h=>?_;cases r with
   | error e=>exact (hCX H e s' h).elim
   | ok fl =>
     cases fl with
     | next=>exact False.elim h
     | brk=>exact False.elim h
     | cont=>exact False.elim h
     | ret u =>
       obtain ⟨v,H',os,bare,un,hok',r',q⟩:=h;have q':v= .bl true:=q;subst q';obtain rfl:u=Value.bool true:=r';refine ⟨rfl,OldK.of_keep fun b o e=>?_,os,bare⟩;cases q:H b with
       | none=>exact un.keep b o e q (by intro z; exact absurd (show b∈([]:List Addr) from z) (by simp)) (by simp)
       | some u =>
         rcases hO b with z | ⟨ob,xs,z⟩
         · rw [q] at z; cases z
         · have z2:=un.frzs b ob _ z;obtain ⟨e1,_⟩:=hok b _ z;obtain ⟨e2,_⟩:=hok' b _ z2;rw [e] at e1; cases e1;exact e2
 cases hk:K.lookup a with
 | some o =>
   have e:=KX a o hk;rw [ha] at e;cases e;refine core (fun _=>none) (fun _=>.inl rfl) (.inr ⟨_,vs.toArray,_,hk,rfl,rfl,rfl,by rw [wIq,lenV]; exact hl,by simpa using rv⟩) (fun b u z=>by have z':(none:Option HO)=some u:=z; cases z') (fun b z=>absurd rfl z) fun z=>absurd rfl z
 | none =>
   refine core (fun b=>if b=a then some (.frz { cls:=.type "list",data:=.seq vs.toArray } (.lst (ns.map V.int))) else none) (fun b=>?_) (.inl (.inr ⟨{ cls:=.type "list",data:=.seq vs.toArray },if_pos rfl⟩)) (fun b u z=>?_) (fun b z=>?_) fun _=>hk
   · by_cases hb:b=a
     · exact .inr ⟨_,_,if_pos hb⟩
     · exact .inl (if_neg hb)
   · by_cases hb:b=a
     · have z':=(if_pos hb).symm.trans z;cases z';subst hb;exact ⟨ha,by rw [List.length_map]; exact hl,vs,_,rv,ha⟩
     · have z':=(if_neg hb).symm.trans z;cases z'
   · by_cases hb:b=a
     · exact hb
     · exact absurd (if_neg hb) z
theorem aAJ {l:W.OpenLaw} {n k:Nat} {q:Program} {loose:List Str} {XP:(Str→Option Value)→Heap→Prop} {YP:World→Heap→Prop} {d:DefRec} {K:Params→W.Frag} {CX:World→CXT} {sp:World→Sp} {x:Str}
   (hn:l.most=some n) (hn2:n≤sizeLine) (hdf:d.params.defaults=[]) (hr:bE k callerA)
   (hY:∀ (w:World) (h:Heap),YP w h→(K w.params).In h)
   (F : ∀ (w:World) (mg:Str→Option Value) (fa:Addr) (h:Heap),(K w.params).In h→h.Ns mainGlobals mg→mg d.name=some (.ref fa)→
     ∃ fd:FuncData,(∀ (s:Shared) (u:Value),BindsTo s fd ⟨[u],[]⟩ [(x,u)])∧
       ∀ base:Heap,(K w.params).In base→base.Ns mainGlobals mg→bP l.prog w (K w.params) mg base (CX w) k fa fd [x] (sp w))
   (hsp:∀ (w:World) (H:Hp) (a:Addr) (ns:List Int),ns.length≤n→QN H→SqL (K w.params) H a (ns.map V.int)→sp w [.ref a] H (fun v _=>v= .bl true) fun _ _ _=>False)
   (hCX:∀ (w:World) (H:Hp) (s:Shared) (e:Value) (s':Shared),CX w [] H s (fun _ _ _=>False) e s'→False) :
   W.WalkO q loose XP YP l.row.toRowW d [] (fun f vs=>PySem.call f vs):=by
 refine Att.BJ hn hdf fun w s₀ s₁ mg mb fa o pm cd doc a vs ns G Y ho hd hcd hmg hobj hints hlen hg=>?_;have KX:=hY w _ Y;obtain ⟨fd,hb,hF⟩:=F w mg fa _ KX G.T.g hmg;exact QC KX G.T.g G.T.b G.T.builtins G.T.nolimit hg hobj hints (Nat.le_trans hlen hn2) hr hF hb (fun H hO hS=>hsp w H a ns hlen hO hS) fun H e s'=>hCX w H s₁ e s'
theorem RU {l:W.OpenLaw} {n k:Nat} {q:Program} {loose:List Str} {XP:(Str→Option Value)→Heap→Prop} {YP:World→Heap→Prop} {d:DefRec} {K:Params→W.Frag} {CX:CXT} {sp:W.Frag→Sp} {x:Str}
   (hn:l.most=some n) (hn2:n≤sizeLine) (hdf:d.params.defaults=[]) (hr:bE k callerA)
   (hY:∀ (w:World) (h:Heap),YP w h→(K w.params).In h)
   (F : ∀ (w:World) (mg:Str→Option Value) (fa:Addr) (h:Heap),(K w.params).In h→h.Ns mainGlobals mg→mg d.name=some (.ref fa)→
     ∃ fd:FuncData,(∀ (s:Shared) (u:Value),BindsTo s fd ⟨[u],[]⟩ [(x,u)])∧
       ∀ base:Heap,(K w.params).In base→base.Ns mainGlobals mg→bP l.prog w (K w.params) mg base CX k fa fd [x] (sp (K w.params)))
   (hsp:∀ (K:W.Frag) (H:Hp) (a:Addr) (ns:List Int),ns.length≤n→QN H→SqL K H a (ns.map V.int)→sp K [.ref a] H (fun v _=>v= .bl true) fun _ _ _=>False)
   (hCX:∀ (H:Hp) (s:Shared) (e:Value) (s':Shared),CX [] H s (fun _ _ _=>False) e s'→False) :
   W.WalkO q loose XP YP l.row.toRowW d [] (fun f vs=>PySem.call f vs) :=
 aAJ (K:=K) (CX:=fun _=>CX) (sp:=fun w=>sp (K w.params)) hn hn2 hdf hr hY F (fun w H a ns h1 h2 h3=>hsp (K w.params) H a ns h1 h2 h3) fun _ H s e s'=>hCX H s e s'
noncomputable def aO (s:Stmt) (j:Nat):Stmt:=match s with
 | .ClassDef _ _ _ body _ _ _ _ _ _ _=>body.getD j (.Pass ⟨0,0,0,0⟩)
 | _=>.Pass ⟨0,0,0,0⟩
noncomputable def gM (s:Stmt):Arguments:=match s with
 | .FunctionDef _ a _ _ _ _ _ _ _ _=>a
 | _=>{ posonlyargs:=[],args:=[],vararg:=none,kwonlyargs:=[],kw_defaults:=[],kwarg:=none,defaults:=[] }
noncomputable def aD (s:Stmt):List Stmt:=match s with
 | .FunctionDef _ _ b _ _ _ _ _ _ _=>b
 | _=>[]
noncomputable def aB (s:Stmt):Scope:=match s with
 | .FunctionDef _ _ _ _ _ _ sc _ _ _=>sc
 | _=>{ kind:=.function,names:=[],isGenerator:=false,isCoroutine:=false }
noncomputable abbrev CX0:CXT:=fun _ _ _ _ _ _=>False
noncomputable abbrev E0:XK:=fun _ _ _=>False
theorem xB {X:Cx}:jN CX0 X E0:=fun _ _ _ _ _ _ _ h=>h.elim
section
variable {P:Program} {w:World} {K:W.Frag} {mg:Str→Option Value} {base:Heap}
end
section
variable {X:Cx}
theorem pv (i:Nat) {x:Str} {pos:Pos} (hN:X.N[i]? =some x:=by rfl) (hv:Vis X.env.scope x:=by first | exact Or.inl rfl | exact Or.inr (Or.inl rfl) | exact Or.inr (Or.inr rfl)) (hd:(x == ("__debug__":Str))=false:=by decide)
   (hcd:(x == ("__classdict__":Str))=false:=by decide):PE X (.Name x pos) (aFK i):=VU hN hv hd hcd
end
def aN (H H':Hp):Prop:= ∀ b o,H b=some o→H' b=some o
theorem aN.refl (H:Hp):aN H H:=fun _ _ h=>h
theorem aN.trans {H H1 H2:Hp} (a:aN H H1) (b:aN H1 H2):aN H H2:=fun c o h=>b c o (a c o h)
theorem aN.seq {K:W.Frag} {H H':Hp} {a:Addr} {xs:List V} (e:aN H H') (h:SqL K H a xs):SqL K H' a xs:=by
 rcases h with (h | ⟨o,h⟩) | h
 · exact .inl (.inl (e _ _ h))
 · exact .inl (.inr ⟨o,e _ _ h⟩)
 · exact .inr h
end L2
set_option maxHeartbeats 4000000
namespace L2
open PySem PySem.Spec PyProof.Rows
def Sm (k:Nat) (x:Int):Prop:=x.natAbs < 2 ^ k
theorem Sm.mono {k l:Nat} {x:Int} (h:Sm k x) (q:k≤l):Sm l x:=wFq h (Nat.pow_le_pow_right (by decide) q)
theorem Sm.mul {k l:Nat} {x y:Int} (h:Sm k x) (q:Sm l y):Sm (k + l) (x * y):=by
 unfold Sm at *; rw [Int.natAbs_mul,Nat.pow_add]; exact Nat.mul_lt_mul'' h q
theorem Sm.add {k l:Nat} {x y:Int} (h:Sm k x) (q:Sm k y) (e:k + 1≤l):Sm l (x + y):=by
 have a:(x + y).natAbs≤x.natAbs + y.natAbs:=Int.natAbs_add_le x y;have b:2 ^ k + 2 ^ k≤2 ^ l:=by
   have:=Nat.pow_le_pow_right (show 0 < 2 by decide) e;rw [Nat.pow_succ] at this; omega
 unfold Sm at *; omega
theorem Sm.neg {k:Nat} {x:Int} (h:Sm k x):Sm k (-x):=by unfold Sm at *; rw [Int.natAbs_neg]; exact h
theorem Sm.sub {k l:Nat} {x y:Int} (h:Sm k x) (q:Sm k y) (e:k + 1≤l):Sm l (x - y):=by
 rw [Int.sub_eq_add_neg]; exact h.add q.neg e
theorem Sm.le {k:Nat} {x y:Int} (h:Sm k y) (a:0≤x) (b:x≤y):Sm k x:=by unfold Sm at *; omega
theorem Sm.div {k:Nat} {x y:Int} (h:Sm k x) (hy:0 < y):Sm k (x / y):=by
 rcases Int.le_total 0 x with z | z
 · exact h.le (Int.ediv_nonneg z (by omega)) (Int.ediv_le_self _ z)
 · have a:x≤x / y:=Int.le_ediv_of_mul_le hy (by
     have:=Int.mul_le_mul_of_nonpos_left z (show 1≤y by omega);omega)
   have b:x / y≤0:=by
     have:=Int.ediv_le_ediv hy z;rw [Int.zero_ediv] at this; exact this
   unfold Sm at *; omega
theorem Sm.bits {k:Nat} {x:Int} (h:Sm k x):Builtin.Int.intBits x≤k:=by
 unfold Builtin.Int.intBits;split
 · exact Nat.zero_le _
 · rename_i z;have hz:x.natAbs≠0:=fun e=>z (by rw [Int.natAbs_eq_zero.mp e]; rfl);exact (Nat.log2_lt hz).mpr h
theorem Sm.mulOk {k l:Nat} {x y:Int} (h:Sm k x) (q:Sm l y) (e:k + l≤100000000):IntMulOk x y:=by
 have b1:=h.bits;have b2:=q.bits;unfold IntMulOk;have z:Builtin.Int.intTooBig (((Builtin.Int.intBits x + Builtin.Int.intBits y:Nat):Int))=false:=by
   unfold Builtin.Int.intTooBig;refine decide_eq_false ?_;have:bitsLine=134217728:=by decide
   rw [this]; omega
 have z':Builtin.Int.intTooBig ((Builtin.Int.intBits x:Int) + (Builtin.Int.intBits y:Int))=false:=by
   rw [←z]; congr 1
 rw [z']; simp
theorem Sm.log {k:Nat} {x:Int} (h:Sm k x) (e:k≤9000) (hk:0 < k):x.natAbs.log2 < 9000:=by
 by_cases hz:x.natAbs=0
 · rw [hz]; decide
 · exact wFq ((Nat.log2_lt hz).mpr h) e
section
variable {X:Cx}
def oV (i j:Int):Prop:=IntMulOk i j
theorem UF {i j:Int} (h:Sm 64 i):oV i j:=IntMulOk.of_left h.bits
theorem aGr {i j:Int} (h:Sm 64 j):oV i j:=IntMulOk.of_right h.bits
theorem bR {k l:Nat} {i j:Int} (h:Sm k i) (q:Sm l j) (e:k + l≤100000000:=by decide):oV i j:=h.mulOk q e
def xX (_i j:Int):Prop:=0 < j∧∃ k,Sm k j∧0 < k∧k≤9000
theorem wG {k:Nat} {i j:Int} (h:0 < j) (q:Sm k j) (e:0 < k:=by decide) (e':k≤9000:=by decide):xX i j:=⟨h,k,q,e,e'⟩
theorem aAZ:OpR X (binaryOp .Mult) (rI oV fun i j=>.int (i * j)):=opI fun _ _ _ _ _ _ _ hc q=>by
 exact mul_int q hc
theorem SN:OpR X (binaryOp .FloorDiv) (rI xX fun i j=>.int (i / j)):=opI fun i j _ _ _ _ _ hc q=>by
 obtain ⟨h1,k,a,hk,e⟩:=hc;exact floordiv_int (by omega) (by rw [Int.fdiv_eq_ediv_of_nonneg i (by omega)]; exact q) (.inl (PyProof.noPylong_of_log2 (a.log e hk)))
theorem aAM:MtR X "int.bit_length" (fun x xs H Q=>∃ i,x= .int i∧xs=[]∧Q (.int ((Builtin.Int.intBits i:Nat):Int)) H):=by
 intro pins s σ H x xs v us Q I r rs h;obtain ⟨i,rfl,rfl,q⟩:=h;obtain ⟨t,rfl⟩:=r;cases rs;refine wpAny_call_entry PySem.F.slot_int_bit_length (typeIs_int s i t) PySem.F.entry_int_bit_length ?_ (PySem.F.args_int_bit_length_1 _);obtain ⟨hp,g,d,tk,os⟩:=s
 wp_walk
 exact ⟨_,rfl,.int _,H,I.tok _,⟨_,rfl⟩,q⟩
end
section
variable {X:Cx} {CX:CXT} {k:Nat} {f C:Addr} {fd:FuncData} {ps ks:List Str} {sp:Sp} {E:XK} {x m:Str} {p pos apos kpos:Pos} {kws:List Keyword} {tk:TA}
variable {g:List Value→List Value→List Value} {gV:List V→List V→List V}
end
theorem gH.at {h:Heap} {a:Addr} {items:Array Value} {n:Nat} (e:h.get? a=some { cls:=.type "tuple",data:=.seq items n }):gH h a items:=⟨⟨_,e,rfl,n,rfl⟩,fun o q=>by rw [e] at q; cases q; rfl⟩
end L2
namespace LE
open PySem PyProof.Rows
open AutoSeq1 (wpAny_loadPart')
open Builtin
variable {prog:Program} {w:World} {A:Around} {E:Value→Shared→Prop} {s:Shared}
theorem aBD {it l:Addr} {i:Nat} {xs:Array Value} {x:Value} {Q:Value→Shared→Prop} (a:s.heap.IsTupleIter it l i) (b:s.heap.IsTuple l xs) (c:xs[i]? =some x)
   (q:∀ h',h'.IsTupleIter it l (i + 1)→Heap.SameBut it s.heap h'→Q x { s with heap:=h' }):wpAny (model prog w) A (Builtin.SmallTypes.nextOf (.ref it)) Q E s:=by
 obtain ⟨o,ho,hc,hd⟩:=id a;obtain ⟨p,hp,_,n,hn⟩:=b;unfold Builtin.SmallTypes.nextOf;refine wAq (wpAny_callSpecial?_slot (name:=Str.ofString "__next__") a.typeIs F.slot_tuple_iterator_next (wpAny_call_entry F.slot_tuple_iterator_next a.typeIs F.entry_tuple_iterator_next ?_ (F.args_tuple_iterator_next_1 _)));show wpAny _ _ (field (.ref it) 0 >>= _) _ _ _;refine wAq (wpAny_field ho hd (x:=.ref l) rfl ?_);show wpAny _ _ (if (Value.ref l == Value.none)=true then _ else _) _ _ _;rw [if_neg (show ¬((Value.ref l == Value.none)=true) from nofun)];show wpAny _ _ (field (.ref it) 1 >>= _) _ _ _;refine wAq (wpAny_field ho hd (x:=.int i 0) rfl ?_);show wpAny _ _ (seqItems? (.ref l) >>= _) _ _ _;refine wAq (wpAny_seqItems hp hn ?_);simp only [Int.toNat_natCast,c];exact wAq (wpAny_setField ho hd (by simp) (wBq ⟨x,rfl,wBq (q _ ⟨_,Heap.get?_update_self _ ho (Obj.isFreed_of_fields (Obj.data_mapFields hd _)),(Obj.cls_mapFields ..).trans hc,by rw [Obj.data_mapFields hd]; simp [rawInt]⟩ (Heap.SameBut.update ..))⟩))
theorem aDF {it l:Addr} {i:Nat} {xs:Array Value} {Q:Value→Shared→Prop} (hh:A.handled=none) (a:s.heap.IsTupleIter it l i) (b:s.heap.IsTuple l xs) (c:xs[i]? =none)
   (q:∀ h' e,Heap.ExtBut it s.heap h'→(∃ o,h'.get? e=some o∧o.cls= .type "StopIteration")→E (.ref e) { s with heap:=h' }):wpAny (model prog w) A (Builtin.SmallTypes.nextOf (.ref it)) Q E s:=by
 obtain ⟨o,ho,hc,hd⟩:=id a;obtain ⟨p,hp,_,n,hn⟩:=b;unfold Builtin.SmallTypes.nextOf;refine wAq (wpAny_callSpecial?_slot (name:=Str.ofString "__next__") a.typeIs F.slot_tuple_iterator_next (wpAny_call_entry F.slot_tuple_iterator_next a.typeIs F.entry_tuple_iterator_next ?_ (F.args_tuple_iterator_next_1 _)));show wpAny _ _ (field (.ref it) 0 >>= _) _ _ _;refine wAq (wpAny_field ho hd (x:=.ref l) rfl ?_);show wpAny _ _ (if (Value.ref l == Value.none)=true then _ else _) _ _ _;rw [if_neg (show ¬((Value.ref l == Value.none)=true) from nofun)];show wpAny _ _ (field (.ref it) 1 >>= _) _ _ _;refine wAq (wpAny_field ho hd (x:=.int i 0) rfl ?_);show wpAny _ _ (seqItems? (.ref l) >>= _) _ _ _;refine wAq (wpAny_seqItems hp hn ?_);simp only [Int.toNat_natCast,c];refine wAq (wpAny_rule (wAq (wpAny_setField ho hd (by simp) ?_)));show wpAny _ _ (newExc (.type "StopIteration") [] >>= _) _ _ _;refine wAq ?_;simp only [newExc,newTuple];refine wAq (wpAny_newObj_type ?_ (by size_fits));refine wAq (m:=firstArgMember _ _) (wpAny_of_eq (a:=Value.none) (by first | rfl | (simp only [firstArgMember]; rfl)) (wpAny_newObj_type ?_ (by size_fits)));simp only [raiseNew];refine wAq (wpAny_handled ?_);first | rw [show A.in1.handled=none from hh] | rw [hh]
 exact wAq (wBq (wpAny_throw (q _ _ (((Heap.SameBut.update ..).extBut.push _).push _) ⟨_,wGq _ rfl,rfl⟩)))
theorem aEG (hh:A.handled=none) (it l:Addr) (hne:l≠it) (xs:Array Value):Draws prog w A it [it,l] xs.size (fun i v=>xs[i]? =some v) (fun i h=>h.IsTupleIter it l i∧h.IsTuple l xs) where
 live:=fun _ _ st=>let ⟨o,ho,_⟩:=st.1; ⟨o,ho⟩
 frame:=fun _ _ _ st hk=>⟨st.1.at fun o e=>hk it (by simp) o e,let ⟨o,e,r⟩:=st.2; ⟨o,hk l (by simp) o e,r⟩⟩
 item:=fun i s Q E hi st hQ=>aBD st.1 st.2 (x:=xs[i]) (by simp [hi]) fun h' a b=>hQ _ h' s.toks (by simp [hi]) ⟨a,st.2.extBut b.extBut hne⟩ b
 done:=fun s Q E st hE=>aDF hh st.1 st.2 (by simp) hE
theorem aCI (hh:A.handled=none) (it l:Addr) (i:Nat) (xs:Array Value) (hx:xs[i]? =none):Draws prog w A it [it,l] i (fun _ _=>True) (fun j h=>j=i∧h.IsTupleIter it l j∧h.IsTuple l xs) where
 live:=fun _ _ st=>let ⟨o,ho,_⟩:=st.2.1; ⟨o,ho⟩
 frame:=fun _ _ _ st hk=>⟨st.1,st.2.1.at fun o e=>hk it (by simp) o e,let ⟨o,e,r⟩:=st.2.2; ⟨o,hk l (by simp) o e,r⟩⟩
 item:=fun j s Q E hi st hQ=>absurd st.1 (Nat.ne_of_lt hi)
 done:=fun s Q E st hE=>aDF hh st.2.1 st.2.2 hx hE
theorem YJ (l:Addr) (items:Array Value) (o:Obj) (ho:o.cls= .type "tuple") (n:Nat) (hd:o.data= .seq items n) :
   Meets (Builtin.«enumerate.__new__» ⟨[.type "enumerate",.ref l],[]⟩) (fun _ R s=>s.heap.get? l=some o∧
     R (.ok (.ret (.ref (s.heap.push { cls:=.type "tuple_iterator",data:=.fields #[.ref l,.int 0 0] }).objs.size)))
       { s with heap:=(s.heap.push { cls:=.type "tuple_iterator",data:=.fields #[.ref l,.int 0 0] }).push { cls:=.type "enumerate",data:=.fields #[.none,.bool false,.ref s.heap.objs.size,rawInt 0,.none,.none] } }) :=
 .of_wp fun prog w A R s h=>by
   obtain ⟨hp,g,d,tk,os⟩:=s;obtain ⟨oc,od,dt,sl⟩:=o
   replace ho:oc= .type "tuple":=ho
   replace hd:dt= .seq items n:=hd
   subst ho hd;obtain ⟨hl,h⟩:=h;have hsub:=sub_enumerate;have hL:Heap.IsTuple (Shared.heap ⟨hp,g,d,tk,os⟩) l items:=⟨_,hl,rfl,n,rfl⟩
   wp_walk using wpAny_loadPart' hl
   refine wpAny_stack_any fun st=>wBq ?_;split
   · rename_i c _ _ _ _ _;cases (c == Value.type "enumerate") <;> (wp_walk using wpAny_loadPart' hl,wpAny_pyIter_tuple hL) <;> exact ⟨_,rfl,h⟩
   · wp_walk using wpAny_loadPart' hl,wpAny_pyIter_tuple hL
     exact ⟨_,rfl,h⟩
theorem LA {l:Addr} {items:Array Value} {Q:Value→Shared→Prop} (hL:s.heap.IsTuple l items)
   (h :∀ h',IsEnum h' (s.heap.objs.size + 1) s.heap.objs.size 0 .none→h'.IsTupleIter s.heap.objs.size l 0→h'.objs.size=s.heap.objs.size + 2→
     (∀ b o,s.heap.get? b=some o→h'.get? b=some o)→Q (.ref (s.heap.objs.size + 1)) { s with heap:=h' }) :
   wpAny (model prog w) A (call (.type "enumerate") [.ref l]) Q E s:=by
 obtain ⟨o,hl,hc,n,hd⟩:=hL;refine callType_new F.called_enumerate (by decide) (F.typeCall_enumerate_1 _) (F.newCall_enumerate_1 _) (fun obj=>F.args_object_init_2 obj _) F.entry_enumerate_new (YJ l items o hc n hd) ⟨hl, ?_⟩;have hz:(s.heap.push { cls:=.type "tuple_iterator",data:=.fields #[.ref l,.int 0 0] }).objs.size=s.heap.objs.size + 1:=Heap.size_push ..;show _∧_;rw [hz];have he:IsEnum ((s.heap.push { cls:=.type "tuple_iterator",data:=.fields #[.ref l,.int 0 0] }).push
     { cls:=.type "enumerate",data:=.fields #[.none,.bool false,.ref s.heap.objs.size,rawInt 0,.none,.none] }) (s.heap.objs.size + 1) s.heap.objs.size 0 .none:=by
   have:=wGq (s.heap.push { cls:=.type "tuple_iterator",data:=.fields #[.ref l,.int 0 0] })
     (o:={ cls:=.type "enumerate",data:=.fields #[.none,.bool false,.ref s.heap.objs.size,rawInt 0,.none,.none] }) rfl
   rw [hz] at this; exact this
 exact ⟨⟨_,he,rfl⟩,h _ he ⟨_,wEq _ (wGq _ rfl),rfl,rfl⟩ (by rw [Heap.size_push,hz]) fun b o x=>wEq _ (wEq _ x)⟩
end LE
namespace L2
open PySem PySem.Spec PyProof.Rows
section
variable {X:Cx} {pins:List (Addr×Obj)} {σ:St} {H:Hp} {s:Shared} {h':Heap}
theorem Inv.turnNew {t':Nat} {ch:List Addr} {T:Addr} {u:HO} (I:Inv X pins σ H s)
   (hch:∀ b∈ch,(b∈X.ex∨X.s₀.heap.objs.size≤b)∧b≠X.env.locals∧(∀ x c,X.env.cells.lookup x=some c→c≠b)∧∀ p∈X.pn ++ pins,p.1≠b) (hn:∀ b∈ch,H b=none)
   (k:∀ b o,b∉ ch→s.heap.get? b=some o→h'.get? b=some o) (hT:s.heap.objs.size≤T) (new:bY X.prog X.w (upd H T u) h' T u):Inv X pins σ (upd H T u) { s with heap:=h',toks:=t' }:=by
 have fT:H T=none:=I.hok.fresh hT;have nT:∀ {b o},s.heap.get? b=some o→b≠T:=fun q=>Nat.ne_of_lt (wFq (Heap.lt_size q) hT);have nit:∀ b u,H b=some u→b∉ ch:=fun b u e z=>by rw [hn b z] at e; cases e
 refine I.step (g':=s.gens) (d':=s.drawn) (ch:=ch) hch (fun b o _ _ hc e _=>k b o hc e) (fun b o _ _ hc e _=>⟨o.slots,k b o hc e⟩) (fun b o _ q n=>by rw [aC (nT q)]; exact n)
   (fun b o hc e=>⟨o,k b o hc e⟩) (fun b xs e=>by rw [aC (aH e fT)]; exact e) (fun b o v e=>by rw [aC (aH e fT)]; exact e) (fun b ps e=>⟨#[],by rw [aC (aH e fT),e]; simp⟩) (fun m hm=>?_) (fun b v e=>?_) I.bare
 · obtain ⟨o,es,ep,ho,r⟩:=hm;exact ⟨o,es,ep,k _ o (fun z=>(hch _ z).2.1 rfl) ho,r⟩
 · by_cases hb:b=T
   · subst hb;rw [aJ] at e;cases e;exact new
   · rw [aC hb] at e;refine (I.hok b v e).stay (fun c v hc q=>k c v ?_ q) (fun c q=>by rw [aC (aH q fT)]; exact q) fun c xs q=>by rw [aC (aH q fT)]; exact q
     rcases hc with z | z
     · rw [z]; exact nit b _ e
     · exact nit c _ z
noncomputable def Ite (K:W.Frag) (a:Addr):It :=
 ⟨fun i H=>∃ xs x,SqT K H a xs∧xs[i]? =some x,fun i H x H'=>∃ T v,x= .ref T∧H T=none∧H'=upd H T (.tup [.int i,v])∧∀ xs,SqT K H a xs→xs[i]? =some v,fun i H=>∃ xs,SqT K H a xs∧xs.length≤i⟩
theorem NJ {P:Program} {w:World} {K:W.Frag} {es:List Expr} {x1} {tp:Pos} (a e it:Addr) (hei:e≠it) (hai:a≠it) (hae:a≠e) :
   EL P w K (.Tuple es x1 tp) (Ite K a) [e,it] e (fun i h=>(∃ old,IsEnum h e it ((i:Nat):Int) old)∧h.IsTupleIter it a i) where
 mem:=by simp
 obj :=fun i h st b hb=>by
   obtain ⟨⟨old,h1⟩,o,h2,c,d⟩:=st;rcases List.mem_cons.mp hb with rfl | hb
   · exact ⟨_,h1,fun v z=>by have z':Data.fields _=Data.cell v:=z; cases z'⟩
   · have e':b=it:=by simpa using hb
     subst e';exact ⟨o,h2,fun v z=>by rw [d] at z; cases z⟩
 keep:=fun i h h' st k=>⟨let ⟨old,q⟩:=st.1; ⟨old,k e (by simp) _ q⟩,st.2.at fun o q=>k it (by simp) o q⟩
 item := by
   intro X hP hw hK hc i pins s σ H E I hf st hg;subst hP hw hK;obtain ⟨xs,x,hq,hx⟩:=hg;obtain ⟨its,rv,p,hz⟩:=I.tuple hq;obtain ⟨u,hu,ru⟩:=rv.get hx;obtain ⟨⟨old,he⟩,hit⟩:=st;have hi:i < its.toArray.size:=by
     have:=(List.getElem?_eq_some_iff.mp hu).1;simpa using this
   have D:=LE.aEG (prog:=X.prog) (w:=X.w) (A:=X.A.in1) (I.ok.hd hc) it a hai its.toArray;refine wpAny_pyNext_enum_itemD (A:=X.A) D he ⟨hit,(show s.heap.IsTuple a its.toArray from p)⟩ hi hei (by simp [hei,Ne.symm hae]) fun y h1 tk hy ho hs' hT hsz hk=>?_;refine ⟨_,rfl,wpAny_letOwnedTupleGo_enum ho fun h2 he2 sb=>?_⟩;have hy':y=u:=by
     have z:its.toArray[i]? =some u:=by simpa using hu
     exact Option.some.inj (hy.symm.trans z)
   subst hy';have hTe:s.heap.objs.size≠e:=Nat.ne_of_gt (Heap.lt_size he);have gT:h2.get? s.heap.objs.size=some { cls:=.type "tuple",data:=.seq #[.int i tk,y] }:=(sb.2 _ hTe).trans hT;refine ⟨.ref s.heap.objs.size,upd H s.heap.objs.size (.tup [.int i,x]),I.turnNew (ch:=[e,it]) (h':=h2) (fun b hb=>?_) (fun b hb=>(hf b hb).1) (fun b o hb q=>?_) (Nat.le_refl _) ?_,rfl,⟨_,x,rfl,I.hok.fresh (Nat.le_refl _),rfl,fun ys hy=>by rw [I.tuple_inj hy hq]; exact hx⟩,⟨⟨_,by simpa using he2⟩, ?_⟩,fun b hb=>?_⟩
   · obtain ⟨f0,f1,f2,f3,f4,f5⟩:=hf b hb;exact ⟨f3,f1,f4,f5⟩
   · simp only [List.mem_cons,List.not_mem_nil,or_false,not_or] at hb;exact (sb.2 b hb.1).trans (hk b o hb.1 hb.2 q)
   · exact ⟨by show 2≤sizeLine; decide,[.int i tk,y],.cons ⟨tk,rfl⟩ (.cons ru .nil),gH.at gT⟩
   · exact hs'.1.at fun o q=>(sb.2 it (Ne.symm hei)).trans q
   · have hl:∀ b,b∈ [e,it]→b≠s.heap.objs.size:=fun b hb z=>by
       rcases List.mem_cons.mp hb with r | r
       · exact hTe (z▸r)
       · obtain ⟨o,q,_⟩:=hit;have r':b=it:=by simpa using r
         have l:=Heap.lt_size q;rw [←r',z] at l;exact absurd l (Nat.lt_irrefl _)
     rw [aC (hl b hb)];exact (hf b hb).1
 done:=by
   intro X hP hw hK hc i pins s σ H E I hf st hg;subst hP hw hK;obtain ⟨xs,hq,hx⟩:=hg;obtain ⟨its,rv,p,hz⟩:=I.tuple hq;obtain ⟨⟨old,he⟩,hit⟩:=st;obtain ⟨f0,f1,f2,f3,f4,f5⟩:=hf it (by simp);have hl:=rv.length;have hx':its.toArray[i]? =none:=by simp; omega
   refine wpAny_pyNext_enum_endD (A:=X.A) (LE.aCI (prog:=X.prog) (w:=X.w) (A:=X.A.in1) (I.ok.hd hc) it a i its.toArray hx') he ⟨rfl,hit,(show s.heap.IsTuple a its.toArray from p)⟩ fun h' eb=>⟨rfl,I.turned (t':=s.toks) (fun b o hb e=>eb b o hb e) f0 f1 f3 f4 f5⟩
 self:=fun _ _ _ _ _ st h=>let ⟨_,q⟩:=st.1; wpAny_pyIter_enum q h
def aF7 (K:W.Frag) (ta:TA):TI:=fun σ H R=>ta σ H fun vs H1=>∃ a,vs=[.ref a]∧(∃ xs,SqT K H1 a xs)∧R (Ite K a) H1
theorem aAt {es:List Expr} {x1} {tp:Pos} {e:Expr} {ta:TA} {p pos:Pos} (hg:Gl X "enumerate") (hm:X.mg "enumerate"=none) (ha:PA X [e] ta) (hs:starEach [e] X.env=[(false,eval e X.env)]:=by rfl) :
   PI X (.Tuple es x1 tp) (.Call (.Name "enumerate" p) [e] [] pos) (aF7 X.K ta):=by
 intro pins s σ H R I h;refine Call_ (mR I hg hm boot_enumerate (PyProof.Rows.callWith_type1 (thn (ha pos pins s σ H _ I h) fun us s1 zz=>?_) hs rfl));obtain ⟨vs,H1,I1,r1,q1⟩:=zz;obtain ⟨a,e,⟨xs,hq⟩,q⟩:=q1;subst e;obtain ⟨u,rfl,r⟩:=gG r1;cases r;obtain ⟨its,rv,ht,hz⟩:=I1.tuple hq;have ht':s1.heap.IsTuple a its.toArray:=ht;have hl:a < s1.heap.objs.size:=let ⟨o,e,_⟩:=ht'; Heap.lt_size e
 refine LE.LA ht' fun h' he hit hsz k=>?_;have I2:Inv X pins σ H1 { s1 with heap:=h' }:=I1.kept (t':=s1.toks) k;refine wpAny_pyIter_enum (s:={ s1 with heap:=h' }) he ?_;refine ⟨s1.heap.objs.size + 1,[s1.heap.objs.size + 1,s1.heap.objs.size],_,_,H1,rfl,I2,NJ a _ _ (Nat.succ_ne_self _) (Nat.ne_of_lt hl) (Nat.ne_of_lt (Nat.lt_succ_of_lt hl)),⟨⟨_,he⟩,hit⟩,fun b hb=>?_,q⟩;have hb':s1.heap.objs.size≤b:=by
   rcases List.mem_cons.mp hb with z | z
   · rw [z]; exact Nat.le_succ _
   · have z':b=s1.heap.objs.size:=by simpa using z
     exact Nat.le_of_eq z'.symm
 exact I1.fpOk hb' (I1.hok.fresh hb')
end
section
variable {X:Cx}
theorem IxR.imp {r r':R2} (h:IxR X r) (f:∀ x y H Q,r' x y H Q→r x y H Q):IxR X r':=fun value slice pins s σ H x y v u Q I rx ry q hs=>h value slice pins s σ H x y v u Q I rx ry (f _ _ _ _ q) hs
theorem bL.imp {g:Value} {r r':List V→Hp→VK→Prop} (h:bL X g r) (f:∀ x H Q,r' x H Q→r x H Q):bL X g r':=fun pins s σ H xs us Q I rs q=>h pins s σ H xs us Q I rs (f _ _ _ q)
theorem PG.imp {e:Expr} {t t':TG} (h:PG X e t) (f:∀ v σ H Q,t' v σ H Q→t v σ H Q):PG X e t':=fun pins s σ H v u Q I r q=>h pins s σ H v u Q I r (f _ _ _ _ q)
theorem PI.imp {tg it:Expr} {t t':TI} (h:PI X tg it t) (f:∀ σ H R,t' σ H R→t σ H R):PI X tg it t':=fun pins s σ H R I q=>h pins s σ H R I (f _ _ _ q)
end
theorem aFH {n:Nat}:ixN (n + 1) 0=some 0:=by unfold ixN; rw [if_pos (by decide),if_pos (by omega)]; rfl
theorem aBy {n:Nat}:ixN (n + 2) 1=some 1:=by unfold ixN; rw [if_pos (by decide),if_pos (by omega)]; rfl
theorem aBV {n:Nat}:ixN (n + 3) 2=some 2:=by unfold ixN; rw [if_pos (by decide),if_pos (by omega)]; rfl
theorem fN {H:Hp} {p q:Addr} {o u:HO} (h:H q=some u) (n:H p=none):upd H p o q=some u:=by rw [aC (aH h n)]; exact h
theorem bB {H:Hp} {p:Addr} (h:H p=none) (o:HO):aN H (upd H p o):=fun b u q=>fN q h
noncomputable def tyN (H:Hp):V→Option String
 | .non=>some "NoneType"
 | .bl _=>some "bool"
 | .int _=>some "int"
 | .str _=>some "str"
 | .ref a=>match H a with
   | some (.lst _)=>some "list"
   | some (.tup _)=>some "tuple"
   | some (.dK _)=>some "dict"
   | _=>none
 | _=>none
noncomputable def BZ (n T:String):Bool:=n == T || (n == "bool" && T == "int")
noncomputable def oM:List String:=["int","bool","tuple","str","list","dict"]
noncomputable def NM:List String:=["NoneType","bool","int","str","list","tuple","dict"]
theorem aEc {K:W.Frag} {H:Hp} {x:V} {n:String} (h:tyN H x=some n):pQ K H x (.type n):=by
 unfold tyN at h;split at h
 · cases h; exact .non
 · cases h; exact .bl _
 · cases h; exact .int _
 · cases h; exact .str _
 · split at h
   · rename_i e; cases h; exact .lst e
   · rename_i e; cases h; exact .tup e
   · rename_i e; cases h; exact .dK e
   · cases h
 · cases h
theorem aDV (K:W.Frag):∀ n∈NM,∀ T∈oM,W.kitOne K (.type n) (.type T)=some (BZ n T):=by
 intro n hn T hT;simp only [NM,oM,List.mem_cons,List.not_mem_nil,or_false] at hn hT;rcases hn with rfl | rfl | rfl | rfl | rfl | rfl | rfl <;> rcases hT with rfl | rfl | rfl | rfl | rfl | rfl <;> rfl
theorem OpR.imp {X:Cx} {f:Value→Value→Sem Value} {r r':R2} (h:OpR X f r) (g:∀ x y H Q,r' x y H Q→r x y H Q):OpR X f r':=fun pins s σ H x y v u Q I rx ry q=>h pins s σ H x y v u Q I rx ry (g _ _ _ _ q)
theorem aJP (i:Int):(if i < 0 then -i else i)=(i.natAbs:Int):=by split <;> omega
theorem LP {X:Cx}:bL X (.builtin "abs") (fun xs H Q=>∃ i,xs=[.int i]∧Q (.int (i.natAbs:Int)) H):=WT.imp <|by rintro _ _ _ ⟨i,a,q⟩;exact ⟨i,a,by rw [aJP]; exact q⟩
theorem aJV:((0:Nat):Int)=0:=rfl
theorem aHL:((1:Nat):Int)=1:=rfl
theorem aHn:((2:Nat):Int)=2:=rfl
theorem aGk:((3:Nat):Int)=3:=rfl
section
variable {prog:Program} {w:World} {A:Around} {R:Result→Shared→Prop} {s:Shared}
noncomputable abbrev NoE:Value→Shared→Prop:=fun _ _=>False
theorem LN {elt target iter:Expr} {ifs:List Expr} {scope:Scope} {pos:Pos} {it acc:Value} {env:Env} (I:Nat→Shared→Prop)
   (turn : ∀ n s,I n s→wpAny (model prog w) A (pyNext it) (fun r s₁=>match r with
     | none=>R (.ok .next) s₁
     | some v=>wpAny (model prog w) A (letOwnedTupleGo target it v) (fun _ s₁'=>wpAny (model prog w) A (assign target env v) (fun _ s₂ =>
         wpAny (model prog w) A (forIn ifs true fun c r=>if r=true then do let ok ←isTrue c env (eval c env); pure (ForInStep.yield ok) else pure (ForInStep.yield r)) (fun ok s₃ =>
           if ok=true then wpAny (model prog w) A (eval elt env) (fun x s₄=>wpAny (model prog w) A (call (.builtin "list.append") [acc,x]) (fun _ s₅=>∃ m,m < n∧I m s₅) NoE s₄) NoE s₃
           else ∃ m,m < n∧I m s₃) NoE s₂) NoE s₁') NoE s₁) NoE s) (n:Nat) (h:I n s) :
   codeAny (model prog w) A (.compLoop (.ListComp elt [⟨target,iter,ifs,0⟩] scope pos) 0 it acc env) R s:=by
 refine codeAny_loop rfl I (fun n s hI=>?_) n h;refine wpAny_noted (m:=compTurn (.ListComp elt [⟨target,iter,ifs,0⟩] scope pos) 0 it acc env) ?_;rw [compTurn_list];refine wAq (wpAny_standAt (wAq (wpAny_mono (turn n s hI) (fun r s₁ h₁=>?_) fun _ _ f=>f.elim)));cases r with
 | none=>exact wBq h₁
 | some v =>
   refine wAq (wpAny_mono h₁ (fun _ s₁' h₁'=>?_) fun _ _ f=>f.elim);refine wAq (wpAny_mono h₁' (fun _ s₂ h₂=>wAq (wpAny_mono h₂ (fun ok s₃ h₃=>?_) fun _ _ f=>f.elim)) fun _ _ f=>f.elim);cases ok with
   | false=>exact wBq ⟨rfl,h₃⟩
   | true =>
     exact wAq (wAq (wpAny_mono h₃ (fun x s₄ h₄=>wAq (wpAny_mono h₄ (fun _ s₅ h₅=>wBq (wBq ⟨rfl,h₅⟩)) fun _ _ f=>f.elim)) fun _ _ f=>f.elim))
end
noncomputable def mT (cl cells:List (Str×Addr)):List (Str×NameKind)→Prop
 | []=>True
 | (n,k) :: r=>(k= .free→∃ c,cl.lookup n=some c∧cells.lookup n=some c)∧mT cl cells r
noncomputable def vX (cells:List (Str×Addr)):List (Str×Addr)→Prop
 | []=>True
 | (n,c) :: r=>cells.lookup n=some c∧vX cells r
theorem vX.look {cells:List (Str×Addr)}:∀ {cl:List (Str×Addr)} {x:Str} {c:Addr},vX cells cl→cl.lookup x=some c→cells.lookup x=some c
 | [],_,_,_,h=>by cases h
 | (n,c') :: r,x,c,ok,h=>by
   cases hx:x == n with
   | true =>
     rw [List.lookup_cons,hx] at h;cases h;rw [beq_iff_eq.mp hx]; exact ok.1
   | false =>
     rw [List.lookup_cons,hx] at h;exact vX.look ok.2 h
theorem mT.look {cl cells:List (Str×Addr)} {f:Str×NameKind→Str×NameKind} (hf:∀ y,(f y).1=y.1∧((f y).2= .cell∨(f y).2= .free→y.2= .cell∨y.2= .free)):∀ {names:List (Str×NameKind)} {x:Str},mT cl cells names→
   ((names.map f).lookup x=some .cell∨(names.map f).lookup x=some .free)→(∃ c,cl.lookup x=some c)∨(x,NameKind.cell)∈names
 | [],_,_,h=>by rcases h with h | h <;> cases h
 | (n, k) :: r,x,ok,h=>by
   have h1:=hf (n,k);rw [List.map_cons] at h;cases hx:x == (f (n,k)).1 with
   | true =>
     have e:List.lookup x (f (n,k) :: r.map f)=some (f (n,k)).2:=by rw [List.lookup_cons,hx]
     rw [e] at h;have hk:k= .cell∨k= .free:=h1.2 (h.imp Option.some.inj Option.some.inj);rcases hk with hk | hk
     · subst hk;rw [beq_iff_eq.mp hx,h1.1];exact .inr (wDq ..)
     · obtain ⟨c,q,_⟩:=ok.1 hk;rw [beq_iff_eq.mp hx,h1.1]; exact .inl ⟨c,q⟩
   | false =>
     have e:List.lookup x (f (n,k) :: r.map f)=List.lookup x (r.map f):=by rw [List.lookup_cons,hx]
     rw [e] at h;exact (mT.look hf ok.2 h).imp_right fun z=>wCq _ z
theorem cM:∀ (names:List (Str×NameKind)) (n:Nat) (acc:List (Str×Addr)),cellsFrom n names acc=cellsFrom n names [] ++ acc
 | [],_,_=>rfl
 | (y,k) :: r,n,acc=>by
   unfold cellsFrom;split
   · rw [cM r (n + 1) ((y,n) :: acc),cM r (n + 1) [(y,n)],List.append_assoc]; rfl
   · exact cM r n acc
theorem dC:∀ {names:List (Str×NameKind)} {n:Nat} {acc:List (Str×Addr)} {x:Str} {c:Addr},(x,c)∈cellsFrom n names acc→(x,c)∈acc∨((x,NameKind.cell)∈names∧n≤c)
 | [],_,_,_,_,h=>.inl h
 | (y, k) :: r,n,acc,x,c,h=>by
   unfold cellsFrom at h;split at h
   · rename_i hk;rcases dC h with z | ⟨z,l⟩
     · rcases List.mem_cons.mp z with e | z
       · cases e; rw [beq_iff_eq.mp hk]; exact .inr ⟨wDq ..,Nat.le_refl _⟩
       · exact .inl z
     · exact .inr ⟨wCq _ z,Nat.le_of_succ_le l⟩
   · rcases dC h with z | ⟨z,l⟩
     · exact .inl z
     · exact .inr ⟨wCq _ z,l⟩
theorem hJ:∀ {names:List (Str×NameKind)} {n:Nat} {acc:List (Str×Addr)} {x:Str},(x,NameKind.cell)∈names∨(∃ c,(x,c)∈acc)→∃ c,(x,c)∈cellsFrom n names acc
 | [],_,_,_,h=>by
   rcases h with h | h
   · cases h
   · exact h
 | (y, k) :: r,n,acc,x,h=>by
   unfold cellsFrom;split
   · refine hJ ?_;rcases h with h | ⟨c,h⟩
     · rcases List.mem_cons.mp h with e | h
       · cases e; exact .inr ⟨n,wDq ..⟩
       · exact .inl h
     · exact .inr ⟨c,wCq _ h⟩
   · rename_i hk;refine hJ (h.imp_left fun h=>?_);rcases List.mem_cons.mp h with e | h
     · cases e; exact absurd rfl hk
     · exact h
theorem CA {l:List (Str×Addr)} {x:Str}:(∃ c,(x,c)∈l)→∃ c,l.lookup x=some c:=by
 induction l with
 | nil=>rintro ⟨_,h⟩; cases h
 | cons p r ih =>
   rintro ⟨c,h⟩;rw [List.lookup_cons];cases hb:x == p.1 with
   | true=>exact ⟨p.2,rfl⟩
   | false =>
     rcases List.mem_cons.mp h with e | h
     · rw [←e] at hb; rw [beq_self_eq_true] at hb; cases hb
     · exact ih ⟨c,h⟩
theorem dL {n:Nat} {names:List (Str×NameKind)} {cl:List (Str×Addr)} {x:Str} {c:Addr} (h:(cellsFrom n names cl).lookup x=some c):((x,c)∈cellsFrom n names []∧(x,NameKind.cell)∈names∧n≤c)∨cl.lookup x=some c:=by
 rw [cM,List.lookup_append] at h;cases e:(cellsFrom n names []).lookup x with
 | none=>rw [e] at h; exact .inr h
 | some d =>
   rw [e] at h; cases h;have m:=PySem.mem_of_lookup e;rcases dC m with z | z
   · cases z
   · exact .inl ⟨m,z⟩
theorem rA {n:Nat} {names:List (Str×NameKind)} {cl:List (Str×Addr)} {x:Str} {c:Addr} (hx:(x,NameKind.cell)∉ names) (h:cl.lookup x=some c):(cellsFrom n names cl).lookup x=some c:=by
 rw [cM,List.lookup_append];cases e:(cellsFrom n names []).lookup x with
 | none=>exact h
 | some d =>
   rcases dC (PySem.mem_of_lookup e) with z | z
   · cases z
   · exact absurd z.1 hx
theorem xK {n:Nat} {names:List (Str×NameKind)} {cl:List (Str×Addr)} {x:Str} (h:(x,NameKind.cell)∈names):∃ c,(cellsFrom n names cl).lookup x=some c∧n≤c:=by
 obtain ⟨c,e⟩:=CA (hJ (n:=n) (acc:=[]) (.inl h));refine ⟨c,by rw [cM,List.lookup_append,e]; rfl, ?_⟩;rcases dC (PySem.mem_of_lookup e) with z | z
 · cases z
 · exact z.2
noncomputable def aJj (scope:Scope) (x:Str):Bool:=scope.names.contains (x,NameKind.cell)
theorem CK {M:Model} {A:Around} {E:Value→Shared→Prop} {s:Shared} {scope:Scope} {globals:Addr} {cl:List (Str×Addr)} {qual:Str} {env:Env} {Q:Env→Shared→Prop}
   (hQ:Q (newEnv scope s.heap.objs.size globals (cellsFrom (s.heap.objs.size + 1) scope.names cl) qual none .none (some env) builtinsNs) { s with heap:=pushCells (s.heap.push { cls:=.type "dict",data:=.dict #[] }) scope.names }) :
   wpAny M A (newFunctionEnv scope globals cl [] qual none .none (some env)) Q E s:=by
 simp only [newFunctionEnv,Option.isSome_some,if_true];refine wAq (wpAny_alloc ?_);refine wAq (wpAny_layCells _ (fun name kind cells=>by cases hkc:kind == NameKind.cell <;> simp [hkc]) _ _ _ _ ?_);rw [show ({ s with heap:=s.heap.push { cls:=.type "dict",data:=.dict #[] } }:Shared).heap.objs.size=s.heap.objs.size + 1 from Heap.size_push ..];rw [List.forIn_nil];exact wAq (wBq (wBq hQ))
noncomputable def cxC (X:Cx) (N:List Str) (scope:Scope) (cl:List (Str×Addr)) (C:Addr) (s₀:Shared) (H₀:Hp) (ex:List Addr):Cx :=
 { X with N:=N,s₀:=s₀,H₀:=H₀,env:=compEnvC scope (cellsFrom (C + 1) scope.names cl) C X.env,outer:=X.stack,stack:=X.stack,ex:=ex,fn:=aJj scope,pn:=[],xe:=NoE }
noncomputable def YB (js:List (Option Nat)) (σ:St):St:=js.map fun o=>match o with | none=>none | some j=>(σ[j]?).getD none
noncomputable def fP (X:Cx) (scope:Scope) (cl:List (Str×Addr)):List Str→List (Option Nat)→Prop
 | [],[]=>True
 | _ :: N,none :: J=>fP X scope cl N J
 | x :: N,some j :: J=>(X.N[j]? =some x∧X.env.kindOf x=some .cell∧(relabel scope X.env).names.lookup x=some .cell∧∃ c,cl.lookup x=some c∧X.env.cells.lookup x=some c)∧fP X scope cl N J
 | _,_=>False
theorem fP.len {X:Cx} {scope:Scope} {cl:List (Str×Addr)}:∀ {N:List Str} {J:List (Option Nat)},fP X scope cl N J→N.length=J.length
 | [],[],_=>rfl
 | _ :: _,none :: _,h=>congrArg (· + 1) (fP.len (show fP X scope cl _ _ from h))
 | _ :: _,some _ :: _,h=>congrArg (· + 1) (fP.len h.2)
 | [],_ :: _,h=>h.elim
 | _ :: _,[],h=>h.elim
theorem fP.at {X:Cx} {scope:Scope} {cl:List (Str×Addr)}:∀ {N:List Str} {J:List (Option Nat)} {i:Nat} {x:Str} {σ:St} {v:V},fP X scope cl N J→N[i]? =some x→(YB J σ)[i]? =some (some v)→
   ∃ (j:Nat),σ[j]? =some (some v)∧X.N[j]? =some x∧X.env.kindOf x=some .cell∧(relabel scope X.env).names.lookup x=some .cell∧∃ c,cl.lookup x=some c∧X.env.cells.lookup x=some c
 | [],[],_,_,_,_,_,h,_=>by cases h
 | y :: N,none :: J,i,x,σ,v,ok,h,q=>by
   cases i with
   | zero=>cases q
   | succ i=>exact fP.at (show fP X scope cl N J from ok) h q
 | y :: N,some j :: J,i,x,σ,v,ok,h,q=>by
   cases i with
   | zero =>
     cases h;refine ⟨j, ?_,ok.1⟩;have q':some ((σ[j]?).getD none)=some (some v):=q;have q2:=Option.some.inj q';cases e:σ[j]? with
     | none=>rw [e] at q2; cases q2
     | some o=>rw [e] at q2; exact congrArg some q2
   | succ i=>exact fP.at ok.2 h q
 | [],_ :: _,_,_,_,_,ok,_,_=>ok.elim
 | _ :: _,[],_,_,_,_,ok,_,_=>ok.elim
section
variable {X:Cx} {pins:List (Addr×Obj)} {σ:St} {H:Hp} {s:Shared} {N:List Str} {scope:Scope} {cl:List (Str×Addr)} {js:List (Option Nat)} {fp:List Addr}
structure jD (X:Cx) (N:List Str) (scope:Scope) (cl:List (Str×Addr)) (js:List (Option Nat)):Prop where
 clos:closureFor scope X.env=pure cl
 own:∀ x,(x,NameKind.cell)∈scope.names→cl.lookup x=none
 kind:scope.kind= .function
 names:∀ y∈scope.names,y.2= .local→scope.names.lookup y.1=some .local
 free:mT cl X.env.cells scope.names
 cls:vX X.env.cells cl
 cap:fP X scope cl N js
theorem CJ (S:jD X N scope cl js) (I:Inv X pins σ H s) (hf:∀ b∈fp,vV X pins H b) (he:∀ b∈fp,b < s.heap.objs.size) {h':Heap} {m:Str→Option Value} {t':Nat} (hn:h'.Ns s.heap.objs.size m)
   (k:∀ b o,s.heap.get? b=some o→h'.get? b=some o) (hc:CellsOk h' (s.heap.objs.size + 1) (cellsFrom (s.heap.objs.size + 1) scope.names [])):Inv (cxC X N scope cl s.heap.objs.size s H fp) [] (YB js σ) H { s with heap:=h',toks:=t' }:=by
 have hcl:∀ x c,cl.lookup x=some c→X.env.cells.lookup x=some c:=fun x c h=>S.cls.look h;have lo:∀ x c,cl.lookup x=some c→c < s.heap.objs.size:=fun x c h=>let ⟨_,q⟩:=I.cell x c (hcl x c h); q.lt
 refine ⟨⟨I.mod, ?_,I.ok.glob,I.ok.blt,Nat.le_refl _,fun x y c a b=>?_,fun x hx=>?_,fun x c z e=>?_,I.ok.hd,I.ok.frames,.inl rfl,fun b hb=>⟨Nat.ne_of_lt (he b hb),fun x c e=>?_⟩,
   I.bs,Nat.le_trans I.ok.bsz I.sz,fun b o e hb=>?_,fun b hb z=>?_,I.stack,I.stkFree⟩,rfl,I.bare,⟨fun b o q _ _ _=>k b o q,fun b o q _ _ _=>⟨o.slots,k b o q⟩,fun _ _ _ n _=>n,fun b o q _=>⟨o,k b o q⟩,fun _ _ q=>q,fun _ _ _ q=>q,fun b ps q=>⟨#[],by rw [show H b=_ from q]; simp⟩⟩, ?_,fun x c e=>?_, ?_,fun x c e=>?_,(fun p hp=>nomatch hp),I.hok.kept k, ?_⟩
 · exact S.kind
 · rcases dL a with ⟨m1,_,l1⟩ | a1 <;> rcases dL b with ⟨m2,_,l2⟩ | b1
   · exact name_of_addr hc.apart m1 m2
   · exact absurd (wFq (lo y c b1) (Nat.le_of_succ_le l1)) (Nat.lt_irrefl _)
   · exact absurd (wFq (lo x c a1) (Nat.le_of_succ_le l2)) (Nat.lt_irrefl _)
   · exact I.ok.inj x y c (hcl x c a1) (hcl y c b1)
 · have q:=mT.look (f:=fun y=>if (y.2 == .free && X.env.scope.kind == .function && X.env.kindOf y.1 == some .cell) then (y.1,.cell) else (y.1,y.2)) (fun y=>by
     by_cases hc:(y.2 == .free && X.env.scope.kind == .function && X.env.kindOf y.1 == some .cell)=true
     · rw [if_pos hc];refine ⟨rfl,fun _=>.inr ?_⟩;rw [Bool.and_eq_true,Bool.and_eq_true] at hc;exact beq_iff_eq.mp hc.1.1
     · rw [if_neg hc];exact ⟨rfl,fun z=>z⟩) S.free hx
   rcases q with ⟨c,q⟩ | q
   · refine ⟨c,rA (fun z=>?_) q⟩;rw [S.own x z] at q; cases q
   · obtain ⟨c,e,_⟩:=xK (n:=s.heap.objs.size + 1) (cl:=cl) q;exact ⟨c,e⟩
 · have z':(x,NameKind.cell)∈scope.names:=List.contains_iff_mem.mp z;rcases dL e with ⟨_,_,l⟩ | q
   · exact Nat.le_of_succ_le l
   · rw [S.own x z'] at q; cases q
 · rcases dL e with ⟨_,_,l⟩ | q
   · exact Nat.ne_of_gt (wFq (he b hb) (Nat.le_of_succ_le l))
   · exact (hf b hb).2.2.2.2.1 x c (hcl x c q)
 · obtain ⟨_,n2⟩:=I.bs b o e;rcases (hf b hb).2.2.2.1 with z | z
   · exact I.ok.noex b o e z
   · exact absurd (wFq (Heap.lt_size (I.ok.bs b o e).1) z) (Nat.lt_irrefl _)
 · obtain ⟨_,f1,f2,_⟩:=hf b hb;exact (List.mem_cons.mp (I.stkSub b z)).elim f1 f2
 · obtain ⟨mX,hnX,hl⟩:=I.loc;refine ⟨m,hn,fun i x v e1 e2 e3=>?_⟩;obtain ⟨j,q1,q2,q3,q4,c,q5,q6⟩:=S.cap.at e1 e2;obtain ⟨u,r,l⟩:=hl j x v q2 q1 (.inr (.inl q3));refine ⟨u,r,.inr ⟨.inl q4,c,rA (fun z=>?_) q5, ?_⟩⟩
   · rw [S.own x z] at q5; cases q5
   rcases l with ⟨l,_⟩ | ⟨_,c',e',z⟩
   · rw [q3] at l; cases l
   · rw [q6] at e'; cases e';obtain ⟨o,ho,hd⟩:=z;exact ⟨o,k _ _ ho,hd⟩
 · rcases dL e with ⟨m1,_,_⟩ | q
   · exact ⟨none,(hc.empty x c m1).1⟩
   · obtain ⟨v,o,ho,hd⟩:=I.cell x c (hcl x c q);exact ⟨v,o,k _ _ ho,hd⟩
 · exact I.hok.fresh (Nat.le_refl _)
 · rcases dL e with ⟨_,_,l⟩ | q
   · exact I.hok.fresh (Nat.le_of_succ_le l)
   · exact I.freeC x c (hcl x c q)
 · show (js.map _).length=N.length;rw [List.length_map]; exact S.cap.len.symm
end
noncomputable def PTs (X:Cx) (ifs:List Expr) (t:TT):Prop :=
 ∀ (pins:List (Addr×Obj)) (s:Shared) (σ:St) (H:Hp) (Q:Bool→Hp→Prop),Inv X pins σ H s→t σ H Q→
   wpAny (model X.prog X.w) X.A (forIn ifs true fun c r=>if r=true then do let ok ←isTrue c X.env (eval c X.env); pure (ForInStep.yield ok) else pure (ForInStep.yield r)) (TP X pins σ Q) X.xe s
theorem aAx {X:Cx}:PTs X [] (fun _ H Q=>Q true H):=fun pins s σ H Q I h=>wpAny_tests_nil ⟨H,I,h⟩
theorem aAG {X:Cx} {c:Expr} {t:TT} (h:PT X c t):PTs X [c] t:=fun pins s σ H Q I q=>wpAny_tests_one (h pins s σ H Q I q)
def QR (J:It) (D:Addr) (g:TG) (ts:TT) (te:TE) (Q:VK) (σ:St) (H:Hp):Prop:= ∃ W:Nat→Nat→St→Hp→Prop,(∃ m,W 0 m σ H)∧∀ i m σ' H',W i m σ' H'→
 (J.stop i H'∧Q (.ref D) H')∨(J.go i H'∧∃ N:St→Hp→Prop,(∀ σ2 H2,N σ2 H2→∃ m',m' < m∧W (i + 1) m' σ2 H2)∧∀ x H2,J.yld i H' x H2→g x σ' H2 fun σ3 H3=>ts σ3 H3 fun ok H4=>if ok=true then te σ3 H4 fun y H5 =>
   ∃ ys,H5 D=some (.lst ys)∧ys.length < sizeLine∧N σ3 (upd H5 D (.lst (ys ++ [y]))) else N σ3 H4)
def US (wi:TI) (g:TG) (ts:TT) (te:TE) (js:List (Option Nat)):TE:=fun σ H Q=>wi σ H fun J H1=>∀ D,H1 D=none→QR J D g ts te Q (YB js σ) (upd H1 D (.lst []))
section
variable {X:Cx} {pins:List (Addr×Obj)} {σ:St} {H:Hp} {s:Shared} {N:List Str} {scope:Scope} {cl:List (Str×Addr)} {js:List (Option Nat)} {fp:List Addr} {tg elt iter:Expr} {ifs:List Expr} {pos:Pos} {J:It} {it:Addr} {tn:Nat→Heap→Prop}
 {g:TG} {ts:TT} {te:TE}
structure aE4 (X:Cx) (pins:List (Addr×Obj)) (σ:St) (Q:VK) (D C:Addr) (s':Shared):Prop where
 ex:∃ H' m,Inv X pins σ H' s'∧s'.heap.Ns C m∧H' C=none∧C≠X.env.locals∧C∉ X.fs∧X.s₀.heap.objs.size≤C∧(∀ x c,X.env.cells.lookup x=some c→c≠C)∧(∀ p∈X.pn ++ pins,p.1≠C)∧Q (.ref D) H'
theorem EA (S:jD X N scope cl js) (hc:X.calm=true) (I:Inv X pins σ H s) (T:EL X.prog X.w X.K tg J fp it tn) (st:tn 0 s.heap) (hf:∀ b∈fp,vV X pins H b)
   (hg:∀ C s₀ H₀ ex,PG (cxC X N scope cl C s₀ H₀ ex) tg g) (ht:∀ C s₀ H₀ ex,PTs (cxC X N scope cl C s₀ H₀ ex) ifs ts) (he:∀ C s₀ H₀ ex,PE (cxC X N scope cl C s₀ H₀ ex) elt te) {Q:VK}
   (q:∀ D,H D=none→QR J D g ts te Q (YB js σ) (upd H D (.lst [])))
   {RR:Value→Addr→Result→Shared→Prop} (hR:∀ D C s',aE4 X pins σ Q D C s'→RR (.ref D) C (.ok .next) s') {E:Value→Shared→Prop} :
   wpAny (model X.prog X.w) X.A (newList []) (fun acc s₃=>wpAny (model X.prog X.w) X.A (newFunctionEnv scope X.env.globals cl [] X.env.qual none .none (some X.env)) (fun cenv s₄ =>
     codeAny (model X.prog X.w) X.A (.compStart (.ListComp elt [⟨tg,iter,ifs,0⟩] scope pos) 0 (.ref it) acc { cenv with scope:=relabel scope X.env }) (RR acc cenv.locals) s₄) E s₃) E s:=by
 refine wpAny_newObj_type (CK ?_);have fD:H s.heap.objs.size=none:=I.hok.fresh (Nat.le_refl _);have I3:Inv X pins σ (upd H s.heap.objs.size (.lst [])) { s with heap:=s.heap.push { cls:=.type "list",dict:=none,data:=.seq ([]:List Value).toArray },toks:=s.toks } :=
   I.laid (t':=s.toks) (fun b u e=>wEq _ e) (Nat.le_refl _) ⟨Nat.zero_le _,[],0,.nil,wGq _ rfl⟩
 have lt:∀ b∈fp,b < s.heap.objs.size:=fun b hb=>let ⟨o,e,_⟩:=T.obj _ _ st b hb; Heap.lt_size e
 have hf3:∀ b∈fp,vV X pins (upd H s.heap.objs.size (.lst [])) b:=fun b hb=>⟨by rw [aC (Nat.ne_of_lt (lt b hb))]; exact (hf b hb).1,(hf b hb).2⟩;dsimp only;generalize hH2:s.heap.push { cls:=.type "list",dict:=none,data:=.seq ([]:List Value).toArray }=H2 at I3 ⊢;have hns₁:(pushCells (H2.push { cls:=.type "dict",data:=.dict #[] }) scope.names).Ns H2.objs.size (fun _=>none):=(Heap.Ns.new H2 (.type "dict")).keeps (pushCells_keeps _ _);have hco:CellsOk (pushCells (H2.push { cls:=.type "dict",data:=.dict #[] }) scope.names) (H2.objs.size + 1) (cellsFrom (H2.objs.size + 1) scope.names []):=by
   have ok:=cellsFrom_ok scope.names (H2.push { cls:=.type "dict",data:=.dict #[] }) (H2.objs.size + 1) [] ⟨fun _ _ hm=>(nomatch hm),List.Pairwise.nil⟩ (by rw [Heap.size_push]; exact Nat.le_refl _);rw [Heap.size_push] at ok;exact ok
 have keep:∀ b o,H2.get? b=some o→(pushCells (H2.push { cls:=.type "dict",data:=.dict #[] }) scope.names).get? b=some o:=fun b o e=>pushCells_keeps _ _ b o (wEq _ e);generalize pushCells (H2.push { cls:=.type "dict",data:=.dict #[] }) scope.names=h₁ at hns₁ hco keep ⊢;have hC:H2.objs.size=s.heap.objs.size + 1:=by rw [←hH2,Heap.size_push]
 have Ic:=CJ (t':=s.toks) S I3 hf3 (fun b hb=>by show b < H2.objs.size; rw [hC]; exact Nat.lt_succ_of_lt (lt b hb)) hns₁ keep hco;obtain ⟨W,⟨m0,w0⟩,turn⟩:=q _ fD;have stat:∀ {H':Hp},(∀ b∈fp,H' b=none)→∀ b∈fp,vV (cxC X N scope cl H2.objs.size { s with heap:=H2,toks:=s.toks } (upd H s.heap.objs.size (.lst [])) fp) [] H' b:=fun hn b hb =>
   ⟨hn b hb,Nat.ne_of_lt (by rw [hC]; exact Nat.lt_succ_of_lt (lt b hb)),fun z=>(List.mem_cons.mp (I.stkSub b z)).elim (hf b hb).2.1 (hf b hb).2.2.1,.inl hb,fun x c e=>(dL e).elim (fun z=>Nat.ne_of_gt (wFq (lt b hb) (Nat.le_trans (by rw [hC]; omega) z.2.2))) fun q=>(hf b hb).2.2.2.2.1 x c (S.cls.look q),(fun p hp=>nomatch hp)⟩
 have st1:tn 0 h₁:=T.keep _ _ _ st fun b hb o e=>keep b o (by rw [←hH2]; exact wEq _ e);have loop:codeAny (model X.prog X.w) X.A (.compLoop (.ListComp elt [⟨tg,iter,ifs,0⟩] scope pos) 0 (.ref it) (.ref s.heap.objs.size) (compEnvC scope (cellsFrom (H2.objs.size + 1) scope.names cl) H2.objs.size X.env)) (RR (.ref s.heap.objs.size) H2.objs.size)
     { s with heap:=h₁,toks:=s.toks }:=by
   refine LN (fun n s'=>∃ i σ' H',Inv (cxC X N scope cl H2.objs.size { s with heap:=H2,toks:=s.toks } (upd H s.heap.objs.size (.lst [])) fp) [] σ' H' s'∧tn i s'.heap∧(∀ b∈fp,H' b=none)∧W i n σ' H') ?_ m0
     ⟨0,_,_,Ic,st1,fun b hb=>(hf3 b hb).1,w0⟩
   rintro n s3 ⟨i,σ3,H3,I3',st3,fr3,w3⟩;rcases turn i n σ3 H3 w3 with ⟨stop,qn⟩ | ⟨go,Nx,hN,step⟩
   · refine thn (T.done (cxC X N scope cl H2.objs.size { s with heap:=H2,toks:=s.toks } (upd H s.heap.objs.size (.lst [])) fp) rfl rfl rfl hc i [] s3 σ3 H3 NoE I3' (stat fr3) st3 stop) fun r s4 zz=>?_;obtain ⟨hr,I4⟩:=zz;subst hr;obtain ⟨mC,hnC,_⟩:=I4.loc;have IX:Inv X pins σ H3 s4:=I3.call' (ch:=fp) I4.os I4.base I4.hok I4.bare fun b hb=>by
       obtain ⟨_,f1,_,f3,f4,f5⟩:=hf3 b hb;exact ⟨f3,f1,f4,f5⟩
     have up:s.heap.objs.size≤H2.objs.size:=by rw [hC]; exact Nat.le_succ _
     have fp0:=I.fpOk (H':=H3) up I4.free;exact hR _ _ s4 ⟨⟨H3,mC,IX,hnC,I4.free,fp0.2.1,fp0.2.2.1,Nat.le_trans I.sz up,fp0.2.2.2.2.1,fp0.2.2.2.2.2,qn⟩⟩
   · refine thn (T.item (cxC X N scope cl H2.objs.size { s with heap:=H2,toks:=s.toks } (upd H s.heap.objs.size (.lst [])) fp) rfl rfl rfl hc i [] s3 σ3 H3 NoE I3' (stat fr3) st3 go) fun r s4 zz=>?_;obtain ⟨u,hr,h4⟩:=zz;subst hr;refine thn h4 fun _ s5 zz=>?_;obtain ⟨x,H5,I5,r5,y5,st5,fr5⟩:=zz;have I5':=I5.pinned (stat fr5) (T.obj _ _ st5);refine thn (hg _ _ _ _ _ s5 σ3 H5 x u _ I5' r5 (step x H5 y5)) fun _ s6 zz=>?_;obtain ⟨σ6,H6,I6,q6⟩:=zz;refine thn (ht _ _ _ _ _ s6 σ6 H6 _ I6 q6) fun ok s7 zz=>?_;obtain ⟨H7,I7,q7⟩:=zz;have again:∀ {σ8:St} {H8:Hp} {s8:Shared},Inv (cxC X N scope cl H2.objs.size { s with heap:=H2,toks:=s.toks } (upd H s.heap.objs.size (.lst [])) fp) ([] ++ tG fp s5.heap) σ8 H8 s8→Nx σ8 H8→
         ∃ m,m < n∧∃ i σ' H',Inv (cxC X N scope cl H2.objs.size { s with heap:=H2,toks:=s.toks } (upd H s.heap.objs.size (.lst [])) fp) [] σ' H' s8∧tn i s8.heap∧(∀ b∈fp,H' b=none)∧W i m σ' H':=fun {σ8 H8 s8} I8 n8=>by
       obtain ⟨m',hm,w8⟩:=hN σ8 H8 n8;refine ⟨m',hm,i + 1,σ8,H8,I8.unpinned,T.keep _ _ _ st5 fun b hb o e=>(I8.pin (b,o) (List.mem_append_right _ (List.mem_append_right _ (iX hb e)))).1,fun b hb=>?_,w8⟩;obtain ⟨o,e,d⟩:=T.obj _ _ st5 b hb;exact (I8.pin (b,o) (List.mem_append_right _ (List.mem_append_right _ (iX hb e)))).2.1
     cases ok with
     | false=>exact again I7 q7
     | true =>
       refine thn (he _ _ _ _ _ s7 σ6 H7 _ I7 q7) fun v s8 zz=>?_;obtain ⟨y,H8,I8,r8,ys,e8,l8,q8⟩:=zz;exact thn (yB _ s8 σ6 H8 (.ref s.heap.objs.size) [y] (.ref s.heap.objs.size) [v] (fun _ H9=>Nx σ6 H9) I8 rfl (.cons r8 .nil) ⟨_,ys,y,rfl,rfl,e8,l8,q8⟩) <|by rintro _ s9 ⟨_,H9,I9,_,q9⟩;exact again I9 q9
 exact codeAny_compStart_list loop (T.self _ 0 _ _ _ st1 loop)
theorem aAe {wi:TI} (S:jD X N scope cl js) (hc:X.calm=true) (hi:PI X tg iter wi) (hg:∀ C s₀ H₀ ex,PG (cxC X N scope cl C s₀ H₀ ex) tg g) (ht:∀ C s₀ H₀ ex,PTs (cxC X N scope cl C s₀ H₀ ex) ifs ts) (he:∀ C s₀ H₀ ex,PE (cxC X N scope cl C s₀ H₀ ex) elt te)
   (hs:∀ x,foldedSetIterable iter X.env x=pure x:=by intro _; rfl):PE X (.ListComp elt [⟨tg,iter,ifs,0⟩] scope pos) (US wi g ts te js):=by
 intro pins s σ H Q I h;rw [eval_ListComp];refine wpAny_comprehension_free (use:=none) (g:=⟨tg,iter,ifs,0⟩) (gs:=[]) rfl hs S.clos S.kind S.names (thn (hi pins s σ H _ I h) fun v s1 h1=>thn h1 fun itv s2 h2=>?_);obtain ⟨it,fp,tn,J,H2,e,I2,T,st2,f2,q⟩:=h2;subst e;refine EA (RR:=fun acc C=>compPost (model X.prog X.w) X.A X.xe none (EP X pins σ Q) acc C) S hc I2 T st2 f2 hg ht he q ?_;rintro D C s' ⟨H',m,I',hn,f0,f1,_,f3,f4,f5,q'⟩;exact ⟨m,hn,fun h' sb=>⟨.ref D,H',I'.turned (t':=s'.toks) (fun b o hb e=>(sb.2 b hb).trans e) f0 f1 (.inr f3) f4 f5,rfl,q'⟩⟩
theorem aAF {wi:TI} {i:Nat} {y:Str} {py spos:Pos} (S:jD X N scope cl js) (hc:X.calm=true) (hN:X.N.Nodup) (hi':X.N[i]? =some y) (hy:X.env.scope.names.lookup y=some .local) (hi:PI X tg iter wi)
   (hg:∀ C s₀ H₀ ex,PG (cxC X N scope cl C s₀ H₀ ex) tg g) (ht:∀ C s₀ H₀ ex,PTs (cxC X N scope cl C s₀ H₀ ex) ifs ts) (he:∀ C s₀ H₀ ex,PE (cxC X N scope cl C s₀ H₀ ex) elt te)
   (hsw:swapsWith (.ListComp elt [⟨tg,iter,ifs,0⟩] scope pos) (some (.Name y py)) spos.line X.env=pure true:=by rfl)
   (hs:∀ x,foldedSetIterable iter X.env x=pure x:=by intro _; rfl):PS X (.Assign [.Name y py] (.ListComp elt [⟨tg,iter,ifs,0⟩] scope pos) spos) (aCv (US wi g ts te js) (XH i)):=by
 intro pins s σ H D' I h;rw [exec_Assign_Name_used _ _ _ _ hsw];refine wAq (wpAny_standAt (wAq ?_));show wpAny _ X.A (do let _ ←comprehension (.ListComp elt [⟨tg,iter,ifs,0⟩] scope pos) scope X.env _ (newList []) false (eval iter X.env) (some (assign (.Name y py) X.env))) _ _ s;refine wAq (wpAny_mono (wpAny_comprehension_free (use:=some (assign (.Name y py) X.env)) (g:=⟨tg,iter,ifs,0⟩) (gs:=[]) (Q:=fun _ s'=>SP X pins D' .next s') rfl hs S.clos S.kind S.names
   (thn (hi pins s σ H _ I h) fun v s1 h1=>thn h1 fun itv s2 h2=>?_)) (fun _ s' hq=>wBq (wBq hq)) fun _ _ e=>e)
 obtain ⟨it,fp,tn,J,H2,e,I2,T,st2,f2,q⟩:=h2;subst e;refine EA (Q:=fun x H1=>XH i x σ H1 D'.nx) (RR:=fun acc C=>compPost (model X.prog X.w) X.A X.xe (some (assign (.Name y py) X.env)) (fun _ s'=>SP X pins D' .next s') acc C) S hc I2 T st2 f2 hg ht he q ?_;rintro D C s' ⟨H',m,I',hn,f0,f1,f2',f3,f4,f5,q'⟩;obtain ⟨oC,es,ep,hoC,hdC,hrC⟩:=hn;have Ip:Inv X (pins ++ [(C,oC)]) σ H' s':=I'.pins_of fun p hp=>(List.mem_append.mp hp).elim (fun z=>I'.pin p (List.mem_append_right _ z)) fun z=>by
   rw [List.mem_singleton.mp z];exact ⟨hoC,f0,f1,f2',fun v z=>by rw [hdC] at z; cases z⟩
 show wpAny _ X.A (assign (.Name y py) X.env (.ref D)) _ _ _;refine thn (JN (i:=i) hN hi' (.inl hy) (.inr hy) _ s' σ H' (.ref D) (.ref D) _ Ip rfl q') fun _ s'' zz=>?_;obtain ⟨σ',H'',I'',q''⟩:=zz;have pc:=I''.pin (C,oC) (List.mem_append_right _ (List.mem_append_right _ (List.mem_singleton.mpr rfl)));refine ⟨m,⟨oC,es,ep,pc.1,hdC,hrC⟩,fun h' sb=>⟨σ',H'', ?_,q''⟩⟩;exact (I''.unpinned).turned (t':=s''.toks) (fun b o hb e=>(sb.2 b hb).trans e) pc.2.1 f1 (.inr f3) f4 f5
end
mutual
inductive RdD (H:Hp):V→PyData→Prop
 | non:RdD H .non .none
 | bl (b:Bool):RdD H (.bl b) (.bool b)
 | int (i:Int):RdD H (.int i) (.int i)
 | str (x:Str):RdD H (.str x) (.str x)
 | tup {a:Addr} {xs:List V} {ds:List PyData}:H a=some (.tup xs)→RdDs H xs ds→RdD H (.ref a) (.tuple ds)
 | lst {a:Addr} {xs:List V} {ds:List PyData}:H a=some (.lst xs)→RdDs H xs ds→RdD H (.ref a) (.list ds)
inductive RdDs (H:Hp):List V→List PyData→Prop
 | nil:RdDs H [] []
 | cons {x:V} {xs:List V} {d:PyData} {ds:List PyData}:RdD H x d→RdDs H xs ds→RdDs H (x :: xs) (d :: ds)
end
section
variable {P:Program} {w:World} {H H':Hp} {h:Heap}
mutual
theorem RdD.reads (ok:HOk P w H h):∀ {x:V} {d:PyData} {u:Value},RdD H x d→aP x u→∃ as,Reads h u d as
 | _,_,_,.non,r=>⟨[],by cases r; exact .none⟩
 | _,_,_,.bl b,r=>⟨[],by cases r; exact .bool b⟩
 | _,_,_,.int i,r=>⟨[],by obtain ⟨t,rfl⟩:=r; exact .int i t⟩
 | _,_,_,.str x,r=>⟨[],by obtain ⟨t,rfl⟩:=r; exact .str x t⟩
 | _,_,_,.tup e rs,r=>by
   cases r;obtain ⟨_,its,rv,⟨o,ho,hc,n,hd⟩,_⟩:=ok _ _ e;obtain ⟨as,q⟩:=RdDs.reads ok rs rv;exact ⟨as,.tuple ho hc hd (by simpa using q)⟩
 | _,_,_,.lst e rs,r=>by
   cases r;obtain ⟨_,its,n,rv,ho⟩:=ok _ _ e;obtain ⟨as,q⟩:=RdDs.reads ok rs rv;exact ⟨_ :: as,.list ho rfl rfl (by simpa using q)⟩
theorem RdDs.reads (ok:HOk P w H h):∀ {xs:List V} {ds:List PyData} {us:List Value},RdDs H xs ds→aM xs us→∃ as,ReadsAll h us ds as
 | _,_,_,.nil,r=>⟨[],by cases r; exact .nil⟩
 | _, _,_,.cons a b,r=>by
   cases r with
   | cons r1 r2 =>
     obtain ⟨as,q⟩:=RdD.reads ok a r1;obtain ⟨bs,q2⟩:=RdDs.reads ok b r2;exact ⟨as ++ bs,.cons q q2⟩
end
mutual
theorem RdD.same (s:aN H H'):∀ {x:V} {d:PyData},RdD H x d→RdD H' x d
 | _,_,.non=>.non
 | _,_,.bl b=>.bl b
 | _,_,.int i=>.int i
 | _,_,.str x=>.str x
 | _,_,.tup e rs=>.tup (s _ _ e) (RdDs.same s rs)
 | _,_,.lst e rs=>.lst (s _ _ e) (RdDs.same s rs)
theorem RdDs.same (s:aN H H'):∀ {xs:List V} {ds:List PyData},RdDs H xs ds→RdDs H' xs ds
 | _,_,.nil=>.nil
 | _,_,.cons a b=>.cons (RdD.same s a) (RdDs.same s b)
end
end
section
variable {X:Cx}
end
section
variable {X:Cx} {CX:CXT} {k:Nat} {f C:Addr} {fd:FuncData} {ps ks:List Str} {sp:Sp} {E:XK} {pins:List (Addr×Obj)} {σ:St} {H:Hp} {s:Shared} {Q:VK} {us:List Value} {vs:List V} {dvs:List V} {ds:List Value}
theorem tT {A':Around} (F:bP X.prog X.w X.K X.mg X.base CX k f fd ps sp) (hr:bE k A') (e0:pH X.prog X.w X.K X.mg X.base A' X.stack s H) (hb:aG X.K fd ps ds) (hd:aM dvs ds) (hx:jN CX X E)
   (I:Inv X pins σ H s) (r:aM vs us) (h:sp (vs ++ dvs) H Q E):wpAny (model X.prog X.w) A' (call (.ref f) us) (EP X pins σ Q) X.xe s:=by
 have r2:aM (vs ++ dvs) (us ++ ds):=r.append hd;have hl:(us ++ ds).length=ps.length:=by rw [←r2.length]; exact F.len _ _ _ _ h
 refine wpAny_call (codeAny_mono (F.run A' X.stack s H ⟨us,[]⟩ (us ++ ds) (vs ++ dvs) Q E hr e0 (hb s us I.kIn hl) r2 h) fun r s' hq=>?_);cases r with
 | error e=>exact hx pins σ H s e s' I hq
 | ok fl =>
   cases fl with
   | ret u=>exact I.after hq
   | next=>exact False.elim hq
   | brk=>exact False.elim hq
   | cont=>exact False.elim hq
theorem bE.in2 {k:Nat} {A:Around} (r:bE (k + 2) A):bE k A.in1.in1:=(bE.in1 (bE.in1 r))
end
structure VY (K:W.Frag) (C:Addr):Prop where
 cl:Cls K C
 ha:W.findIn K (.ref C) "__class__"=some (some (.builtin "object.__class__"))
 hn:W.specialIn K (.builtin "object.__class__") "__get__"=some (some (.builtin "getset_descriptor.__get__"))
 htk:W.takesIn K (.builtin "object.__class__")=some true
 hm:W.mroIn K C (.type "object")=some true
theorem lI {X:Cx} {pins:List (Addr×Obj)} {σ:St} {H:Hp} {s:Shared} {p C dx:Addr} {fs:List (Str×V)} (I:Inv X pins σ H s) (e:H p=some (.ins C dx fs)):∃ od,W.InstAt s.heap p (W.instObj C dx) C (some od):=by
 obtain ⟨mA,O,_⟩:=nM I.hok e;obtain ⟨od,J,_⟩:=O.look;exact ⟨od,J⟩
section
variable {X:Cx} {CX:CXT} {k:Nat} {f C:Addr} {fd:FuncData} {sp:Sp}
noncomputable def aF1 (C:Addr) (sp:Sp):List V→Hp→VK→Prop:=fun xs H Q=>∃ p dx fs,xs=[.ref p]∧H p=some (.ins C dx fs)∧sp [.ref p] H (fun v H'=>∃ n,v= .int n∧0≤n∧n < 2 ^ 63∧Q (.int n) H') E0
theorem OK (M:iN X.K C "__len__" f) (F:bP X.prog X.w X.K X.mg X.base CX0 k f fd ["self"] sp) (hr:bE (k + 1) X.A) (hb:aG X.K fd ["self"] []):bL X (.builtin "len") (aF1 C sp):=by
 rintro pins s σ H xs us Q I r ⟨p,dx,fs,e,ea,q⟩;subst e;obtain ⟨u,rfl,ru⟩:=gG r;cases ru;obtain ⟨od,J⟩:=lI I ea;obtain ⟨m,Fm⟩:=I.fr;refine W.len_K Fm I.ok.mod.kin J M.at_ M.fn (thn (tT (dvs:=[]) (ds:=[]) (vs:=[.ref p]) F hr.in1 I.env0.in1 hb .nil xB I (.cons rfl .nil) q) fun v s' zz=>?_);obtain ⟨x,H',I',rx,n,e,h0,h1,q'⟩:=zz;subst e;obtain ⟨t,rfl⟩:=rx;exact ⟨⟨h0,h1⟩,.int n,H',I'.tok _,⟨_,rfl⟩,q'⟩
noncomputable def aBG (C:Addr) (sp:Sp):List V→Hp→VK→Prop:=fun xs H Q=>∃ p dx fs,xs=[.ref p]∧H p=some (.ins C dx fs)∧sp [.ref p] H (fun v H'=>∃ x,v= .str x∧Q (.str x) H') E0
theorem GT (M:iN X.K C "__repr__" f) (F:bP X.prog X.w X.K X.mg X.base CX0 k f fd ["self"] sp) (hr:bE (k + 1) X.A) (hb:aG X.K fd ["self"] []):bL X (.builtin "repr") (aBG C sp):=by
 rintro pins s σ H xs us Q I r ⟨p,dx,fs,e,ea,q⟩;subst e;obtain ⟨u,rfl,ru⟩:=gG r;cases ru;obtain ⟨od,J⟩:=lI I ea;obtain ⟨m,Fm⟩:=I.fr;refine W.repr_K hr.in1.units0 Fm I.ok.mod.kin J M.at_ M.fn (thn (tT (dvs:=[]) (ds:=[]) (vs:=[.ref p]) F hr.in1 I.env0.in1 hb .nil xB I (.cons rfl .nil) q) fun v s' zz=>?_);obtain ⟨x,H',I',rx,y,e,q'⟩:=zz;subst e;obtain ⟨t,rfl⟩:=rx;exact ⟨.str y,H',I',⟨_,rfl⟩,q'⟩
theorem LY (M:iN X.K C "__str__" f) (F:bP X.prog X.w X.K X.mg X.base CX0 k f fd ["self"] sp) (hr:bE (k + 2) X.A) (hb:aG X.K fd ["self"] []):bL X (.type "str") (aBG C sp):=by
 rintro pins s σ H xs us Q I r ⟨p,dx,fs,e,ea,q⟩;subst e;obtain ⟨u,rfl,ru⟩:=gG r;cases ru;obtain ⟨od,J⟩:=lI I ea;refine W.kso_call hr.in2.units0 I.kIn J M.at_ M.fn (thn (tT (dvs:=[]) (ds:=[]) (vs:=[.ref p]) F hr.in2 I.env0.in1.in1 hb .nil xB I (.cons rfl .nil) q) fun v s' zz=>?_);obtain ⟨x,H',I',rx,y,e,q'⟩:=zz;subst e;obtain ⟨t,rfl⟩:=rx;exact ⟨.str y,H',I',⟨_,rfl⟩,q'⟩
theorem aIS {A':Around} {pins:List (Addr×Obj)} {σ:St} {H:Hp} {s:Shared} {p dx:Addr} {fs:List (Str×V)} {Q:Bool→Hp→Prop} (hB:W.findIn X.K (.ref C) "__bool__"=some none) (M:iN X.K C "__len__" f)
   (F:bP X.prog X.w X.K X.mg X.base CX0 k f fd ["self"] sp) (hr:bE k A'.in1) (e0:pH X.prog X.w X.K X.mg X.base A'.in1 X.stack s H) (hb:aG X.K fd ["self"] []) (I:Inv X pins σ H s) (ea:H p=some (.ins C dx fs))
   (q:sp [.ref p] H (fun v H'=>∃ n,v= .int n∧0≤n∧n < 2 ^ 63∧Q (n != 0) H') E0):wpAny (model X.prog X.w) A' (truthy (.ref p)) (TP X pins σ Q) X.xe s:=by
 obtain ⟨od,J⟩:=lI I ea;have XK:=I.kIn;unfold truthy;refine wAq (m:=callSpecial? (.ref p) (Str.ofString "__bool__")) (wAq (wAq (J.type.here ((W.looks_findIn XK hB).here (wBq ?_)))));refine wAq (wAq (J.type.here ((W.looks_findIn XK M.at_).here ?_)));show wpAny _ _ (if (some (Value.ref f)).isNone=true then _ else _) _ _ _;rw [if_neg (by simp)];refine wAq (wpAny_mono (Q:=fun r s'=>∃ n t,r=Value.int n t∧TP X pins σ Q (n != 0) s') ?_ (fun r s' h'=>?_) fun _ _ e=>e)
 · refine wpAny_runValue (codeAny_builtin entry_len ?_);rw [Around.under_plainId plain_len _];show wpAny _ _ (Builtin.«len» ⟨[.ref p],[]⟩) _ _ _;unfold Builtin.«len»;refine wAq (m:=oneArg "len" _) (wBq ?_);refine wAq (m:=callSpecial? (.ref p) (Str.ofString "__len__")) (W.special_fn XK J M.at_ (beq_iff_eq.mp M.fn) (thn (tT (dvs:=[]) (ds:=[]) (vs:=[.ref p]) F hr e0 hb .nil xB I (.cons rfl .nil) q) fun v s' ⟨x,H',I',rx,n,e,h0,h1,q'⟩=>?_));subst e;obtain ⟨t,rfl⟩:=rx;refine wAq (wpAny_holding (wBq ?_));refine wAq (wpAny_letGo ?_);show wpAny _ _ (if n < 0 then _ else _) _ _ _;rw [if_neg (by omega)];show wpAny _ _ (if n ≥ 2 ^ 63 then _ else _) _ _ _;rw [if_neg (by omega)];exact wAq (wpAny_mkInt (wBq ⟨n,_,rfl,H',I'.tok _,q'⟩))
 · obtain ⟨n,t,rfl,q'⟩:=h';exact wBq q'
theorem DM {prog:Program} {w:World} (p:Addr):MeetsIn prog w (Builtin.«bool.__new__» ⟨[.type "bool",.ref p],[]⟩) (fun A R s=>wpAny (model prog w) A.in1 (truthy (.ref p)) (fun b s'=>R (.ok (.ret (.bool b))) s') (fun e s'=>R (.error e) s') s) :=
 fun A R s h=>by
   obtain ⟨hp,g,d,tk,os⟩:=s;have f1:=PySem.F.conv_sub_bool;have tr:∀ (Q:Bool→Shared→Prop),(∀ b s',R (.ok (.ret (.bool b))) s'→Q b s')→wpAny (model prog w) A.in1 (truthy (.ref p)) Q (fun e s'=>R (.error e) s') ⟨hp,g,d,tk,os⟩:=fun Q hq=>wpAny_mono h hq fun _ _ e=>e
   repeat (any_goals (first | assumption | with_reducible apply tr | wp_step))
   all_goals (intro b s' q; repeat (any_goals (first | assumption | wp_step)))
theorem GX (hB:W.findIn X.K (.ref C) "__bool__"=some none) (M:iN X.K C "__len__" f) (F:bP X.prog X.w X.K X.mg X.base CX0 k f fd ["self"] sp) (hr:bE (k + 3) X.A) (hb:aG X.K fd ["self"] []) :
   bL X (.type "bool") (fun xs H Q=>∃ p dx fs,xs=[.ref p]∧H p=some (.ins C dx fs)∧sp [.ref p] H (fun v H'=>∃ n,v= .int n∧0≤n∧n < 2 ^ 63∧Q (.bl (n != 0)) H') E0):=by
 rintro pins s σ H xs us Q I r ⟨p,dx,fs,e,ea,q⟩;subst e;obtain ⟨u,rfl,ru⟩:=gG r;cases ru;refine callType_newIn PySem.F.called_bool PySem.F.newNe_bool (PySem.F.typeCall_bool_1 _) (PySem.F.newCall_bool_1 _) (fun obj=>PySem.F.args_object_init_2 obj _) PySem.F.entry_bool_new (DM p) ?_;refine thn (aIS (A':=X.A.in1.in1) (Q:=fun b H'=>Q (.bl b) H') hB M F hr.in1.in1.in1 I.env0.in1.in1.in1 hb I ea q) fun b s2 zz=>?_;obtain ⟨H2,I2,q2⟩:=zz;exact ⟨PySem.typeIs_bool _ _,.bl b,H2,I2,rfl,q2⟩
end
section
variable {X:Cx} {e:Expr} {es:List Expr} {te:TE} {pos:Pos}
end
end L2
namespace LE
open PySem PyProof.Rows
open AutoSeq1 (wpAny_loadPart')
end LE
namespace L2
open PySem PySem.Spec PyProof.Rows
section
variable {X:Cx} {CX:CXT} {k:Nat} {f C:Addr} {fd:FuncData} {ps ks:List Str} {sp:Sp} {E:XK} {x:Str} {p pos:Pos} {kws:List Keyword} {tk:TA} {g:List Value→List Value→List Value} {gV:List V→List V→List V}
end
section
variable {X:Cx} {C:Addr} {f x:Str} {pos pos':Pos} {e o value:Expr} {ta tv:TE} {i:Int}
theorem PE.imp {t t':TE} (h:PE X e t) (g:∀ σ H Q,t' σ H Q→t σ H Q):PE X e t':=fun pins s σ H Q I q=>h pins s σ H Q I (g _ _ _ q)
theorem PS.imp {st:Stmt} {t t':TS} (h:PS X st t) (g:∀ D σ H,t' D σ H→t D σ H):PS X st t':=fun pins s σ H D I q=>h pins s σ H D I (g _ _ _ q)
end
section
variable {X:Cx} {es:List Expr} {te:TE} {t:TA} {pos:Pos}
end
end L2
namespace LZ
open PySem PyProof.Rows
open AutoSeq1 (wpAny_loadPart')
open Builtin
structure Zr where
 it:Addr
 l:Addr
 b:Bool
 xs:Array Value
def ZIt (h:Heap) (r:Zr) (k:Nat):Prop:=if r.b=true then h.IsTupleIter r.it r.l k else h.IsListIter r.it r.l k
def ZAt (h:Heap) (r:Zr):Prop:=if r.b=true then h.IsTuple r.l r.xs else h.IsList r.l r.xs
theorem ZIt.keep {h h':Heap} {r:Zr} {k:Nat} (a:ZIt h r k) (q:∀ o,h.get? r.it=some o→h'.get? r.it=some o):ZIt h' r k:=by
 unfold ZIt at *;split
 · rename_i e; rw [if_pos e] at a; exact a.at fun o z=>q o z
 · rename_i e; rw [if_neg e] at a; exact a.at fun o z=>q o z
theorem ZAt.keep {h h':Heap} {r:Zr} (a:ZAt h r) (q:∀ o,h.get? r.l=some o→h'.get? r.l=some o):ZAt h' r:=by
 unfold ZAt at *;split
 · rename_i e; rw [if_pos e] at a; obtain ⟨o,z,t⟩:=a; exact ⟨o,q o z,t⟩
 · rename_i e; rw [if_neg e] at a; obtain ⟨o,z,t⟩:=a; exact ⟨o,q o z,t⟩
theorem ZIt.lt {h:Heap} {r:Zr} {k:Nat} (a:ZIt h r k):∃ o,h.get? r.it=some o:=by
 unfold ZIt at a;split at a
 · obtain ⟨o,z,_⟩:=a; exact ⟨o,z⟩
 · obtain ⟨o,z,_⟩:=a; exact ⟨o,z⟩
section
variable {prog:Program} {w:World} {A:Around} {E:Value→Shared→Prop} {s:Shared}
theorem aCa {r:Zr} {k:Nat} {x:Value} {Q:Value→Shared→Prop} (a:ZIt s.heap r k) (b:ZAt s.heap r) (c:r.xs[k]? =some x) (q:∀ h',ZIt h' r (k + 1)→Heap.SameBut r.it s.heap h'→Q x { s with heap:=h' }) :
   wpAny (model prog w) A (SmallTypes.nextOf (.ref r.it)) Q E s:=by
 unfold ZIt at a q;unfold ZAt at b;cases e:r.b with
 | true =>
   rw [e,if_pos rfl] at a b;exact LE.aBD a b c fun h' z t=>q h' (by rw [e,if_pos rfl]; exact z) t
 | false =>
   rw [e,if_neg (by decide)] at a b;exact wpAny_nextOf_list_item a b c fun h' z t=>q h' (by rw [e,if_neg (by decide)]; exact z) t
theorem aHQ {r:Zr} {k:Nat} {Q:Value→Shared→Prop} (hh:A.handled=none) (a:ZIt s.heap r k) (b:ZAt s.heap r) (c:r.xs[k]? =none)
   (q:∀ h' e,Heap.ExtBut r.it s.heap h'→(∃ o,h'.get? e=some o∧o.cls= .type "StopIteration")→E (.ref e) { s with heap:=h' }):wpAny (model prog w) A (SmallTypes.nextOf (.ref r.it)) Q E s:=by
 unfold ZIt at a;unfold ZAt at b;cases e:r.b with
 | true=>rw [e,if_pos rfl] at a b; exact LE.aDF hh a b c q
 | false=>rw [e,if_neg (by decide)] at a b; exact wpAny_nextOf_list_end hh a b c q
theorem aIa {r:Zr} {Q:Value→Shared→Prop} (b:ZAt s.heap r) (q:∀ h',ZIt h' { r with it:=s.heap.objs.size } 0→h'.objs.size=s.heap.objs.size + 1→(∀ c o,s.heap.get? c=some o→h'.get? c=some o)→Q (.ref s.heap.objs.size) { s with heap:=h' }) :
   wpAny (model prog w) A (pyIter (.ref r.l)) Q E s:=by
 unfold ZIt at q;unfold ZAt at b;cases e:r.b with
 | true =>
   rw [e,if_pos rfl] at b;refine wpAny_pyIter_tuple b (q _ ?_ (Heap.size_push ..) fun c o z=>wEq _ z);rw [if_pos e]; exact ⟨_,wGq _ rfl,rfl,rfl⟩
 | false =>
   rw [e,if_neg (by decide)] at b;refine wpAny_pyIter_list b (q _ ?_ (Heap.size_push ..) fun c o z=>wEq _ z);rw [if_neg (by rw [e]; decide)]; exact ⟨_,wGq _ rfl,rfl,rfl⟩
end
theorem xO {M:Model} {A:Around} {E:Value→Shared→Prop} {α β:Type} {f:α×Nat→β→Sem (ForInStep β)} {u:β} (I:Nat→Shared→Prop):∀ (xs:List α) (j:Nat) (s:Shared) (Q:β→Shared→Prop),I j s→
   (∀ i x s,xs[i]? =some x→I (j + i) s→wpAny M A (f (x,j + i) u) (fun st s'=>st= .yield u∧I (j + i + 1) s') E s)→(∀ s',I (j + xs.length) s'→Q u s')→wpAny M A (forIn (xs.zipIdx j) u f) Q E s
 | [],j,s,Q,h,_,q=>by
   rw [List.zipIdx_nil,List.forIn_nil];exact wBq (q s h)
 | x :: r,j,s,Q,h,hs,q=>by
   rw [List.zipIdx_cons,List.forIn_cons];refine wAq (wpAny_mono (hs 0 x s rfl h) (fun st s' zz=>?_) fun _ _ z=>z);obtain ⟨e,h'⟩:=zz;subst e;exact xO I r (j + 1) s' Q h' (fun i y s hy hi=>by
     have:=hs (i + 1) y s hy (by rw [show j + (i + 1)=j + 1 + i by omega]; exact hi);rw [show j + (i + 1)=j + 1 + i by omega] at this;exact this) fun s' z=>q s' (by rw [List.length_cons,show j + (r.length + 1)=j + 1 + r.length by omega]; exact z)
structure Ap (z TI TO:Addr) (rs:List Zr):Prop where
 nd:(rs.map Zr.it).Nodup
 zi:∀ r∈rs,r.it≠z∧r.it≠TO∧r.it≠TI
 zl:∀ r∈rs,r.l≠z∧r.l≠TO
 li:∀ r∈rs,∀ t∈rs,r.l≠t.it
 zo:TO≠z
 zt:TI≠z
 ot:TI≠TO
def IsT (h:Heap) (a:Addr) (ys:Array Value):Prop:=h.get? a=some { cls:=.type "tuple",data:=.seq ys }
structure Zs (h:Heap) (z TI TO:Addr) (rs:List Zr) (k:Nat):Prop where
 z:IsZip h z TI TO .none
 ti:IsT h TI (rs.map fun r=>Value.ref r.it).toArray
 to_:∃ ys,ys.size=rs.length∧IsT h TO ys
 it:∀ r∈rs,ZIt h r k
end LZ
namespace LZ
open PySem PyProof.Rows
open Builtin
section
variable {prog:Program} {w:World} {A:Around} {E:Value→Shared→Prop} {s:Shared}
theorem upT {a:Addr} {ys:Array Value} {k:Nat} {x:Value} {Q:Unit→Shared→Prop} (h:IsT s.heap a ys) (hz:ys.size≤64) (q:∀ h',IsT h' a (ys.setIfInBounds k x)→Heap.SameBut a s.heap h'→Q () { s with heap:=h' }) :
   wpAny (model prog w) A (updateSeq a (·.setIfInBounds k x)) Q E s:=by
 have hz':ys.size≤sizeLine:=Nat.le_trans hz (by decide);refine wpAny_updateSeq h rfl (q _ ?_ (Heap.SameBut.update ..)) hz' (by rw [Array.size_setIfInBounds]; omega);unfold IsT at *;rw [Heap.get?_update_self _ h rfl];simp [Obj.mapSeq]
structure Mid (h:Heap) (z TI TO:Addr) (rs:List Zr) (k:Nat) (vs:List Value) (j:Nat) (g:Heap):Prop where
 zz:IsZip g z TI TO .ellipsis
 to_:∃ ys,ys.size=rs.length∧IsT g TO ys∧∀ i,i < j→ys[i]? =vs[i]?
 lo:∀ i r,rs[i]? =some r→i < j→ZIt g r (k + 1)
 hi:∀ i r,rs[i]? =some r→j≤i→ZIt g r k
 at_:∀ r∈rs,ZAt g r
 sz:g.objs.size=h.objs.size
 fr:∀ c o,c≠z→c≠TO→(∀ r∈rs,c≠r.it)→h.get? c=some o→g.get? c=some o
theorem UB {rs:List Zr} (nd:(rs.map Zr.it).Nodup) {i j:Nat} {r t:Zr} (hi:rs[i]? =some r) (hj:rs[j]? =some t) (ne:i≠j):r.it≠t.it:=by
 intro e;obtain ⟨hi1,hi2⟩:=List.getElem?_eq_some_iff.mp hi;obtain ⟨hj1,hj2⟩:=List.getElem?_eq_some_iff.mp hj;have hp:=List.pairwise_iff_getElem.mp nd;rcases Nat.lt_or_gt_of_ne ne with q | q
 · exact hp i j (by rw [List.length_map]; exact hi1) (by rw [List.length_map]; exact hj1) q (by simp only [List.getElem_map]; rw [hi2,hj2]; exact e)
 · exact hp j i (by rw [List.length_map]; exact hj1) (by rw [List.length_map]; exact hi1) q (by simp only [List.getElem_map]; rw [hi2,hj2]; exact e.symm)
theorem UO {z TI TO:Addr} {rs:List Zr} {k:Nat} {vs:List Value} {Q:Value→Shared→Prop} (D:Ap z TI TO rs) (hn:rs≠ []) (hl:rs.length≤8) (S:Zs s.heap z TI TO rs k) (at_:∀ r∈rs,ZAt s.heap r) (hv:vs.length=rs.length) (hx:∀ (i:Nat) (r:Zr),rs[i]? =some r→r.xs[k]? =vs[i]?)
   (hQ:∀ h',IsZip h' z TI TO (rawInt s.heap.objs.size)→IsT h' TO vs.toArray→(∀ r∈rs,ZIt h' r (k + 1))→IsT h' s.heap.objs.size vs.toArray→h'.objs.size=s.heap.objs.size + 1→
     (∀ c o,c≠z→c≠TO→(∀ r∈rs,c≠r.it)→s.heap.get? c=some o→h'.get? c=some o)→Q (.ref s.heap.objs.size) { s with heap:=h' }) :
   wpAny (model prog w) A (Builtin.«zip.__next__» ⟨[.ref z],[]⟩) (fun fin s'=>∃ v,fin= .done (.ret v)∧Q v s') E s:=by
 obtain ⟨hz,hTI,⟨ys0,hy0,hTO⟩,hit⟩:=S;have hl64:rs.length≤64:=Nat.le_trans hl (by decide);refine wAq (m:=field (.ref z) 2) (wpAny_field hz rfl (x:=.bool false) rfl ?_);refine wAq (m:=field (.ref z) 3) (wpAny_field hz rfl (x:=.ref TI) rfl ?_);refine wAq (wpAny_seqItems hTI rfl ?_);have ne:((rs.map fun r=>Value.ref r.it).toArray.isEmpty)=false:=by cases rs with | nil=>exact absurd rfl hn | cons a b=>rfl
 simp only [ne,Bool.false_eq_true,if_false];refine wAq (m:=SmallTypes.ownedTupleIsFree (.ref z)) ?_;unfold SmallTypes.ownedTupleIsFree;refine wAq (wpAny_field hz rfl (x:=.none) rfl (wBq ?_));simp only [if_true];refine wAq (wpAny_rule (wAq (wpAny_field hz rfl (x:=.ref TO) rfl (wAq (wpAny_setField_rec hz (by simp) fun h1 hz1 hs1=>?_)))))
 replace hz1:IsZip h1 z TI TO .ellipsis:=hz1
 have m0:Mid s.heap z TI TO rs k vs 0 h1:=⟨hz1,⟨ys0,hy0,hs1.extBut _ _ D.zo hTO,fun i hi=>absurd hi (Nat.not_lt_zero _)⟩,fun i r _ hi=>absurd hi (Nat.not_lt_zero _),
   fun i r hr _=>(hit r (List.mem_of_getElem? hr)).keep fun o q=>hs1.extBut _ _ (D.zi r (List.mem_of_getElem? hr)).1 q,fun r hr=>(at_ r hr).keep fun o q=>hs1.extBut _ _ (D.zl r hr).1 q,hs1.1,fun c o c1 _ _ q=>hs1.extBut _ _ c1 q⟩
 refine wAq (xO (fun j s'=>∃ g,s'={ s with heap:=g }∧Mid s.heap z TI TO rs k vs j g) _ 0 _ _ ⟨h1,rfl,m0⟩ ?_ ?_)
 · rintro i x _ hxi ⟨g,rfl,m⟩;rw [Nat.zero_add] at m ⊢;rw [List.getElem?_map] at hxi;cases hr:rs[i]? with
   | none=>rw [hr] at hxi; cases hxi
   | some r =>
     rw [hr] at hxi;have e:x= .ref r.it:=(Option.some.inj hxi).symm;subst e;have hm:=List.mem_of_getElem? hr;have hi:i < rs.length:=(List.getElem?_eq_some_iff.mp hr).1;have hvi:vs[i]? =some (vs[i]'(by omega)):=by simp
     refine wAq (wpAny_onRaise (wAq (m:=SmallTypes.nextOf (.ref r.it)) (aCa (m.hi i r hr (Nat.le_refl _)) (m.at_ r hm) ((hx i r hr).trans hvi) fun h2 hi2 hs2=>wBq ?_)));obtain ⟨ys,hy,hT,hlo⟩:=m.to_;have hT2:IsT h2 TO ys:=hs2.extBut _ _ (Ne.symm (D.zi r hm).2.1) hT;refine wAq (wpAny_seqItems hT2 rfl (wAq (upT hT2 (by omega) fun h3 hT3 hs3=>wAq (wpAny_letGo (wBq ⟨rfl,h3,rfl, ?_⟩)))));have fr3:∀ c o,c≠TO→c≠r.it→g.get? c=some o→h3.get? c=some o:=fun c o c1 c2 q=>hs3.extBut _ _ c1 (hs2.extBut _ _ c2 q);refine ⟨fr3 _ _ (Ne.symm D.zo) (Ne.symm (D.zi r hm).1) m.zz,⟨_,by rw [Array.size_setIfInBounds]; exact hy,hT3,fun j hj=>?_⟩,fun j t ht hj=>?_,fun j t ht hj=>?_,fun t ht=>(m.at_ t ht).keep fun o q=>fr3 _ _ (D.zl t ht).2 (D.li t ht r hm) q,by rw [hs3.1,hs2.1]; exact m.sz,fun c o c1 c2 c3 q=>fr3 c o c2 (c3 r hm) (m.fr c o c1 c2 c3 q)⟩
     · rw [Array.getElem?_setIfInBounds];by_cases e:i=j
       · subst e; rw [if_pos rfl,if_pos (by omega),hvi]
       · rw [if_neg e]; exact hlo j (by omega)
     · by_cases e:j=i
       · subst e;rw [hr] at ht; cases ht;exact hi2.keep fun o q=>hs3.extBut _ _ (D.zi r hm).2.1 q
       · exact (m.lo j t ht (by omega)).keep fun o q=>fr3 _ _ (D.zi t (List.mem_of_getElem? ht)).2.1 (UB D.nd ht hr e) q
     · exact (m.hi j t ht (by omega)).keep fun o q=>fr3 _ _ (D.zi t (List.mem_of_getElem? ht)).2.1 (UB D.nd ht hr (by omega)) q
 · rintro _ ⟨g,rfl,m⟩;rw [Nat.zero_add,List.length_map] at m;obtain ⟨ys,hy,hT,hlo⟩:=m.to_;have ey:ys=vs.toArray:=by
     refine Array.ext' (List.ext_getElem? fun j=>?_);by_cases hj:j < rs.length
     · have:=hlo j hj; rw [←Array.getElem?_toList] at this; exact this
     · rw [List.getElem?_eq_none (by rw [Array.length_toList]; omega),List.getElem?_eq_none (by rw [List.toList_toArray]; omega)]
   subst ey;refine wAq (m:=seqItems? (.ref TO)) (wpAny_seqItems hT rfl ?_);refine wAq (m:=newTuple _) (wpAny_newTuple ?_ (by rw [List.toList_toArray]; exact Nat.le_trans (by omega:vs.length≤8) (by decide)));have zlt:z < g.objs.size:=Heap.lt_size m.zz;refine wAq (m:=SmallTypes.ownedTupleHandOut (.ref z) (.ref g.objs.size)) ?_;unfold SmallTypes.ownedTupleHandOut;have hz6:IsZip (g.push { cls:=.type "tuple",data:=.seq vs.toArray.toList.toArray }) z TI TO .ellipsis:=wEq _ m.zz;refine wAq (wpAny_setField_rec hz6 (by simp) fun h7 hz7 hs7=>wpAny_setField_rec hz7 (by simp) fun h8 hz8 hs8=>wBq ⟨_,rfl, ?_⟩);have up:∀ c o,c≠z→g.get? c=some o→h8.get? c=some o:=fun c o c1 q=>hs8.extBut _ _ c1 (hs7.extBut _ _ c1 (wEq _ q));have gz:g.objs.size=s.heap.objs.size:=m.sz;have hT8:IsT h8 g.objs.size vs.toArray:=hs8.extBut _ _ (Nat.ne_of_gt zlt) (hs7.extBut _ _ (Nat.ne_of_gt zlt) (wGq _ rfl));have z8:h8.objs.size=g.objs.size + 1:=by rw [hs8.1,hs7.1,Heap.size_push]
   replace hz8:IsZip h8 z TI TO (rawInt g.objs.size):=hz8
   show Q (.ref g.objs.size) _;rw [gz] at hz8 hT8 z8;rw [gz];refine hQ h8 hz8 (up _ _ D.zo hT) (fun r hr=>?_) hT8 z8 fun c o c1 c2 c3 q=>up c o c1 (m.fr c o c1 c2 c3 q);obtain ⟨i,hi,er⟩:=List.getElem_of_mem hr;exact (m.lo i r (by rw [wHq hi,er]) hi).keep fun o q=>up _ o (D.zi r hr).1 q
theorem aAf {z TI TO:Addr} {r:Zr} {rs:List Zr} {k:Nat} {Q:Fin→Shared→Prop} (hh:A.handled=none) (D:Ap z TI TO (r :: rs)) (S:Zs s.heap z TI TO (r :: rs) k) (at_:ZAt s.heap r) (hx:r.xs[k]? =none)
   (hE:∀ h' e,(∀ c o,c≠z→c≠r.it→s.heap.get? c=some o→h'.get? c=some o)→(∃ o,h'.get? e=some o∧o.cls= .type "StopIteration")→E (.ref e) { s with heap:=h' }) :
   wpAny (model prog w) A (Builtin.«zip.__next__» ⟨[.ref z],[]⟩) Q E s:=by
 obtain ⟨hz,hTI,⟨ys0,hy0,hTO⟩,hit⟩:=S;refine wAq (m:=field (.ref z) 2) (wpAny_field hz rfl (x:=.bool false) rfl ?_);refine wAq (m:=field (.ref z) 3) (wpAny_field hz rfl (x:=.ref TI) rfl ?_);refine wAq (wpAny_seqItems hTI rfl ?_);have ne:(((r :: rs).map fun r=>Value.ref r.it).toArray.isEmpty)=false:=rfl;simp only [ne,Bool.false_eq_true,if_false];refine wAq (m:=SmallTypes.ownedTupleIsFree (.ref z)) ?_;unfold SmallTypes.ownedTupleIsFree;refine wAq (wpAny_field hz rfl (x:=.none) rfl (wBq ?_));simp only [if_true];refine wAq (wpAny_rule (wAq (wpAny_field hz rfl (x:=.ref TO) rfl (wAq (wpAny_setField_rec hz (by simp) fun h1 hz1 hs1=>?_)))))
 replace hz1:IsZip h1 z TI TO .ellipsis:=hz1
 refine wAq ?_;simp only [List.map_cons,List.zipIdx_cons,List.forIn_cons];refine wAq (wAq (wpAny_onRaise (wAq (m:=SmallTypes.nextOf (.ref r.it)) (aHQ hh ((hit r (wDq ..)).keep fun o q=>hs1.extBut _ _ (D.zi r (wDq ..)).1 q) (at_.keep fun o q=>hs1.extBut _ _ (D.zl r (wDq ..)).1 q) hx fun h2 e hs2 he=>?_))));obtain ⟨oe,hoe,hce⟩:=he;have hz2:IsZip h2 z TI TO .ellipsis:=hs2 _ _ (Ne.symm (D.zi r (wDq ..)).1) hz1;have hez:e≠z:=fun x=>by subst x; rw [hz2] at hoe; cases hoe; simp at hce
 exact wpAny_setField_rec hz2 (by simp) fun h3 _ hs3=>hE h3 e (fun c o c1 c3 x=>hs3.extBut _ _ c1 (hs2 _ _ c3 (hs1.extBut _ _ c1 x))) ⟨oe,hs3.extBut _ _ hez hoe,hce⟩
theorem XJ {z TI TO:Addr} {r t:Zr} {rs:List Zr} {k:Nat} {x:Value} {Q:Fin→Shared→Prop} (hh:A.handled=none) (D:Ap z TI TO (r :: t :: rs)) (hl:(r :: t :: rs).length≤8) (S:Zs s.heap z TI TO (r :: t :: rs) k) (ar:ZAt s.heap r) (at_:ZAt s.heap t) (hr:r.xs[k]? =some x) (hx:t.xs[k]? =none)
   (hE:∀ h' e,(∀ c o,c≠z→c≠TO→c≠r.it→c≠t.it→s.heap.get? c=some o→h'.get? c=some o)→(∃ o,h'.get? e=some o∧o.cls= .type "StopIteration")→E (.ref e) { s with heap:=h' }) :
   wpAny (model prog w) A (Builtin.«zip.__next__» ⟨[.ref z],[]⟩) Q E s:=by
 obtain ⟨hz,hTI,⟨ys0,hy0,hTO⟩,hit⟩:=S;have m0:r∈r :: t :: rs:=wDq ..;have m1:t∈r :: t :: rs:=wCq _ (wDq ..);have ne01:t.it≠r.it:=UB D.nd (i:=1) (j:=0) rfl rfl (by decide);refine wAq (m:=field (.ref z) 2) (wpAny_field hz rfl (x:=.bool false) rfl ?_);refine wAq (m:=field (.ref z) 3) (wpAny_field hz rfl (x:=.ref TI) rfl ?_);refine wAq (wpAny_seqItems hTI rfl ?_);have ne:(((r :: t :: rs).map fun r=>Value.ref r.it).toArray.isEmpty)=false:=rfl;simp only [ne,Bool.false_eq_true,if_false];refine wAq (m:=SmallTypes.ownedTupleIsFree (.ref z)) ?_;unfold SmallTypes.ownedTupleIsFree;refine wAq (wpAny_field hz rfl (x:=.none) rfl (wBq ?_));simp only [if_true];refine wAq (wpAny_rule (wAq (wpAny_field hz rfl (x:=.ref TO) rfl (wAq (wpAny_setField_rec hz (by simp) fun h1 hz1 hs1=>?_)))))
 replace hz1:IsZip h1 z TI TO .ellipsis:=hz1
 refine wAq ?_;simp only [List.map_cons,List.zipIdx_cons,List.forIn_cons];refine wAq (wAq (wpAny_onRaise (wAq (m:=SmallTypes.nextOf (.ref r.it)) (aCa ((hit r m0).keep fun o q=>hs1.extBut _ _ (D.zi r m0).1 q) (ar.keep fun o q=>hs1.extBut _ _ (D.zl r m0).1 q) hr fun h2 hi2 hs2=>wBq ?_))));have hT2:IsT h2 TO ys0:=hs2.extBut _ _ (Ne.symm (D.zi r m0).2.1) (hs1.extBut _ _ D.zo hTO);refine wAq (wpAny_seqItems hT2 rfl (wAq (upT hT2 (by rw [hy0]; exact Nat.le_trans hl (by decide)) fun h3 hT3 hs3=>wAq (wpAny_letGo (wBq ?_)))));have fr3:∀ c o,c≠z→c≠TO→c≠r.it→s.heap.get? c=some o→h3.get? c=some o:=fun c o c0 c1 c2 q=>hs3.extBut _ _ c1 (hs2.extBut _ _ c2 (hs1.extBut _ _ c0 q));have hz3:IsZip h3 z TI TO .ellipsis:=hs3.extBut _ _ (Ne.symm D.zo) (hs2.extBut _ _ (Ne.symm (D.zi r m0).1) hz1);refine wAq (wAq (wpAny_onRaise (wAq (m:=SmallTypes.nextOf (.ref t.it)) (aHQ hh ((hit t m1).keep fun o q=>fr3 _ _ (D.zi t m1).1 (D.zi t m1).2.1 ne01 q) (at_.keep fun o q=>fr3 _ _ (D.zl t m1).1 (D.zl t m1).2 (D.li t m1 r m0) q) hx fun h4 e hs4 he=>?_))));obtain ⟨oe,hoe,hce⟩:=he;have hz4:IsZip h4 z TI TO .ellipsis:=hs4 _ _ (Ne.symm (D.zi t m1).1) hz3;have hez:e≠z:=fun x=>by subst x; rw [hz4] at hoe; cases hoe; simp at hce
 exact wpAny_setField_rec hz4 (by simp) fun h5 _ hs5=>hE h5 e (fun c o c1 c2 c3 c4 x=>hs5.extBut _ _ c1 (hs4 _ _ c4 (fr3 c o c1 c2 c3 x))) ⟨oe,hs5.extBut _ _ hez hoe,hce⟩
theorem OE {z TI TO:Addr} {rs:List Zr} {k:Nat} {vs:List Value} {Q:Option Value→Shared→Prop} (D:Ap z TI TO rs) (hn:rs≠ []) (hl:rs.length≤8) (S:Zs s.heap z TI TO rs k) (at_:∀ r∈rs,ZAt s.heap r) (hv:vs.length=rs.length) (hx:∀ (i:Nat) (r:Zr),rs[i]? =some r→r.xs[k]? =vs[i]?)
   (hQ:∀ h',IsZip h' z TI TO (rawInt s.heap.objs.size)→IsT h' TO vs.toArray→(∀ r∈rs,ZIt h' r (k + 1))→IsT h' s.heap.objs.size vs.toArray→h'.objs.size=s.heap.objs.size + 1→
     (∀ c o,c≠z→c≠TO→(∀ r∈rs,c≠r.it)→s.heap.get? c=some o→h'.get? c=some o)→Q (some (.ref s.heap.objs.size)) { s with heap:=h' }) :
   wpAny (model prog w) A (pyNext (.ref z)) Q E s:=by
 have hT:s.TypeIs (.ref z) "zip":=⟨_,S.z,rfl⟩;unfold pyNext;exact wAq (wpAny_attempt (wpAny_callSpecial?_slot (name:=Str.ofString "__next__") hT F.slot_zip_next (wpAny_call_entry F.slot_zip_next hT F.entry_zip_next (UO D hn hl S at_ hv hx fun h' a1 a2 a3 a4 a5 a6=>wBq (hQ h' a1 a2 a3 a4 a5 a6)) (F.args_zip_next_1 _))))
theorem QK {z TI TO:Addr} {r:Zr} {rs:List Zr} {k:Nat} {Q:Option Value→Shared→Prop} (hh:A.handled=none) (D:Ap z TI TO (r :: rs)) (S:Zs s.heap z TI TO (r :: rs) k) (at_:ZAt s.heap r) (hx:r.xs[k]? =none)
   (hQ:∀ h',(∀ c o,c≠z→c≠r.it→s.heap.get? c=some o→h'.get? c=some o)→Q none { s with heap:=h' }):wpAny (model prog w) A (pyNext (.ref z)) Q E s:=by
 have hT:s.TypeIs (.ref z) "zip":=⟨_,S.z,rfl⟩;unfold pyNext;refine wAq (wpAny_attempt (wpAny_callSpecial?_slot (name:=Str.ofString "__next__") hT F.slot_zip_next (wpAny_call_entry F.slot_zip_next hT F.entry_zip_next (aAf hh D S at_ hx fun h' e hk ⟨o,ho,hc⟩=>?_) (F.args_zip_next_1 _))));exact wAq (wpAny_isInstance (T:="StopIteration") (b:=true) ⟨o,ho,hc⟩ isSubtype_stop (wBq (hQ _ hk)))
theorem NN {z TI TO:Addr} {r t:Zr} {rs:List Zr} {k:Nat} {x:Value} {Q:Option Value→Shared→Prop} (hh:A.handled=none) (D:Ap z TI TO (r :: t :: rs)) (hl:(r :: t :: rs).length≤8) (S:Zs s.heap z TI TO (r :: t :: rs) k) (ar:ZAt s.heap r) (at_:ZAt s.heap t) (hr:r.xs[k]? =some x) (hx:t.xs[k]? =none)
   (hQ:∀ h',(∀ c o,c≠z→c≠TO→c≠r.it→c≠t.it→s.heap.get? c=some o→h'.get? c=some o)→Q none { s with heap:=h' }):wpAny (model prog w) A (pyNext (.ref z)) Q E s:=by
 have hT:s.TypeIs (.ref z) "zip":=⟨_,S.z,rfl⟩;unfold pyNext;refine wAq (wpAny_attempt (wpAny_callSpecial?_slot (name:=Str.ofString "__next__") hT F.slot_zip_next (wpAny_call_entry F.slot_zip_next hT F.entry_zip_next (XJ hh D hl S ar at_ hr hx fun h' e hk ⟨o,ho,hc⟩=>?_) (F.args_zip_next_1 _))));exact wAq (wpAny_isInstance (T:="StopIteration") (b:=true) ⟨o,ho,hc⟩ isSubtype_stop (wBq (hQ _ hk)))
end
end LZ
namespace LZ
open PySem PyProof.Rows
open Builtin
section
variable {prog:Program} {w:World} {A:Around} {E:Value→Shared→Prop}
theorem CP {f:Value→Array Value→Sem (ForInStep (Array Value))} (hf:∀ x acc,f x acc=(do let v ←holding acc.toList (pyIter x); pure (.yield (acc.push v)))):∀ (rs:List Zr) (acc:Array Value) (s:Shared) (Q:Array Value→Shared→Prop),
   (∀ r∈rs,ZAt s.heap r)→(∀ (j:Nat) (r:Zr),rs[j]? =some r→r.it=s.heap.objs.size + j)→
   (∀ h',h'.objs.size=s.heap.objs.size + rs.length→(∀ r∈rs,ZIt h' r 0)→(∀ c o,s.heap.get? c=some o→h'.get? c=some o)→Q (acc ++ (rs.map fun r=>Value.ref r.it).toArray) { s with heap:=h' })→
   wpAny (model prog w) A (forIn (rs.map fun r=>Value.ref r.l) acc f) Q E s
 | [],acc,s,Q,_,_,q=>by
   rw [List.map_nil,List.forIn_nil];refine wBq ?_;have:=q s.heap rfl (fun _ z=>nomatch z) (fun _ _ z=>z);simpa using this
 | r :: rs,acc,s,Q,hat,hid,q=>by
   rw [List.map_cons,List.forIn_cons,hf];have e0:r.it=s.heap.objs.size:=hid 0 r rfl;refine wAq (wAq (wpAny_holding (aIa (r:=r) (hat r (wDq ..)) fun h' hi hz hk=>wBq ?_)));have e1:({ r with it:=s.heap.objs.size }:Zr)=r:=by rw [←e0]
   rw [e1] at hi;refine CP hf rs _ _ Q (fun t ht=>(hat t (wCq _ ht)).keep fun o z=>hk _ o z) (fun j t ht=>?_) fun h2 hz2 hi2 hk2=>?_
   · rw [hid (j + 1) t ht]; show _=h'.objs.size + j; rw [hz]; omega
   · have:=q h2 (by rw [List.length_cons,hz2]; show h'.objs.size + _=_; rw [hz]; omega) (fun t ht=>?_) (fun c o z=>hk2 c o (hk c o z))
     · rw [←e0]; simpa using this
     · rcases List.mem_cons.mp ht with z | z
       · subst z; exact hi.keep fun o z=>hk2 _ o z
       · exact hi2 t z
theorem NS (rs:List Zr) (hl:rs.length≤8):Meets (Builtin.«zip.__new__» ⟨.type "zip" :: (rs.map fun r=>Value.ref r.l),[]⟩) (fun _ R s=>(∀ r∈rs,ZAt s.heap r)∧(∀ (j:Nat) (r:Zr),rs[j]? =some r→r.it=s.heap.objs.size + j)∧
     ∀ h',IsZip h' (s.heap.objs.size + rs.length + 2) (s.heap.objs.size + rs.length) (s.heap.objs.size + rs.length + 1) .none→IsT h' (s.heap.objs.size + rs.length) (rs.map fun r=>Value.ref r.it).toArray→IsT h' (s.heap.objs.size + rs.length + 1) (rs.map fun _=>Value.none).toArray→
       (∀ r∈rs,ZIt h' r 0)→h'.objs.size=s.heap.objs.size + rs.length + 3→(∀ c o,s.heap.get? c=some o→h'.get? c=some o)→R (.ok (.ret (.ref (s.heap.objs.size + rs.length + 2)))) { s with heap:=h' }) :=
 .of_wp <|by
   rintro prog w A R s ⟨hat,hid,h⟩;have hl':rs.length≤sizeLine:=Nat.le_trans hl (by decide);have fin:∀ h1,h1.objs.size=s.heap.objs.size + rs.length→(∀ r∈rs,ZIt h1 r 0)→(∀ c o,s.heap.get? c=some o→h1.get? c=some o)→
       R (.ok (.ret (.ref ((h1.push { cls:=.type "tuple",data:=.seq (rs.map fun r=>Value.ref r.it).toArray }).push { cls:=.type "tuple",data:=.seq (rs.map fun _=>Value.none).toArray }).objs.size)))
         { s with heap:=((h1.push { cls:=.type "tuple",data:=.seq (rs.map fun r=>Value.ref r.it).toArray }).push { cls:=.type "tuple",data:=.seq (rs.map fun _=>Value.none).toArray }).push { cls:=.type "zip",data:=.fields #[.none,.bool false,.bool false,.ref h1.objs.size,.ref (h1.push { cls:=.type "tuple",data:=.seq (rs.map fun r=>Value.ref r.it).toArray }).objs.size] } }:=by
     intro h1 hz1 hi1 hk1;have z2:(h1.push { cls:=.type "tuple",data:=.seq (rs.map fun r=>Value.ref r.it).toArray }).objs.size=s.heap.objs.size + rs.length + 1:=by rw [Heap.size_push,hz1]
     have z3:((h1.push { cls:=.type "tuple",data:=.seq (rs.map fun r=>Value.ref r.it).toArray }).push { cls:=.type "tuple",data:=.seq (rs.map fun _=>Value.none).toArray }).objs.size=s.heap.objs.size + rs.length + 2:=by rw [Heap.size_push,z2]
     rw [z3];refine h _ ?_ ?_ ?_ (fun r hr=>(hi1 r hr).keep fun o z=>wEq _ (wEq _ (wEq _ z))) (by rw [Heap.size_push,z3]) fun c o z=>wEq _ (wEq _ (wEq _ (hk1 c o z)))
     · rw [←z3,z2,hz1]; exact wGq _ rfl
     · unfold IsT; rw [←hz1]; exact wEq _ (wEq _ (wGq _ rfl))
     · unfold IsT; rw [←z2]; exact wEq _ (wGq _ rfl)
   have e0:∀ xs,SmallTypes.newClass "zip" ⟨.type "zip" :: xs,[]⟩=pure (.type "zip",xs):=fun xs=>by
     unfold SmallTypes.newClass;show (isType (.type "zip") >>= _)=_;have e1:isType (.type "zip")=pure true:=rfl;rw [e1,pure_bind];show (isSubtype (.type "zip") (.type "zip") >>= _)=_;rw [sub_zip,pure_bind];rfl
   unfold Builtin.«zip.__new__»;rw [e0,pure_bind];show wpAny _ _ (SmallTypes.iterAll _ >>= _) _ _ _;refine wAq (wAq (CP (fun _ _=>rfl) rs #[] s _ hat hid fun h1 hz1 hi1 hk1=>wBq ?_));have en:(#[] ++ (rs.map fun r=>Value.ref r.it).toArray:Array Value).toList=rs.map fun r=>Value.ref r.it:=by simp
   rw [en];refine wAq (wpAny_newTuple (wAq (wpAny_newTuple ?_ (by simpa using hl'))) (by simpa using hl'));have em:(List.map (fun _=>Value.none) (rs.map fun r=>Value.ref r.it))=rs.map fun _=>Value.none:=by rw [List.map_map]; rfl
   rw [em];show wpAny _ _ (newObj (.type "zip") (.fields #[.none,.bool false,.bool false,.ref h1.objs.size,.ref (h1.push { cls:=.type "tuple",data:=.seq (rs.map fun r=>Value.ref r.it).toArray }).objs.size]) none >>= _) _ _ _;refine wAq (wpAny_newObj_type ?_ (by size_fits));exact wBq ⟨_,rfl,fin h1 hz1 hi1 hk1⟩
theorem MT (a b c:Value):checkTypeCall "zip" ⟨[a,b,c],[]⟩=pure ():=by kernel_rfl
theorem UG (a b c:Value):checkBuiltinCall "zip.__new__" ⟨[.type "zip",a,b,c],[]⟩=pure ():=by kernel_rfl
theorem aGc (a b c d:Value):argsOk "object.__init__" ⟨[a,b,c,d],[]⟩:=by
 unfold argsOk;rw [signature?_of (id:="object.__init__") (n:="__tini__".toList) (o:="tcejbo".toList) (by kernel_rfl) F.owner_object];kernel_rfl
theorem IQ {s:Shared} {rs:List Zr} {Q:Value→Shared→Prop} (hl:rs.length≤8) (hat:∀ r∈rs,ZAt s.heap r) (hid:∀ (j:Nat) (r:Zr),rs[j]? =some r→r.it=s.heap.objs.size + j)
   (ct:checkTypeCall "zip" ⟨rs.map fun r=>Value.ref r.l,[]⟩=pure ()) (cn:checkBuiltinCall "zip.__new__" ⟨.type "zip" :: (rs.map fun r=>Value.ref r.l),[]⟩=pure ()) (ok:∀ obj,argsOk "object.__init__" ⟨obj :: (rs.map fun r=>Value.ref r.l),[]⟩)
   (h:∀ h',Zs h' (s.heap.objs.size + rs.length + 2) (s.heap.objs.size + rs.length) (s.heap.objs.size + rs.length + 1) rs 0→h'.objs.size=s.heap.objs.size + rs.length + 3→(∀ c o,s.heap.get? c=some o→h'.get? c=some o)→Q (.ref (s.heap.objs.size + rs.length + 2)) { s with heap:=h' }) :
   wpAny (model prog w) A (call (.type "zip") (rs.map fun r=>Value.ref r.l)) Q E s:=by
 refine callType_new F.called_zip (by decide) ct cn ok F.entry_zip_new (NS rs hl) ⟨hat,hid,fun h' a b c d e f=>?_⟩;exact ⟨⟨_,a,rfl⟩,h h' ⟨a,b,⟨_,by simp,c⟩,d⟩ e f⟩
theorem VT {s:Shared} {rs:List Zr} {Q:Value→Shared→Prop} (hl:rs.length=2∨rs.length=3) (hat:∀ r∈rs,ZAt s.heap r) (hid:∀ (j:Nat) (r:Zr),rs[j]? =some r→r.it=s.heap.objs.size + j)
   (h:∀ h',Zs h' (s.heap.objs.size + rs.length + 2) (s.heap.objs.size + rs.length) (s.heap.objs.size + rs.length + 1) rs 0→h'.objs.size=s.heap.objs.size + rs.length + 3→(∀ c o,s.heap.get? c=some o→h'.get? c=some o)→Q (.ref (s.heap.objs.size + rs.length + 2)) { s with heap:=h' }) :
   wpAny (model prog w) A (call (.type "zip") (rs.map fun r=>Value.ref r.l)) Q E s:=by
 match rs,hl,hat,hid,h with
 | [a,b],_,hat,hid,h =>
   have ct:=F.typeCall_zip_2 (.ref a.l) (.ref b.l);have cn:=F.newCall_zip_2 (.ref a.l) (.ref b.l);have ok:=fun obj=>F.args_object_init_3 obj (.ref a.l) (.ref b.l);exact IQ (rs:=[a,b]) (by show 2≤8; decide) hat hid ct cn ok h
 | [a,b,c],_,hat,hid,h =>
   have ct:=MT (.ref a.l) (.ref b.l) (.ref c.l);have cn:=UG (.ref a.l) (.ref b.l) (.ref c.l);have ok:=fun obj=>aGc obj (.ref a.l) (.ref b.l) (.ref c.l);exact IQ (rs:=[a,b,c]) (by show 3≤8; decide) hat hid ct cn ok h
end
end LZ
namespace L2
open PySem PySem.Spec PyProof.Rows LZ
section
variable {X:Cx} {pins:List (Addr×Obj)} {σ:St} {H:Hp} {s:Shared} {h':Heap}
theorem Inv.turns {t':Nat} {ch:List Addr} (I:Inv X pins σ H s)
   (hch:∀ b∈ch,(b∈X.ex∨X.s₀.heap.objs.size≤b)∧b≠X.env.locals∧(∀ x c,X.env.cells.lookup x=some c→c≠b)∧∀ p∈X.pn ++ pins,p.1≠b) (hn:∀ b∈ch,H b=none)
   (k:∀ b o,b∉ ch→s.heap.get? b=some o→h'.get? b=some o):Inv X pins σ H { s with heap:=h',toks:=t' }:=by
 have nit:∀ b u,H b=some u→b∉ ch:=fun b u e z=>by rw [hn b z] at e; cases e
 refine I.step (g':=s.gens) (d':=s.drawn) (ch:=ch) hch (fun b o _ _ hc e _=>k b o hc e) (fun b o _ _ hc e _=>⟨o.slots,k b o hc e⟩) (fun _ _ _ _ n=>n) (fun b o hc e=>⟨o,k b o hc e⟩) (fun _ _ e=>e) (fun _ _ _ e=>e) (fun b ps e=>⟨#[],by rw [e]; simp⟩) (fun m hm=>?_) (fun b u e=>?_) I.bare
 · obtain ⟨o,es,ep,ho,r⟩:=hm;exact ⟨o,es,ep,k _ o (fun z=>(hch _ z).2.1 rfl) ho,r⟩
 · refine (I.hok b u e).stay (fun c v hc q=>k c v ?_ q) (fun c q=>q) fun c xs q=>q;rcases hc with z | z
   · rw [z]; exact nit b _ e
   · exact nit c _ z
noncomputable def gY (h:Heap) (l:Addr):Array Value:=match h.get? l with
 | some o=>(match o.data with | .seq a _=>a | _=> #[])
 | none=> #[]
theorem QP {h:Heap} {l:Addr} {a:Array Value} (q:h.IsTuple l a):gY h l=a:=by
 obtain ⟨o,ho,_,n,hd⟩:=q;unfold gY; rw [ho]; dsimp only; rw [hd]
theorem WQ {h:Heap} {l:Addr} {a:Array Value} (q:h.IsList l a):gY h l=a:=by
 obtain ⟨o,ho,_,n,hd⟩:=q;unfold gY; rw [ho]; dsimp only; rw [hd]
def rG (K:W.Frag) (H:Hp) (b:Bool) (l:Addr) (xs:List V):Prop:=if b=true then SqT K H l xs else SqL K H l xs
def uD (K:W.Frag) (H:Hp) (rs:List Zr) (xss:List (List V)):Prop:=xss.length=rs.length∧∀ (j:Nat) (r:Zr) (xs:List V),rs[j]? =some r→xss[j]? =some xs→rG K H r.b r.l xs
theorem jY {b:Bool} {l:Addr} {xs:List V} (I:Inv X pins σ H s) (h:rG X.K H b l xs):∃ its:List Value,aM xs its∧gY s.heap l=its.toArray∧∀ it,ZAt s.heap ⟨it,l,b,its.toArray⟩:=by
 unfold rG at h;cases b with
 | true =>
   rw [if_pos rfl] at h;obtain ⟨its,rv,p,_⟩:=I.tuple h;have p':s.heap.IsTuple l its.toArray:=p;exact ⟨its,rv,QP p',fun it=>by unfold ZAt; rw [if_pos rfl]; exact p'⟩
 | false =>
   rw [if_neg (by decide)] at h;obtain ⟨its,rv,p,_⟩:=I.list h;exact ⟨its,rv,WQ p.isList,fun it=>by unfold ZAt; rw [if_neg Bool.false_ne_true]; exact p.isList⟩
noncomputable def lR (h:Heap) (rs:List Zr):List Zr:=rs.map fun r=>{ r with xs:=gY h r.l }
theorem GA {h g:Heap} {z TI TO:Addr} {rs:List Zr} {k:Nat} (S:Zs h z TI TO rs k):Zs h z TI TO (lR g rs) k:=by
 refine ⟨S.z, ?_, ?_,fun r hr=>?_⟩
 · unfold lR; rw [List.map_map]; exact S.ti
 · obtain ⟨ys,a,b⟩:=S.to_; exact ⟨ys,by unfold lR; rw [List.length_map]; exact a,b⟩
 · obtain ⟨t,ht,rfl⟩:=List.mem_map.mp hr;exact S.it t ht
theorem GH {g:Heap} {z TI TO:Addr} {rs:List Zr} (D:Ap z TI TO rs):Ap z TI TO (lR g rs):=by
 refine ⟨by unfold lR; rw [List.map_map]; exact D.nd,fun r hr=>?_,fun r hr=>?_,fun r hr t ht=>?_,D.zo,D.zt,D.ot⟩
 · obtain ⟨t,ht,rfl⟩:=List.mem_map.mp hr; exact D.zi t ht
 · obtain ⟨t,ht,rfl⟩:=List.mem_map.mp hr; exact D.zl t ht
 · obtain ⟨u,hu,rfl⟩:=List.mem_map.mp hr; obtain ⟨v,hv,rfl⟩:=List.mem_map.mp ht; exact D.li u hu v hv
noncomputable def Itz (K:W.Frag) (rs:List Zr):It :=
 ⟨fun i H=>∃ (xss:List (List V)) (vs:List V),uD K H rs xss∧vs.length=rs.length∧∀ (j:Nat) (xs:List V),xss[j]? =some xs→xs[i]? =vs[j]?,
  fun i H x H'=>∃ (T:Addr) (vs:List V),x= .ref T∧H T=none∧H'=upd H T (.tup vs)∧vs.length=rs.length∧∀ xss,uD K H rs xss→∀ (j:Nat) (xs:List V),xss[j]? =some xs→xs[i]? =vs[j]?,
  fun i H=>(∃ xs t,uD K H rs (xs :: t)∧xs.length≤i)∨∃ xs ys t,uD K H rs (xs :: ys :: t)∧i < xs.length∧ys.length≤i⟩
theorem aM.mk {f:Nat→Option Value}:∀ {vs:List V},(∀ (j:Nat) (v:V),vs[j]? =some v→∃ u,f j=some u∧aP v u)→∃ us,aM vs us∧us.length=vs.length∧∀ (j:Nat),j < vs.length→us[j]? =f j
 | [],_=>⟨[],.nil,rfl,fun j hj=>absurd hj (Nat.not_lt_zero _)⟩
 | v :: vs,h=>by
   obtain ⟨u,e,r⟩:=h 0 v rfl;obtain ⟨us,a,b,c⟩:=aM.mk (f:=fun j=>f (j + 1)) (vs:=vs) fun j w hw=>h (j + 1) w hw;refine ⟨u :: us,.cons r a,by rw [List.length_cons,List.length_cons,b],fun j hj=>?_⟩;cases j with
   | zero=>exact e.symm
   | succ j=>exact c j (by simpa using hj)
theorem LF {b:Bool} {l:Addr} {xs ys:List V} (I:Inv X pins σ H s) (h:rG X.K H b l xs) (h2:rG X.K H b l ys):xs=ys:=by
 obtain ⟨a1,r1,e1,_⟩:=jY I h;obtain ⟨a2,r2,e2,_⟩:=jY I h2;have:a1=a2:=by have:=e1.symm.trans e2; simpa using this
 subst this;exact r1.inj r2
theorem TZ {P:Program} {w:World} {K:W.Frag} {es:List Expr} {x1} {tp:Pos} {z TI TO:Addr} {rs:List Zr} (D:Ap z TI TO rs) (hn:rs≠ []) (hl:rs.length≤8) :
   EL P w K (.Tuple es x1 tp) (Itz K rs) (z :: TO :: TI :: rs.map Zr.it) z (fun i h=>Zs h z TI TO rs i) where
 mem:=by simp
 obj :=fun i h st b hb=>by
   rcases List.mem_cons.mp hb with rfl | hb
   · exact ⟨_,st.z,fun v q=>by have q':Data.fields _=Data.cell v:=q; cases q'⟩
   rcases List.mem_cons.mp hb with rfl | hb
   · obtain ⟨ys,_,q⟩:=st.to_; exact ⟨_,q,fun v q=>by have q':Data.seq _ _=Data.cell v:=q; cases q'⟩
   rcases List.mem_cons.mp hb with rfl | hb
   · exact ⟨_,st.ti,fun v q=>by have q':Data.seq _ _=Data.cell v:=q; cases q'⟩
   · obtain ⟨r,hr,rfl⟩:=List.mem_map.mp hb;have q:=st.it r hr;unfold ZIt at q;split at q
     · obtain ⟨o,a,_,d⟩:=q; exact ⟨o,a,fun v z=>by rw [d] at z; cases z⟩
     · obtain ⟨o,a,_,d⟩:=q; exact ⟨o,a,fun v z=>by rw [d] at z; cases z⟩
 keep:=fun i h h' st k=>by
   refine ⟨k z (by simp) _ st.z,k TI (by simp) _ st.ti, ?_,fun r hr=>(st.it r hr).keep fun o q=>k r.it (by simp; exact .inr (.inr (.inr ⟨r,hr,rfl⟩))) o q⟩;obtain ⟨ys,a,b⟩:=st.to_;exact ⟨ys,a,k TO (by simp) _ b⟩
 item := by
   intro X hP hw hK hc i pins s σ H E I hf st hg;subst hP hw hK;obtain ⟨xss,vs,hr,hvl,hx⟩:=hg;have hxl:xss.length=rs.length:=hr.1;have at_:∀ r∈lR s.heap rs,ZAt s.heap r:=fun r hr'=>by
     obtain ⟨t,ht,rfl⟩:=List.mem_map.mp hr';obtain ⟨j,hj,ej⟩:=List.getElem_of_mem ht;obtain ⟨its,_,e,q⟩:=jY I (hr.2 j t (xss[j]'(by omega)) (by rw [wHq hj,ej]) (by simp));have:=q t.it;rw [←e] at this; exact this
   obtain ⟨us,rv,ul,hu⟩:=aM.mk (f:=fun j=>(rs[j]?).bind fun r=>(gY s.heap r.l)[i]?) (vs:=vs) fun j v hv=>by
     have hj:j < rs.length:=by have:=(List.getElem?_eq_some_iff.mp hv).1; omega
     have er:rs[j]? =some rs[j]:=wHq hj;have ex:xss[j]? =some (xss[j]'(by omega)):=by simp
     obtain ⟨its,rvs,e,_⟩:=jY I (hr.2 j _ _ er ex);obtain ⟨u,hu,ru⟩:=rvs.get ((hx j _ ex).trans hv);refine ⟨u, ?_,ru⟩;show (rs[j]?).bind _=_;rw [er,Option.bind_some,e];simpa using hu
   refine OE (vs:=us) (GH D) (by unfold lR; simpa using hn) (by unfold lR; rw [List.length_map]; exact hl) (GA st) at_ (by unfold lR; rw [List.length_map,ul,hvl]) (fun j r hr'=>?_) fun h1 hz1 hT1 hi1 hN hsz hk=>?_
   · unfold lR at hr';rw [List.getElem?_map] at hr';cases er:rs[j]? with
     | none=>rw [er] at hr'; cases hr'
     | some t =>
       rw [er] at hr';have:r={ t with xs:=gY s.heap t.l }:=(Option.some.inj hr').symm;subst this;have hj:j < rs.length:=(List.getElem?_eq_some_iff.mp er).1;rw [hu j (by omega)];show _=(rs[j]?).bind _;rw [er]; rfl
   · refine ⟨_,rfl,wpAny_letOwnedTupleGo_zip hz1 fun h2 hz2 sb=>?_⟩;have mem_it:∀ r∈rs,∃ t∈lR s.heap rs,t.it=r.it:=fun r hr=>⟨_,List.mem_map.mpr ⟨r,hr,rfl⟩,rfl⟩;have it_mem:∀ t∈lR s.heap rs,∃ r∈rs,r.it=t.it:=fun t ht=>by obtain ⟨r,hr,rfl⟩:=List.mem_map.mp ht; exact ⟨r,hr,rfl⟩
     have hTz:s.heap.objs.size≠z:=Nat.ne_of_gt (Heap.lt_size st.z);have gT:IsT h2 s.heap.objs.size us.toArray:=(sb.2 _ hTz).trans hN;have lt:∀ b∈z :: TO :: TI :: rs.map Zr.it,b≠s.heap.objs.size:=fun b hb=>by
       have:∃ o,s.heap.get? b=some o:=by
         rcases List.mem_cons.mp hb with rfl | hb
         · exact ⟨_,st.z⟩
         rcases List.mem_cons.mp hb with rfl | hb
         · obtain ⟨ys,_,q⟩:=st.to_; exact ⟨_,q⟩
         rcases List.mem_cons.mp hb with rfl | hb
         · exact ⟨_,st.ti⟩
         · obtain ⟨r,hr,rfl⟩:=List.mem_map.mp hb; exact (st.it r hr).lt
       obtain ⟨o,q⟩:=this;exact Nat.ne_of_lt (Heap.lt_size q)
     refine ⟨.ref s.heap.objs.size,upd H s.heap.objs.size (.tup vs),I.turnNew (ch:=z :: TO :: TI :: rs.map Zr.it) (h':=h2) (fun b hb=>?_) (fun b hb=>(hf b hb).1) (fun b o hb q=>?_) (Nat.le_refl _) ?_,rfl,⟨_,vs,rfl,I.hok.fresh (Nat.le_refl _),rfl,hvl,fun yss hy j xs hxs=>?_⟩, ?_,fun b hb=>?_⟩
     · obtain ⟨f0,f1,f2,f3,f4,f5⟩:=hf b hb;exact ⟨f3,f1,f4,f5⟩
     · have n1:b≠z:=fun e=>hb (by simp [e]);have n2:b≠TO:=fun e=>hb (by simp [e]);exact (sb.2 b n1).trans (hk b o n1 n2 (fun t ht e=>by obtain ⟨r,hr,er⟩:=it_mem t ht; exact hb (by rw [e,←er]; simp; exact .inr (.inr (.inr ⟨r,hr,rfl⟩)))) q)
     · exact ⟨by show vs.length≤sizeLine; rw [hvl]; exact Nat.le_trans hl (by decide),us,rv,gH.at gT⟩
     · have hj:j < rs.length:=by have:=(List.getElem?_eq_some_iff.mp hxs).1; have:=hy.1; omega
       have er:rs[j]? =some rs[j]:=wHq hj;have ex:xss[j]? =some (xss[j]'(by omega)):=by simp
       rw [LF I (hy.2 j _ _ er hxs) (hr.2 j _ _ er ex)];exact hx j _ ex
     · refine ⟨hz2,(sb.2 _ D.zt).trans (hk _ _ D.zt D.ot (fun t ht e=>?_) st.ti),⟨us.toArray,by simp; omega,(sb.2 _ D.zo).trans hT1⟩,fun r hr=>?_⟩
       · obtain ⟨r,hr,er⟩:=it_mem t ht; exact (D.zi r hr).2.2 (er.trans e.symm)
       · obtain ⟨t,ht,et⟩:∃ t∈lR s.heap rs,t={ r with xs:=gY s.heap r.l }:=⟨_,List.mem_map.mpr ⟨r,hr,rfl⟩,rfl⟩;have q:=hi1 t ht;subst et;have q':ZIt h1 r (i + 1):=q;exact q'.keep fun o z=>(sb.2 _ (D.zi r hr).1).trans z
     · rw [aC (lt b hb)];exact (hf b hb).1
 done :=by
   intro X hP hw hK hc i pins s σ H E I hf st hg;subst hP hw hK;rcases hg with ⟨xs,t,hr,hx⟩ | ⟨xs,ys,t,hr,hi,hy⟩
   rotate_left
   · match rs,hn,hl,D,st,hr,hf with
     | r :: r2 :: bA,_,hl,D,st,hr,hf =>
       obtain ⟨its,rv,e,q⟩:=jY I (hr.2 0 r xs rfl rfl);obtain ⟨its2,rv2,e2,q2⟩:=jY I (hr.2 1 r2 ys rfl rfl);have l1:=rv.length;have l2:=rv2.length;have a0:ZAt s.heap { r with xs:=gY s.heap r.l }:=by have:=q r.it; rw [←e] at this; exact this
       have a1:ZAt s.heap { r2 with xs:=gY s.heap r2.l }:=by have:=q2 r2.it; rw [←e2] at this; exact this
       have hx1:(its.toArray)[i]? =some (its[i]'(by omega)):=by simp
       have hx2:(its2.toArray)[i]? =none:=by simp; omega
       have mb:∀ b∈ [z,TO,r.it,r2.it],b∈z :: TO :: TI :: (r :: r2 :: bA).map Zr.it:=fun b hb=>by simp at hb ⊢; rcases hb with z | z | z | z <;> simp [z]
       refine NN (r:={ r with xs:=gY s.heap r.l }) (t:={ r2 with xs:=gY s.heap r2.l }) (rs:=lR s.heap bA) (I.ok.hd hc) (GH (g:=s.heap) D) (by simpa [lR] using hl) (GA (g:=s.heap) st) a0 a1 (by show (gY s.heap r.l)[i]? =some _; rw [e]; exact hx1) (by show (gY s.heap r2.l)[i]? =none; rw [e2]; exact hx2) fun h1 hk=>⟨rfl,I.turns (t':=s.toks) (ch:=[z,TO,r.it,r2.it]) (fun b hb=>?_) (fun b hb=>(hf b (mb b hb)).1) fun b o hb q=>hk b o (fun z=>hb (by simp [z])) (fun z=>hb (by simp [z])) (fun z=>hb (by simp [z])) (fun z=>hb (by simp [z])) q⟩;obtain ⟨f0,f1,f2,f3,f4,f5⟩:=hf b (mb b hb);exact ⟨f3,f1,f4,f5⟩
     | [r],_,_,_,_,hr,_=>exact absurd hr.1 (by simp)
   match rs,hn,D,st,hr,hf with
   | r :: bA,_,D,st,hr,hf =>
     obtain ⟨its,rv,e,q⟩:=jY I (hr.2 0 r xs rfl rfl);have hl:=rv.length;have hx':(its.toArray)[i]? =none:=by simp; omega
     have a0:ZAt s.heap { r with xs:=gY s.heap r.l }:=by have:=q r.it; rw [←e] at this; exact this
     refine QK (r:={ r with xs:=gY s.heap r.l }) (rs:=lR s.heap bA) (I.ok.hd hc) (GH (g:=s.heap) D) (GA (g:=s.heap) st) a0 (by show (gY s.heap r.l)[i]? =none; rw [e]; exact hx') fun h1 hk=>⟨rfl,I.turns (t':=s.toks) (ch:=[z,r.it]) (fun b hb=>?_) (fun b hb=>?_) fun b o hb q=>hk b o (fun z=>hb (by simp [z])) (fun z=>hb (by simp [z])) q⟩
     · have hb':b∈z :: TO :: TI :: (r :: bA).map Zr.it:=by simp at hb ⊢; rcases hb with z | z <;> simp [z]
       obtain ⟨f0,f1,f2,f3,f4,f5⟩:=hf b hb';exact ⟨f3,f1,f4,f5⟩
     · have hb':b∈z :: TO :: TI :: (r :: bA).map Zr.it:=by simp at hb ⊢; rcases hb with z | z <;> simp [z]
       exact (hf b hb').1
 self:=fun _ _ _ _ _ st h=>wpAny_pyIter_zip st.z h
end
section
variable {X:Cx} {pins:List (Addr×Obj)} {σ:St} {H:Hp} {s:Shared} {h':Heap}
def aJO (K:W.Frag) (ta:TA):TI:=fun σ H R=>ta σ H fun vs H1=>∃ ls:List (Bool×Addr),vs=ls.map (fun p=>V.ref p.2)∧(ls.length=2∨ls.length=3)∧
 (∃ xss:List (List V),xss.length=ls.length∧∀ (j:Nat) (p:Bool×Addr) (xs:List V),ls[j]? =some p→xss[j]? =some xs→rG K H1 p.1 p.2 xs)∧∀ rs:List Zr,rs.map (fun r=>(r.b,r.l))=ls→R (Itz K rs) H1
theorem xW:∀ {ls:List (Bool×Addr)} {us:List Value},aM (ls.map fun p=>V.ref p.2) us→us=ls.map fun p=>Value.ref p.2
 | [],_,.nil=>rfl
 | p :: r,_,.cons a b=>by
   have e:=xW (ls:=r) b;cases a;rw [e]; rfl
theorem aD9 {es0:List Expr} {x1} {tp:Pos} {e:Expr} {es:List Expr} {ta:TA} {p pos:Pos} (hg:Gl X "zip") (hm:X.mg "zip"=none) (ha:PA X (e :: es) ta) (hs:starEach (e :: es) X.env=(false,eval e X.env) :: starEach es X.env) (hpl:(backTo pos (starEach es X.env)).any (·.1)=false) :
   PI X (.Tuple es0 x1 tp) (.Call (.Name "zip" p) (e :: es) [] pos) (aJO X.K ta):=by
 intro pins s σ H R I h;refine Call_ (mR I hg hm boot_zip (PyProof.Rows.callWith_type1 (thn (ha pos pins s σ H _ I h) fun us s1 zz=>?_) hs hpl));obtain ⟨vs,H1,I1,r1,q1⟩:=zz;obtain ⟨ls,e,hl,⟨xss,hxl,hx⟩,q⟩:=q1;subst e;have eu:=xW r1;subst eu;obtain ⟨rs,ers⟩:∃ rs:List Zr,rs=ls.zipIdx.map fun p=>⟨s1.heap.objs.size + p.2,p.1.2,p.1.1,gY s1.heap p.1.2⟩:=⟨_,rfl⟩;have rlen:rs.length=ls.length:=by rw [ers,List.length_map,List.length_zipIdx]
 have rget:∀ (j:Nat) (r:Zr),rs[j]? =some r→∃ p,ls[j]? =some p∧r=⟨s1.heap.objs.size + j,p.2,p.1,gY s1.heap p.2⟩:=fun j r hr=>by
   rw [ers,List.getElem?_map,List.getElem?_zipIdx] at hr;cases ep:ls[j]? with
   | none=>rw [ep] at hr; cases hr
   | some p =>
     rw [ep] at hr;have:=Option.some.inj hr;exact ⟨p,rfl,by rw [←this]; simp⟩
 have rmem:∀ r∈rs,∃ (j:Nat) (p:Bool×Addr),ls[j]? =some p∧r=⟨s1.heap.objs.size + j,p.2,p.1,gY s1.heap p.2⟩∧j < ls.length:=fun r hr=>by
   obtain ⟨j,hj,ej⟩:=List.getElem_of_mem hr;obtain ⟨p,a,b⟩:=rget j r (by rw [wHq hj,ej]);exact ⟨j,p,a,b,by omega⟩
 have e1:rs.map (fun r=>(r.b,r.l))=ls:=by
   refine List.ext_getElem? fun j=>?_;rw [ers,List.map_map,List.getElem?_map,List.getElem?_zipIdx];cases ls[j]? <;> rfl
 have e2:(ls.map fun p=>Value.ref p.2)=rs.map fun r=>Value.ref r.l:=by rw [←e1,List.map_map]; rfl
 have at_:∀ r∈rs,ZAt s1.heap r:=fun r hr=>by
   obtain ⟨j,p,a,rfl,hj⟩:=rmem r hr;obtain ⟨its,_,e,q⟩:=jY I1 (hx j p (xss[j]'(by omega)) a (by simp));rw [e]; exact q _
 have lt_:∀ r∈rs,r.l < s1.heap.objs.size:=fun r hr=>by
   have:=at_ r hr;unfold ZAt at this;split at this
   · obtain ⟨o,z,_⟩:=this; exact Heap.lt_size z
   · obtain ⟨o,z,_⟩:=this; exact Heap.lt_size z
 rw [e2];refine VT (by rw [rlen]; exact hl) at_ (fun j r hr=>by obtain ⟨p,_,rfl⟩:=rget j r hr; rfl) fun h2 S hsz hk=>?_;have I2:Inv X pins σ H1 { s1 with heap:=h2 }:=I1.kept (t':=s1.toks) hk;refine wpAny_pyIter_zip (s:={ s1 with heap:=h2 }) S.z ?_;have nn:∀ {m n:Nat},m < n→m≠n:=fun h=>Nat.ne_of_lt h;have D:Ap (s1.heap.objs.size + rs.length + 2) (s1.heap.objs.size + rs.length) (s1.heap.objs.size + rs.length + 1) rs:=by
   refine ⟨?_,fun r hr=>?_,fun r hr=>?_,fun r hr t ht=>?_,Nat.ne_of_lt (by omega),Nat.ne_of_lt (by omega),Nat.ne_of_lt (by omega)⟩
   · rw [ers,List.map_map];refine List.pairwise_iff_getElem.mpr fun i j hi hj hij=>?_;simp only [List.getElem_map,Function.comp,List.getElem_zipIdx];exact Nat.ne_of_lt (by omega)
   · obtain ⟨j,p,a,rfl,hj⟩:=rmem r hr;exact ⟨Nat.ne_of_lt (by show s1.heap.objs.size + j < _; omega),Nat.ne_of_lt (by show s1.heap.objs.size + j < _; omega),Nat.ne_of_lt (by show s1.heap.objs.size + j < _; omega)⟩
   · have:=lt_ r hr;exact ⟨Nat.ne_of_lt (wFq this (by omega)),Nat.ne_of_lt (wFq this (by omega))⟩
   · have:=lt_ r hr;obtain ⟨j,p,a,rfl,hj⟩:=rmem t ht;exact Nat.ne_of_lt (wFq this (Nat.le_add_right _ _))
 refine ⟨s1.heap.objs.size + rs.length + 2,_,_,_,H1,rfl,I2,TZ D (by intro z; rw [z] at rlen; simp at rlen; omega) (by omega),S,fun b hb=>?_,q rs e1⟩;have hb':s1.heap.objs.size≤b:=by
   simp only [List.mem_cons,List.mem_map] at hb;rcases hb with rfl | rfl | rfl | ⟨r,hr,rfl⟩
   · exact Nat.le_trans (Nat.le_add_right _ rs.length) (Nat.le_add_right _ 2)
   · exact Nat.le_trans (Nat.le_add_right _ rs.length) (Nat.le_add_right _ 1)
   · exact Nat.le_add_right _ _
   · obtain ⟨j,p,a,rfl,hj⟩:=rmem r hr; exact Nat.le_add_right _ _
 exact I1.fpOk hb' (I1.hok.fresh hb')
end
end L2
namespace L2
open PySem PySem.Spec PyProof.Rows
section
variable {X:Cx}
theorem tY:∀ {bs:List Bool} {us:List Value} {i:Nat} {v:Value},aM (bs.map V.bl) us→us[i]? =some v→∃ b,bs[i]? =some b∧v= .bool b
 | [],_,_,_,r,h=>by cases r; simp at h
 | b :: bs,_,0,v,r,h=>by
   cases r with
   | cons r1 r2 =>
     simp at h; subst h
     exact ⟨b,rfl,r1⟩
 | b :: bs,_,i + 1,v,r,h=>by
   cases r with
   | cons r1 r2 =>
     obtain ⟨c,e,q⟩:=tY (i:=i) r2 (by simpa using h);exact ⟨c,by simpa using e,q⟩
theorem JV {s:Shared} {h':Heap} {o:Obj} (hk:∀ b x,b∉ [s.heap.objs.size]→(s.heap.push o).get? b=some x→h'.get? b=some x):∀ b x,s.heap.get? b=some x→h'.get? b=some x :=
 fun b x e=>hk b x (fun hm=>by rw [List.mem_singleton.mp hm] at e; exact Nat.lt_irrefl _ (Heap.lt_size e)) (wEq _ e)
theorem MV (bs:List Bool):((List.range bs.length).all fun i=>(bs[i]?).getD true)=bs.all id:=by
 rw [Bool.eq_iff_iff,List.all_eq_true,List.all_eq_true];constructor
 · intro h b hb;obtain ⟨i,hi,rfl⟩:=List.getElem_of_mem hb;have:=h i (List.mem_range.mpr hi);simp only [wHq hi,Option.getD_some] at this;exact this
 · intro h i hi;have hi':=List.mem_range.mp hi;simp only [wHq hi',Option.getD_some];exact h _ (List.getElem_mem hi')
theorem OG (bs:List Bool):((List.range bs.length).any fun i=>(bs[i]?).getD false)=bs.any id:=by
 rw [Bool.eq_iff_iff,List.any_eq_true,List.any_eq_true];constructor
 · rintro ⟨i,hi,e⟩;have hi':=List.mem_range.mp hi;simp only [wHq hi',Option.getD_some] at e;exact ⟨_,List.getElem_mem hi',e⟩
 · rintro ⟨b,hb,e⟩;obtain ⟨i,hi,rfl⟩:=List.getElem_of_mem hb;exact ⟨i,List.mem_range.mpr hi,by simp only [wHq hi,Option.getD_some]; exact e⟩
theorem NF (hc:X.calm=true):bL X (.builtin "all") (fun xs H Q=>∃ (p:Addr) (bs:List Bool),xs=[.ref p]∧H p=some (.lst (bs.map V.bl))∧Q (.bl (bs.all id)) H):=by
 rintro pins s σ H xs us Q I r ⟨p,bs,e,hp,q⟩;subst e;obtain ⟨u,rfl,ru⟩:=gG r;cases ru;obtain ⟨_,its,n,rv,ho⟩:=I.hok _ _ hp;have hl:s.heap.IsList p its.toArray:=⟨_,ho,rfl,n,rfl⟩;have hlt:p < s.heap.objs.size:=Heap.lt_size ho;refine call_all_walk (wpAny_pyIter_list hl ?_);refine ⟨s.heap.objs.size,[s.heap.objs.size,p],[s.heap.objs.size],its.toArray.size,_,_,fun i=>(bs[i]?).getD true,rfl,Walks.list (A:=X.A.in1) (I.ok.hd hc) _ p (Nat.ne_of_lt hlt) its.toArray,
   ⟨⟨_,wGq _ rfl,rfl,rfl⟩,hl.push _⟩,fun i v s' Q' E' hP hQ=>?_,fun h' tk hk=>?_⟩
 · obtain ⟨b,e,rfl⟩:=tY rv (i:=i) (v:=v) (by simpa using hP);simp only [e,Option.getD_some] at hQ;exact wpAny_truthy_bool hQ
 · have e:((List.range its.toArray.size).all fun i=>(bs[i]?).getD true)=bs.all id:=by
     have:=rv.length;rw [List.length_map] at this;rw [wIq,←this]; exact MV bs
   rw [e];exact ⟨.bl _,H,I.kept (t':=tk) (JV hk),rfl,q⟩
theorem NO (hc:X.calm=true):bL X (.builtin "any") (fun xs H Q=>∃ (p:Addr) (bs:List Bool),xs=[.ref p]∧H p=some (.lst (bs.map V.bl))∧Q (.bl (bs.any id)) H):=by
 rintro pins s σ H xs us Q I r ⟨p,bs,e,hp,q⟩;subst e;obtain ⟨u,rfl,ru⟩:=gG r;cases ru;obtain ⟨_,its,n,rv,ho⟩:=I.hok _ _ hp;have hl:s.heap.IsList p its.toArray:=⟨_,ho,rfl,n,rfl⟩;have hlt:p < s.heap.objs.size:=Heap.lt_size ho;refine call_any_walk (wpAny_pyIter_list hl ?_);refine ⟨s.heap.objs.size,[s.heap.objs.size,p],[s.heap.objs.size],its.toArray.size,_,_,fun i=>(bs[i]?).getD false,rfl,Walks.list (A:=X.A.in1) (I.ok.hd hc) _ p (Nat.ne_of_lt hlt) its.toArray,
   ⟨⟨_,wGq _ rfl,rfl,rfl⟩,hl.push _⟩,fun i v s' Q' E' hP hQ=>?_,fun h' tk hk=>?_⟩
 · obtain ⟨b,e,rfl⟩:=tY rv (i:=i) (v:=v) (by simpa using hP);simp only [e,Option.getD_some] at hQ;exact wpAny_truthy_bool hQ
 · have e:((List.range its.toArray.size).any fun i=>(bs[i]?).getD false)=bs.any id:=by
     have:=rv.length;rw [List.length_map] at this;rw [wIq,←this]; exact OG bs
   rw [e];exact ⟨.bl _,H,I.kept (t':=tk) (JV hk),rfl,q⟩
end
end L2
namespace LX
open PySem PyProof.Rows
section
variable {prog:Program} {w:World} {A:Around} {E:Value→Shared→Prop} {s:Shared}
theorem aB7 {it t:Addr} {items:Array Value} (hne:t≠it):∀ (n i:Nat) (s:Shared) (Q:List Value→Shared→Prop),s.heap.IsListIter it t i→s.heap.IsList t items→i + n≤items.size→
   (∀ h',h'.IsListIter it t (i + n)→Heap.SameBut it s.heap h'→Q ((items.toList.drop i).take n) { s with heap:=h' })→wpAny (model prog w) A (draw (.ref it) n) Q E s
 | 0,i,s,Q,hit,_,_,hQ=>by
   show wpAny _ _ (pure []) Q E s;exact wBq (by simpa using hQ s.heap hit (Heap.SameBut.refl ..))
 | n + 1,i,s,Q,hit,ht,hle,hQ=>by
   have hlt:i < items.size:=by omega
   show wpAny _ _ (pyNext (.ref it) >>= _) Q E s;refine wAq (wpAny_pyNext_list_item hit ht (x:=items[i]) (by simp [hlt]) fun h1 hit1 hs1=>?_);refine wAq (wpAny_holding (aB7 hne n (i + 1) _ _ hit1 (ht.extBut hs1.extBut hne) (by omega) fun h2 hit2 hs2=>wBq ?_));have hd:items.toList.drop i=items[i] :: items.toList.drop (i + 1):=by simp [List.drop_eq_getElem_cons,hlt]
   have:=hQ h2 (by rw [show i + (n + 1)=i + 1 + n by omega]; exact hit2) (hs1.trans hs2);rw [hd,List.take_succ_cons] at this;exact this
theorem aA4 {t:Addr} {items:Array Value} {Q:List Value→Shared→Prop} (hh:A.handled=none) (ht:s.heap.IsList t items)
   (hQ:∀ h',Heap.ExtBut s.heap.objs.size s.heap h'→Q items.toList { s with heap:=h' }):wpAny (model prog w) A (unpackItems (.ref t) items.size none) Q E s:=by
 have hlt:t≠s.heap.objs.size:=by obtain ⟨o,ho,_⟩:=ht; exact Nat.ne_of_lt (Heap.lt_size ho)
 unfold unpackItems;refine wAq ?_;unfold notIterableAtAll;refine wAq (wpAny_specialOf ht.typeIs slot_list_iter.lookup ?_);refine wBq ?_;simp only [Bool.false_eq_true,if_false];refine wAq (wpAny_holding (wpAny_pyIter_list ht ?_));refine wAq (wpAny_holding (aB7 hlt items.size 0 _ _ ⟨_,wGq _ rfl,rfl,rfl⟩ (ht.push _) (by omega) fun h1 hit1 hs1=>?_));have hall:List.take items.size (List.drop 0 items.toList)=items.toList:=by
   rw [List.drop_zero]; exact List.take_of_length_le (by simp)
 rw [hall];rw [if_neg (by simp)];have ht1:h1.IsList t items:=(ht.push _).extBut hs1.extBut hlt;refine wAq (wpAny_holding (wpAny_pyNext_list_end hh hit1 ht1 (by simp) fun h2 he2=>?_));simp only [Option.isSome_none,Bool.false_eq_true,if_false];refine wBq (hQ h2 fun b o hb e=>he2 b o hb (hs1.extBut b o hb (wEq _ e)))
theorem aIx {env:Env} {elts:List Expr} {x1:Nat} {pos:Pos} {t:Addr} {items:Array Value} {Q:Unit→Shared→Prop} (hh:A.handled=none) (ht:s.heap.IsList t items)
   (hn:(assignEach elts env).length=items.size) (hstar:(assignEach elts env).findIdx? (·.1)=none)
   (h:∀ h',Heap.ExtBut s.heap.objs.size s.heap h'→wpAny (model prog w) A (assignInOrder ((assignEach elts env).map (·.2)) items.toList) Q E { s with heap:=h' }) :
   wpAny (model prog w) A (assign (.Tuple elts x1 pos) env (.ref t)) Q E s:=by
 rw [assign_Tuple];refine wAq (wpAny_standAt ?_);unfold unpack;rw [hn,hstar];exact wAq (wpAny_holding (aA4 hh ht h))
end
end LX
namespace L2
open PySem PySem.Spec PyProof.Rows
section
variable {X:Cx} {pos:Pos}
def aIJ (n:Nat) (t:TGs):TG:=fun v σ H Q=>∃ a xs,v= .ref a∧H a=some (.lst xs)∧xs.length=n∧t xs σ H Q
theorem aEX {es:List Expr} {k:Nat} {t:TGs} {n:Nat} (hc:X.calm=true) (h:PGs X es t)
   (hn:(assignEach es X.env).length=n) (hst:(assignEach es X.env).findIdx? (·.1)=none):PG X (.Tuple es k pos) (aIJ n t):=by
 intro pins s σ H v u Q I r hw;obtain ⟨a,xs,e1,hq,hl,hw⟩:=hw;subst e1;cases r;obtain ⟨_,its,nn,rv,ho⟩:=I.hok _ _ hq;have ht:s.heap.IsList a its.toArray:=⟨_,ho,rfl,nn,rfl⟩;refine LX.aIx (I.ok.hd hc) ht (by simp [hn,←hl,rv.length]) hst fun h' hx=>?_;have I1:Inv X pins σ H { s with heap:=h' }:=I.kept (t':=s.toks) fun b o e=>hx b o (Nat.ne_of_lt (Heap.lt_size e)) e;exact h pins _ σ H xs _ Q I1 (by simpa using rv) hw
variable {a b c d:Expr} {ta tb tc td:TE}
end
section
variable {X:Cx}
end
section
variable {X:Cx} {pos:Pos}
end
end L2
namespace LE
open PySem PyProof.Rows
open AutoSeq1 (wpAny_loadPart')
open MeetsSeq MeetsSeq2 MeetsSeq3 SeqRoads2
end LE
namespace L2
open PySem PySem.Spec PyProof.Rows
section
variable {X:Cx}
end
section
variable {κ:Type} [DecidableEq κ]
noncomputable def valV (kvs:List (κ×V)) (k:κ):Option V:=(kvs.find? fun kv=>decide (kv.1=k)).map (·.2)
theorem aId {k:κ}:valV ([]:List (κ×V)) k=none:=rfl
theorem uM {p:κ×V} {r:List (κ×V)} {k:κ} (e:p.1=k):valV (p :: r) k=some p.2:=by simp [valV,List.find?_cons,e]
theorem vD {p:κ×V} {r:List (κ×V)} {k:κ} (e:¬p.1=k):valV (p :: r) k=valV r k:=by simp [valV,List.find?_cons,e]
theorem KV.val {kvs:List (κ×V)} {vs:List (κ×Value)} (r:KV kvs vs) (k:κ):oX (valV kvs k) (valueAt vs k):=by
 unfold KV at r;induction r with
 | nil=>exact True.intro
 | @cons p q ps qs h t ih =>
   obtain ⟨h1,h2⟩:=h;by_cases e:p.1=k
   · have e':q.1=k:=h1.symm.trans e;have b:valueAt (q :: qs) k=some q.2:=by simp [valueAt,List.find?_cons,e']
     rw [uM e,b]; exact h2
   · have e':¬q.1=k:=fun z=>e (h1.trans z);have b:valueAt (q :: qs) k=valueAt qs k:=by simp [valueAt,List.find?_cons,e']
     rw [vD e,b]; exact ih
end
theorem aBL {P:Program} {w:World} {k:Key} {u:Value} (r:aP (kV k) u):(dD P w).is k u=true:=by
 cases k with
 | inl i=>obtain ⟨t,e⟩:=(show ∃ t,u=Value.int i t from r); subst e; exact CF P w i t
 | inr x=>obtain ⟨t,e⟩:=(show ∃ t,u=Value.str x t from r); subst e; exact BD P w x t
theorem xA {P:Program} {w:World}:∀ {ks:List Key} {us:List Value},aM (ks.map kV) us→ItemsAre (dD P w) ks us
 | [],_,r=>by rw [List.map_nil] at r; cases r; exact .nil
 | k :: ks,_,r=>by
   rw [List.map_cons] at r;cases r with
   | cons h t=>exact .cons (aBL h) (xA t)
noncomputable abbrev KT (H:Hp):List (List Key×V)→List (List Key×Addr×Value)→Prop:=Paired fun p q=>p.1=q.1∧H q.2.1=some (.tup (p.1.map kV))∧aP p.2 q.2.2
theorem KT.val {H:Hp} {kvs:List (List Key×V)} {xs:List (List Key×Addr×Value)} (r:KT H kvs xs) (k:List Key):oX (valV kvs k) ((atKey xs k).map (·.2)):=by
 induction r with
 | nil=>exact True.intro
 | @cons p q ps qs h t ih =>
   obtain ⟨h1,_,h2⟩:=h;by_cases e:p.1=k
   · have e':q.1=k:=h1.symm.trans e;have b:atKey (q :: qs) k=some q.2:=by simp [atKey,List.find?_cons,e']
     rw [uM e,b]; exact h2
   · have e':¬q.1=k:=fun z=>e (h1.trans z);have b:atKey (q :: qs) k=atKey qs k:=by simp [atKey,List.find?_cons,e']
     rw [vD e,b]; exact ih
section
variable {P:Program} {w:World} {H:Hp} {h:Heap} {a:Addr}
theorem aBl {u:HO} (ok:HOk P w H h) (e:Rd H a u):bY P w H h a u:=e.ok ok
theorem aBz {kvs:List (Key×V)} (ok:HOk P w H h) (e:Rd H a (.dK kvs)):kvs.length≤sizeLine∧(a == sysModules)=false∧∃ vs,KV kvs vs∧h.DictOf (dD P w) a vs :=
 show bY P w H h a (.dK kvs) from aBl ok e
theorem TB {ks:List Key} (ok:HOk P w H h) (e:H a=some (.tup (ks.map kV))):(tupleKind (dD P w)).is h ks a:=by
 obtain ⟨_,its,r,⟨o,h1,h2,n,h3⟩,_⟩:=(show bY P w H h a (.tup (ks.map kV)) from ok a _ e);exact ⟨o,its.toArray,n,h1,h2,h3,by simpa using xA r⟩
theorem aBY {kvs:List (List Key×V)} (ok:HOk P w H h) (e:Rd H a (.dT kvs)):kvs.length≤sizeLine∧(a == sysModules)=false∧
   ∃ xs,KT H kvs xs∧h.DictOfH (tupleKind (dD P w)) a xs:=by
 obtain ⟨z,y,xs,r,o,es,ep,h1,h2,h3,h4,h5⟩:=(show bY P w H h a (.dT kvs) from aBl ok e);refine ⟨z,y,xs,r,o,es,ep,h1,h2,h3,h4,fun x hx=>?_,h5⟩;have all:∀ {l:List (List Key×V)} {m:List (List Key×Addr×Value)},KT H l m→∀ x∈m,(tupleKind (dD P w)).is h x.1 x.2.1:=by
   intro l m q;induction q with
   | nil=>intro x hx; exact nomatch hx
   | @cons p q ps qs hq t ih =>
     intro x hx;rcases List.mem_cons.mp hx with e | hx
     · subst e;exact TB ok (by rw [←hq.1]; exact hq.2.1)
     · exact ih x hx
 exact all r x hx
end
noncomputable def WN (H:Hp) (a:Addr) (y:V) (r:Option V):Prop :=
 (∃ kvs k,Rd H a (.dK kvs)∧y=kV k∧r=valV kvs k)∨∃ kvs k b,Rd H a (.dT kvs)∧y= .ref b∧H b=some (.tup (k.map kV))∧r=valV kvs k
theorem WN.k {H:Hp} {a:Addr} {kvs:List (Key×V)} {k:Key} (e:H a=some (.dK kvs)):WN H a (kV k) (valV kvs k):=.inl ⟨kvs,k,.inl e,rfl,rfl⟩
section
variable {X:Cx} {pins:List (Addr×Obj)} {σ:St} {H:Hp} {s:Shared} {a:Addr} {y v:V} {u r:Value} {o:Option V} {A:Around} {E:Value→Shared→Prop}
theorem LJ {Q:Value→Shared→Prop} (hu:A.units + 1 < cLine) (I:Inv X pins σ H s) (g:WN H a y (some v)) (ry:aP y u) (h:∀ w' s',Inv X pins σ H s'→aP v w'→Q w' s') :
   wpAny (model X.prog X.w) A (getItem (.ref a) u) Q E s:=by
 rcases g with ⟨kvs,k,e,ey,l⟩ | ⟨kvs,k,b,e,ey,eb,l⟩
 · subst ey;obtain ⟨z,hd,vs,rel,dd⟩:=aBz I.hok e;obtain ⟨w',hw,rw'⟩:=oX.some_of (v:=v) (o:=valueAt vs k) (by rw [l]; exact rel.val k);exact wpAny_getItem_of (aBL ry) dd.mapOf hw (h w' _ (I.tok _) rw')
 · subst ey;cases (show u=Value.ref b from ry);obtain ⟨z,hd,xs,rel,dd⟩:=aBY I.hok e;obtain ⟨w',hw,rw'⟩:=oX.some_of (v:=v) (o:=(atKey xs k).map (·.2)) (by rw [l]; exact rel.val k);obtain ⟨p,hp,hp2⟩:=Option.map_eq_some_iff.mp hw;refine wpAny_getItem_heap (tupleKind_room_in1 hu) (TB I.hok eb) dd hp ?_;rw [hp2];exact h w' _ (I.tok _) rw'
end
section
variable {X:Cx} {pins:List (Addr×Obj)} {σ:St} {H:Hp} {s:Shared} {a:Addr} {kvs:List (Key×V)} {k:Key} {u:Value} {A:Around} {E:Value→Shared→Prop}
end
theorem BG {X:Cx} {pins:List (Addr×Obj)} {σ:St} {H:Hp} {s:Shared} {a:Addr} {y:V} {o:Option V} (I:Inv X pins σ H s) (g:WN H a y o):s.TypeIs (.ref a) "dict":=by
 rcases g with ⟨kvs,k,e,_,_⟩ | ⟨kvs,k,b,e,_,_,_⟩
 · obtain ⟨_,_,vs,_,dd⟩:=aBz I.hok e;exact dd.typeIs
 · obtain ⟨_,_,xs,_,dd⟩:=aBY I.hok e;exact dd.typeIs
section
variable {X:Cx} {o i e value:Expr} {pos pos' tpos:Pos} {td ty tv:TE}
end
section
variable {X:Cx} {pos:Pos}
end
def aJT:R2:=fun x y H Q=>∃ a v,x= .ref a∧WN H a y (some v)∧Q v H
theorem YL {X:Cx} {k:Nat} (hr:bE k X.A):IxR X aJT:=by
 rintro value slice pins s σ H x y v u Q I rx ry ⟨a,z,ex,g,q⟩ hs;subst ex;cases rx;exact tail_any (BG I g) slot_dict_getitem.lookup (LJ (by have:=hr.units; omega) I g ry fun w' s' I' r'=>⟨z,H,I',r',q⟩) hs
end L2
namespace LE
open PySem PySem.W PySem.Calls PyProof.Rows Builtin
section
variable {prog:Program} {w:World} {A:Around} {E:Value→Shared→Prop} {s:Shared} {K:Frag} {x C L f:Addr} {h₀:Heap} {m:Str→Option Value} {ox:Obj} {od:Option Obj} {b tb:Value}
theorem NV {M:Model} {T id:String} {name:Str} {args:List Value} {Q:Option Value→Shared→Prop} (X:K.In s.heap) (I:InstAt s.heap x ox C od) (hs:findIn K (.ref C) name=some (some (.builtin id))) (S:Slot T name id)
   (h:wpAny M A (call (.builtin id) (.ref x :: args)) (fun v=>Q (some v)) E s):wpAny M A (callSpecialIfBound? (.ref x) name args) Q E s:=by
 simp only [callSpecialIfBound?,bindSpecialIfBound?];refine wpAny_holding (wAq (wAq (wAq (I.type.here ((looks_findIn X hs).here ?_)))));simp only [S.bind];refine wAq (wpAny_askSetting (wpAny_ite ?_));have fin:wpAny M A (call (.builtin id) ([.ref x] ++ args) >>= fun v=>pure (some v)) Q E s:=wAq (wpAny_mono h (fun v s' h'=>wBq h') fun _ _ h'=>h');split
 · exact wAq (wBq (wBq fin))
 · exact wpAny_tryCatch (wAq (wBq (wBq fin)))
theorem QJ {M:Model} {Q:Unit→Shared→Prop} (X:K.In s.heap) (I:InstAt s.heap x ox C od) (hob:subIn K (.ref C) (.type "object")=some true) (hq:Q () s) :
   wpAny M A (checkBuiltinCall "object.__ne__" ⟨[.ref x,b],[]⟩) Q E s:=by
 have ha:=PySem.F.cmpArgs_ne (.ref x) b;simp only [checkBuiltinCall,PySem.F.cmpKind_ne,PySem.F.cmpSplit_ne];refine wAq ?_;unfold isInstance;refine wAq (I.type.here ((looks_subIn X hob).here ?_));simp only [Bool.not_true,Bool.false_eq_true,if_false];cases hsig:Manifest.signature? "object.__ne__" with
 | none=>exact wBq hq
 | some sig =>
   simp only [argsOk,hsig] at ha;have h2:Bind.checkArgs "object.__ne__" sig ⟨[.ref x,b],[]⟩=pure ():=ha;show wpAny M A (Bind.checkArgs "object.__ne__" sig ⟨[.ref x,b],[]⟩) Q E _;rw [h2]; exact wBq hq
theorem aJq {Q:Value→Shared→Prop} (hu:A.units + 1 < cLine) (X:K.In s.heap) (I:InstAt s.heap x ox C od) (hb:Looks (model prog w) s.heap (typeOf b) tb) (hn:notFirst K C tb=true) (hne:findIn K (.ref C) "__ne__"=some (some (.builtin "object.__ne__")))
   (hob:subIn K (.ref C) (.type "object")=some true) (hs:findIn K (.ref C) "__eq__"=some (some (.ref f))) (hf:isFn K (.ref f)=true)
   (h:wpAny (model prog w) A.in1 (call (.ref f) [.ref x,b]) (fun v s'=>∃ r,v= .bool r∧Q (.bool (!r)) s') E s):wpAny (model prog w) A (richCompare .NotEq (.ref x) b) Q E s:=by
 have one:wpAny (model prog w) A (tryCompare (.ref x) (cmpInfo .NotEq).2.1 b) (fun r s'=>∃ v,r=some v∧Q v s') E s:=by
   unfold tryCompare;refine wAq (NV (T:="object") X I hne PySem.F.cmp_object.ne ?_);refine wpAny_call (codeAny_call_builtin PySem.F.cmp_object.ne.plain PySem.F.cmpEntry_ne (QJ X I hob ?_));unfold Builtin.«object.__ne__»;refine wAq (m:=slotArgs "__ne__" 1 _) (wBq ?_);refine wAq (wpAny_cRoomFor (by show A.units + 1 < cLine; exact hu) ?_);refine wAq (ifBound_K X I hs hf (wpAny_mono h (fun v s' hv=>?_) fun _ _ e=>e));obtain ⟨r,rfl,q⟩:=hv;refine wAq (wpAny_truthy_bool ?_);refine wBq ?_;exact wBq ⟨_,rfl,q⟩
 unfold richCompare;simp only [oneThing_ref];refine wpAny_holding (wAq (wpAny_cRoomFor (by omega) ?_));refine wAq (I.type.here (wAq (hb.here ?_)));split
 · rename_i q;have e:subIn K tb (.ref C)=some false:=by
     rcases Bool.or_eq_true_iff.mp hn with e | e
     · rw [beq_iff_eq.mp e] at q; simp at q
     · exact beq_iff_eq.mp e
   refine wAq ((looks_subIn X e).here ?_);simp only [Bool.false_eq_true,if_false];refine wAq (wpAny_mono one (fun r s' z=>?_) fun _ _ e=>e);obtain ⟨v,rfl,hq⟩:=z;exact wBq hq
 · refine wAq (wBq ?_);simp only [Bool.false_eq_true,if_false];refine wAq (wpAny_mono one (fun r s' z=>?_) fun _ _ e=>e);obtain ⟨v,rfl,hq⟩:=z;exact wBq hq
end
end LE
namespace L2
open PySem PySem.Spec PyProof.Rows
section
variable {X:Cx}
structure NeC (K:W.Frag) (C:Addr):Prop where
 ne:W.findIn K (.ref C) "__ne__"=some (some (.builtin "object.__ne__"))
 ob:W.subIn K (.ref C) (.type "object")=some true
 bo:W.findIn K (.ref C) "__bool__"=some none
def aII (C:Addr) (sp:Sp):R2:=fun x y H Q=>∃ p dx fs p' dx' fs',x= .ref p∧y= .ref p'∧H p=some (.ins C dx fs)∧H p'=some (.ins C dx' fs')∧sp [.ref p,.ref p'] H (fun v H'=>∃ b,v= .bl b∧Q (.bl (!b)) H') E0
theorem aCE {k:Nat} {f C:Addr} {fd:FuncData} {sp:Sp} (N:NeC X.K C) (M:iN X.K C "__eq__" f) (F:bP X.prog X.w X.K X.mg X.base CX0 k f fd ["self","other"] sp) (hr:bE (k + 1) X.A) (hb:aG X.K fd ["self","other"] []) :
   OpR X (compareOp .NotEq) (aII C sp):=by
 rintro pins s σ H x y v u Q I rx ry ⟨p,dx,fs,p',dx',fs',e1,e2,ea,eb,q⟩;subst e1 e2;cases rx;cases ry;obtain ⟨od,J⟩:=lI I ea;obtain ⟨od',J'⟩:=lI I eb;refine W.cmp_ofNotEq (LE.aJq (by have:=hr.units; omega) I.kIn J J'.type (by unfold W.notFirst; simp) N.ne N.ob M.at_ M.fn
   (thn (tT (dvs:=[]) (ds:=[]) (vs:=[.ref p,.ref p']) F hr.in1 I.env0.in1 hb .nil xB I (.cons rfl (.cons rfl .nil)) q) fun v s' ⟨x,H',I',rx,b,e,q'⟩=>?_))
 subst e;cases rx;exact ⟨b,rfl,.bl (!b),H',I',rfl,q'⟩
end
end L2
namespace LE
open PySem PyProof.Rows
open AutoSeq1 (wpAny_loadPart')
open MeetsSeq MeetsSeq2 MeetsSeq3 SeqRoads2 SeqAt
end LE
namespace HT
open PySem PySem.Spec PyProof.Rows
section
variable {prog:Program} {w:World} {A:Around} {E:Value→Shared→Prop} {s:Shared}
end
end HT
namespace L2
open PySem PySem.Spec PyProof.Rows
section
variable {X:Cx} {pins:List (Addr×Obj)} {σ:St} {H:Hp} {s:Shared} {a:Addr} {xs:List V}
end
section
variable {X:Cx} {o e:Expr} {to te:TE} {pos apos:Pos}
end
section
variable {X:Cx} {a:Addr} {es:Array DictEntry} {n:Nat}
end
section
variable {X:Cx} {pos:Pos}
end
end L2
namespace HT
open PySem PySem.Spec PyProof PyProof.Rows
section
variable {prog:Program} {w:World} {A:Around} {E:Value→Shared→Prop} {s:Shared}
theorem lV {t sl:Addr} {items:Array Value} {vl vu:Value} {lo hi:Option Int} {Q:Value→Shared→Prop} (ht:IsTup s.heap t items) (hs:s.heap.IsSliceOf sl vl vu .none) (pl:IsPart vl lo) (pu:IsPart vu hi)
   (hw:sIx items.size 0 lo=0∧sIx items.size items.size hi=items.size)
   (h:Q (.ref t) s):wpAny (model prog w) A (getItem (.ref t) (.ref sl)) Q E s:=by
 obtain ⟨os,hos,hcs,hds⟩:=id hs;have hTs:s.TypeIs (.ref sl) "slice":=⟨os,hos,hcs⟩;unfold getItem
 try with_reducible refine wpAny_holding ?_
 first | refine wAq (wBq ?_) | skip
 refine wAq (wpAny_sequenceKey ht.typeIs (by decide) ?_);refine wAq (wpAny_callSpecial?_slot (name:=Str.ofString "__getitem__") ht.typeIs PyProof.Rows.slot_tuple_getitem
   (wpAny_call_entry PyProof.Rows.slot_tuple_getitem ht.typeIs entry_tuple_getitem ?_ (args_tuple_getitem _ _)))
 show wpAny _ _ (Builtin.Tuple.tupleItemsOf (.ref t) >>= _) _ _ s;refine wAq (tupleItemsOf_ ht ?_);refine wAq (wpAny_typeOf hTs ?_);rw [if_pos (by decide)];refine wAq (iH hs pl pu ?_);have hno:(((sIx items.size 0 lo:Nat):Int) == 0 && (1:Int) == 1 && (sIx items.size items.size hi - sIx items.size 0 lo) == items.size)=true:=by
   rw [hw.1,hw.2]; simp
 show wpAny _ _ (if (((sIx items.size 0 lo:Nat):Int) == 0 && (1:Int) == 1 && (sIx items.size items.size hi - sIx items.size 0 lo) == items.size)=true then _ else _) _ _ s;rw [if_pos hno];unfold Builtin.Tuple.tupleIsExact;refine wAq (wAq (wpAny_typeOf ht.typeIs (wBq ?_)));rw [if_pos (by decide)];refine wAq (wpAny_rule ?_);first
   | exact wAq (wBq ⟨_,rfl,wBq h⟩)
   | exact wAq (wBq (wBq ⟨_,rfl,wBq h⟩))
   | exact wBq ⟨_,rfl,wBq h⟩
end
end HT
namespace L2
open PySem PySem.Spec PyProof.Rows
section
variable {X:Cx}
noncomputable def aJt (K:W.Frag):V→Option Int→Option Int→Hp→VK→Prop:=fun x lo hi H Q=>∃ a xs,x= .ref a∧SqT K H a xs∧
 (HT.sIx xs.length 0 lo=0∧HT.sIx xs.length xs.length hi=xs.length)∧Q (.ref a) H
theorem YZ:SlR X (aJt X.K):=by
 intro pins s σ H x v vl vu lo hi sl Q I rx hs pl pu h;obtain ⟨a,xs,rfl,hx,hw,q⟩:=h;cases rx;obtain ⟨its,r,ht,hz⟩:=I.tuple hx;have hlen:its.toArray.size=xs.length:=by rw [wIq]; exact r.length.symm
 refine ⟨"tuple",_,PyProof.Rows.slot_tuple_getitem.lookup,ht.typeIs, ?_⟩;exact HT.lV ht hs pl pu (by rw [hlen]; exact hw) ⟨.ref a,_,I,rfl,q⟩
end
end L2
namespace LR
open PySem PySem.W PyProof PyProof.Rows
section
variable {prog:Program} {w:World} {A:Around} {E:Value→Shared→Prop} {s:Shared} {K:Frag} {x C L f:Addr} {h₀:Heap} {m:Str→Option Value} {ox:Obj} {od:Option Obj} {a:Value}
open PySem.AutoSeq1 (wpAny_loadPart') in
theorem YF {C dx:Addr} {sl:Array (Option Value)} {i:Int} {u:Tok} {Q':Value→Shared→Prop} (ho:s.heap.get? x=some { cls:=.ref C,dict:=some dx,data:=.plain,slots:=sl }) (q:Q' .notImplemented s) :
   wpAny (model prog w) A (call (.builtin "int.__eq__") [.int i u,.ref x]) Q' E s:=by
 refine wpAny_call_entry PySem.F.slot_int_eq (s:=s) rfl PySem.F.entry_int_eq ?_ (PySem.F.args_int_eq_2 _ _);obtain ⟨hp,g,d,tk,os⟩:=s
 wp_walk using wpAny_loadPart' ho
 exact ⟨_,rfl,q⟩
open PySem.AutoSeq1 (wpAny_loadPart') in
theorem aHj {C dx:Addr} {sl:Array (Option Value)} {b:Bool} {Q':Value→Shared→Prop} (ho:s.heap.get? x=some { cls:=.ref C,dict:=some dx,data:=.plain,slots:=sl }) (q:Q' .notImplemented s) :
   wpAny (model prog w) A (call (.builtin "int.__eq__") [.bool b,.ref x]) Q' E s:=by
 refine wpAny_call_entry PySem.F.slot_bool_eq (s:=s) rfl PySem.F.entry_int_eq ?_ (PySem.F.args_int_eq_2 _ _);obtain ⟨hp,g,d,tk,os⟩:=s
 wp_walk using wpAny_loadPart' ho
 exact ⟨_,rfl,q⟩
open PySem.AutoSeq1 (wpAny_loadPart') in
theorem aAW {C dx:Addr} {sl:Array (Option Value)} {z:Str} {u:Tok} {Q':Value→Shared→Prop} (ho:s.heap.get? x=some { cls:=.ref C,dict:=some dx,data:=.plain,slots:=sl }) (q:Q' .notImplemented s) :
   wpAny (model prog w) A (call (.builtin "str.__eq__") [.str z u,.ref x]) Q' E s:=by
 refine wpAny_call_entry PySem.F.slot_str_eq (s:=s) rfl PySem.F.entry_str_eq ?_ (PySem.F.args_str_eq_2 _ _);obtain ⟨hp,g,d,tk,os⟩:=s
 wp_walk using wpAny_loadPart' ho
 exact ⟨_,rfl,q⟩
variable {y D:Addr} {oy:Obj} {oyd:Option Obj}
end
end LR
namespace L2
open PySem PySem.Spec PyProof.Rows
section
variable {X:Cx}
noncomputable def aHf:List String:=["NoneType","bool","int","str","list","tuple","dict"]
structure EqL (K:W.Frag) (C:Addr):Prop where
 nt:∀ T∈aHf,W.subIn K (.ref C) (.type T)=some false
 tn:∀ T∈aHf,W.subIn K (.type T) (.ref C)=some false
structure EqD (K:W.Frag) (C D:Addr):Prop where
 ne:D≠C
 eq:W.findIn K (.ref D) "__eq__"=some (some (.builtin "object.__eq__"))
 ob:W.subIn K (.ref D) (.type "object")=some true
 cd:W.subIn K (.ref C) (.ref D)=some false
 dc:W.subIn K (.ref D) (.ref C)=some false
inductive BuV (K:W.Frag) (H:Hp):V→Prop
 | non:BuV K H .non
 | bl (b:Bool):BuV K H (.bl b)
 | int (i:Int):BuV K H (.int i)
 | str (z:Str):BuV K H (.str z)
 | tup {a:Addr} {xs:List V}:SqT K H a xs→BuV K H (.ref a)
 | lst {a:Addr} {xs:List V}:SqL K H a xs→BuV K H (.ref a)
 | dK {a:Addr} {kvs:List (Key×V)}:H a=some (.dK kvs)→BuV K H (.ref a)
end
end L2
namespace LR
open PySem PyProof.Rows
open AutoSeq1 (wpAny_loadPart')
open MeetsSeq MeetsSeq2 MeetsSeq3 SeqRoads2
end LR
namespace L2
open PySem PySem.Spec PyProof.Rows
section
variable {X:Cx}
inductive ItV (K:W.Frag) (C:Addr) (H:Hp):V→Bool→Prop
 | bu {y:V}:BuV K H y→ItV K C H y false
 | own {p dx:Addr} {fs:List (Str×V)}:H p=some (.ins C dx fs)→ItV K C H (.ref p) true
 | oth {p D dx:Addr} {fs:List (Str×V)}:H p=some (.ins D dx fs)→EqD K C D→ItV K C H (.ref p) false
end
end L2
namespace LR
open PySem PyProof.Rows
open AutoSeq1 (wpAny_loadPart')
open MeetsSeq MeetsSeq2 MeetsSeq3 SeqRoads2
end LR
namespace L2
open PySem PySem.Spec PyProof.Rows
section
variable {X:Cx}
noncomputable def inT (K:W.Frag) (C:Addr) (sp:Sp) (p:Addr) (Q:Bool→Hp→Prop):List V→Hp→Prop
 | [],H=>Q false H
 | y :: r,H=>(∃ dx fs,H p=some (.ins C dx fs))∧((y= .ref p∧Q true H)∨(∃ o,(o=true→y≠.ref p)∧ItV K C H y o∧
     sp (if o=true then [y,.ref p] else [.ref p,y]) H (fun v H'=>∃ b,v= .bl b∧if b=true then Q true H' else inT K C sp p Q r H') E0))
end
end L2
namespace L2
open PySem PySem.Spec
open PyProof.Rows hiding St
noncomputable def jF (h:Heap) (lo:Nat) (H:Hp) (e:Addr) (C:Value) (d:Option Addr):Prop :=
 lo ≤e∧H e=none∧∃ oe vs,h.get? e=some oe∧oe.cls=C∧oe.dict=d∧oe.data= .fields vs∧1 < vs.size∧
   ∃ T oT ts fl,vs[1]? =some (.ref T)∧lo≤T∧H T=none∧T≠e∧h.get? T=some oT∧oT.data= .fields ts∧ts[3]? =some fl
noncomputable def aJw (h:Heap) (lo:Nat) (H:Hp) (e:Addr) (C:Value) (d:Option Addr):Prop :=
 lo≤e∧H e=none∧∃ oe vs,h.get? e=some oe∧oe.cls=C∧oe.dict=d∧oe.data= .fields vs∧1 < vs.size∧vs[1]? =some .none
def uH (h:Heap) (lo:Nat) (H:Hp) (e:Addr) (C:Value) (d:Option Addr):Prop:=aJw h lo H e C d∨jF h lo H e C d
structure Way (fs ch:List Addr) (h h':Heap):Prop where
 keep:∀ b o,b∉ fs→b∉ ch→h.get? b=some o→h'.get? b=some o
 slot:∀ b o,b∈fs→h.get? b=some o→∃ sl,h'.get? b=some { o with slots:=sl }
 there:∀ b o,h.get? b=some o→∃ o',h'.get? b=some o'
theorem Way.refl {fs:List Addr} {h:Heap}:Way fs [] h h:=⟨fun _ _ _ _ e=>e,fun _ o _ e=>⟨o.slots,e⟩,fun _ o e=>⟨o,e⟩⟩
def uN (h:Heap) (lo:Nat) (H:Hp) (ch:List Addr):Prop:= ∀ b∈ch,lo≤b∧H b=none∧∃ o vs,h.get? b=some o∧o.data= .fields vs
theorem uN.nil {h:Heap} {lo:Nat} {H:Hp}:uN h lo H []:=fun _ z=>nomatch z
section
variable {M:Model} {A:Around} {E:Value→Shared→Prop} {s:Shared} {base:Heap} {env:Env} {outer:List Env} {L e:Addr} {C:Value} {d:Option Addr} {lo:Nat} {H:Hp}
theorem IO {oe:Obj} {vs:Array Value} {head:Value} {hadNext:Bool} {Q:Unit→Shared→Prop}
   (hfr:A.frames=some (env :: outer)) (hl:s.heap.FunFrames base (env :: outer)) (hf:env.frame=some L) (hlo:lo≤s.heap.objs.size) (hH:∀ b,s.heap.objs.size≤b→H b=none)
   (le:lo≤e) (he0:H e=none) (he:s.heap.get? e=some oe) (hc:oe.cls=C) (hdd:oe.dict=d) (hd:oe.data= .fields vs) (hsz:1 < vs.size)
   (h:∀ h',Way (frs (env :: outer)) [e] s.heap h'→jF h' lo H e C d→Q () { s with heap:=h' }) :
   wpAny M A (do let a ←frameOf env; let pl ←entryPlaceOf L hadNext; let b ←EntryCells.newEntry head a .none (rawInt L) .none pl; setField (.ref e) 1 b) Q E s:=by
 have hene:e∉ (env :: outer).filterMap (·.frame):=fun hm=>by
   obtain ⟨_,o,ho,hnf⟩:=hl.mem hm;rw [he] at ho; injection ho with ho; subst ho; exact hnf vs hd
 refine wAq (wpAny_frameOf_fun hfr hl hf fun h₁ hs₁=>?_);refine wAq (wpAny_entryPlaceOf fun pl hpl=>?_);unfold EntryCells.newEntry newFields;refine wAq (wpAny_newObj_type ?_ (hpl.sizeOk5 _ _ _ _ _));have he₁:h₁.get? e=some oe:=(hs₁.2.1 e hene).trans he;have he₂:=wEq (h:=h₁) { cls:=.type "traceback",dict:=none,data:=.fields ([head,.ref L,.none,rawInt L,.none] ++ (if pl.isEmpty then List.replicate 6 Value.none else pl)).toArray } he₁;refine wpAny_setField he₂ hd hsz (h _ ?_ ?_)
 · have keep:∀ b o,b≠e→h₁.get? b=some o→
     ((h₁.push { cls:=.type "traceback",dict:=none,data:=.fields ([head,.ref L,.none,rawInt L,.none] ++ (if pl.isEmpty then List.replicate 6 Value.none else pl)).toArray }).update e (Obj.mapFields (·.setIfInBounds 1 (Value.ref h₁.objs.size)))).get? b=some o :=
     fun b o hbe hb=>by
       rw [Heap.get?_update_other _ _ (Ne.symm hbe)];exact wEq _ hb
   have hd₃:=Obj.data_mapFields hd (·.setIfInBounds 1 (Value.ref h₁.objs.size));have he₃:=Heap.get?_update_self (Obj.mapFields (·.setIfInBounds 1 (Value.ref h₁.objs.size))) he₂ (Obj.isFreed_of_fields hd₃);refine ⟨fun b o hb hc ho=>keep b o (fun z=>hc (by simp [z])) ((hs₁.2.1 b hb).trans ho),fun b o hb ho=>?_,fun b o ho=>?_⟩
   · obtain ⟨sl,hs⟩:=hs₁.2.2 b o ho;exact ⟨sl,keep b _ (fun z=>hene (z▸hb)) hs⟩
   · by_cases z:b=e
     · subst z; exact ⟨_,he₃⟩
     · obtain ⟨sl,hs⟩:=hs₁.2.2 b o ho;exact ⟨_,keep b _ z hs⟩
 · have hTe:h₁.objs.size≠e:=Nat.ne_of_gt (Heap.lt_size he₁);have hd₃:=Obj.data_mapFields hd (·.setIfInBounds 1 (Value.ref h₁.objs.size));have he₃:=Heap.get?_update_self (Obj.mapFields (·.setIfInBounds 1 (Value.ref h₁.objs.size))) he₂ (Obj.isFreed_of_fields hd₃);have hT₃:=(Heap.get?_update_other (h₁.push { cls:=.type "traceback",dict:=none,data:=.fields ([head,.ref L,.none,rawInt L,.none] ++ (if pl.isEmpty then List.replicate 6 Value.none else pl)).toArray })
     (Obj.mapFields (·.setIfInBounds 1 (Value.ref h₁.objs.size))) (Ne.symm hTe)).trans (wGq h₁ rfl)
   have hz:s.heap.objs.size=h₁.objs.size:=by first | exact hs₁.1.symm | exact hs₁.1
   refine ⟨le,he0,_,_,he₃,(Obj.cls_mapFields _ _).trans hc, ?_,hd₃,by simpa using hsz,h₁.objs.size,_,_,rawInt L,by simp [hsz],by omega,hH _ (by omega),hTe,hT₃,rfl,by first | (simp; done) | (rcases hpl with rfl | ⟨_,_,_,_,_,_,_,rfl⟩ <;> simp)⟩;rw [←hdd];unfold Obj.mapFields;split <;> rfl
theorem SL {fo:Option Addr} {Q:Unit→Shared→Prop} (hl:s.heap.FunFrames base (env :: outer)) (x:uH s.heap lo H e C d)
   (h:∀ h' ch,uN s.heap lo H ch→Way (frs (env :: outer)) ch s.heap h'→uH h' lo H e C d→(jF s.heap lo H e C d→jF h' lo H e C d)→Q () { s with heap:=h' }):wpAny M A (setFlight (.ref e) fo) Q E s:=by
 rcases x with x | x
 · have x0:=x;obtain ⟨le,he0,oe,vs,he,hc,hdd,hd,hsz,h1⟩:=x;unfold setFlight;refine wAq (wpAny_field he hd h1 ?_);rw [if_neg (by decide)];exact wBq (h s.heap [] uN.nil Way.refl (.inl x0) fun z=>z)
 · obtain ⟨le,he0,oe,vs,he,hc,hdd,hd,hsz,T,oT,ts,fl,h1,lT,hT0,hTe,hT,hdT,h3⟩:=x;have hsz3:3 < ts.size:=(Array.getElem?_eq_some_iff.mp h3).1;have nf:T∉ frs (env :: outer):=fun hm=>by
     obtain ⟨_,o,ho,hnf⟩:=hl.mem hm;rw [hT] at ho; injection ho with ho; subst ho; exact hnf ts hdT
   unfold setFlight;refine wAq (wpAny_field he hd h1 ?_);rw [if_pos (show (Value.ref T != Value.none)=true from by simp)];have hd₃:=Obj.data_mapFields hdT (·.setIfInBounds 3 (fo.elim .none fun f=>rawInt f));have hT₃:=Heap.get?_update_self (Obj.mapFields (·.setIfInBounds 3 (fo.elim .none fun f=>rawInt f))) hT (Obj.isFreed_of_fields hd₃);have other:∀ b,b≠T→(s.heap.update T (Obj.mapFields (·.setIfInBounds 3 (fo.elim .none fun f=>rawInt f)))).get? b=s.heap.get? b:=fun b hb=>Heap.get?_update_other _ _ (Ne.symm hb);have xt:jF (s.heap.update T (Obj.mapFields (·.setIfInBounds 3 (fo.elim .none fun f=>rawInt f)))) lo H e C d :=
     ⟨le,he0,oe,vs,(other e (Ne.symm hTe)).trans he,hc,hdd,hd,hsz,T,_,_,_,h1,lT,hT0,hTe,hT₃,hd₃,by simp [hsz3]; rfl⟩
   refine wpAny_setField hT hdT hsz3 (h _ [T] (fun b hb=>?_) ⟨fun b o hb hc ho=>?_,fun b o hb ho=>?_,fun b o ho=>?_⟩ (.inr xt) fun _=>xt)
   · have e:b=T:=by simpa using hb
     subst e; exact ⟨lT,hT0,oT,ts,hT,hdT⟩
   · exact (other b fun z=>hc (by simp [z])).trans ho
   · exact ⟨o.slots,(other b fun z=>nf (z▸hb)).trans ho⟩
   · by_cases z:b=T
     · subst z; exact ⟨_,hT₃⟩
     · exact ⟨o,(other b z).trans ho⟩
theorem Way.trans {fs c1 c2:List Addr} {h1 h2 h3:Heap} (a:Way fs c1 h1 h2) (b:Way fs c2 h2 h3):Way fs (c1 ++ c2) h1 h3:=by
 refine ⟨fun x o hf hc ho=>b.keep x o hf (fun z=>hc (List.mem_append_right _ z)) (a.keep x o hf (fun z=>hc (List.mem_append_left _ z)) ho),fun x o hf ho=>?_,fun x o ho=>?_⟩
 · obtain ⟨sl,e⟩:=a.slot x o hf ho;obtain ⟨sl',e'⟩:=b.slot x _ hf e;exact ⟨sl',e'⟩
 · obtain ⟨o',e⟩:=a.there x o ho;exact b.there x o' e
theorem aER {Q:Unit→Shared→Prop} (hfr:A.frames=some (env :: outer)) (hl:s.heap.FunFrames base (env :: outer)) (hf:env.frame=some L) (hlo:lo≤s.heap.objs.size) (hH:∀ b,s.heap.objs.size≤b→H b=none) (x:uH s.heap lo H e C d)
   (h:∀ h' ch,uN s.heap lo H ch→Way (frs (env :: outer)) ch s.heap h'→jF h' lo H e C d→Q () { s with heap:=h' }):wpAny M A (noteFrame (.ref e) env) Q E s:=by
 rcases x with x | x
 · obtain ⟨le,he0,oe,vs,he,hc,hdd,hd,hsz,h1⟩:=x;unfold noteFrame;simp only [hf];refine wAq (wpAny_field he hd h1 ?_);rw [if_neg (by decide)];refine IO hfr hl hf hlo hH le he0 he hc hdd hd hsz fun h' w x'=>h h' [e] (fun b hb=>?_) w x';have e':b=e:=by simpa using hb
   subst e'; exact ⟨le,he0,oe,vs,he,hd⟩
 · have x0:=x;obtain ⟨le,he0,oe,vs,he,hc,hdd,hd,hsz,T,oT,ts,fl,h1,lT,hT0,hTe,hT,hdT,h3⟩:=x;have hsz3:3 < ts.size:=(Array.getElem?_eq_some_iff.mp h3).1;have nf:T∉ frs (env :: outer):=fun hm=>by
     obtain ⟨_,o,ho,hnf⟩:=hl.mem hm;rw [hT] at ho; injection ho with ho; subst ho; exact hnf ts hdT
   unfold noteFrame;simp only [hf];refine wAq (wpAny_field he hd h1 ?_);rw [if_pos (show (Value.ref T != Value.none)=true from by simp)];refine wAq (wpAny_field hT hdT h3 ?_);by_cases hfl:(fl == rawInt L)=true
   · rw [if_pos hfl];exact wBq (h s.heap [] uN.nil Way.refl x0)
   · rw [if_neg hfl];have hd₃:=Obj.data_mapFields hdT (·.setIfInBounds 3 Value.none);have hT₃:=Heap.get?_update_self (Obj.mapFields (·.setIfInBounds 3 Value.none)) hT (Obj.isFreed_of_fields hd₃);have other:∀ b,b≠T→(s.heap.update T (Obj.mapFields (·.setIfInBounds 3 Value.none))).get? b=s.heap.get? b:=fun b hb=>Heap.get?_update_other _ _ (Ne.symm hb);have w1:Way (frs (env :: outer)) [T] s.heap (s.heap.update T (Obj.mapFields (·.setIfInBounds 3 Value.none))):=by
       refine ⟨fun b o hb hc ho=>(other b fun z=>hc (by simp [z])).trans ho,fun b o hb ho=>⟨o.slots,(other b fun z=>nf (z▸hb)).trans ho⟩,fun b o ho=>?_⟩;by_cases z:b=T
       · subst z; exact ⟨_,hT₃⟩
       · exact ⟨o,(other b z).trans ho⟩
     have hzz:(s.heap.update T (Obj.mapFields (·.setIfInBounds 3 Value.none))).objs.size=s.heap.objs.size:=Heap.size_update ..;refine wAq (wpAny_setField hT hdT hsz3 ?_);refine IO (base:=base) hfr (hl.of_keeps fun b o hb hnf=>⟨o,(other b fun z=>by subst z; rw [hT] at hb; cases hb; exact hnf ts hdT).trans hb,rfl⟩) hf (by rw [hzz]; exact hlo) (fun b hb=>hH b (by rw [hzz] at hb; exact hb)) le he0 ((other e (Ne.symm hTe)).trans he) hc hdd hd hsz fun h' w x'=>h h' ([T] ++ [e]) (fun b hb=>?_) (w1.trans w) x';rcases List.mem_append.mp hb with hb | hb
     · have e':b=T:=by simpa using hb
       subst e'; exact ⟨lT,hT0,oT,ts,hT,hdT⟩
     · have e':b=e:=by simpa using hb
       subst e'; exact ⟨le,he0,oe,vs,he,hd⟩
end
noncomputable def Cx.lo (X:Cx):Nat:=X.pn.foldr (fun p n=>max (p.1 + 1) n) X.s₀.heap.objs.size
theorem HG {X:Cx}:X.s₀.heap.objs.size≤X.lo:=by
 unfold Cx.lo;induction X.pn with
 | nil=>exact Nat.le_refl _
 | cons p r ih=>exact Nat.le_trans ih (Nat.le_max_right _ _)
theorem VS {X:Cx}:∀ p∈X.pn,p.1 < X.lo:=by
 unfold Cx.lo;induction X.pn with
 | nil=>intro p hp; cases hp
 | cons q r ih =>
   intro p hp;rcases List.mem_cons.mp hp with e | hp
   · subst e; exact wFq (Nat.lt_succ_self _) (Nat.le_max_left _ _)
   · exact wFq (ih p hp) (Nat.le_max_right _ _)
section
variable {X:Cx} {pins:List (Addr×Obj)} {σ:St} {H:Hp} {s:Shared}
theorem Inv.lo_le (I:Inv X pins σ H s):X.lo≤s.heap.objs.size:=by
 have h:∀ l:List (Addr×Obj),(∀ p∈l,p.1 < s.heap.objs.size)→l.foldr (fun p n=>max (p.1 + 1) n) X.s₀.heap.objs.size≤s.heap.objs.size:=fun l=>by
   induction l with
   | nil=>intro _; exact I.sz
   | cons p r ih=>intro h; exact Nat.max_le.mpr ⟨h p (wDq ..),ih fun q hq=>h q (wCq _ hq)⟩
 exact h X.pn fun p hp=>Heap.lt_size (I.pin p (List.mem_append_left _ hp)).1
theorem Inv.nopins (I:Inv X pins σ H s):Inv X [] σ H s:=I.pins_of fun _ z=>nomatch z
theorem Inv.way {h':Heap} {ch:List Addr} (I:Inv X [] σ H s) (hc:uN s.heap X.lo H ch) (w:Way (frs X.stack) ch s.heap h'):Inv X [] σ H { s with heap:=h' }:=by
 have nch:∀ b u,H b=some u→b∉ ch:=fun b u e z=>by rw [(hc b z).2.1] at e; cases e
 have nfs:∀ b u,H b=some u→b∉ frs X.stack:=fun b u e z=>by rw [I.stkFree b z] at e; cases e
 refine I.call (g':=s.gens) (t':=s.toks) (d':=s.drawn) (ch:=ch) (H':=H) ⟨fun b o e n hf hx=>w.keep b o hf hx e,fun b o e n hf hx=>w.slot b o hf e,fun _ _ _ n _=>n,fun b o e _=>w.there b o e,fun _ _ e=>e,fun _ _ _ e=>e,fun b ps e=>⟨#[],by rw [e]; simp⟩⟩ (fun b u e=>?_) I.bare fun b hb=>?_
 · refine (I.hok b u e).stay (fun c v hcv q=>?_) (fun _ q=>q) fun _ _ q=>q;rcases hcv with z | z
   · rw [z] at q ⊢; exact w.keep b v (nfs b u e) (nch b u e) q
   · exact w.keep c v (nfs c _ z) (nch c _ z) q
 · obtain ⟨l1,n1,o,vs,ho,hd⟩:=hc b hb;refine ⟨.inr (Nat.le_trans HG l1),fun z=>?_,fun x c e z=>?_,fun p hp z=>?_⟩
   · obtain ⟨m,⟨o',es,ep,ho',hd',_⟩,_⟩:=I.loc;rw [←z,ho] at ho'; cases ho'; rw [hd] at hd'; cases hd'
   · obtain ⟨v,o',ho',hd'⟩:=I.cell x c e;rw [z,ho] at ho'; cases ho'; rw [hd] at hd'; cases hd'
   · have:=VS p (by simpa using hp);rw [z] at this;exact absurd l1 (Nat.not_le.mpr this)
end
noncomputable def CXo (P:Program) (w:World):CXT:=fun outer H s E e s'=>∃ a C d H',e= .ref a∧s'.os=s.os∧AllBare s'.gens∧Un (frs outer) [] H H' s.heap s'.heap∧HOk P w H' s'.heap∧jF s'.heap s.heap.objs.size H' a C d∧E C d H'
noncomputable def xeO (X:Cx) (E:XK):Value→Shared→Prop:=fun e s'=>∃ a C d σ H',e= .ref a∧Inv X [] σ H' s'∧uH s'.heap X.lo H' a C d∧E C d H'
structure Own (X:Cx):Prop where
 st:X.stack=X.env :: X.outer
 fr:X.env.frame=some X.env.locals
theorem jF.mono {h:Heap} {lo lo':Nat} {H:Hp} {e:Addr} {C:Value} {d:Option Addr} (x:jF h lo H e C d) (hl:lo'≤lo):jF h lo' H e C d:=by
 obtain ⟨le,he0,oe,vs,he,hc,hdd,hd,hsz,T,oT,ts,fl,h1,lT,r⟩:=x;exact ⟨Nat.le_trans hl le,he0,oe,vs,he,hc,hdd,hd,hsz,T,oT,ts,fl,h1,Nat.le_trans hl lT,r⟩
section
variable {X:Cx} {E:XK}
theorem SY {a:Addr} {C:Value} {d:Option Addr} {σ:St} {H:Hp} {s:Shared} {M:Model} {E':Value→Shared→Prop} {Q:Unit→Shared→Prop} (ow:Own X) (I:Inv X [] σ H s) (x:uH s.heap X.lo H a C d)
   (h:∀ h',Inv X [] σ H { s with heap:=h' }→jF h' X.lo H a C d→Q () { s with heap:=h' }):wpAny M X.A (noteFrame (.ref a) X.env) Q E' s:=by
 have hl:=I.stack;rw [ow.st] at hl;refine aER (base:=X.base) (outer:=X.outer) (by rw [I.ok.frames,ow.st]) hl ow.fr I.lo_le (fun b hb=>I.hok.fresh hb) x fun h' ch hc w x'=>?_;rw [←ow.st] at w;exact h h' (I.way hc w) x'
theorem tI {a:Addr} {C:Value} {d fo:Option Addr} {σ:St} {H:Hp} {s:Shared} {M:Model} {A:Around} {E':Value→Shared→Prop} {Q:Unit→Shared→Prop} (ow:Own X) (I:Inv X [] σ H s) (x:uH s.heap X.lo H a C d)
   (h:∀ h',Inv X [] σ H { s with heap:=h' }→uH h' X.lo H a C d→(jF s.heap X.lo H a C d→jF h' X.lo H a C d)→Q () { s with heap:=h' }):wpAny M A (setFlight (.ref a) fo) Q E' s:=by
 have hl:=I.stack;rw [ow.st] at hl;refine SL (base:=X.base) (outer:=X.outer) (env:=X.env) hl x fun h' ch hc w x' xt=>?_;rw [←ow.st] at w;exact h h' (I.way hc w) x' xt
theorem HF {h:Heap} {lo:Nat} {H:Hp} {a:Addr} {C:Value} {d:Option Addr} {M:Model} {A:Around} {E':Value→Shared→Prop} {Q:Value→Shared→Prop} {s:Shared} (x:jF s.heap lo H a C d) (h:∀ T,Q (.ref T) s):wpAny M A (field (.ref a) 1) Q E' s:=by
 obtain ⟨le,he0,oe,vs,he,hc,hdd,hd,hsz,T,oT,ts,fl,h1,r⟩:=x;exact wpAny_field he hd h1 (h T)
theorem aG8 {a:Addr} {C:Value} {d:Option Addr} {σ:St} {H:Hp} {s:Shared} (ow:Own X) (I:Inv X [] σ H s) (x:jF s.heap X.lo H a C d) (q:E C d H):cameBackBy (model X.prog X.w) X.A X.env (xeO X E) (.ref a) s:=by
 unfold cameBackBy;refine wAq (HF (h:=s.heap) x fun T=>?_);rw [if_neg (by simp)];exact tI ow I (.inr x) fun h' I' x' _=>⟨a,C,d,σ,H,rfl,I',x',q⟩
theorem aIQ (ow:Own X):PassesOwn (model X.prog X.w) X.A X.env (xeO X E):=by
 rintro e s' ⟨a,C,d,σ,H,rfl,I,x,q⟩;unfold notedBy;exact SY ow I x fun h' I' x'=>aG8 ow I' x' q
end
end L2
namespace LX
open PySem PySem.W PyProof.Rows
open PySem.Builtin PySem.Builtin.ObjectAttr
noncomputable def vE:List Value:=[.type "ValueError",.type "Exception",.type "BaseException",.type "object"]
noncomputable def aE:List Value:=[.type "ArithmeticError",.type "Exception",.type "BaseException",.type "object"]
noncomputable def lE:List Value:=[.type "LookupError",.type "Exception",.type "BaseException",.type "object"]
noncomputable def UP:List Value→Bool
 | .ref _ :: r=>UP r
 | l=>l == vE || l == aE || l == lE
noncomputable def HJ (K:Frag) (C:Addr):Bool:=(clsIn K C).any fun cd=>UP cd.mro
section
variable {prog:Program} {w:World} {A:Around} {E:Value→Shared→Prop} {s:Shared} {K:Frag} {x C:Addr} {name:Str} {v:Value} {R:Result→Shared→Prop}
end
end LX
namespace LX
open PySem PySem.W PyProof.Rows
open PySem.Builtin PySem.Builtin.ObjectAttr
noncomputable abbrev exO (C:Value) (d:Option Addr) (t:Addr):Obj:={ cls:=C,dict:=d,data:=.fields #[.ref t,.none,.none,.none,.bool false,.none] }
section
variable {prog:Program} {w:World} {A:Around} {E:Value→Shared→Prop} {h:Heap} {g:Array GenState} {d:Drawn} {t:Nat} {os:OsState}
variable {nm q:Str} {C N:Addr} {bs bm bmB:List Value} {hdct:Bool} {sn:List Str} {sub:List Value} {ab:Bool} {col:Option Bool} {dd:Option Addr} {k0 k1 k2 k3 k5:Option Value} {B newId initId:String}
noncomputable abbrev mdX (h:Heap) (C:Addr) (bA:List Value):Heap:=(h.push { cls:=.type "tuple",data:=.seq bA.toArray }).push (exO (.ref C) none h.objs.size)
theorem GL (F:ExcBaseFacts B newId initId bmB) (T:OwnTail h bmB bm) {mN:Str→Option Value} {bA:List Value} {fI:Addr} {oI:Obj} {Q:Fin→Shared→Prop}
   (hC:h.get? C=some (excClassObj nm q C N bs bm hdct sn sub ab col dd k0 k1 k2 k3 k5 newId)) (hn:h.Ns N mN) (hi:mN "__init__"=some (.ref fI))
   (hfI:h.get? fI=some oI) (hfc:oI.cls= .type "function")
   (hq:wpAny (model prog w) A (call (.ref fI) (.ref (h.objs.size + 1) :: bA)) (fun r s'=>r= .none∧Q (.done (.ret (.ref (h.objs.size + 1)))) s') E ⟨mdX h C bA,g,d,t,os⟩) (hrest:bA.length≤sizeLine:=by size_fits) :
   wpAny (model prog w) A (Builtin.«type.__call__» ⟨.ref C :: bA,[]⟩) Q E ⟨h,g,d,t,os⟩:=by
 repeat (first | with_reducible refine wpAny_loadPart_at hC ?_ | with_reducible refine wpAny_madeBy_exc hC ?_ | wp_step)
 refine codeAny_call_builtin_code (Code.quiet_builtin _ F.quiet) (wpAny_check_new_subT F T hC ?_);refine codeAny_exc_new_subT F T hC ?_ hrest;show wpAny _ _ _ _ _ _;have hC₁:=wEq { cls:=.ref C,data:=.fields #[.ref h.objs.size,.none,.none,.none,.bool false,.none] }
   (wEq { cls:=.type "tuple",data:=.seq bA.toArray } hC)
 have hfI₁:=wEq { cls:=.ref C,data:=.fields #[.ref h.objs.size,.none,.none,.none,.bool false,.none] }
   (wEq { cls:=.type "tuple",data:=.seq bA.toArray } hfI)
 have hn₁:((h.push { cls:=.type "tuple",data:=.seq bA.toArray }).push { cls:=.ref C,data:=.fields #[.ref h.objs.size,.none,.none,.none,.bool false,.none] }).Ns N mN:=let ⟨o,es,ep,e,r⟩:=hn; ⟨o,es,ep,wEq _ (wEq _ e),r⟩
 have hget:((h.push { cls:=.type "tuple",data:=.seq bA.toArray }).push { cls:=.ref C,data:=.fields #[.ref h.objs.size,.none,.none,.none,.bool false,.none] }).get? (h.objs.size + 1)=some { cls:=.ref C,data:=.fields #[.ref h.objs.size,.none,.none,.none,.bool false,.none] }:=by heap_get
 have hcC:(Value.ref C :: bm).contains (.ref C)=true:=by simp
 have T₁:=T.keeps (h':=((h.push { cls:=.type "tuple",data:=.seq bA.toArray }).push { cls:=.ref C,data:=.fields #[.ref h.objs.size,.none,.none,.none,.bool false,.none] })) fun b o e=>wEq _ (wEq _ e);unfold isInstance
 repeat (first | with_reducible refine wpAny_loadPart_at hget ?_ | (with_reducible refine wpAny_isSubtype_exc hC₁ ?_; rw [hcC]) | wp_step)
 show wpAny _ _ (typeLookup (.ref C) _) _ _ _;refine wpAny_typeLookup_tail hC₁ hn₁ T₁ F.mroIs F.init.lookup ?_;rw [hi];refine wpAny_holding (wAq ?_);unfold bindSpecial;refine wAq (wpAny_typeOf (T:="function") ⟨_,hfI₁,hfc⟩ ?_);rw [if_pos (by decide)];refine wBq (wAq (wpAny_mono hq (fun r s' hr=>?_) fun _ _ x=>x));obtain ⟨rfl,hQ⟩:=hr
 wp_walk
 exact hQ
theorem MS (F:ExcBaseFacts B newId initId bmB) (T:OwnTail h bmB bm) {mN:Str→Option Value} {bA:List Value} {fI:Addr} {oI:Obj} {Q:Value→Shared→Prop}
   (hC:h.get? C=some (excClassObj nm q C N bs bm hdct sn sub ab col dd k0 k1 k2 k3 k5 newId)) (hn:h.Ns N mN) (hi:mN "__init__"=some (.ref fI))
   (hfI:h.get? fI=some oI) (hfc:oI.cls= .type "function")
   (hq:wpAny (model prog w) (A.under (.builtin "type.__call__" ⟨.ref C :: bA,[]⟩)) (call (.ref fI) (.ref (h.objs.size + 1) :: bA)) (fun r s'=>r= .none∧Q (.ref (h.objs.size + 1)) s') E ⟨mdX h C bA,g,d,t,os⟩) (hrest:bA.length≤sizeLine:=by size_fits) :
   wpAny (model prog w) A (call (.ref C) bA) Q E ⟨h,g,d,t,os⟩:=by
 have f1:=tc_lookup;have f2:=tc_bind (.ref C);have hT:(⟨h,g,d,t,os⟩:Shared).TypeIs (.ref C) "type":=⟨_,hC,rfl⟩;refine wpAny_call (codeAny_of_tree ?_);show wpAny _ _ (callAny (.ref C) _) _ _ _
 repeat (any_goals (first | assumption | with_reducible refine wpAny_loadPart_at hC ?_ | wp_step))
 refine ⟨rfl, ?_⟩;refine codeAny_call_builtin_at (Code.quiet_builtin _ (by decide +kernel)) entry_typeCall (wpAny_check_type_call_sub hC (GL (hrest:=hrest) F T hC hn hi hfI hfc hq))
theorem aAV {s:Shared} {x:Sem Value} {env:Env} {Q:Flow→Shared→Prop} (hbase:bm.contains (.type "BaseException")=true) (hh:A.handled=none)
   (hx:wpAny (model prog w) A x (fun v s₁=>∃ e tt dx,v= .ref e∧s₁.heap.get? C=some (excClassObj nm q C N bs bm hdct sn sub ab col dd k0 k1 k2 k3 k5 newId)∧
     s₁.heap.get? e=some (exO (.ref C) dx tt)∧E (.ref e) s₁) E s) :
   wpAny (model prog w) A (raiseStmt env (some x) none) Q E s:=by
 have hcB:(Value.ref C :: bm).contains (.type "BaseException")=true:=by rw [List.contains_cons,hbase,Bool.or_true]
 unfold raiseStmt;refine wAq (wpAny_mono hx (fun v s₁ h₁=>?_) fun _ _ x=>x);obtain ⟨e,t,dx,rfl,hC,he,hE⟩:=h₁;obtain ⟨hp,g,d,tk,os⟩:=s₁;have he:hp.get? e=some { cls:=.ref C,dict:=dx,data:=.fields #[.ref t,.none,.none,.none,.bool false,.none] }:=he
 repeat (first | with_reducible refine wpAny_loadPart_at he ?_ | with_reducible refine wpAny_loadPart_at hC ?_ | (with_reducible refine wpAny_isSubtype_exc hC ?_; rw [hcB]) | wp_step)
 exact wpAny_raiseNew_none hh hE
end
end LX
namespace LX
open PySem PySem.W PyProof.Rows
theorem EW {K:Frag} {h:Heap} {N:Addr} {mg:Str→Option Value} {n:Str} {v:Value} (X:K.In h) (G:h.Ns N mg) (e:nsIn K N n=some (some v)):mg n=some v:=by
 obtain ⟨o,es,ep,ho,hd,_,hf⟩:=G;unfold nsIn at e;split at e
 · rename_i c d es' n' sl q;have:=X _ _ q;rw [ho] at this;cases this;cases hd;split at e
   · rename_i he;rw [←hf];unfold nsFind findBy;rw [←Array.find?_toList,he];exact Option.some.inj e
   · split at e
     · cases e
     · cases e
 · cases e
theorem aGg {K:Frag} {h:Heap} {N:Addr} {n:Str} {iv:Option Value} (X:K.In h) (e:nsOkIn K N=true) (q:nsIn K N n=some iv):h.nsMap N n=iv:=by
 cases iv with
 | none=>exact nsMap_none_of_in X e q
 | some v=>exact EW X (.of_isNs (isNs_of_in X e)) q
noncomputable def GR (K:Frag) (C:Addr) (bmB:List Value) (newId:String) (iv:Option Value):Bool:=match K.lookup C with
 | some ⟨.type "type",_,.cls cd,sl⟩=>(match cd.mro,sl.toList with
   | .ref C' :: bm,[_,_,_,_,some (.builtin n),_]=>C' == C && n == newId && !cd.hasDel && tailIn K bmB bm && nsOkIn K cd.ns && nsIn K cd.ns "__init__" == some iv
   | _,_=>false)
 | _=>false
structure Shp (K:Frag) (C:Addr) (bmB:List Value) (newId:String) (iv:Option Value) (bm:List Value) (N:Addr) (nm qn:Str) (bs:List Value) (hd:Bool) (sn:List Str) (sub:List Value) (ab:Bool) (col:Option Bool) (dd:Option Addr) (k0 k1 k2 k3 k5:Option Value):Prop where
 lk:K.lookup C=some (excClassObj nm qn C N bs bm hd sn sub ab col dd k0 k1 k2 k3 k5 newId)
 ok:nsOkIn K N=true
 ini:nsIn K N "__init__"=some iv
 tl:tailIn K bmB bm=true
theorem RN {K:Frag} {C:Addr} {bmB:List Value} {newId:String} {iv:Option Value} (q:GR K C bmB newId iv=true) :
   ∃ bm N nm qn bs hd sn sub ab col dd k0 k1 k2 k3 k5,Shp K C bmB newId iv bm N nm qn bs hd sn sub ab col dd k0 k1 k2 k3 k5:=by
 unfold GR at q;split at q
 · rename_i dd cd sl ho;split at q
   · rename_i C' bm k0 k1 k2 k3 n k5 hm hs;simp only [Bool.and_eq_true,beq_iff_eq,Bool.not_eq_true'] at q;obtain ⟨⟨⟨⟨⟨rfl,rfl⟩,hdel⟩,ht⟩,hok⟩,hni⟩:=q;obtain ⟨nm,bs,mro,ns,qn,hd,sn,sub,ab,col,del⟩:=cd;dsimp only at hm hdel hok hni;subst hm hdel;have hsl:sl= #[k0,k1,k2,k3,some (.builtin n),k5]:=by
       obtain ⟨l⟩:=sl;simp only at hs;rw [hs]
     subst hsl;exact ⟨bm,ns,nm,qn,bs,hd,sn,sub,ab,col,dd,k0,k1,k2,k3,k5,ho,hok,hni,ht⟩
   · cases q
 · cases q
end LX
namespace L2
open PySem PySem.Spec
open PyProof.Rows hiding St
noncomputable def XN (e C:Addr):Heap→Prop:=fun h=>∃ t,h.get? e=some (LX.exO (.ref C) none t)
noncomputable def XD (e C d:Addr):Heap→Prop:=fun h=>∃ t,h.get? e=some (LX.exO (.ref C) (some d) t)
section
variable {P:Program} {w:World} {H:Hp} {h:Heap} {e C d:Addr}
theorem XN.ok (x:XN e C h):bY P w H h e (.ext (XN e C)):=⟨x,let ⟨t,q⟩:=x; ⟨_,q⟩,by rintro h1 h2 ⟨t,q⟩ k;exact ⟨t,k _ q⟩⟩
end
noncomputable def del (H:Hp) (a:Addr):Hp:=fun b=>if b=a then none else H b
theorem AH {H:Hp} {a b:Addr} (h:b≠a):del H a b=H b:=if_neg h
theorem uQ {H:Hp} {a:Addr}:del H a a=none:=if_pos rfl
section
variable {X:Cx} {pins:List (Addr×Obj)} {σ:St} {H:Hp} {s:Shared}
theorem Inv.untrack {e:Addr} {φ:Heap→Prop} (I:Inv X pins σ H s) (he:H e=some (.ext φ)):Inv X pins σ (del H e) s:=by
 have no:∀ b,H b=none→del H e b=none:=fun b n=>by
   by_cases z:b=e
   · subst z; exact uQ
   · rw [AH z]; exact n
 have ke:∀ b u,H b=some u→u≠.ext φ→del H e b=some u:=fun b u q nu=>by
   rw [AH (aFj q he nu)]; exact q
 refine ⟨I.ok,I.os,I.bare,⟨I.base.keep,I.base.slot,fun b o q n hx=>no b (I.base.free b o q n hx),I.base.there,fun b xs q=>ke _ _ (I.base.tups b xs q) (by intro z; cases z),fun b o u q=>ke _ _ (I.base.frzs b o u q) (by intro z; cases z),fun b ps q=>?_⟩,I.loc,I.cell,no _ I.free,fun x c q=>no _ (I.freeC x c q),fun p hp=>?_,fun b u q=>?_,I.len⟩
 · obtain ⟨m,e1⟩:=I.base.tbls b ps q;exact ⟨m,ke _ _ e1 (by intro z; cases z)⟩
 · obtain ⟨a1,a2,a3⟩:=I.pin p hp;exact ⟨a1,no _ a2,a3⟩
 · have z:b≠e:=fun z=>by subst z; rw [uQ] at q; cases q
   rw [AH z] at q;exact (I.hok b u q).stay (fun _ _ _ r=>r) (fun c r=>ke _ _ r (by intro z; cases z)) fun c xs r=>ke _ _ r (by intro z; cases z)
end
structure XIn (K:W.Frag) (mg:Str→Option Value) (C f:Addr) (Bn fld:Str):Prop where
 ex :∃ B newId initId bmB BC,ExcBaseFacts B newId initId bmB∧LX.GR K C bmB newId (some (.ref f))=true∧mg Bn=some (.ref BC)∧W.readsIn K BC (.type "type")=true∧
   W.findCls K (.ref BC) (.type "type") "__init__"=some (.val (.builtin initId))∧W.handedIn (.builtin initId)=true∧W.specialIn K (.ref BC) "__getattribute__"=some (some (.builtin "type.__getattribute__"))
 sa:W.findIn K (.ref C) "__setattr__"=some (some (.builtin "object.__setattr__"))
 ov:LX.HJ K C=true
 na:W.takerIn K C fld=some none
 hd:W.hasDictIn K C=true
 kp:W.keepIn K (.ref C)=true
 fn:W.isFn K (.ref f)=true
section
variable {X:Cx} {C f:Addr} {Bn fld self arg:Str} {p1 p2 p3 p4 p5 p6:Pos} {j:Nat} {t:Str} {i i2:Nat}
end
noncomputable def spI (C:Addr) (fld:Str):Sp:=fun vs H Q _=>∃ e v,vs=[.ref e,v]∧H e=some (.ext (XN e C))∧∀ d,H d=none→Q .non (upd (upd H e (.ext (XD e C d))) d (.xd [(fld,v)]))
section
variable {X:Cx} {C f:Addr} {Bn fld x:Str} {np cpos pos:Pos} {e:Expr} {te:TE} {k:Nat} {fd:FuncData} {ps:List Str} {EX:XK}
theorem Inv.xmade {pins:List (Addr×Obj)} {σ:St} {H:Hp} {s:Shared} {us:List Value} (I:Inv X pins σ H s):Inv X pins σ (upd H (s.heap.objs.size + 1) (.ext (XN (s.heap.objs.size + 1) C))) { s with heap:=LX.mdX s.heap C us }:=by
 have hx:(LX.mdX s.heap C us).get? (s.heap.objs.size + 1)=some (LX.exO (.ref C) none s.heap.objs.size):=by
   have:=wGq (s.heap.push { cls:=.type "tuple",data:=.seq us.toArray }) (o:=LX.exO (.ref C) none s.heap.objs.size) rfl
   rwa [Heap.size_push] at this
 exact I.laid (a:=s.heap.objs.size + 1) (o:=.ext (XN (s.heap.objs.size + 1) C)) (t':=s.toks) (fun b u q=>wEq _ (wEq _ q)) (Nat.le_succ _) (XN.ok ⟨_,hx⟩)
theorem LI (D:XIn X.K X.mg C f Bn fld) (hg:Gl X x) (hm:X.mg x=some (.ref C)) (hdb:(x == ("__debug__":Str))=false) (F:bP X.prog X.w X.K X.mg X.base CX0 k f fd ps (spI C fld)) (hh:X.A.handled=none) (hr:bE (k + 1) X.A) (hb:aG X.K fd ps []) (ha:PE X e te)
   (hxe:∀ e s',xeO X EX e s'→X.xe e s') (hst:starEach [e] X.env=(false,eval e X.env) :: starEach [] X.env) :
   PS X (.Raise (some (.Call (.Name x np) [e] [] cpos)) none pos) (fun _ σ H=>te σ H fun v H1=>∀ d,H1 d=none→EX (.ref C) (some d) (upd H1 d (.xd [(fld,v)]))):=by
 intro pins s σ H E I h;obtain ⟨B,newId,initId,bmB,BC,Fb,ini,_⟩:=D.ex;obtain ⟨bm,N,nm,qn,bs,hdc,sn,sub,ab,col,dd,k0,k1,k2,k3,k5,S⟩:=LX.RN ini;have hbase:bm.contains (.type "BaseException")=true:=(W.tail_of_in I.kIn S.tl).hasType Fb.hasBase;have ev : wpAny (model X.prog X.w) X.A (eval (.Call (.Name x np) [e] [] cpos) X.env) (fun v s₁=>∃ e tt dx,v= .ref e∧s₁.heap.get? C=some (excClassObj nm qn C N bs bm hdc sn sub ab col dd k0 k1 k2 k3 k5 newId)∧
     s₁.heap.get? e=some (LX.exO (.ref C) dx tt)∧X.xe (.ref e) s₁) X.xe s:=by
   refine wpAny_Call_Name_kw (fL I hg hm ?_ hdb);refine W.callWith_K (h₀:=X.base) I.ok.mod.kin D.kp (thn (eS ha lB hst cpos pins s σ H (fun vs H1=>match vs with | [v]=>∀ d,H1 d=none→EX (.ref C) (some d) (upd H1 d (.xd [(fld,v)])) | _=>False) I h) fun us s1 ⟨vs,H1,I1,r,q⟩=>⟨I1.kIn, ?_⟩) hst rfl
   match vs,q,r with
   | [v],q,r =>
   obtain ⟨u,rfl,ru⟩:=gG r;have I2:=I1.xmade (C:=C) (us:=[u]);have hl0:=I1.lo_le;have hc0:=I1.kIn _ _ S.lk;have hfc:∃ oI,s1.heap.get? f=some oI∧oI.cls= .type "function":=by
     have hf:=D.fn
     replace hf:((X.K.lookup f).map (·.cls) == some (.type "function"))=true:=hf
     cases lk:X.K.lookup f with
     | none=>rw [lk] at hf; cases hf
     | some o =>
       rw [lk] at hf;exact ⟨o,I1.kIn _ _ lk,by simpa using hf⟩
   obtain ⟨oI,hoI,hfc⟩:=hfc;have fresh1:H1 (s1.heap.objs.size + 1)=none:=I1.hok.fresh (Nat.le_succ _);have run:=F.run (X.A.under (.builtin "type.__call__" ⟨.ref C :: [u],[]⟩)) X.stack { s1 with heap:=LX.mdX s1.heap C [u] } (upd H1 (s1.heap.objs.size + 1) (.ext (XN (s1.heap.objs.size + 1) C))) ⟨[.ref (s1.heap.objs.size + 1),u],[]⟩ [.ref (s1.heap.objs.size + 1),u] [.ref (s1.heap.objs.size + 1),v]
     (fun r H2=>r= .non∧∃ d,H1 d=none∧d≠s1.heap.objs.size + 1∧H2=upd (upd (upd H1 (s1.heap.objs.size + 1) (.ext (XN (s1.heap.objs.size + 1) C))) (s1.heap.objs.size + 1) (.ext (XD (s1.heap.objs.size + 1) C d))) d (.xd [(fld,v)])) E0 (hr.make C [u] []) (I2.env0.make C [u] [])
   obtain ⟨hp,g,dr,tk,os⟩:=s1;refine LX.MS Fb (W.tail_of_in I1.kIn S.tl) hc0 (.of_isNs (W.isNs_of_in I1.kIn S.ok)) (LX.aGg I1.kIn S.ok S.ini) hoI hfc ?_ (by show 1≤sizeLine; decide);refine wpAny_call (codeAny_mono (run (hb _ [.ref (hp.objs.size + 1),u] I2.kIn ?_) (.cons rfl (.cons ru .nil)) ⟨_,v,rfl,aJ,fun d hd=>⟨rfl,d, ?_⟩⟩) fun r s' hq'=>?_)
   · exact F.len [.ref (hp.objs.size + 1),v] _ (fun _ _=>True) E0 ⟨_,v,rfl,aJ (H:=H1),fun _ _=>trivial⟩
   · have dn:d≠hp.objs.size + 1:=fun z=>by subst z; rw [aJ] at hd; cases hd
     rw [aC dn] at hd;exact ⟨hd,dn,rfl⟩
   · cases r with
     | error e=>exact False.elim hq'
     | ok fl =>
       cases fl with
       | ret u' =>
         obtain ⟨v',H',I3,rv,ev,d,hd,dn,eH⟩:=I2.after hq';subst ev eH;cases rv;refine ⟨rfl, ?_⟩;have hx:upd (upd (upd H1 (hp.objs.size + 1) (.ext (XN (hp.objs.size + 1) C))) (hp.objs.size + 1) (.ext (XD (hp.objs.size + 1) C d))) d (.xd [(fld,v)]) (hp.objs.size + 1)=some (.ext (XD (hp.objs.size + 1) C d)):=by rw [aC (Ne.symm dn),aJ]
         obtain ⟨⟨tt,he⟩,_,_⟩:=I3.hok _ _ hx;have I4:=I3.untrack hx;have eH:del (upd (upd (upd H1 (hp.objs.size + 1) (.ext (XN (hp.objs.size + 1) C))) (hp.objs.size + 1) (.ext (XD (hp.objs.size + 1) C d))) d (.xd [(fld,v)])) (hp.objs.size + 1)=upd H1 d (.xd [(fld,v)]):=by
           funext b
           by_cases z:b=hp.objs.size + 1
           · subst z; rw [uQ,aC (Ne.symm dn)]; exact fresh1.symm
           · rw [AH z];by_cases z2:b=d
             · subst z2; rw [aJ,aJ]
             · rw [aC z2,aC z2,aC z,aC z]
         rw [eH] at I4;refine ⟨_,tt,some d,rfl,I3.kIn _ _ S.lk,he,hxe _ _ ⟨hp.objs.size + 1,.ref C,some d,σ,_,rfl,I4.nopins,.inl ⟨Nat.le_trans hl0 (Nat.le_succ _),by rw [aC (Ne.symm dn)]; exact fresh1,_,_,he,rfl,rfl,rfl,by show 1 < 6; decide,rfl⟩,q d hd⟩⟩
       | next=>exact False.elim hq'
       | brk=>exact False.elim hq'
       | cont=>exact False.elim hq'
 rw [arm_exec_Raise];refine wAq (wpAny_standAt (LX.aAV (C:=C) (nm:=nm) (q:=qn) (N:=N) (bs:=bs) (bm:=bm) (hdct:=hdc) (sn:=sn) (sub:=sub) (ab:=ab) (col:=col) (dd:=dd) (k0:=k0) (k1:=k1) (k2:=k2) (k3:=k3) (k5:=k5) (newId:=newId) hbase hh ?_));refine wAq (wpAny_mono ev (fun v s₃ h₃=>wAq (wpAny_standAt (wBq h₃))) fun _ _ x=>x)
end
noncomputable def Cx.mk2 (X:Cx) (e:Value):Cx:={ X with A:=X.A.mark (some e),calm:=false,xe:=fun _ _=>False }
noncomputable def Cx.pin (X:Cx) (pins:List (Addr×Obj)):Cx:={ X with pn:=X.pn ++ pins }
section
variable {X:Cx} {pins:List (Addr×Obj)} {σ:St} {H:Hp} {s:Shared} {e:Value}
theorem Inv.marked (I:Inv X pins σ H s):Inv (X.mk2 e) pins σ H s :=
 ⟨⟨I.ok.mod,I.ok.kind,I.ok.glob,I.ok.blt,I.ok.above,I.ok.inj,I.ok.has,I.ok.cab,(fun z=>by cases z),I.ok.frames,I.ok.stk,I.ok.exf,I.ok.bs,I.ok.bsz,I.ok.noex,I.ok.exfs,I.ok.funs,I.ok.frf⟩,I.os,I.bare,I.base,I.loc,I.cell,I.free,I.freeC,I.pin,I.hok,I.len⟩
theorem Inv.unmarked (ok:X.Ok) (I:Inv (X.mk2 e) pins σ H s):Inv X pins σ H s:=⟨ok,I.os,I.bare,I.base,I.loc,I.cell,I.free,I.freeC,I.pin,I.hok,I.len⟩
theorem Cx.Ok.pin (ok:X.Ok) (pins:List (Addr×Obj)):(X.pin pins).Ok :=
 ⟨ok.mod,ok.kind,ok.glob,ok.blt,ok.above,ok.inj,ok.has,ok.cab,ok.hd,ok.frames,ok.stk,ok.exf,ok.bs,ok.bsz,ok.noex,ok.exfs,ok.funs,ok.frf⟩
theorem Inv.pinX (I:Inv X pins σ H s):Inv (X.pin pins) [] σ H s :=
 ⟨I.ok.pin pins,I.os,I.bare,I.base,I.loc,I.cell,I.free,I.freeC,(fun p hp=>I.pin p (by
   have hp:p∈(X.pn ++ pins) ++ []:=hp;rw [List.append_nil] at hp; exact hp)),I.hok,I.len⟩
theorem Inv.unpinX (ok:X.Ok) (I:Inv (X.pin pins) [] σ H s):Inv X pins σ H s :=
 ⟨ok,I.os,I.bare,I.base,I.loc,I.cell,I.free,I.freeC,(fun p hp=>I.pin p (by
   show p∈(X.pn ++ pins) ++ [];rw [List.append_nil]; exact hp)),I.hok,I.len⟩
theorem Inv.track {a:Addr} {o:HO} (I:Inv X [] σ H s) (hl:X.lo≤a) (hn:H a=none) (ho:∀ H',bY X.prog X.w H' s.heap a o) (hr:∃ ob vs,s.heap.get? a=some ob∧ob.data= .fields vs):Inv X [] σ (upd H a o) s:=by
 obtain ⟨ob,vs,hob,hd⟩:=hr;have h0:∀ b ob',X.s₀.heap.get? b=some ob'→b≠a:=fun b ob' q=>Nat.ne_of_lt (wFq (Heap.lt_size q) (Nat.le_trans HG hl));have hL:X.env.locals≠a:=fun z=>by
   obtain ⟨m,⟨o',es,ep,ho',hd',_⟩,_⟩:=I.loc;rw [z,hob] at ho'; cases ho'; rw [hd] at hd'; cases hd'
 refine ⟨I.ok,I.os,I.bare,⟨I.base.keep,I.base.slot,fun b ob' q n hx=>?_,I.base.there,fun b xs q=>?_,fun b ob' u q=>?_,fun b ps q=>?_⟩,I.loc,I.cell, ?_,fun x c q=>?_,fun p hp=>?_,fun b u q=>?_,I.len⟩
 · rw [aC (h0 b ob' q)]; exact I.base.free b ob' q n hx
 · have:=I.base.tups b xs q;rw [aC (aH this hn)]; exact this
 · have:=I.base.frzs b ob' u q;rw [aC (aH this hn)]; exact this
 · obtain ⟨m,this⟩:=I.base.tbls b ps q;exact ⟨m,by rw [aC (aH this hn)]; exact this⟩
 · rw [aC hL]; exact I.free
 · have:c≠a:=fun z=>by
     obtain ⟨v,o',ho',hd'⟩:=I.cell x c q;rw [z,hob] at ho'; cases ho'; rw [hd] at hd'; cases hd'
   rw [aC this]; exact I.freeC x c q
 · obtain ⟨a1,a2,a3⟩:=I.pin p hp;have:p.1≠a:=fun z=>by
     have:=VS p (by simpa using hp);rw [z] at this;exact absurd hl (Nat.not_le.mpr this)
   exact ⟨a1,by rw [aC this]; exact a2,a3⟩
 · by_cases z:b=a
   · subst z; rw [aJ] at q; cases q; exact ho _
   · rw [aC z] at q;exact (I.hok b u q).stay (fun _ _ _ r=>r) (fun c r=>by rw [aC (aH r hn)]; exact r) fun c xs r=>by rw [aC (aH r hn)]; exact r
theorem KW {M:Model} {A:Around} {E:Value→Shared→Prop} {i:Nat} {x:Str} {v:V} {Q:Unit→Shared→Prop} (I:Inv X pins σ H s) (hN:X.N.Nodup) (hi:X.N[i]? =some x) (hx:X.env.scope.names.lookup x=some .local) (hv:σ[i]? =some (some v))
   (h:∀ s',Inv X pins (σ.set i none) H s'→Q () s'):wpAny M A (unbindName X.env x) Q E s:=by
 obtain ⟨m,hn,hl⟩:=id I.loc;have hcls:(X.env.scope.kind == .class || (X.env.scope.kind == .module && X.env.locals != X.env.globals))=false:=by rw [I.ok.kind]; rfl
 have cne:=I.cne;obtain ⟨u0,_,lk⟩:=hl i x v hi hv (.inl hx);have hm:m x=some u0:=by
   rcases lk with ⟨_,q⟩ | ⟨k,_⟩
   · exact q
   · have k:X.env.scope.names.lookup x=some .cell∨X.env.scope.names.lookup x=some .free:=k;rw [hx] at k; rcases k with k | k <;> cases k
 refine wpAny_unbindName_local hx hn hm hcls fun h' u hn' hs=>h _ ?_;obtain ⟨oL,_,_,hoL,_⟩:=id hn;refine ⟨I.ok,I.os,I.bare,⟨fun b o e n hb hx=>?_,fun b o e n hb hx=>?_,I.base.free,fun b o e hx=>?_,I.base.tups,I.base.frzs,I.base.tbls⟩,⟨_,hn',fun j y v' e1 e2 e3=>?_⟩,fun y c e=>?_,I.free,I.freeC,fun p hp=>?_,fun b ob e=>?_,by simpa using I.len⟩
 · exact (hs.2 b (Nat.ne_of_lt (wFq (Heap.lt_size e) I.ok.above))).trans (I.base.keep b o e n hb hx)
 · obtain ⟨sl,e1⟩:=I.base.slot b o e n hb hx;exact ⟨sl,(hs.2 b (Nat.ne_of_lt (wFq (Heap.lt_size e) I.ok.above))).trans e1⟩
 · obtain ⟨o',e1⟩:=I.base.there b o e hx;exact ⟨o',(hs.2 b (Nat.ne_of_lt (wFq (Heap.lt_size e) I.ok.above))).trans e1⟩
 · by_cases hj:j=i
   · subst hj;have hlt:j < σ.length:=by rw [I.len]; exact (List.getElem?_eq_some_iff.mp hi).1
     rw [List.getElem?_set_self hlt] at e2;cases e2
   · rw [List.getElem?_set_ne (Ne.symm hj)] at e2;obtain ⟨u',r',q⟩:=hl j y v' e1 e2 e3;refine ⟨u',r', ?_⟩;rcases q with ⟨k,e⟩ | ⟨k,c,e,z⟩
     · refine .inl ⟨k, ?_⟩;have:y≠x:=fun e=>hj (tE hN e1 (e▸hi));simp [this,e]
     · exact .inr ⟨k,c,e,z.sameBut hs (cne y c e)⟩
 · obtain ⟨w',z⟩:=I.cell y c e;exact ⟨w',z.sameBut hs (cne y c e)⟩
 · obtain ⟨e,n,ne,nf,d⟩:=I.pin p hp;exact ⟨(hs.2 p.1 ne).trans e,n,ne,nf,d⟩
 · refine (I.hok b ob e).stay (fun c w' hc q=>(hs.2 c ?_).trans q) (fun _ q=>q) fun _ _ q=>q;intro z;have:H c=none:=by rw [z]; exact I.free
   rcases hc with rfl | hc
   · rw [this] at e; cases e
   · rw [this] at hc; cases hc
end
end L2
namespace LX
open PySem PySem.W PyProof.Rows
noncomputable def aDb (K:Frag) (c:Addr):Bool:=(clsIn K c).isSome
noncomputable def rJ (K:Frag) (c:Addr):Bool:=aDb K c && subIn K (.ref c) (.type "BaseException") == some true
noncomputable def nZ (K:Frag) (Ca:Addr):List Addr→Option Bool
 | []=>some false
 | c :: r=>match subIn K (.ref Ca) (.ref c) with
   | some true=>some true
   | some false=>nZ K Ca r
   | none=>none
section
variable {M:Model} {A:Around} {E:Value→Shared→Prop} {s:Shared} {K:Frag}
theorem OM {h:Heap} {c:Addr} (X:K.In h) (hc:rJ K c=true):Looks M h (isExcClass (.ref c)) true:=by
 obtain ⟨h1,h2⟩:=Bool.and_eq_true_iff.mp hc;obtain ⟨cd,hcd⟩:=Option.isSome_iff_exists.mp h1;have t:Looks M h (isType (.ref c)) true:=by
   unfold clsIn at hcd;split at hcd
   · rename_i o ho;cases hcd;exact (Looks.ld (X _ _ ho)).andThen .now
   · cases hcd
 exact t.andThen (looks_subIn X (beq_iff_eq.mp h2))
theorem SI:∀ {cs:List Addr} {Q:PUnit→Shared→Prop},K.In s.heap→(∀ c∈cs,rJ K c=true)→Q PUnit.unit s→wpAny M A (forIn (cs.map Value.ref) PUnit.unit fun c (__s:PUnit)=>do
     let __do_lift ←isExcClass c
     if (!__do_lift)=true then do
         rule "try.except-non-exception-class"
         raiseErrorWords "TypeError" "catching classes that do not inherit from BaseException is not allowed"
         pure (ForInStep.yield PUnit.unit)
       else pure (ForInStep.yield PUnit.unit)) Q E s
 | [],Q,X,_,q=>wBq q
 | c :: r,Q,X,h,q=>by
   rw [List.map_cons,List.forIn_cons];refine wAq (wAq ((OM X (h c (wDq ..))).here ?_));rw [if_neg (by decide)];exact wBq (SI X (fun c' hc=>h c' (wCq _ hc)) q)
theorem VO {Ca:Addr} {b:Bool}:∀ {cs:List Addr} {Q:Option Bool×Unit→Shared→Prop},K.In s.heap→nZ K Ca cs=some b→Q ((if b=true then some true else none),()) s→wpAny M A (forIn (cs.map Value.ref) ((none,()):Option Bool×Unit) fun c __s=>do
     let __do_lift ←isSubtype (.ref Ca) c
     if __do_lift=true then pure (ForInStep.done (some true,())) else pure (ForInStep.yield (none,()))) Q E s
 | [],Q,X,h,q=>by cases h; exact wBq q
 | c :: r,Q,X,h,q=>by
   unfold nZ at h;rw [List.map_cons,List.forIn_cons];split at h
   · rename_i e;cases h;refine wAq (wAq ((looks_subIn X e).here ?_));rw [if_pos rfl];exact wBq (wBq q)
   · rename_i e;refine wAq (wAq ((looks_subIn X e).here ?_));rw [if_neg (by decide)];exact wBq (VO X h q)
   · cases h
theorem BM {e p Ca:Addr} {cs:List Addr} {b:Bool} {oe:Obj} {Q:Bool→Shared→Prop} (X:K.In s.heap) (hp:IsTup s.heap p (cs.map Value.ref).toArray) (he:s.heap.get? e=some oe) (hc:oe.cls= .ref Ca) (h1:∀ c∈cs,rJ K c=true) (h2:nZ K Ca cs=some b) (q:Q b s) :
   wpAny M A (excMatches (.ref e) (.ref p)) Q E s:=by
 obtain ⟨o,ho,hoc,n,hd⟩:=hp;have ht:Looks M s.heap (typeOf (.ref e)) (.ref Ca):=by
   rw [←hc];exact (Looks.ld he).andThen .now
 unfold excMatches;refine wAq (wpAny_isInstance ⟨o,ho,hoc⟩ isSubtype_tuple_tuple ?_);dsimp only;rw [if_pos rfl];refine wAq (wpAny_seqItems ho hd (wAq (wBq ?_)));dsimp only [Option.getD_some,Option.getD];refine wAq (SI X h1 (wAq (ht.here (wAq (VO X h2 ?_)))));cases b <;> exact wBq q
theorem CC {e c Ca:Addr} {b:Bool} {oe:Obj} {Q:Bool→Shared→Prop} (X:K.In s.heap) (he:s.heap.get? e=some oe) (hc:oe.cls= .ref Ca) (h1:rJ K c=true) (ht0:subIn K (.type "type") (.type "tuple")=some false) (hty:typeIn K (.ref c)=some (.type "type")) (h2:nZ K Ca [c]=some b) (q:Q b s) :
   wpAny M A (excMatches (.ref e) (.ref c)) Q E s:=by
 have ht:Looks M s.heap (typeOf (.ref e)) (.ref Ca):=by
   rw [←hc];exact (Looks.ld he).andThen .now
 have hi:Looks M s.heap (isInstance (.ref c) (.type "tuple")) false:=(looks_typeIn X hty).andThen (looks_subIn X ht0);unfold excMatches;refine wAq (hi.here ?_);dsimp only;rw [if_neg (by decide)];refine wAq (wBq ?_);refine wAq (SI (cs:=[c]) X (fun c' hc'=>by rw [List.mem_singleton.mp hc']; exact h1) (wAq (ht.here (wAq (VO (cs:=[c]) X h2 ?_)))));cases b <;> exact wBq q
end
end LX
namespace L2
open PySem PySem.Spec
open PyProof.Rows hiding St
noncomputable def XC (a:Addr) (C:Value) (d:Option Addr):Heap→Prop:=fun h=>∃ oe vs,h.get? a=some oe∧oe.cls=C∧oe.dict=d∧oe.data= .fields vs
theorem XC.ok {P:Program} {w:World} {H:Hp} {h:Heap} {a:Addr} {C:Value} {d:Option Addr} (x:XC a C d h):bY P w H h a (.ext (XC a C d)):=⟨x,let ⟨o,_,q,_⟩:=x; ⟨o,q⟩,by rintro h1 h2 ⟨o,vs,q,r⟩ k;exact ⟨o,vs,k _ q,r⟩⟩
noncomputable def aGf (D:uT) (j:Nat):uT:=⟨fun σ H=>D.nx (σ.set j none) H,D.rt,fun σ H=>D.bk (σ.set j none) H,fun σ H=>D.ct (σ.set j none) H⟩
theorem BR:∀ {l:List Addr} {us:List Value},aM (l.map V.ref) us→us=l.map Value.ref
 | [],_,r=>by cases r; rfl
 | a :: l,_,r=>by
   cases r with
   | cons r1 r2=>cases r1; rw [BR r2]; rfl
theorem FG {env:Env} {q:Str×Pos×Addr} {l:List (Str×Pos×Addr)}:starEach (.Name q.1 q.2.1 :: l.map fun q=>Expr.Name q.1 q.2.1) env=(false,eval (.Name q.1 q.2.1) env) :: starEach (l.map fun q=>Expr.Name q.1 q.2.1) env:=rfl
theorem BN {X:Cx}:∀ {l:List (Str×Pos×Addr)},(∀ q∈l,Gl X q.1∧X.mg q.1=some (.ref q.2.2)∧(q.1 == ("__debug__":Str))=false)→PA X (l.map fun q=>Expr.Name q.1 q.2.1) (fun σ H Q=>Q (l.map fun q=>V.ref q.2.2) H)
 | [],_=>lB
 | q :: l,h=>by
   have h1:=h q (wDq ..);exact eS (te:=tC (.ref q.2.2)) (fun pins s σ H Q I hq=>fL I h1.1 h1.2.1 ⟨.ref q.2.2,H,I,rfl,hq⟩ h1.2.2) (BN fun q' hq=>h q' (wCq _ hq)) FG
inductive iY (X:Cx):Expr→List Addr→Prop
 | tup {l:List (Str×Pos×Addr)} {k:Nat} {pos:Pos}:(∀ q∈l,Gl X q.1∧X.mg q.1=some (.ref q.2.2)∧(q.1 == ("__debug__":Str))=false)→l.length≤sizeLine→iY X (.Tuple (l.map fun q=>Expr.Name q.1 q.2.1) k pos) (l.map (·.2.2))
 | one {x:Str} {p:Pos} {c:Addr}:Gl X x→X.mg x=some (.ref c)→(x == ("__debug__":Str))=false→W.typeIn X.K (.ref c)=some (.type "type")→W.subIn X.K (.type "type") (.type "tuple")=some false→iY X (.Name x p) [c]
theorem iY.mk2 {X:Cx} {t:Expr} {cs:List Addr} {e:Value} {pins:List (Addr×Obj)} (c:iY X t cs):iY ((X.pin pins).mk2 e) t cs:=by
 cases c with
 | tup h z=>exact .tup h z
 | one a b c d e=>exact .one a b c d e
theorem LM {X:Cx} {t:Expr} {cs:List Addr} {pins:List (Addr×Obj)} {σ:St} {H:Hp} {s:Shared} {a Ca:Addr} {oe:Obj} {b:Bool} {Q:Bool→Shared→Prop} {E:Value→Shared→Prop} (c:iY X t cs) (I:Inv X pins σ H s) (hx:X.xe=fun _ _=>False) (hp:(a,oe)∈pins) (hc:oe.cls= .ref Ca)
   (h1:∀ c∈cs,LX.rJ X.K c=true) (h2:LX.nZ X.K Ca cs=some b) (q:∀ s',Inv X pins σ H s'→Q b s') :
   wpAny (model X.prog X.w) X.A (eval t X.env) (fun v s₁=>wpAny (model X.prog X.w) X.A (excMatches (.ref a) v) Q E s₁) E s:=by
 have nx:∀ {α:Type} {f:Sem α} {Q1:α→Shared→Prop} {s:Shared},wpAny (model X.prog X.w) X.A f Q1 X.xe s→wpAny (model X.prog X.w) X.A f Q1 E s:=fun {α f Q1 s} h=>wpAny_mono h (fun _ _ z=>z) fun _ _ z=>by rw [hx] at z; exact z.elim
 cases c with
 | @tup l k pos h z =>
   refine wpAny_Tuple_spliced (nx (thn (BN h pos pins s σ H (fun vs H1=>vs=(l.map (·.2.2)).map V.ref∧H1=H) I ⟨by rw [List.map_map]; rfl,rfl⟩) fun us s1 zz=>?_));obtain ⟨vs,H1,I1,r,ev,eH⟩:=zz;subst ev eH;have eu:=BR r;subst eu;refine ⟨by simpa using z, ?_⟩;have I2:=I1.kept (t':=s1.toks) (h':=s1.heap.push { cls:=.type "tuple",data:=.seq ((l.map (·.2.2)).map Value.ref).toArray }) fun b o e=>wEq _ e;exact LX.BM I2.kIn (IsTup.new s1.heap _) (I2.pin _ (List.mem_append_right _ hp)).1 hc h1 h2 (q _ I2)
 | one g m d ty ht =>
   exact fL I g m (LX.CC I.kIn (I.pin _ (List.mem_append_right _ hp)).1 hc (h1 _ (wDq ..)) ht ty h2 (q _ I)) d
theorem jF.pins {X:Cx} {σ:St} {H:Hp} {s:Shared} {a:Addr} {C:Value} {d:Option Addr} (I:Inv X [] σ H s) (x:jF s.heap X.lo H a C d):∃ oe oT T,Inv X [(a,oe),(T,oT)] σ H s∧oe.cls=C∧
   ∀ h',h'.get? a=some oe→h'.get? T=some oT→jF h' X.lo H a C d:=by
 obtain ⟨le,he0,oe,vs,he,hc,hdd,hd,hsz,T,oT,ts,fl,h1,lT,hT0,hTe,hT,hdT,h3⟩:=x;refine ⟨oe,oT,T,I.pins_of fun p hp=>?_,hc,fun h' e1 e2=>⟨le,he0,oe,vs,e1,hc,hdd,hd,hsz,T,oT,ts,fl,h1,lT,hT0,hTe,e2,hdT,h3⟩⟩;have key:∀ b ob ws,s.heap.get? b=some ob→ob.data= .fields ws→H b=none→s.heap.get? b=some ob∧H b=none∧b≠X.env.locals∧b∉ X.fs∧∀ v,ob.data≠.cell v:=fun b ob ws e1 e2 e3=>by
   refine ⟨e1,e3,fun z=>?_,fun z=>?_,fun v z=>by rw [e2] at z; cases z⟩
   · obtain ⟨m,⟨o',es,ep,ho',hd',_⟩,_⟩:=I.loc;rw [←z,e1] at ho'; cases ho'; rw [e2] at hd'; cases hd'
   · obtain ⟨_,o,ho,hnf⟩:=I.funs.mem z;rw [e1] at ho; cases ho; exact hnf ws e2
 rcases List.mem_cons.mp hp with e | hp
 · subst e; exact key a oe vs he hd he0
 · rw [List.mem_singleton.mp hp]; exact key T oT ts hT hdT hT0
theorem aGi {X:Cx} (ow:Own X) {pins:List (Addr×Obj)} {s:Shared} {σ:St} {H:Hp} {D:uT} (I:Inv X pins σ H s) {EX:XK} {tb:TS} {body suite:List Stmt} {b0:Stmt} {t:Expr} {n:Str} {j:Nat} {hpos pos:Pos} {cs:List Addr}
   (nd:X.N.Nodup) (hj:X.N[j]? =some n) (hloc:X.env.scope.names.lookup n=some .local) (cl:iY X t cs) (hcs:∀ c∈cs,LX.rJ X.K c=true)
   (hb:PSs ((X.pin pins).wish (xeO (X.pin pins) EX)) body tb) (h:tb D σ H)
   (hx:∀ C d H1,EX C d H1→∃ Ca,C= .ref Ca∧LX.nZ X.K Ca cs=some true∧∀ a,H1 a=none→∃ th,PSs ((X.pin pins).mk2 (.ref a)) (b0 :: suite) th∧th (aGf D j) ((List.replicate X.N.length none).set j (some (.ref a))) (upd H1 a (.ext (XC a C d)))) :
   wpAny (model X.prog X.w) X.A (exec (.Try body [.ExceptHandler (some t) (some n) (b0 :: suite) hpos] [] [] pos) X.env) (SP X pins D) X.xe s:=by
 have ow':Own (X.pin pins):=⟨ow.st,ow.fr⟩;refine wpAny_Try_except (wpAny_mono (hb [] s σ H D (I.pinX.wish _) h) (fun f s₁ q=>?_) fun e s₁ hxe=>?_)
 · have q:=q.unwish;cases f with
   | next=>obtain ⟨σ',H',J,q⟩:=q; exact wpAny_execs_nil ⟨σ',H',J.unpinX I.ok,q⟩
   | brk=>obtain ⟨σ',H',J,q⟩:=q; exact ⟨σ',H',J.unpinX I.ok,q⟩
   | cont=>obtain ⟨σ',H',J,q⟩:=q; exact ⟨σ',H',J.unpinX I.ok,q⟩
   | ret u=>obtain ⟨v,σ',H',J,r,q⟩:=q; exact ⟨v,σ',H',J.unpinX I.ok,r,q⟩
 · obtain ⟨a,C,d,σ1,H1,rfl,I1,x,q⟩:=hxe;obtain ⟨Ca,rfl,hit,hh⟩:=hx C d H1 q;refine SY (X:=X.pin pins) ow' I1 x fun h2 I2 x2=>?_;refine tI (X:=X.pin pins) ow' I2 (.inr x2) fun h3 I3 _ x3=>?_
   replace x3:=x3 x2
   obtain ⟨oe,oT,T,I4,hcl,back⟩:=x3.pins I3;refine wpAny_handleBy_cons (codeAny_handlers_test ?_) (by intro q; cases q);refine LM (X:=(X.pin pins).mk2 (.ref a)) (a:=a) (Ca:=Ca) (b:=true) cl.mk2 I4.marked rfl (wDq ..) hcl hcs hit fun s5 I5=>?_;have I6:=I5.unmarked (I.ok.pin pins);have x6:jF s5.heap (X.pin pins).lo H1 a (.ref Ca) d:=back _ (I6.pin (a,oe) (List.mem_append_right _ (by simp))).1 (I6.pin (T,oT) (List.mem_append_right _ (by simp))).1;show codeAny _ _ _ _ _;refine codeAny_handlers_suite_as ?_;refine tI (X:=X.pin pins) ow' I6.nopins (.inr x6) fun h7 I7 _ x7=>?_
   replace x7:=x7 x6
   obtain ⟨le,he0,oe7,vs7,he7,hc7,hdd7,hd7,_⟩:=x7;have I8:=I7.track (o:=.ext (XC a (.ref Ca) d)) le he0 (fun _=>XC.ok ⟨oe7,vs7,he7,hc7,hdd7,hd7⟩) ⟨oe7,vs7,he7,hd7⟩;have I9:Inv (X.pin pins) [] (List.replicate X.N.length none) (upd H1 a (.ext (XC a (.ref Ca) d))) _:=I8.weak (by rw [List.length_replicate]; exact I8.len.symm) fun i v e=>by
     rw [List.getElem?_replicate] at e;split at e <;> cases e
   obtain ⟨th,hth,hq⟩:=hh a he0;refine jZ (X:=X.pin pins) I9 nd hj (.inl hloc) (v:=.ref a) rfl (fun s10 I10=>?_) (.inr hloc);refine wpAny_mono (hth [] s10 _ _ _ I10.marked hq) (fun f s11 q11=>?_) fun _ _ z=>z.elim;show wpAny _ _ (do bindName X.env n .none; unbindBehindTheSuite X.env n hpos) _ _ s11;have fin:∀ {σ':St} {H':Hp} {Q:Unit→Shared→Prop},Inv ((X.pin pins).mk2 (.ref a)) [] σ' H' s11→(∀ s',Inv X pins (σ'.set j none) H' s'→Q () s')→wpAny (model X.prog X.w) X.A (do bindName X.env n .none; unbindBehindTheSuite X.env n hpos) Q X.xe s11:=fun {σ' H' Q} J k=>by
     have J1:=(J.unmarked (I.ok.pin pins)).unpinX I.ok;refine wAq (wpAny_bindName (jZ J1 nd hj (.inl hloc) (v:=.non) rfl (fun s12 J2=>?_) (.inr hloc)));unfold unbindBehindTheSuite;refine wpAny_onRaise (KW J2 nd hj hloc (v:=.non) (by
       have hlt:j < σ'.length:=by rw [J.len]; exact (List.getElem?_eq_some_iff.mp hj).1
       rw [List.getElem?_set_self hlt]) fun s13 J3=>?_)
     rw [List.set_set] at J3;exact k s13 J3
   cases f with
   | next=>obtain ⟨σ',H',J,q⟩:=q11; exact fin J fun s' K=>⟨_,H',K,q⟩
   | brk=>obtain ⟨σ',H',J,q⟩:=q11; exact fin J fun s' K=>⟨_,H',K,q⟩
   | cont=>obtain ⟨σ',H',J,q⟩:=q11; exact fin J fun s' K=>⟨_,H',K,q⟩
   | ret u=>obtain ⟨v,σ',H',J,r,q⟩:=q11; exact fin J fun s' K=>⟨v,_,H',K,r,q⟩
end L2
namespace LX
open PySem PySem.W PyProof.Rows
open PySem.Builtin PySem.Builtin.ObjectAttr
section
variable {prog:Program} {w:World} {A:Around} {E:Value→Shared→Prop} {s:Shared} {K:Frag} {x C:Addr}
end
end LX
namespace L2
open PySem PySem.Spec
open PyProof.Rows hiding St
structure XAt (K:W.Frag) (C:Addr):Prop where
 ga:W.findIn K (.ref C) "__getattribute__"=some (some (.builtin "BaseException.__getattribute__"))
 gh:W.findIn K (.ref C) "__getattr__"=some none
 ov:LX.HJ K C=true
 hd:W.hasDictIn K C=true
 ha:W.findIn K (.ref C) "__class__"=some (some (.builtin "object.__class__"))
 hn:W.specialIn K (.builtin "object.__class__") "__get__"=some (some (.builtin "getset_descriptor.__get__"))
 ht:W.takesIn K (.builtin "object.__class__")=some true
 hm:W.mroIn K C (.type "object")=some true
section
variable {X:Cx} {pins:List (Addr×Obj)} {σ:St} {H:Hp} {s:Shared} {a C:Addr} {A:Around} {E:Value→Shared→Prop}
end
end L2
namespace L3
open PySem PySem.Spec
open PyProof.Rows hiding St
open L2
inductive PV where
 | non | bl (b:Bool) | int (i:Int) | str (x:Str) | tup (xs:List PV) | lst (xs:List PV) | scr (ns:List Int)
 | ob (c:String) (ns:List Str) (xs:List PV) | ref (a:Addr) | ty (n:String) | cl (c:String) | fn (f:Str) | emp | dct (ks:List Key) (xs:List PV) | exc (c:String) (ns:List Str) (xs:List PV)
structure Ev where
 K:W.Frag
 cls:String→Addr
 fna:Str→Addr:=fun _=>0
 f0:Hp:=fun _=>none
 z0:Hp:=fun _=>none
mutual
noncomputable def RP (E:Ev) (Z:Hp):PV→V→Prop
 | .non=>fun v=>v= .non
 | .bl b=>fun v=>v= .bl b
 | .int i=>fun v=>v= .int i
 | .str x=>fun v=>v= .str x
 | .ty n=>fun v=>v= .ty n
 | .ref a=>fun v=>v= .ref a
 | .cl c=>fun v=>v= .ref (E.cls c)
 | .fn f=>fun v=>v= .ref (E.fna f)
 | .emp=>fun v=>∃ a,v= .ref a∧Z a=some (.dK [])
 | .scr ns=>fun v=>∃ a,v= .ref a∧SqL E.K Z a (ns.map V.int)
 | .tup xs=>fun v=>∃ a vs,v= .ref a∧SqT E.K Z a vs∧RPs E Z xs vs
 | .lst xs=>fun v=>∃ a vs,v= .ref a∧Z a=some (.lst vs)∧RPs E Z xs vs
 | .dct ks xs=>fun v=>∃ a vs,v= .ref a∧Z a=some (.dK (ks.zip vs))∧ks.length=vs.length∧RPs E Z xs vs
 | .ob c ns xs=>fun v=>∃ a dx vs,v= .ref a∧Z a=some (.ins (E.cls c) dx (ns.zip vs))∧ns.length=vs.length∧RPs E Z xs vs
 | .exc c ns xs=>fun v=>∃ a d vs,v= .ref a∧Z a=some (.ext (XC a (.ref (E.cls c)) d))∧ns.length=vs.length∧(∀ dd,d=some dd→Z dd=some (.xd (ns.zip vs)))∧(d=none→ns=[])∧RPs E Z xs vs
noncomputable def RPs (E:Ev) (Z:Hp):List PV→List V→Prop
 | []=>fun vs=>vs=[]
 | x :: xs=>fun vs=>∃ v r,vs=v :: r∧RP E Z x v∧RPs E Z xs r
end
theorem cU {K:W.Frag} {Z Z':Hp} {a:Addr} {xs:List V} (e:aN Z Z') (h:SqT K Z a xs):SqT K Z' a xs:=by
 rcases h with (h | ⟨o,h⟩) | h
 · exact .inl (.inl (e _ _ h))
 · exact .inl (.inr ⟨o,e _ _ h⟩)
 · exact .inr h
section
variable {E:Ev} {Z Z' Z1 Z2 H H':Hp}
mutual
theorem RP.mono (e:aN Z Z'):∀ {x:PV} {v:V},RP E Z x v→RP E Z' x v
 | .non,_,h=>h
 | .bl _,_,h=>h
 | .int _,_,h=>h
 | .str _,_,h=>h
 | .ty _,_,h=>h
 | .ref _,_,h=>h
 | .cl _,_,h=>h
 | .fn _,_,h=>h
 | .emp,_,⟨a,e1,h⟩=>⟨a,e1,e _ _ h⟩
 | .scr _,_,⟨a,e1,h⟩=>⟨a,e1,e.seq h⟩
 | .tup _,_,⟨a,vs,e1,h,r⟩=>⟨a,vs,e1,cU e h,RPs.mono e r⟩
 | .lst _,_,⟨a,vs,e1,h,r⟩=>⟨a,vs,e1,e _ _ h,RPs.mono e r⟩
 | .dct _ _,_,⟨a,vs,e1,h,l,r⟩=>⟨a,vs,e1,e _ _ h,l,RPs.mono e r⟩
 | .ob _ _ _,_,⟨a,dx,vs,e1,h,l,r⟩=>⟨a,dx,vs,e1,e _ _ h,l,RPs.mono e r⟩
 | .exc _ _ _,_,⟨a,d,vs,e1,h,l,hd,hn,r⟩=>⟨a,d,vs,e1,e _ _ h,l,fun dd q=>e _ _ (hd dd q),hn,RPs.mono e r⟩
theorem RPs.mono (e:aN Z Z'):∀ {xs:List PV} {vs:List V},RPs E Z xs vs→RPs E Z' xs vs
 | [],_,h=>h
 | _ :: _,_,⟨v,r,e1,h,t⟩=>⟨v,r,e1,RP.mono e h,RPs.mono e t⟩
end
theorem RPs.length:∀ {xs:List PV} {vs:List V},RPs E Z xs vs→xs.length=vs.length
 | [],_,h=>by cases h; rfl
 | _ :: _,_,⟨v,r,e1,_,t⟩=>by subst e1; rw [List.length_cons,List.length_cons,RPs.length t]
theorem RPs.get:∀ {xs:List PV} {vs:List V} {i:Nat} {x:PV},RPs E Z xs vs→xs[i]? =some x→∃ v,vs[i]? =some v∧RP E Z x v
 | [],_,_,_,_,e=>by simp at e
 | y :: _,_,0,x,⟨v,r,e1,h,t⟩,e=>by
   subst e1;have:y=x:=by simpa using e
   subst this;exact ⟨v,rfl,h⟩
 | _ :: _,_,i + 1,x,⟨v,r,e1,h,t⟩,e=>by
   subst e1;obtain ⟨u,a,b⟩:=RPs.get (i:=i) t (by simpa using e);exact ⟨u,by simpa using a,b⟩
theorem RPs.append:∀ {xs ys:List PV} {vs us:List V},RPs E Z xs vs→RPs E Z ys us→RPs E Z (xs ++ ys) (vs ++ us)
 | [],_,_,_,h,q=>by cases h; exact q
 | _ :: _,_,_,us,⟨v,r,e1,h,t⟩,q=>by subst e1; exact ⟨v,r ++ us,rfl,h,RPs.append t q⟩
theorem RPs.set {y:PV} {u:V} (q:RP E Z y u):∀ {xs:List PV} {vs:List V} (i:Nat),RPs E Z xs vs→RPs E Z (xs.set i y) (vs.set i u)
 | [],_,_,h=>by cases h; exact rfl
 | _ :: _,_,0,⟨v,r,e1,h,t⟩=>by subst e1; exact ⟨u,r,rfl,q,t⟩
 | _ :: _,_,i + 1,⟨v,r,e1,h,t⟩=>by subst e1; exact ⟨v,r.set i u,rfl,h,RPs.set q i t⟩
theorem RPs.take:∀ {xs:List PV} {vs:List V} (n:Nat),RPs E Z xs vs→RPs E Z (xs.take n) (vs.take n)
 | _,_,0,_=>rfl
 | [],_,_ + 1,h=>by cases h; exact rfl
 | _ :: _,_,n + 1,⟨v,r,e1,h,t⟩=>by subst e1; exact ⟨v,r.take n,rfl,h,RPs.take n t⟩
theorem RPs.drop:∀ {xs:List PV} {vs:List V} (n:Nat),RPs E Z xs vs→RPs E Z (xs.drop n) (vs.drop n)
 | _,_,0,h=>h
 | [],_,_ + 1,h=>by cases h; exact rfl
 | _ :: _,_,n + 1,⟨v,r,e1,h,t⟩=>by subst e1; exact RPs.drop n t
theorem RPs.ofInts:∀ (ns:List Int),RPs E Z (ns.map PV.int) (ns.map V.int)
 | []=>rfl
 | n :: r=>⟨.int n,r.map V.int,rfl,rfl,RPs.ofInts r⟩
end
inductive GO where
 | lst (xs:List PV) | ins (c:String) (ns:List Str) (xs:List PV)
noncomputable abbrev Gh:=Addr→Option GO
noncomputable def gup (G:Gh) (a:Addr) (o:GO):Gh:=fun b=>if b=a then some o else G b
noncomputable def MW (G:Gh) (a:Addr):Gh:=fun b=>if b=a then none else G b
theorem aS {G:Gh} {a:Addr} {o:GO}:gup G a o a=some o:=if_pos rfl
theorem eZ {G:Gh} {a b:Addr} {o:GO} (h:b≠a):gup G a o b=G b:=if_neg h
theorem lK {G:Gh} {a:Addr} {o u:GO}:gup (gup G a o) a u=gup G a u:=by funext b; unfold gup; split <;> rfl
theorem yK {G:Gh} {a b:Addr} (h:b≠a):MW G a b=G b:=if_neg h
theorem NX {G:Gh} {a:Addr}:MW G a a=none:=if_pos rfl
theorem CH {G:Gh} {a:Addr} {o:GO} (h:G a=none):MW (gup G a o) a=G:=by
 funext b; unfold MW gup
 split
 · rename_i e; rw [e]; exact h.symm
 · rfl
noncomputable def RO (E:Ev) (Z:Hp):GO→HO→Prop
 | .lst xs,o=>∃ vs,o= .lst vs∧RPs E Z xs vs
 | .ins c ns xs,o=>∃ dx vs,o= .ins (E.cls c) dx (ns.zip vs)∧ns.length=vs.length∧RPs E Z xs vs
theorem RO.mono {E:Ev} {Z Z':Hp} (e:aN Z Z'):∀ {o:GO} {o':HO},RO E Z o o'→RO E Z' o o'
 | .lst _,_,⟨vs,a,b⟩=>⟨vs,a,b.mono e⟩
 | .ins _ _ _,_,⟨dx,vs,a,l,b⟩=>⟨dx,vs,a,l,b.mono e⟩
structure Sim (E:Ev) (F H Z:Hp) (G:Gh):Prop where
 z:aN Z H
 f:∀ a o,F a=some o→H a=some o∧Z a=none∧G a=none
 g:∀ a o,G a=some o→Z a=none∧∃ o',H a=some o'∧RO E Z o o'
 z0:aN E.z0 Z
 ff:aN E.f0 F
section
variable {E:Ev} {F H Z:Hp} {G G':Gh} {p:Addr} {o:HO} {go:GO}
theorem Sim.zn (S:Sim E F H Z G) (n:H p=none):Z p=none:=by
 cases e:Z p with
 | none=>rfl
 | some u=>rw [S.z _ _ e] at n; cases n
theorem Sim.gn (S:Sim E F H Z G) (n:H p=none):G p=none:=by
 cases e:G p with
 | none=>rfl
 | some u=>obtain ⟨_,o',e',_⟩:=S.g _ _ e; rw [e'] at n; cases n
theorem Sim.fn (S:Sim E F H Z G) (n:H p=none):F p=none:=by
 cases e:F p with
 | none=>rfl
 | some u=>rw [(S.f _ _ e).1] at n; cases n
theorem Sim.fz (S:Sim E F H Z G) (n:H p=none):Sim E F (upd H p o) (upd Z p o) G:=by
 have zn:=S.zn n;have sub:aN Z (upd Z p o):=bB zn o;refine ⟨fun a u q=>?_,fun a u q=>?_,fun a u q=>?_,S.z0.trans sub,S.ff⟩
 · by_cases e:a=p
   · subst e; rw [aJ] at q ⊢; exact q
   · rw [aC e] at q ⊢; exact S.z _ _ q
 · obtain ⟨h1,h2,h3⟩:=S.f a u q;have e:a≠p:=aH h1 n;exact ⟨by rw [aC e]; exact h1,by rw [aC e]; exact h2,h3⟩
 · obtain ⟨a1,o',a2,r⟩:=S.g a u q;have e:a≠p:=aH a2 n;exact ⟨by rw [aC e]; exact a1,o',by rw [aC e]; exact a2,r.mono sub⟩
theorem Sim.new (S:Sim E F H Z G) (n:H p=none) (r:RO E Z go o):Sim E F (upd H p o) Z (gup G p go):=by
 refine ⟨fun a u q=>fN (S.z _ _ q) n,fun a u q=>?_,fun a u q=>?_,S.z0,S.ff⟩
 · obtain ⟨h1,h2,h3⟩:=S.f a u q;have e:a≠p:=aH h1 n;exact ⟨by rw [aC e]; exact h1,h2,by rw [eZ e]; exact h3⟩
 by_cases e:a=p
 · subst e; rw [aS] at q; cases q; exact ⟨S.zn n,o,aJ,r⟩
 · rw [eZ e] at q;obtain ⟨a1,o',a2,r'⟩:=S.g a u q;exact ⟨a1,o',by rw [aC e]; exact a2,r'⟩
theorem Sim.other (S:Sim E F H Z G) (n:H p=none):Sim E F (upd H p o) Z G:=by
 refine ⟨fun a u q=>fN (S.z _ _ q) n,fun a u q=>⟨fN (S.f a u q).1 n,(S.f a u q).2⟩,fun a u q=>?_,S.z0,S.ff⟩;obtain ⟨a1,o',a2,r'⟩:=S.g a u q;exact ⟨a1,o',fN a2 n,r'⟩
theorem Sim.set {u:GO} (S:Sim E F H Z G) (n:G p=some u) (r:RO E Z go o):Sim E F (upd H p o) Z (gup G p go):=by
 obtain ⟨z,_,_,_⟩:=S.g _ _ n;refine ⟨fun a u q=>?_,fun a u' q=>?_,fun a u q=>?_,S.z0,S.ff⟩
 · have e:a≠p:=aH q z;rw [aC e]; exact S.z _ _ q
 · obtain ⟨h1,h2,h3⟩:=S.f a u' q;have e:a≠p:=fun e=>by subst e; rw [n] at h3; cases h3
   exact ⟨by rw [aC e]; exact h1,h2,by rw [eZ e]; exact h3⟩
 · by_cases e:a=p
   · subst e; rw [aS] at q; cases q; exact ⟨z,o,aJ,r⟩
   · rw [eZ e] at q;obtain ⟨a1,o',a2,r'⟩:=S.g a u q;exact ⟨a1,o',by rw [aC e]; exact a2,r'⟩
theorem Sim.frz {u:GO} (S:Sim E F H Z G) (n:G p=some u) (h:H p=some o):Sim E F H (upd Z p o) (MW G p):=by
 obtain ⟨z,_,_,_⟩:=S.g _ _ n;refine ⟨fun a u q=>?_,fun a u' q=>?_,fun a u q=>?_,S.z0.trans (bB z o),S.ff⟩
 · by_cases e:a=p
   · subst e; rw [aJ] at q; rw [←q]; exact h
   · rw [aC e] at q; exact S.z _ _ q
 · obtain ⟨h1,h2,h3⟩:=S.f a u' q;have e:a≠p:=fun e=>by subst e; rw [n] at h3; cases h3
   exact ⟨h1,by rw [aC e]; exact h2,by rw [yK e]; exact h3⟩
 · by_cases e:a=p
   · subst e; rw [NX] at q; cases q
   · rw [yK e] at q;obtain ⟨a1,o',a2,r'⟩:=S.g a u q;exact ⟨by rw [aC e]; exact a1,o',a2,r'.mono (bB z o)⟩
theorem Sim.weak (S:Sim E F H Z G) (h:∀ a o,G' a=some o→G a=some o):Sim E F H Z G':=⟨S.z,fun a o q=>⟨(S.f a o q).1,(S.f a o q).2.1,by
 cases e:G' a with
 | none=>rfl
 | some u=>exact absurd (h _ _ e) (by rw [(S.f a o q).2.2]; intro z; cases z)⟩,fun a o q=>S.g a o (h a o q),S.z0,S.ff⟩
theorem Sim.mine (S:Sim E F H Z G) (n:H p=none):Sim E (upd F p o) (upd H p o) Z G:=by
 refine ⟨fun a u q=>fN (S.z _ _ q) n,fun a u q=>?_,fun a u q=>?_,S.z0,S.ff.trans (bB (S.fn n) o)⟩
 · by_cases e:a=p
   · subst e; rw [aJ] at q ⊢; exact ⟨q,S.zn n,S.gn n⟩
   · rw [aC e] at q ⊢; exact S.f a u q
 · obtain ⟨a1,o',a2,r'⟩:=S.g a u q;exact ⟨a1,o',fN a2 n,r'⟩
theorem Sim.f0n (S:Sim E F H Z G) (n:H p=none):E.f0 p=none:=by
 cases e:E.f0 p with
 | none=>rfl
 | some u=>exact absurd (S.ff _ _ e) (by rw [S.fn n]; intro z; cases z)
theorem RD {F':Hp} (h:aN E.f0 (upd F p o)) (n:E.f0 p=none):aN E.f0 F:=fun a u q=>by
 have e:a≠p:=aH q n;have:=h a u q
 rwa [aC e] at this
theorem Sim.turn {u:HO} (S:Sim E (upd F p u) H Z G) (nf:E.f0 p=none):Sim E (upd F p o) (upd H p o) Z G:=by
 obtain ⟨h1,h2,h3⟩:=S.f p u aJ;refine ⟨fun a v q=>?_,fun a v q=>?_,fun a v q=>?_,S.z0,fun a v q=>by
   have e:a≠p:=aH q nf;have:=S.ff a v q;rw [aC e] at this ⊢; exact this⟩
 · have e:a≠p:=aH q h2;rw [aC e]; exact S.z _ _ q
 · by_cases e:a=p
   · subst e; rw [aJ] at q ⊢; exact ⟨q,h2,h3⟩
   · rw [aC e] at q ⊢;exact S.f a v (by rw [aC e]; exact q)
 · obtain ⟨a1,o',a2,r'⟩:=S.g a v q;have e:a≠p:=fun e=>by subst e; rw [h3] at q; cases q
   exact ⟨a1,o',by rw [aC e]; exact a2,r'⟩
theorem Sim.mineZ (S:Sim E (upd F p o) H Z G) (n:F p=none) (nf:E.f0 p=none):Sim E F H (upd Z p o) G:=by
 obtain ⟨h1,h2,h3⟩:=S.f p o aJ;have sub:aN Z (upd Z p o):=bB h2 o;refine ⟨fun a v q=>?_,fun a v q=>?_,fun a v q=>?_,S.z0.trans sub,RD (F':=F) S.ff nf⟩
 · by_cases e:a=p
   · subst e; rw [aJ] at q; rw [←q]; exact h1
   · rw [aC e] at q; exact S.z _ _ q
 · have e:a≠p:=aH q n;obtain ⟨b1,b2,b3⟩:=S.f a v (by rw [aC e]; exact q);exact ⟨b1,by rw [aC e]; exact b2,b3⟩
 · obtain ⟨a1,o',a2,r'⟩:=S.g a v q;have e:a≠p:=fun e=>by subst e; rw [h3] at q; cases q
   exact ⟨by rw [aC e]; exact a1,o',a2,r'.mono sub⟩
theorem Sim.mineG (S:Sim E (upd F p o) H Z G) (n:F p=none) (nf:E.f0 p=none) (r:RO E Z go o):Sim E F H Z (gup G p go):=by
 obtain ⟨h1,h2,h3⟩:=S.f p o aJ;refine ⟨S.z,fun a v q=>?_,fun a v q=>?_,S.z0,RD (F':=F) S.ff nf⟩
 · have e:a≠p:=aH q n;obtain ⟨b1,b2,b3⟩:=S.f a v (by rw [aC e]; exact q);exact ⟨b1,b2,by rw [eZ e]; exact b3⟩
 · by_cases e:a=p
   · subst e; rw [aS] at q; cases q; exact ⟨h2,o,h1,r⟩
   · rw [eZ e] at q; exact S.g a v q
theorem Sim.weakF (S:Sim E F H Z G):Sim E E.f0 H Z G:=⟨S.z,fun a o q=>S.f a o (S.ff a o q),S.g,S.z0,aN.refl _⟩
end
noncomputable abbrev Ev.at (E:Ev) (f z:Hp):Ev:={ E with f0:=f,z0:=z }
section
variable {E:Ev} {f z Z:Hp}
mutual
theorem RP.at:∀ {x:PV} {v:V},RP E Z x v→RP (E.at f z) Z x v
 | .non,_,h=>h
 | .bl _,_,h=>h
 | .int _,_,h=>h
 | .str _,_,h=>h
 | .ty _,_,h=>h
 | .ref _,_,h=>h
 | .cl _,_,h=>h
 | .fn _,_,h=>h
 | .emp,_,h=>h
 | .scr _,_,h=>h
 | .tup _,_,⟨a,vs,e1,h,r⟩=>⟨a,vs,e1,h,RPs.at r⟩
 | .lst _,_,⟨a,vs,e1,h,r⟩=>⟨a,vs,e1,h,RPs.at r⟩
 | .dct _ _,_,⟨a,vs,e1,h,l,r⟩=>⟨a,vs,e1,h,l,RPs.at r⟩
 | .ob _ _ _,_,⟨a,dx,vs,e1,h,l,r⟩=>⟨a,dx,vs,e1,h,l,RPs.at r⟩
 | .exc _ _ _,_,⟨a,d,vs,e1,h,l,hd,hn,r⟩=>⟨a,d,vs,e1,h,l,hd,hn,RPs.at r⟩
theorem RPs.at:∀ {xs:List PV} {vs:List V},RPs E Z xs vs→RPs (E.at f z) Z xs vs
 | [],_,h=>h
 | _ :: _,_,⟨v,r,e1,h,t⟩=>⟨v,r,e1,RP.at h,RPs.at t⟩
end
mutual
theorem RP.un:∀ {x:PV} {v:V},RP (E.at f z) Z x v→RP E Z x v
 | .non,_,h=>h
 | .bl _,_,h=>h
 | .int _,_,h=>h
 | .str _,_,h=>h
 | .ty _,_,h=>h
 | .ref _,_,h=>h
 | .cl _,_,h=>h
 | .fn _,_,h=>h
 | .emp,_,h=>h
 | .scr _,_,h=>h
 | .tup _,_,⟨a,vs,e1,h,r⟩=>⟨a,vs,e1,h,RPs.un r⟩
 | .lst _,_,⟨a,vs,e1,h,r⟩=>⟨a,vs,e1,h,RPs.un r⟩
 | .dct _ _,_,⟨a,vs,e1,h,l,r⟩=>⟨a,vs,e1,h,l,RPs.un r⟩
 | .ob _ _ _,_,⟨a,dx,vs,e1,h,l,r⟩=>⟨a,dx,vs,e1,h,l,RPs.un r⟩
 | .exc _ _ _,_,⟨a,d,vs,e1,h,l,hd,hn,r⟩=>⟨a,d,vs,e1,h,l,hd,hn,RPs.un r⟩
theorem RPs.un:∀ {xs:List PV} {vs:List V},RPs (E.at f z) Z xs vs→RPs E Z xs vs
 | [],_,h=>h
 | _ :: _,_,⟨v,r,e1,h,t⟩=>⟨v,r,e1,RP.un h,RPs.un t⟩
end
theorem RO.at:∀ {o:GO} {o':HO},RO E Z o o'→RO (E.at f z) Z o o'
 | .lst _,_,⟨vs,a,b⟩=>⟨vs,a,b.at⟩
 | .ins _ _ _,_,⟨dx,vs,a,l,b⟩=>⟨dx,vs,a,l,b.at⟩
theorem RO.un:∀ {o:GO} {o':HO},RO (E.at f z) Z o o'→RO E Z o o'
 | .lst _,_,⟨vs,a,b⟩=>⟨vs,a,b.un⟩
 | .ins _ _ _,_,⟨dx,vs,a,l,b⟩=>⟨dx,vs,a,l,b.un⟩
variable {F H:Hp} {G:Gh}
theorem Sim.at (S:Sim E F H Z G):Sim (E.at F Z) F H Z G:=⟨S.z,S.f,fun a o q=>let ⟨h1,o',h2,r⟩:=S.g a o q; ⟨h1,o',h2,r.at⟩,aN.refl _,aN.refl _⟩
theorem Sim.un {F1 H1 Z1:Hp} {G1:Gh} (S:Sim E F H Z G) (S1:Sim (E.at F Z) F H1 Z1 G1):Sim E F H1 Z1 G1:=⟨S1.z,S1.f,fun a o q=>let ⟨h1,o',h2,r⟩:=S1.g a o q; ⟨h1,o',h2,r.un⟩,S.z0.trans S1.z0,S.ff⟩
end
noncomputable abbrev PX:=String→List Str→List PV→Gh→Prop
noncomputable def WkX (x:PX):PX:=fun c ns xs G=>∃ G2:Gh,(∀ a o,G2 a=some o→G a=some o)∧x c ns xs G2
def KX (E:Ev) (F Z:Hp) (x:PX) (EX:XK):Prop:= ∀ c ns xs d vs Z1 G1 H1,aN Z Z1→Sim E F H1 Z1 G1→ns.length=vs.length→RPs E Z1 xs vs→(∀ dd,d=some dd→Z1 dd=some (.xd (ns.zip vs)))→(d=none→ns=[])→x c ns xs G1→EX (.ref (E.cls c)) d H1
noncomputable abbrev PSt:=List (Option PV)
noncomputable def RSl (E:Ev) (Z:Hp):Option PV→Option V→Prop
 | none,_=>True
 | some x,o=>∃ v,o=some v∧RP E Z x v
inductive RSt (E:Ev) (Z:Hp):PSt→St→Prop
 | nil:RSt E Z [] []
 | cons {o:Option PV} {u:Option V} {σ':PSt} {σ:St}:RSl E Z o u→RSt E Z σ' σ→RSt E Z (o :: σ') (u :: σ)
section
variable {E:Ev} {Z Z':Hp}
theorem RSl.mono (e:aN Z Z'):∀ {o:Option PV} {u:Option V},RSl E Z o u→RSl E Z' o u
 | none,_,_=>trivial
 | some _,_,⟨v,a,r⟩=>⟨v,a,r.mono e⟩
theorem RSt.mono (e:aN Z Z'):∀ {σ':PSt} {σ:St},RSt E Z σ' σ→RSt E Z' σ' σ
 | _,_,.nil=>.nil
 | _,_,.cons a b=>.cons (a.mono e) (RSt.mono e b)
theorem RSt.get:∀ {σ':PSt} {σ:St} {i:Nat} {x:PV},RSt E Z σ' σ→σ'[i]? =some (some x)→∃ v,σ[i]? =some (some v)∧RP E Z x v
 | _,_,_,_,.nil,e=>by simp at e
 | _,_,0,x,.cons a _,e=>by
   simp at e; subst e
   obtain ⟨v,e1,r⟩:=a;subst e1;exact ⟨v,rfl,r⟩
 | _,_,i + 1,x,.cons _ b,e=>by
   obtain ⟨v,e1,r⟩:=RSt.get (i:=i) b (by simpa using e);exact ⟨v,by simpa using e1,r⟩
theorem RSt.set {x:PV} {v:V} (r:RP E Z x v):∀ {σ':PSt} {σ:St} (i:Nat),RSt E Z σ' σ→RSt E Z (σ'.set i (some x)) (σ.set i (some v))
 | _,_,_,.nil=>.nil
 | _,_,0,.cons _ b=>.cons ⟨v,rfl,r⟩ b
 | _,_,i + 1,.cons a b=>.cons a (RSt.set r i b)
theorem RSt.unset:∀ {σ':PSt} {σ:St} (i:Nat),RSt E Z σ' σ→RSt E Z (σ'.set i none) (σ.set i none)
 | _,_,_,.nil=>.nil
 | _,_,0,.cons _ b=>.cons trivial b
 | _,_,i + 1,.cons a b=>.cons a (RSt.unset i b)
theorem RSt.nones:∀ (n:Nat),RSt E Z (List.replicate n none) (List.replicate n none)
 | 0=>.nil
 | n + 1=>.cons trivial (RSt.nones n)
theorem RSt.append:∀ {a b:PSt} {c d:St},RSt E Z a c→RSt E Z b d→RSt E Z (a ++ b) (c ++ d)
 | _,_,_,_,.nil,h=>h
 | _,_,_,_,.cons r t,h=>.cons r (RSt.append t h)
theorem RSt.vals:∀ {xs:List PV} {vs:List V},RPs E Z xs vs→RSt E Z (xs.map some) (vs.map some)
 | [],_,h=>by cases h; exact .nil
 | _ :: _,_,⟨v,r,e,h,t⟩=>by subst e; exact .cons ⟨v,rfl,h⟩ (RSt.vals t)
theorem RSl.at {f z:Hp}:∀ {o:Option PV} {u:Option V},RSl E Z o u→RSl (E.at f z) Z o u
 | none,_,_=>trivial
 | some _,_,⟨v,a,r⟩=>⟨v,a,r.at⟩
theorem RSl.un {f z:Hp}:∀ {o:Option PV} {u:Option V},RSl (E.at f z) Z o u→RSl E Z o u
 | none,_,_=>trivial
 | some _,_,⟨v,a,r⟩=>⟨v,a,r.un⟩
theorem RSt.at {f z:Hp}:∀ {σ':PSt} {σ:St},RSt E Z σ' σ→RSt (E.at f z) Z σ' σ
 | _,_,.nil=>.nil
 | _,_,.cons a b=>.cons a.at (RSt.at b)
theorem RSt.un {f z:Hp}:∀ {σ':PSt} {σ:St},RSt (E.at f z) Z σ' σ→RSt E Z σ' σ
 | _,_,.nil=>.nil
 | _,_,.cons a b=>.cons a.un (RSt.un b)
theorem RSt.length:∀ {σ':PSt} {σ:St},RSt E Z σ' σ→σ'.length=σ.length
 | _,_,.nil=>rfl
 | _,_,.cons _ b=>by rw [List.length_cons,List.length_cons,RSt.length b]
noncomputable def aF (n:Nat) (xs:List PV):PSt:=xs.map some ++ List.replicate (n - xs.length) none
theorem RSt.start {N:List Str} {xs:List PV} {vs:List V} (r:RPs E Z xs vs):RSt E Z (aF N.length xs) (L2.start N vs):=by
 unfold aF L2.start;rw [r.length];exact RSt.append (RSt.vals r) (RSt.nones _)
end
noncomputable abbrev PK1:=PV→Gh→Prop
noncomputable abbrev PTE:=PSt→Gh→PK1→Prop
noncomputable abbrev PTT:=PSt→Gh→(Bool→Gh→Prop)→Prop
noncomputable abbrev PTA:=PSt→Gh→(List PV→Gh→Prop)→Prop
structure dY where
 nx:PSt→Gh→Prop
 rt:PK1
 bk:PSt→Gh→Prop
 ct:PSt→Gh→Prop
noncomputable abbrev PTS:=dY→PSt→Gh→Prop
def Kq (E:Ev) (F Z:Hp) (Q':PK1) (Q:VK):Prop:= ∀ x v Z1 G1 H1,aN Z Z1→Sim E F H1 Z1 G1→RP E Z1 x v→Q' x G1→Q v H1
def KA (E:Ev) (F:Hp) (n:Nat) (Z:Hp) (Q':List PV→Gh→Prop) (Q:List V→Hp→Prop):Prop:= ∀ xs vs Z1 G1 H1,xs.length=n→aN Z Z1→Sim E F H1 Z1 G1→RPs E Z1 xs vs→Q' xs G1→Q vs H1
def KT (E:Ev) (F Z:Hp) (Q':Bool→Gh→Prop) (Q:Bool→Hp→Prop):Prop:= ∀ b Z1 G1 H1,aN Z Z1→Sim E F H1 Z1 G1→Q' b G1→Q b H1
def KSt (E:Ev) (F Z:Hp) (Q':PSt→Gh→Prop) (Q:St→Hp→Prop):Prop:= ∀ σ' σ Z1 G1 H1,aN Z Z1→Sim E F H1 Z1 G1→RSt E Z1 σ' σ→Q' σ' G1→Q σ H1
structure KD (E:Ev) (F Z:Hp) (D':dY) (D:uT):Prop where
 nx:KSt E F Z D'.nx D.nx
 rt:Kq E F Z D'.rt D.rt
 bk:KSt E F Z D'.bk D.bk
 ct:KSt E F Z D'.ct D.ct
theorem Kq.mono {E:Ev} {F Z Z2:Hp} {Q':PK1} {Q:VK} (e:aN Z Z2) (k:Kq E F Z Q' Q):Kq E F Z2 Q' Q:=fun x v Z1 G1 H1 s=>k x v Z1 G1 H1 (e.trans s)
theorem KT.mono {E:Ev} {F Z Z2:Hp} {Q':Bool→Gh→Prop} {Q:Bool→Hp→Prop} (e:aN Z Z2) (k:KT E F Z Q' Q):KT E F Z2 Q' Q:=fun x Z1 G1 H1 s=>k x Z1 G1 H1 (e.trans s)
theorem KSt.mono {E:Ev} {F Z Z2:Hp} {Q':PSt→Gh→Prop} {Q:St→Hp→Prop} (e:aN Z Z2) (k:KSt E F Z Q' Q):KSt E F Z2 Q' Q:=fun x v Z1 G1 H1 s=>k x v Z1 G1 H1 (e.trans s)
theorem KD.mono {E:Ev} {F Z Z2:Hp} {D':dY} {D:uT} (e:aN Z Z2) (k:KD E F Z D' D):KD E F Z2 D' D:=⟨k.nx.mono e,k.rt.mono e,k.bk.mono e,k.ct.mono e⟩
def low (E:Ev) (F:Hp) (t:PTE):TE:=fun σ H Q=>∃ σ' Z G Q',RSt E Z σ' σ∧Sim E F H Z G∧t σ' G Q'∧Kq E F Z Q' Q
def zA (E:Ev) (F:Hp) (t:PTT):TT:=fun σ H Q=>∃ σ' Z G Q',RSt E Z σ' σ∧Sim E F H Z G∧t σ' G Q'∧KT E F Z Q' Q
def BP (E:Ev) (F:Hp) (n:Nat) (t:PTA):TA:=fun σ H Q=>∃ σ' Z G Q',RSt E Z σ' σ∧Sim E F H Z G∧t σ' G Q'∧KA E F n Z Q' Q
def aEq (E:Ev) (F:Hp) (t:PTS):TS:=fun D σ H=>∃ σ' Z G D',RSt E Z σ' σ∧Sim E F H Z G∧t D' σ' G∧KD E F Z D' D
noncomputable def bT (G:Gh):PV→Option (List PV)
 | .lst xs=>some xs
 | .ref a=>match G a with
   | some (.lst xs)=>some xs
   | _=>none
 | _=>none
section
variable {E:Ev} {F H Z:Hp} {G:Gh} {x:PV} {v:V} {xs:List PV}
theorem dM (S:Sim E F H Z G) (r:RP E Z x v) (h:bT G x=some xs):∃ a vs,v= .ref a∧H a=some (.lst vs)∧RPs E Z xs vs:=by
 cases x with
 | lst ys =>
   cases h;obtain ⟨a,vs,e,q,t⟩:=r;exact ⟨a,vs,e,S.z _ _ q,t⟩
 | ref a =>
   have e:v= .ref a:=r;subst e;unfold bT at h;dsimp only at h;split at h
   · rename_i ys e;cases h;obtain ⟨_,o',q,vs,e',t⟩:=S.g _ _ e;subst e';exact ⟨a,vs,rfl,q,t⟩
   · cases h
 | _=>cases h
theorem fR (S:Sim E F H Z G) (r:RP E Z (.tup xs) v):∃ a vs,v= .ref a∧SqT E.K H a vs∧RPs E Z xs vs:=by
 obtain ⟨a,vs,e,q,t⟩:=r;exact ⟨a,vs,e,cU S.z q,t⟩
theorem Kq.here {Q':PK1} {Q:VK} (k:Kq E F Z Q' Q) (S:Sim E F H Z G) (q:Q' x G) (r:RP E Z x v):Q v H:=k x v Z G H (aN.refl Z) S r q
theorem bK {i:Int}:RP E Z (.int i) (.int i):=rfl
theorem pT {i:Str}:RP E Z (.str i) (.str i):=rfl
theorem bZ {i:Bool}:RP E Z (.bl i) (.bl i):=rfl
theorem pM:RP E Z .non .non:=rfl
theorem Kq.newZ {Q':PK1} {Q:VK} {p:Addr} {o:HO} (k:Kq E F Z Q' Q) (S:Sim E F H Z G) (n:H p=none) (r:RP E (upd Z p o) x (.ref p)) (q:Q' x G):Q (.ref p) (upd H p o) :=
 k x (.ref p) (upd Z p o) G _ (bB (S.zn n) o) (S.fz n) r q
theorem lH {vs:List V} {p:Addr} (n:Z p=none) (r:RPs E Z xs vs):RP E (upd Z p (.tup vs)) (.tup xs) (.ref p):=⟨p,vs,rfl,SqT.of aJ,r.mono (bB n _)⟩
theorem gQ {vs:List V} {p:Addr} (n:Z p=none) (r:RPs E Z xs vs):RP E (upd Z p (.lst vs)) (.lst xs) (.ref p):=⟨p,vs,rfl,aJ,r.mono (bB n _)⟩
end
noncomputable abbrev P2:=PV→PV→Gh→PK1→Prop
def gO (E:Ev) (F:Hp) (p:P2):R2:=fun v u H Q=>∃ x y Z G Q',RP E Z x v∧RP E Z y u∧Sim E F H Z G∧p x y G Q'∧Kq E F Z Q' Q
def pI (C:Int→Int→Prop) (g:Int→Int→PV):P2:=fun x y G Q=>match x,y with
 | .int i,.int j=>C i j∧Q (g i j) G
 | _,_=>False
theorem iZ {E:Ev} {F:Hp} {C:Int→Int→Prop} {g:Int→Int→V} {g':Int→Int→PV} (hg:∀ Z i j,RP E Z (g' i j) (g i j)) {v u:V} {H:Hp} {Q:VK} (h:gO E F (pI C g') v u H Q):rI C g v u H Q:=by
 obtain ⟨x,y,Z,G,Q',r1,r2,S,q,k⟩:=h;unfold pI at q;split at q
 · obtain ⟨c,q⟩:=q;exact ⟨_,_,r1,r2,c,k.here S q (hg _ _ _)⟩
 · exact q.elim
def EY (x y:PV) (G:Gh) (Q:PK1):Prop:=match x,y with
 | .int i,.int j=>Q (.int (i + j)) G
 | .str i,.str j=>i.length + j.length≤sizeLine∧Q (.str (i ++ j)) G
 | .tup xs,.tup ys=>xs.length + ys.length≤sizeLine∧Q (.tup (xs ++ ys)) G
 | x,y=>∃ xs ys,bT G x=some xs∧bT G y=some ys∧xs.length + ys.length≤sizeLine∧Q (.lst (xs ++ ys)) G
theorem ZG {E:Ev} {x y:PV} {xs ys:List PV} {v u:V} {F H Z:Hp} {G:Gh} {Q':PK1} {Q:VK} (r1:RP E Z x v) (r2:RP E Z y u) (S:Sim E F H Z G) (hx:bT G x=some xs) (hy:bT G y=some ys) (hz:xs.length + ys.length≤sizeLine) (q:Q' (.lst (xs ++ ys)) G) (k:Kq E F Z Q' Q):aHR v u H Q:=by
 obtain ⟨a,vs,rfl,ha,ta⟩:=dM S r1 hx;obtain ⟨b,us,rfl,hb,tb⟩:=dM S r2 hy;exact ⟨a,b,vs,us,rfl,rfl,ha,hb,by rw [←ta.length,←tb.length]; exact hz,fun p n=>k.newZ S n (gQ (S.zn n) (ta.append tb)) q⟩
def aEO (K:W.Frag):R2:=fun x y H Q=>∃ a b ys,x= .ref a∧y= .ref b∧SqT K H a []∧SqT K H b ys∧Q (.ref b) H
theorem YA {X:Cx}:OpR X (binaryOp .Add) (aEO X.K):=by
 intro pins s σ H x y v u Q I rx ry h;obtain ⟨a,b,ys,rfl,rfl,ha,hb,q⟩:=h;cases rx;cases ry;obtain ⟨its,r1,p1,_⟩:=I.tuple ha;obtain ⟨its2,r2,p2,_⟩:=I.tuple hb;obtain ⟨⟨cls,dd,data,sl⟩,ho,hc,n,hd⟩:=id p1;obtain ⟨⟨cls2,dd2,data2,sl2⟩,ho2,hc2,n2,hd2⟩:=id p2;simp only at hc hd hc2 hd2;subst hc hd hc2 hd2;cases r1;exact concat_meets ⟨_,ho,rfl⟩ ⟨_,ho2,rfl⟩ noFill_tuple_add seq_tuple_add PySem.F.slot_tuple_add PySem.F.entry_tuple_add (PySem.F.args_tuple_add_2 _ _)
   (tuple_addW0 a b #[] its2.toArray n n2 dd dd2 sl sl2 rfl) ⟨ho,ho2,⟨.ref b,H,I,rfl,q⟩⟩
section
variable {X:Cx} {E:Ev} {F:Hp}
theorem aAz (hK:E.K=X.K):OpR X (binaryOp .Add) (gO E F EY):=by
 refine (aEB.or (GD.or ((YR.or YA).or aDS))).imp fun v u H Q h=>?_;obtain ⟨x,y,Z,G,Q',r1,r2,S,q,k⟩:=h;unfold EY at q;split at q
 · exact .inl ⟨_,_,r1,r2,k.here S q bK⟩
 · exact .inr (.inl ⟨_,_,r1,r2,q.1,k.here S q.2 pT⟩)
 · rename_i xs ys;have r1':=r1;have r2':=r2;obtain ⟨a,vs,rfl,ha,ta⟩:=fR S r1;obtain ⟨b,us,rfl,hb,tb⟩:=fR S r2;obtain ⟨hz,q⟩:=q;by_cases ev:vs=[]
   · subst ev;have ex:xs=[]:=List.eq_nil_of_length_eq_zero ta.length;subst ex;exact .inr (.inr (.inl (.inr ⟨a,b,us,rfl,rfl,hK▸ha,hK▸hb,k.here S q r2'⟩)))
   · refine .inr (.inr (.inl (.inl ⟨a,b,vs,us,rfl,rfl,hK▸ha,hK▸hb,ev,by rw [←ta.length,←tb.length]; exact hz,fun e=>?_,fun _ p n=>k.newZ S n (lH (S.zn n) (ta.append tb)) q⟩)));subst e;have ey:ys=[]:=List.eq_nil_of_length_eq_zero tb.length;subst ey;rw [List.append_nil] at q;exact k.here S q r1'
 · obtain ⟨xs,ys,hx,hy,hz,q⟩:=q;exact .inr (.inr (.inr (ZG r1 r2 S hx hy hz q k)))
def aCd (_ j:Int):Prop:=0 < j
def aCt (x y:PV) (G:Gh) (Q:PK1):Prop:=match x,y with
 | .int i,.int j=>oV i j∧Q (.int (i * j)) G
 | _,_=>False
noncomputable def zM:Operator→P2
 | .Add=>EY
 | .Sub=>pI (fun _ _=>True) fun i j=>.int (i - j)
 | .Mult=>aCt
 | .FloorDiv=>pI xX fun i j=>.int (i / j)
 | .Mod=>pI aCd fun i j=>.int (i % j)
 | .Pow=>pI MM fun i j=>.int (i ^ j.toNat)
 | .LShift=>pI MM fun i j=>.int (i * 2 ^ j.toNat)
 | _=>fun _ _ _ _=>False
theorem vC {g:Int→Int→V} {v u:V} {H:Hp} {Q:VK} (h:rI (fun _ _=>True) g v u H Q):rI0 g v u H Q:=by
 obtain ⟨i,j,a,b,_,q⟩:=h;exact ⟨i,j,a,b,q⟩
theorem ZX (hK:E.K=X.K):∀ (op:Operator),OpR X (binaryOp op) (gO E F (zM op))
 | .Add=>aAz hK
 | .Sub=>aEU.imp fun _ _ _ _ h=>vC (iZ (fun _ _ _=>bK) h)
 | .Mult=>aAZ.imp fun v u H Q h=>by
   obtain ⟨x,y,Z,G,Q',r1,r2,S,q,k⟩:=h
   replace q:aCt x y G Q':=q
   unfold aCt at q;split at q
   · exact ⟨_,_,r1,r2,q.1,k.here S q.2 bK⟩
   · exact q.elim
 | .FloorDiv=>SN.imp fun _ _ _ _ h=>iZ (fun _ _ _=>bK) h
 | .Mod=>aE0.imp fun _ _ _ _ h=>iZ (fun _ _ _=>bK) h
 | .Pow=>aEV.imp fun _ _ _ _ h=>iZ (fun _ _ _=>bK) h
 | .LShift=>aE9.imp fun _ _ _ _ h=>iZ (fun _ _ _=>bK) h
 | .Div=>fun _ _ _ _ _ _ _ _ _ _ _ _ h=>(by obtain ⟨_,_,_,_,_,_,_,_,q,_⟩:=h; exact q.elim)
 | .RShift=>fun _ _ _ _ _ _ _ _ _ _ _ _ h=>(by obtain ⟨_,_,_,_,_,_,_,_,q,_⟩:=h; exact q.elim)
 | .BitOr=>fun _ _ _ _ _ _ _ _ _ _ _ _ h=>(by obtain ⟨_,_,_,_,_,_,_,_,q,_⟩:=h; exact q.elim)
 | .BitXor=>fun _ _ _ _ _ _ _ _ _ _ _ _ h=>(by obtain ⟨_,_,_,_,_,_,_,_,q,_⟩:=h; exact q.elim)
 | .BitAnd=>fun _ _ _ _ _ _ _ _ _ _ _ _ h=>(by obtain ⟨_,_,_,_,_,_,_,_,q,_⟩:=h; exact q.elim)
 | .MatMult=>fun _ _ _ _ _ _ _ _ _ _ _ _ h=>(by obtain ⟨_,_,_,_,_,_,_,_,q,_⟩:=h; exact q.elim)
end
mutual
noncomputable def peq:PV→PV→Bool
 | .non,y=>match y with | .non=>true | _=>false
 | .bl a,y=>match y with | .bl b=>a == b | .int j=>(if a then 1 else 0) == j | _=>false
 | .int i,y=>match y with | .int j=>i == j | .bl b=>i == (if b then 1 else 0) | _=>false
 | .str a,y=>match y with | .str b=>a == b | _=>false
 | .tup xs,y=>match y with | .tup ys=>nF xs ys | _=>false
 | .lst xs,y=>match y with | .lst ys=>nF xs ys | _=>false
 | _,_=>false
noncomputable def nF:List PV→List PV→Bool
 | [],ys=>match ys with | []=>true | _=>false
 | x :: xs,ys=>match ys with | y :: r=>peq x y && nF xs r | []=>false
end
mutual
noncomputable def dat:PV→Option PyData
 | .non=>some .none
 | .bl b=>some (.bool b)
 | .int i=>some (.int i)
 | .str x=>some (.str x)
 | .tup xs=>match mY xs with | some ds=>some (.tuple ds) | none=>none
 | .lst xs=>match mY xs with | some ds=>some (.list ds) | none=>none
 | _=>none
noncomputable def mY:List PV→Option (List PyData)
 | []=>some []
 | x :: xs=>match dat x,mY xs with | some d,some ds=>some (d :: ds) | _,_=>none
end
mutual
theorem ET:∀ {x y:PV} {d e:PyData},dat x=some d→dat y=some e→PyData.eqv d e=peq x y
 | .non,y,d,e,h,q=>by
   simp only [dat] at h; cases h;cases y <;> simp only [dat] at q <;> (try split at q) <;> cases q <;> simp only [PyData.eqv,peq]
 | .bl _,y,d,e,h,q=>by
   simp only [dat] at h; cases h;cases y <;> simp only [dat] at q <;> (try split at q) <;> cases q <;> simp only [PyData.eqv,peq]
 | .int _,y,d,e,h,q=>by
   simp only [dat] at h; cases h;cases y <;> simp only [dat] at q <;> (try split at q) <;> cases q <;> simp only [PyData.eqv,peq]
 | .str _,y,d,e,h,q=>by
   simp only [dat] at h; cases h;cases y <;> simp only [dat] at q <;> (try split at q) <;> cases q <;> simp only [PyData.eqv,peq]
 | .tup xs,y,d,e,h,q=>by
   simp only [dat] at h;split at h
   · rename_i ds hd;cases h;cases y with
     | tup ys =>
       simp only [dat] at q;split at q
       · rename_i es he;cases q;simp only [PyData.eqv,peq]; exact peqs_ok hd he
       · cases q
     | _=>simp only [dat] at q <;> (try split at q) <;> cases q <;> simp only [PyData.eqv,peq]
   · cases h
 | .lst xs,y,d,e,h,q=>by
   simp only [dat] at h;split at h
   · rename_i ds hd;cases h;cases y with
     | lst ys =>
       simp only [dat] at q;split at q
       · rename_i es he;cases q;simp only [PyData.eqv,peq]; exact peqs_ok hd he
       · cases q
     | _=>simp only [dat] at q <;> (try split at q) <;> cases q <;> simp only [PyData.eqv,peq]
   · cases h
 | .scr _,y,d,e,h,q=>by simp [dat] at h
 | .ob _ _ _,y,d,e,h,q=>by simp [dat] at h
 | .ref _,y,d,e,h,q=>by simp [dat] at h
 | .ty _,y,d,e,h,q=>by simp [dat] at h
 | .cl _,y,d,e,h,q=>by simp [dat] at h
 | .fn _,y,d,e,h,q=>by simp [dat] at h
 | .emp,y,d,e,h,q=>by simp [dat] at h
 | .dct _ _,y,d,e,h,q=>by simp [dat] at h
 | .exc _ _ _,y,d,e,h,q=>by simp [dat] at h
theorem peqs_ok:∀ {xs ys:List PV} {ds es:List PyData},mY xs=some ds→mY ys=some es→PyData.eqvAll ds es=nF xs ys
 | [],[],_,_,h,q=>by simp only [mY] at h q; cases h; cases q; simp only [PyData.eqvAll,nF]
 | [],y :: ys,_,_,h,q=>by
   simp only [mY] at h q; cases h;split at q <;> cases q
   simp only [PyData.eqvAll,nF]
 | x :: xs,[],_,_,h,q=>by
   simp only [mY] at h q; cases q;split at h <;> cases h
   simp only [PyData.eqvAll,nF]
 | x :: xs,y :: ys,_,_,h,q=>by
   simp only [mY] at h q;split at h <;> cases h
   rename_i hd hds;split at q <;> cases q
   rename_i he hes;simp only [PyData.eqvAll,nF];rw [ET hd he,peqs_ok hds hes]
end
section
variable {X:Cx} {E:Ev} {pins:List (Addr×Obj)} {σ:L2.St} {F H Z:Hp} {s:Shared}
mutual
theorem xD (I:Inv X pins σ H s) (hK:E.K=X.K) (hz:aN Z H):∀ {x:PV} {v:V} {u:Value} {d:PyData},RP E Z x v→aP v u→dat x=some d→∃ as,Reads s.heap u d as
 | .non,v,u,d,r,rv,h=>by
   simp only [dat] at h; cases h;cases (show v= .non from r); cases rv; exact ⟨[],.none⟩
 | .bl b,v,u,d,r,rv,h=>by
   simp only [dat] at h; cases h;cases (show v= .bl b from r); cases rv; exact ⟨[],.bool b⟩
 | .int i,v,u,d,r,rv,h=>by
   simp only [dat] at h; cases h;cases (show v= .int i from r); obtain ⟨t,rfl⟩:=rv; exact ⟨[],.int i t⟩
 | .str x,v,u,d,r,rv,h=>by
   simp only [dat] at h; cases h;cases (show v= .str x from r); obtain ⟨t,rfl⟩:=rv; exact ⟨[],.str x t⟩
 | .tup xs,v,u,d,r,rv,h=>by
   simp only [dat] at h;split at h <;> cases h
   rename_i ds hd;obtain ⟨a,vs,rfl,q,t⟩:=r;cases rv;obtain ⟨its,rv,ht,_⟩:=I.tuple (hK▸cU hz q);obtain ⟨o,ho,hc,n,hd'⟩:=ht;obtain ⟨as,q'⟩:=dats_reads I hK hz t rv hd;exact ⟨as,.tuple ho hc hd' (by simpa using q')⟩
 | .lst xs,v,u,d,r,rv,h=>by
   simp only [dat] at h;split at h <;> cases h
   rename_i ds hd;obtain ⟨a,vs,rfl,q,t⟩:=r;cases rv;obtain ⟨_,its,n,rv,ho⟩:=I.hok _ _ (hz _ _ q);obtain ⟨as,q'⟩:=dats_reads I hK hz t rv hd;exact ⟨_ :: as,.list ho rfl rfl (by simpa using q')⟩
 | .scr _,v,u,d,r,rv,h=>by simp [dat] at h
 | .ob _ _ _,v,u,d,r,rv,h=>by simp [dat] at h
 | .ref _,v,u,d,r,rv,h=>by simp [dat] at h
 | .ty _,v,u,d,r,rv,h=>by simp [dat] at h
 | .cl _,v,u,d,r,rv,h=>by simp [dat] at h
 | .fn _,v,u,d,r,rv,h=>by simp [dat] at h
 | .emp,v,u,d,r,rv,h=>by simp [dat] at h
 | .dct _ _,v,u,d,r,rv,h=>by simp [dat] at h
 | .exc _ _ _,v,u,d,r,rv,h=>by simp [dat] at h
theorem dats_reads (I:Inv X pins σ H s) (hK:E.K=X.K) (hz:aN Z H):∀ {xs:List PV} {vs:List V} {us:List Value} {ds:List PyData},RPs E Z xs vs→aM vs us→mY xs=some ds→∃ as,ReadsAll s.heap us ds as
 | [],_,_,_,r,rv,h=>by
   simp only [mY] at h; cases h;cases r; cases rv; exact ⟨[],.nil⟩
 | x :: xs,_,_,_,r,rv,h=>by
   simp only [mY] at h;split at h <;> cases h
   rename_i hd hds;obtain ⟨v,r',rfl,r1,r2⟩:=r;cases rv with
   | cons q1 q2 =>
     obtain ⟨as,a⟩:=xD I hK hz r1 q1 hd;obtain ⟨bs,b⟩:=dats_reads I hK hz r2 q2 hds;exact ⟨as ++ bs,.cons a b⟩
end
mutual
noncomputable def dte:PV→Option PyData
 | .non=>some .none
 | .bl b=>some (.bool b)
 | .int i=>some (.int i)
 | .str x=>some (.str x)
 | .tup xs=>match WO xs with | some ds=>some (.tuple ds) | none=>none
 | .emp=>some (.dict [])
 | _=>none
noncomputable def WO:List PV→Option (List PyData)
 | []=>some []
 | x :: xs=>match dte x,WO xs with | some d,some ds=>some (d :: ds) | _,_=>none
end
mutual
theorem MA (I:Inv X pins σ H s) (hK:E.K=X.K) (hz:aN Z H):∀ {x:PV} {v:V} {u:Value} {d:PyData},RP E Z x v→aP v u→dte x=some d→∃ as,Reads s.heap u d as∧sysModules∉ as
 | .non,v,u,d,r,rv,h=>by
   simp only [dte] at h; cases h;cases (show v= .non from r); cases rv; exact ⟨[],.none,by simp⟩
 | .bl b,v,u,d,r,rv,h=>by
   simp only [dte] at h; cases h;cases (show v= .bl b from r); cases rv; exact ⟨[],.bool b,by simp⟩
 | .int i,v,u,d,r,rv,h=>by
   simp only [dte] at h; cases h;cases (show v= .int i from r); obtain ⟨t,rfl⟩:=rv; exact ⟨[],.int i t,by simp⟩
 | .str x,v,u,d,r,rv,h=>by
   simp only [dte] at h; cases h;cases (show v= .str x from r); obtain ⟨t,rfl⟩:=rv; exact ⟨[],.str x t,by simp⟩
 | .tup xs,v,u,d,r,rv,h=>by
   simp only [dte] at h;split at h <;> cases h
   rename_i ds hd;obtain ⟨a,vs,rfl,q,t⟩:=r;cases rv;obtain ⟨its,rv,ht,_⟩:=I.tuple (hK▸cU hz q);obtain ⟨o,ho,hc,n,hd'⟩:=ht;obtain ⟨as,q',na⟩:=dtes_reads I hK hz t rv hd;exact ⟨as,.tuple ho hc hd' (by simpa using q'),na⟩
 | .emp,v,u,d,r,rv,h=>by
   simp only [dte] at h; cases h;obtain ⟨a,rfl,q⟩:=r;cases rv;obtain ⟨_,hs,vs,rel,o,es,ep,ho,⟨hc,hd⟩,hl⟩:=I.hok _ _ (hz _ _ q);have ev:vs=[]:=by cases vs with
     | nil=>rfl
     | cons _ _=>cases rel
   subst ev;obtain ⟨hd1,_,hp,_⟩:=hl;have ee:es.toList=[]:=by cases hh:es.toList with
     | nil=>rfl
     | cons _ _=>rw [hh] at hp; cases hp
   exact ⟨a :: [] ++ [],.dict ho hc hd1 (kvs:=[]) (by rw [ee]; exact .nil) (by rw [ee]; exact .nil),by
     simp only [List.append_nil,List.mem_singleton];intro z; subst z; rw [beq_self_eq_true] at hs; cases hs⟩
 | .lst _,v,u,d,r,rv,h=>by simp [dte] at h
 | .scr _,v,u,d,r,rv,h=>by simp [dte] at h
 | .ob _ _ _,v,u,d,r,rv,h=>by simp [dte] at h
 | .ref _,v,u,d,r,rv,h=>by simp [dte] at h
 | .ty _,v,u,d,r,rv,h=>by simp [dte] at h
 | .cl _,v,u,d,r,rv,h=>by simp [dte] at h
 | .fn _,v,u,d,r,rv,h=>by simp [dte] at h
 | .dct _ _,v,u,d,r,rv,h=>by simp [dte] at h
 | .exc _ _ _,v,u,d,r,rv,h=>by simp [dte] at h
theorem dtes_reads (I:Inv X pins σ H s) (hK:E.K=X.K) (hz:aN Z H):∀ {xs:List PV} {vs:List V} {us:List Value} {ds:List PyData},RPs E Z xs vs→aM vs us→WO xs=some ds→∃ as,ReadsAll s.heap us ds as∧sysModules∉ as
 | [],_,_,_,r,rv,h=>by
   simp only [WO] at h; cases h;cases r; cases rv; exact ⟨[],.nil,by simp⟩
 | x :: xs,_,_,_,r,rv,h=>by
   simp only [WO] at h;split at h <;> cases h
   rename_i hd hds;obtain ⟨v,r',rfl,r1,r2⟩:=r;cases rv with
   | cons q1 q2 =>
     obtain ⟨as,a,na⟩:=MA I hK hz r1 q1 hd;obtain ⟨bs,b,nb⟩:=dtes_reads I hK hz r2 q2 hds;exact ⟨as ++ bs,.cons a b,fun z=>(List.mem_append.mp z).elim na nb⟩
end
noncomputable def pur (G:Gh):PV→PV
 | .ref a=>match G a with
   | some (.lst xs)=>.lst xs
   | _=>.ref a
 | x=>x
noncomputable def shp (x:PV):Bool:=match dat x with | some d=>SeqAt.shaped d | none=>false
theorem lM {G:Gh} (I:Inv X pins σ H s) (hK:E.K=X.K) (S:Sim E F H Z G) {x:PV} {v:V} {u:Value} {d:PyData} (r:RP E Z x v) (rv:aP v u) (h:dat (pur G x)=some d):∃ as,Reads s.heap u d as:=by
 by_cases hx:∃ a,x= .ref a
 · obtain ⟨a,rfl⟩:=hx;have e:v= .ref a:=r;subst e;cases rv;unfold pur at h;dsimp only at h;split at h
   · rename_i xs e;obtain ⟨_,o',q,vs,e',t⟩:=S.g _ _ e;subst e';simp only [dat] at h;split at h <;> cases h
     rename_i ds hd;obtain ⟨_,its,n,rv,ho⟩:=I.hok _ _ q;obtain ⟨as,q'⟩:=dats_reads I hK S.z t rv hd;exact ⟨_ :: as,.list ho rfl rfl (by simpa using q')⟩
   · simp [dat] at h
 · have e:pur G x=x:=by
     unfold pur;split
     · rename_i a; exact absurd ⟨a,rfl⟩ hx
     · rfl
   rw [e] at h;exact xD I hK S.z r rv h
def pEq (neg:Bool) (x y:PV) (G:Gh) (Q:PK1):Prop:=shp (pur G x)=true∧shp (pur G y)=true∧Q (.bl (if neg then !peq (pur G x) (pur G y) else peq (pur G x) (pur G y))) G
theorem AA {x:PV} (h:shp x=true):∃ d,dat x=some d∧SeqAt.shaped d=true:=by
 unfold shp at h;split at h
 · rename_i d e; exact ⟨d,e,h⟩
 · cases h
theorem aDk {k:Nat} (hr:bE k X.A) (hK:E.K=X.K):OpR X (compareOp .Eq) (gO E F (pEq false)):=by
 rintro pins s σ H v w u u' Q I rx ry ⟨x,y,Z,G,Q',r1,r2,S,⟨hx,hy,q⟩,kq⟩;obtain ⟨d,e1,a1⟩:=AA hx;obtain ⟨e,e2,a2⟩:=AA hy;obtain ⟨as,q1⟩:=lM I hK S r1 rx e1;obtain ⟨bs,q2⟩:=lM I hK S r2 ry e2;refine eq_dataH q1 q2 a1 a2 hr.units ⟨.bl _,H,I,rfl, ?_⟩;rw [ET e1 e2];exact kq.here S q bZ
theorem XT {k:Nat} (hr:bE k X.A) (hK:E.K=X.K):OpR X (compareOp .NotEq) (gO E F (pEq true)):=by
 rintro pins s σ H v w u u' Q I rx ry ⟨x,y,Z,G,Q',r1,r2,S,⟨hx,hy,q⟩,kq⟩;obtain ⟨d,e1,a1⟩:=AA hx;obtain ⟨e,e2,a2⟩:=AA hy;obtain ⟨as,q1⟩:=lM I hK S r1 rx e1;obtain ⟨bs,q2⟩:=lM I hK S r2 ry e2;refine ne_dataH q1 q2 a1 a2 hr.units ⟨.bl _,H,I,rfl, ?_⟩;rw [ET e1 e2];exact kq.here S q bZ
end
section
variable {E:Ev} {F H Z:Hp} {G:Gh} {X:Cx}
theorem SA {xs:List PV} {vs:List V} {i:Int} {x:PV} (r:RPs E Z xs vs) (h:atI xs i=some x):∃ v,atI vs i=some v∧RP E Z x v:=by
 unfold atI at *;rw [←r.length];cases e:ixN xs.length i with
 | none=>rw [e] at h; cases h
 | some j=>rw [e] at h; exact r.get h
noncomputable def AR:List Key→List PV→Key→Option PV
 | j :: ks,x :: xs,k=>if j=k then some x else AR ks xs k
 | _,_,_=>none
def wE (x y:PV) (G:Gh) (Q:PK1):Prop:=match x,y with
 | .tup xs,.int i=>∃ v,atI xs i=some v∧Q v G
 | .scr ns,.int i=>∃ n,atI ns i=some n∧Q (.int n) G
 | .str z,.int i=>z.length≤sizeLine∧∃ c,atI z.cps.toList i=some c∧Q (.str ⟨#[c]⟩) G
 | .dct ks xs,.int i=>∃ v,AR ks xs (.inl i)=some v∧Q v G
 | .dct ks xs,.str z=>∃ v,AR ks xs (.inr z)=some v∧Q v G
 | x,.int i=>∃ xs v,bT G x=some xs∧atI xs i=some v∧Q v G
 | _,_=>False
theorem uS {k:Key} {x:PV}:∀ {ks:List Key} {xs:List PV} {vs:List V},RPs E Z xs vs→AR ks xs k=some x→∃ v,valV (ks.zip vs) k=some v∧RP E Z x v
 | [],_,_,_,h=>by cases h
 | _ :: _,[],_,_,h=>by cases h
 | j :: ks,y :: ys,_,⟨v,r,e,r1,r2⟩,h=>by
   subst e;unfold AR at h;rw [List.zip_cons_cons];split at h
   · rename_i ej; cases h; exact ⟨v,uM ej,r1⟩
   · rename_i ej;rw [vD ej];exact uS (ks:=ks) r2 h
theorem aAj {α β:Type} {f:α→β} {xs:List α} {i:Int} {x:α} (h:atI xs i=some x):atI (xs.map f) i=some (f x):=by
 unfold atI at *;rw [List.length_map];cases e:ixN xs.length i with
 | none=>rw [e] at h; cases h
 | some j =>
   rw [e] at h;have h':xs[j]? =some x:=h;show (xs.map f)[j]? =some (f x);rw [List.getElem?_map,h']; rfl
theorem aDy {k:Nat} (hr:bE k X.A) (hK:E.K=X.K):IxR X (gO E F wE):=by
 refine (aEE.or (YL hr)).imp fun v u H Q h=>?_;obtain ⟨x,y,Z,G,Q',r1,r2,S,q,k⟩:=h;unfold wE at q;split at q
 · obtain ⟨y,e,q⟩:=q;obtain ⟨a,vs,rfl,ha,ta⟩:=fR S r1;obtain ⟨w,e',rw'⟩:=SA ta e;exact .inl (.inr (.inl ⟨a,vs,_,w,rfl,r2,hK▸ha,e',k.here S q rw'⟩))
 · obtain ⟨n,e,q⟩:=q;obtain ⟨a,rfl,ha⟩:=r1;exact .inl (.inl ⟨a,_,_,_,rfl,r2,hK▸S.z.seq ha,aAj e,k.here S q bK⟩)
 · obtain ⟨hz,c,e,q⟩:=q;exact .inl (.inr (.inr ⟨_,_,c,r1,r2,hz,e,k.here S q pT⟩))
 · obtain ⟨y,e,q⟩:=q;obtain ⟨a,vs,rfl,ha,_,ta⟩:=r1;obtain ⟨w,e',rw'⟩:=uS ta e;have r2:u=kV (.inl _):=r2;rw [r2];refine .inr ⟨a,w,rfl, ?_,k.here S q rw'⟩;rw [←e']; exact .k (S.z _ _ ha)
 · obtain ⟨y,e,q⟩:=q;obtain ⟨a,vs,rfl,ha,_,ta⟩:=r1;obtain ⟨w,e',rw'⟩:=uS ta e;have r2:u=kV (.inr _):=r2;rw [r2];refine .inr ⟨a,w,rfl, ?_,k.here S q rw'⟩;rw [←e']; exact .k (S.z _ _ ha)
 · obtain ⟨xs,y,e0,e,q⟩:=q;obtain ⟨a,vs,rfl,ha,ta⟩:=dM S r1 e0;obtain ⟨w,e',rw'⟩:=SA ta e;exact .inl (.inl ⟨a,vs,_,w,rfl,r2,SqL.of ha,e',k.here S q rw'⟩)
 · exact q.elim
def aA8 (o i v:PV) (G:Gh) (Q:Gh→Prop):Prop:= ∃ a xs k j,o= .ref a∧i= .int k∧G a=some (.lst xs)∧ixN xs.length k=some j∧Q (gup G a (.lst (xs.set j v)))
noncomputable def aCB (E:Ev) (F:Hp) (p:PV→PV→PV→Gh→(Gh→Prop)→Prop):aAE:=fun o i v H Q=>∃ o' i' v' Z G Q',RP E Z o' o∧RP E Z i' i∧RP E Z v' v∧Sim E F H Z G∧p o' i' v' G Q'∧∀ G1 H1,Sim E F H1 Z G1→Q' G1→Q H1
theorem ZI:aCz X (aCB E F aA8):=by
 rintro pins s σ H o i v ov iv u Q I ro ri rv ⟨o',i',v',Z,G,Q',r1,r2,r3,S,⟨a,xs,k,j,e1,e2,hG,ix,q⟩,kq⟩;subst e1 e2;have e1:o= .ref a:=r1;have e2:i= .int k:=r2;subst e1 e2;obtain ⟨_,o',hH,vs,e,t⟩:=S.g _ _ hG;subst e;exact VF pins s σ H (.ref a) (.int k) v ov iv u Q I ro ri rv ⟨a,vs,k,j,rfl,rfl,hH,by rw [←t.length]; exact ix,kq _ _ (S.set (go:=.lst (xs.set j v')) hG ⟨_,rfl,t.set r3 j⟩) q⟩
noncomputable def rM (xs:List PV) (lo hi:Option Int):List PV:=(xs.drop (HT.sIx xs.length 0 lo)).take (HT.sIx xs.length xs.length hi - HT.sIx xs.length 0 lo)
theorem GQ {xs:List PV} {vs:List V} {lo hi:Option Int} (r:RPs E Z xs vs):RPs E Z (rM xs lo hi) (CL vs lo hi):=by
 unfold rM CL;rw [r.length];exact (r.drop _).take _
def UH (x:PV) (lo hi:Option Int) (G:Gh) (Q:PK1):Prop:=match x with
 | .tup xs=>Q (.tup (rM xs lo hi)) G
 | .scr ns=>Q (.lst (rM (ns.map .int) lo hi)) G
 | x=>∃ xs,bT G x=some xs∧Q (.lst (rM xs lo hi)) G
noncomputable def aGG (E:Ev) (F:Hp) (p:PV→Option Int→Option Int→Gh→PK1→Prop):V→Option Int→Option Int→Hp→VK→Prop:=fun v lo hi H Q=>∃ x Z G Q',RP E Z x v∧Sim E F H Z G∧p x lo hi G Q'∧Kq E F Z Q' Q
theorem SlR.imp {r r':V→Option Int→Option Int→Hp→VK→Prop} (h:SlR X r) (f:∀ x l u H Q,r' x l u H Q→r x l u H Q):SlR X r':=fun pins s σ H x v vl vu lo hi sl Q I rx hs pl pu q=>h pins s σ H x v vl vu lo hi sl Q I rx hs pl pu (f _ _ _ _ _ q)
theorem aDU (hK:E.K=X.K):SlR X (aGG E F UH):=by
 refine SlR.imp (SlR.or (SlR.or aCw YZ) aAy) fun v lo hi H Q h=>?_;obtain ⟨x,Z,G,Q',r1,S,q,k⟩:=h;unfold UH at q;split at q
 · rename_i xs;have r0:=r1;obtain ⟨a,vs,rfl,ha,ta⟩:=fR S r1;by_cases w:HT.sIx vs.length 0 lo=0∧HT.sIx vs.length vs.length hi=vs.length
   · refine .inl (.inr ⟨a,vs,rfl,hK▸ha,w, ?_⟩);have e:rM xs lo hi=xs:=by
       unfold rM;rw [ta.length,w.1,w.2,List.drop_zero,Nat.sub_zero,←ta.length,List.take_length]
     rw [e] at q;exact k _ _ _ _ _ (aN.refl _) S r0 q
   · exact .inl (.inl ⟨a,vs,rfl,hK▸ha,w,fun p n=>k.newZ S n (lH (S.zn n) (GQ ta)) q⟩)
 · obtain ⟨a,rfl,ha⟩:=r1;exact .inr ⟨a,_,rfl,hK▸S.z.seq ha,fun p n=>k.newZ S n (gQ (S.zn n) (GQ (RPs.ofInts _))) q⟩
 · obtain ⟨xs,e0,q⟩:=q;obtain ⟨a,vs,rfl,ha,ta⟩:=dM S r1 e0;exact .inr ⟨a,vs,rfl,SqL.of ha,fun p n=>k.newZ S n (gQ (S.zn n) (GQ ta)) q⟩
def vU (x:PV) (G:Gh) (Q:Bool→Gh→Prop):Prop:=match x with
 | .non=>Q false G
 | .bl b=>Q b G
 | .int i=>Q (i != 0) G
 | .str y=>y.length≤sizeLine∧Q ((y.length:Int) != 0) G
 | .tup xs=>Q (!xs.isEmpty) G
 | x=>∃ xs,bT G x=some xs∧Q (!xs.isEmpty) G
theorem xJ {xs:List PV} {vs:List V} (r:RPs E Z xs vs):xs.isEmpty=vs.isEmpty:=by
 cases xs with
 | nil=>cases r; rfl
 | cons x xs=>obtain ⟨_,_,e,_,_⟩:=r; subst e; rfl
theorem sF {x:PV} {v:V} {Q':Bool→Gh→Prop} (hK:E.K=X.K) (S:Sim E F H Z G) (r:RP E Z x v) (q:vU x G Q'):∃ b,MY X.K v H b∧Q' b G:=by
 unfold vU at q;split at q
 · cases (show v= .non from r); exact ⟨_,rfl,q⟩
 · cases (show v= .bl _ from r); exact ⟨_,rfl,q⟩
 · cases (show v= .int _ from r); exact ⟨_,rfl,q⟩
 · cases (show v= .str _ from r); exact ⟨_,⟨q.1,rfl⟩,q.2⟩
 · obtain ⟨a,vs,rfl,ha,ta⟩:=fR S r;exact ⟨_,.inr (.inl ⟨vs,hK▸ha,by rw [xJ ta]⟩),q⟩
 · obtain ⟨xs,e0,q⟩:=q;obtain ⟨a,vs,rfl,ha,ta⟩:=dM S r e0;exact ⟨_,.inl ⟨vs,SqL.of ha,by rw [xJ ta]⟩,q⟩
inductive Bn where
 | len | abs | max | min | int | str | isi | tuple | list | all | any | sum | bool | repr | divmod
 deriving DecidableEq
noncomputable abbrev Sp3:=List PV→Gh→PK1→Prop
noncomputable def SV (E:Ev) (F:Hp) (p:List PV→Gh→PK1→Prop):List V→Hp→VK→Prop:=fun vs H Q=>∃ xs Z G Q',RPs E Z xs vs∧Sim E F H Z G∧p xs G Q'∧Kq E F Z Q' Q
noncomputable def pV:PV→Gh→Option String
 | .non,_=>some "NoneType"
 | .bl _,_=>some "bool"
 | .int _,_=>some "int"
 | .str _,_=>some "str"
 | .tup _,_=>some "tuple"
 | .lst _,_=>some "list"
 | .emp,_=>some "dict"
 | .dct _ _,_=>some "dict"
 | .ref a,G=>match G a with
   | some (.lst _)=>some "list"
   | _=>none
 | _,_=>none
noncomputable def KK:PV→Gh→Option String
 | .ob c _ _,_=>some c
 | .ref a,G=>match G a with
   | some (.ins c _ _)=>some c
   | _=>none
 | _,_=>none
structure WY (E:Ev) (cs:List String):Prop where
 own:∀ c∈cs,VY E.K (E.cls c)
 plain:∀ c∈cs,∀ n∈NM,W.kitOne E.K (.type n) (.ref (E.cls c))=some false
 other:∀ c∈cs,∀ T∈oM,W.kitOne E.K (.ref (E.cls c)) (.type T)=some false
 apart:∀ c∈cs,∀ c'∈cs,c≠c'→W.kitOne E.K (.ref (E.cls c)) (.ref (E.cls c'))=some false
noncomputable def FX:List PV→Option Bool
 | []=>some true
 | .bl b :: r=>(FX r).map (b && ·)
 | _ :: _=>none
noncomputable def EG:List PV→Option Bool
 | []=>some false
 | .bl b :: r=>(EG r).map (b || ·)
 | _ :: _=>none
theorem JM:∀ {xs:List PV} {b:Bool},FX xs=some b→∃ bs:List Bool,xs=bs.map PV.bl∧b=bs.all id
 | [],b,h=>by cases h; exact ⟨[],rfl,rfl⟩
 | x :: r,b,h=>by
   cases x with
   | bl c =>
     unfold FX at h;cases e:FX r with
     | none=>rw [e] at h; cases h
     | some d =>
       rw [e] at h; cases h;obtain ⟨bs,e1,e2⟩:=JM e;exact ⟨c :: bs,by rw [e1]; rfl,by rw [e2]; rfl⟩
   | _=>cases h
theorem JQ:∀ {xs:List PV} {b:Bool},EG xs=some b→∃ bs:List Bool,xs=bs.map PV.bl∧b=bs.any id
 | [],b,h=>by cases h; exact ⟨[],rfl,rfl⟩
 | x :: r,b,h=>by
   cases x with
   | bl c =>
     unfold EG at h;cases e:EG r with
     | none=>rw [e] at h; cases h
     | some d =>
       rw [e] at h; cases h;obtain ⟨bs,e1,e2⟩:=JQ e;exact ⟨c :: bs,by rw [e1]; rfl,by rw [e2]; rfl⟩
   | _=>cases h
theorem RPs.bools:∀ {bs:List Bool} {vs:List V},RPs E Z (bs.map PV.bl) vs→vs=bs.map V.bl
 | [],_,h=>h
 | _ :: _,_,⟨v,r,e1,h,t⟩=>by
   have h':v=V.bl _:=h;subst e1 h'; rw [RPs.bools t]; rfl
noncomputable def eV (cs:List String):Bn→List PV→Gh→PK1→Prop
 | .len,[x],G,Q=>(∃ xs,x= .tup xs∧Q (.int xs.length) G)∨(∃ ns,x= .scr ns∧Q (.int ns.length) G)∨(∃ z,x= .str z∧z.length≤sizeLine∧Q (.int z.length) G)∨∃ xs,bT G x=some xs∧Q (.int xs.length) G
 | .abs,[.int i],G,Q=>Q (.int (i.natAbs:Int)) G
 | .max,[.int i,.int j],G,Q=>Q (.int (max i j)) G
 | .min,[.int i,.int j],G,Q=>Q (.int (min i j)) G
 | .int,[.int i],G,Q=>Q (.int i) G
 | .int,[.bl b],G,Q=>Q (.int (if b then 1 else 0)) G
 | .isi,[x,.ty T],G,Q=>T∈oM∧((∃ n,pV x G=some n∧Q (.bl (BZ n T)) G)∨∃ c,KK x G=some c∧c∈cs∧Q (.bl false) G)
 | .isi,[x,.cl c],G,Q=>c∈cs∧((∃ n,pV x G=some n∧Q (.bl false) G)∨∃ c',KK x G=some c'∧c'∈cs∧Q (.bl (decide (c'=c))) G)
 | .tuple,[x],G,Q=>(∃ xs,x= .tup xs∧Q x G)∨∃ xs,bT G x=some xs∧Q (.tup xs) G
 | .list,[x],G,Q=>(∃ xs,x= .tup xs∧Q (.lst xs) G)∨∃ xs,bT G x=some xs∧Q (.lst xs) G
 | .all,[x],G,Q=>∃ xs b,bT G x=some xs∧FX xs=some b∧Q (.bl b) G
 | .any,[x],G,Q=>∃ xs b,bT G x=some xs∧EG xs=some b∧Q (.bl b) G
 | _,_,_,_=>False
noncomputable def PB:Bn→Value
 | .len=>.builtin "len"
 | .abs=>.builtin "abs"
 | .max=>.builtin "max"
 | .min=>.builtin "min"
 | .int=>.type "int"
 | .str=>.type "str"
 | .isi=>.builtin "isinstance"
 | .tuple=>.type "tuple"
 | .list=>.type "list"
 | .all=>.builtin "all"
 | .any=>.builtin "any"
 | .sum=>.builtin "sum"
 | .bool=>.type "bool"
 | .repr=>.builtin "repr"
 | .divmod=>.builtin "divmod"
theorem yN {x:PV} {vs:List V} (r:RPs E Z [x] vs):∃ v,vs=[v]∧RP E Z x v:=by
 obtain ⟨v,t,e,r1,r2⟩:=r;have e2:t=[]:=r2;subst e2;exact ⟨v,e,r1⟩
theorem aAc {x y:PV} {vs:List V} (r:RPs E Z [x,y] vs):∃ v u,vs=[v,u]∧RP E Z x v∧RP E Z y u:=by
 obtain ⟨v,t,e,r1,u,t',e',r2,r3⟩:=r;have e2:t'=[]:=r3;subst e2 e';exact ⟨v,u,e,r1,r2⟩
theorem yH {x:PV} {v:V} {n:String} (S:Sim E F H Z G) (r:RP E Z x v) (h:pV x G=some n):n∈NM∧(tyN H v=some n∨(n="tuple"∧∃ a vs,v= .ref a∧SqT E.K H a vs)):=by
 cases x with
 | non=>cases h; cases (show v= .non from r); exact ⟨by decide,.inl rfl⟩
 | bl b=>cases h; cases (show v= .bl b from r); exact ⟨by decide,.inl rfl⟩
 | int b=>cases h; cases (show v= .int b from r); exact ⟨by decide,.inl rfl⟩
 | str b=>cases h; cases (show v= .str b from r); exact ⟨by decide,.inl rfl⟩
 | tup xs =>
   cases h;obtain ⟨a,vs,rfl,ha,_⟩:=fR S r;exact ⟨by decide,.inr ⟨rfl,a,vs,rfl,ha⟩⟩
 | lst xs =>
   cases h;obtain ⟨a,vs,rfl,ha,_⟩:=dM (xs:=xs) S r rfl;exact ⟨by decide,.inl (by simp only [tyN,ha])⟩
 | emp =>
   cases h;obtain ⟨a,rfl,ha⟩:=r;exact ⟨by decide,.inl (by simp only [tyN,S.z _ _ ha])⟩
 | dct ks xs =>
   cases h;obtain ⟨a,vs,rfl,ha,_,_⟩:=r;exact ⟨by decide,.inl (by simp only [tyN,S.z _ _ ha])⟩
 | ref a =>
   unfold pV at h;dsimp only at h;split at h
   · rename_i xs e;cases h;obtain ⟨a',vs,rfl,ha,_⟩:=dM (xs:=xs) S r (by unfold bT; dsimp only; rw [e]);exact ⟨by decide,.inl (by simp only [tyN,ha])⟩
   · cases h
 | _=>cases h
theorem IS {pins:List (Addr×Obj)} {σ:L2.St} {s:Shared} {x:PV} {v:V} {u c:Value} {n:String} {b:Bool} {Q:VK} (hK:E.K=X.K) (I:Inv X pins σ H s) (S:Sim E F H Z G) (r:RP E Z x v) (rv:aP v u) (h:pV x G=some n)
   (e:W.kitOne X.K (.type n) c=some b) (q:Q (.bl b) H):wpAny (model X.prog X.w) X.A (call (.builtin "isinstance") [u,c]) (EP X pins σ Q) X.xe s:=by
 obtain ⟨_,t | ⟨hn,a,vs,hv,ha⟩⟩:=yH S r h
 · exact xQ I rv (aEc t) e fun tk=>⟨.bl b,H,I.tok tk,rfl,q⟩
 · subst hn hv;cases rv;obtain ⟨its,_,⟨o,h1,h2,_⟩,_⟩:=I.tuple (hK▸ha);exact W.kia_one W.kitx_tuple I.kIn ⟨o,h1,h2⟩ e (fun z=>nomatch z) fun tk=>⟨.bl b,H,I.tok tk,rfl,q⟩
theorem aAn {x:PV} {v:V} {c:String} (S:Sim E F H Z G) (r:RP E Z x v) (h:KK x G=some c):∃ a dx fs,v= .ref a∧H a=some (.ins (E.cls c) dx fs):=by
 cases x with
 | ob c' ns xs =>
   cases h;obtain ⟨a,dx,vs,rfl,q,_,_⟩:=r;exact ⟨a,dx,_,rfl,S.z _ _ q⟩
 | ref a =>
   unfold KK at h;dsimp only at h;split at h
   · rename_i c' ns xs e;cases h;have e1:v= .ref a:=r;subst e1;obtain ⟨_,o',q,dx,vs,e',_,_⟩:=S.g _ _ e;subst e';exact ⟨a,dx,_,rfl,q⟩
   · cases h
 | _=>cases h
theorem zW {pins:List (Addr×Obj)} {σ:L2.St} {s:Shared} {x:PV} {v:V} {u t:Value} {c:String} {b:Bool} {Q:VK} (hK:E.K=X.K) (I:Inv X pins σ H s) (S:Sim E F H Z G) (r:RP E Z x v) (rv:aP v u) (h:KK x G=some c) (O:VY E.K (E.cls c))
   (e:W.kitOne X.K (.ref (E.cls c)) t=some b) (q:Q (.bl b) H):wpAny (model X.prog X.w) X.A (call (.builtin "isinstance") [u,t]) (EP X pins σ Q) X.xe s:=by
 obtain ⟨a,dx,fs,rfl,ha⟩:=aAn S r h;have O:VY X.K (E.cls c):=hK▸O;exact xQ I rv (.ins ha O.cl O.ha O.hn O.htk O.hm) e fun tk=>⟨.bl b,H,I.tok tk,rfl,q⟩
theorem bL.or {f:Value} {r r':List V→Hp→VK→Prop} (h:bL X f r) (h':bL X f r'):bL X f (fun xs H Q=>r xs H Q∨r' xs H Q):=by
 intro pins s σ H xs us Q I rs q;rcases q with q | q
 · exact h pins s σ H xs us Q I rs q
 · exact h' pins s σ H xs us Q I rs q
theorem noC {f:Value} {p:List PV→Gh→PK1→Prop} (h:∀ xs G Q,¬p xs G Q):bL X f (SV E F p):=by rintro _ _ _ _ _ _ _ _ _ ⟨_,_,_,_,_,_,q,_⟩;exact absurd q (h _ _ _)
noncomputable def MD:Bn→Bool
 | .max=>true
 | .min=>true
 | .all=>true
 | .any=>true
 | .sum=>true
 | .len=>false
 | .abs=>false
 | .int=>false
 | .str=>false
 | .isi=>false
 | .tuple=>false
 | .list=>false
 | .bool=>false
 | .repr=>false
 | .divmod=>false
theorem IL {cs:List String} (hK:E.K=X.K) (C:WY E cs):∀ b,(MD b=true→X.calm=true)→bL X (PB b) (SV E F (eV cs b))
 | .len,hc=>by
   refine (bL.or zN yI).imp fun vs H Q h=>?_;obtain ⟨xs,Z,G,Q',r,S,q,k⟩:=h
   match xs,q with
   | [x],q =>
     obtain ⟨v,rfl,rr⟩:=yN r;rcases q with ⟨ys,rfl,q⟩ | ⟨ns,rfl,q⟩ | ⟨z,rfl,hz,q⟩ | ⟨ys,e,q⟩
     · obtain ⟨a,vs,rfl,ha,ta⟩:=fR S rr;exact .inl ⟨a,vs,rfl,.inr (hK▸ha),k.here S q (by rw [ta.length]; exact bK)⟩
     · obtain ⟨a,rfl,ha⟩:=rr;exact .inl ⟨a,_,rfl,.inl (hK▸S.z.seq ha),k.here S q (by rw [List.length_map]; exact bK)⟩
     · exact .inr ⟨z,by rw [show v= .str z from rr],hz,k.here S q bK⟩
     · obtain ⟨a,vs,rfl,ha,ta⟩:=dM S rr e;exact .inl ⟨a,vs,rfl,.inl (SqL.of ha),k.here S q (by rw [ta.length]; exact bK)⟩
 | .abs,hc=>by
   refine LP.imp fun vs H Q h=>?_;obtain ⟨xs,Z,G,Q',r,S,q,k⟩:=h
   match xs,q with
   | [.int i],q =>
     obtain ⟨v,rfl,rr⟩:=yN r;exact ⟨i,by rw [show v= .int i from rr],k.here S q bK⟩
 | .max,hc=>by
   refine (LB (hc rfl)).imp fun vs H Q h=>?_;obtain ⟨xs,Z,G,Q',r,S,q,k⟩:=h
   match xs,q with
   | [.int i,.int j],q =>
     obtain ⟨v,u,rfl,r1,r2⟩:=aAc r;have e:max i j=if j > i then j else i:=by split <;> omega
     exact ⟨i,j,by rw [show v= .int i from r1,show u= .int j from r2],k.here S q (by rw [e]; exact bK)⟩
 | .min,hc=>by
   refine (KO (hc rfl)).imp fun vs H Q h=>?_;obtain ⟨xs,Z,G,Q',r,S,q,k⟩:=h
   match xs,q with
   | [.int i,.int j],q =>
     obtain ⟨v,u,rfl,r1,r2⟩:=aAc r;have e:min i j=if j < i then j else i:=by split <;> omega
     exact ⟨i,j,by rw [show v= .int i from r1,show u= .int j from r2],k.here S q (by rw [e]; exact bK)⟩
 | .int,hc=>by
   refine OI.imp fun vs H Q h=>?_;obtain ⟨xs,Z,G,Q',r,S,q,k⟩:=h
   match xs,q with
   | [.int i],q =>
     obtain ⟨v,rfl,rr⟩:=yN r;exact .inl ⟨i,by rw [show v= .int i from rr],k.here S q bK⟩
   | [.bl i],q =>
     obtain ⟨v,rfl,rr⟩:=yN r;exact .inr ⟨i,by rw [show v= .bl i from rr],k.here S q bK⟩
 | .str,hc=>noC fun xs G Q q=>by unfold eV at q; exact q
 | .isi, hc=>by
   intro pins s σ H vs us Q I rv h;obtain ⟨xs,Z,G,Q',r,S,q,k⟩:=h
   match xs,q with
   | [x,.ty T],q =>
     obtain ⟨v,w',rfl,r1,r2⟩:=aAc r;obtain ⟨u,u',rfl,rv1,rv2⟩:=IJ rv;have e:w'= .ty T:=r2;subst e;have e2:u'= .type T:=rv2;subst e2;obtain ⟨hT,⟨n,hn,q⟩ | ⟨c,hcn,hcs,q⟩⟩:=q
     · exact IS hK I S r1 rv1 hn (aDV X.K n (yH S r1 hn).1 T hT) (k.here S q bZ)
     · exact zW hK I S r1 rv1 hcn (C.own c hcs) (hK▸C.other c hcs T hT) (k.here S q bZ)
   | [x, .cl c],q =>
     obtain ⟨v,w',rfl,r1,r2⟩:=aAc r;obtain ⟨u,u',rfl,rv1,rv2⟩:=IJ rv;have e:w'= .ref (E.cls c):=r2;subst e;have e2:u'= .ref (E.cls c):=rv2;subst e2;obtain ⟨hcs,⟨n,hn,q⟩ | ⟨c',hcn,hcs',q⟩⟩:=q
     · exact IS hK I S r1 rv1 hn (hK▸C.plain c hcs n (yH S r1 hn).1) (k.here S q bZ)
     · by_cases e:c'=c
       · subst e;rw [decide_eq_true rfl] at q;exact zW hK I S r1 rv1 hcn (C.own _ hcs') (by unfold W.kitOne; rw [if_pos (beq_self_eq_true _)]) (k.here S q bZ)
       · rw [decide_eq_false e] at q;exact zW hK I S r1 rv1 hcn (C.own _ hcs') (hK▸C.apart c' hcs' c hcs e) (k.here S q bZ)
 | .tuple,hc=>by
   refine wS.imp fun vs H Q h=>?_;obtain ⟨xs,Z,G,Q',r,S,q,k⟩:=h
   match xs,q with
   | [x],q =>
     obtain ⟨v,rfl,rr⟩:=yN r;rcases q with ⟨ys,rfl,q⟩ | ⟨ys,e,q⟩
     · obtain ⟨a,vs,e,ha,ta⟩:=fR S rr;subst e;exact ⟨a,vs,rfl,.inr ⟨hK▸ha,k.here S q rr⟩⟩
     · obtain ⟨a,vs,rfl,ha,ta⟩:=dM S rr e;exact ⟨a,vs,rfl,.inl ⟨SqL.of ha,fun l n=>k.newZ S n (lH (S.zn n) ta) q⟩⟩
 | .list,hc=>by
   refine yX.imp fun vs H Q h=>?_;obtain ⟨xs,Z,G,Q',r,S,q,k⟩:=h
   match xs,q with
   | [x],q =>
     obtain ⟨v,rfl,rr⟩:=yN r;rcases q with ⟨ys,rfl,q⟩ | ⟨ys,e,q⟩
     · obtain ⟨a,vs,rfl,ha,ta⟩:=fR S rr;exact ⟨a,vs,rfl,.inr (hK▸ha),fun l n=>k.newZ S n (gQ (S.zn n) ta) q⟩
     · obtain ⟨a,vs,rfl,ha,ta⟩:=dM S rr e;exact ⟨a,vs,rfl,.inl (SqL.of ha),fun l n=>k.newZ S n (gQ (S.zn n) ta) q⟩
 | .divmod,hc=>noC fun xs G Q q=>by unfold eV at q; exact q
 | .all,hc=>by
   refine (NF (hc rfl)).imp fun vs H Q h=>?_;obtain ⟨xs,Z,G,Q',r,S,q,k⟩:=h
   match xs,q with
   | [x],q =>
     obtain ⟨v,rfl,rr⟩:=yN r;obtain ⟨ys,b,e,eb,q⟩:=q;obtain ⟨bs,e1,e2⟩:=JM eb;subst e1 e2;obtain ⟨a,vs,rfl,ha,ta⟩:=dM S rr e;exact ⟨a,bs,rfl,by rw [←ta.bools]; exact ha,k.here S q bZ⟩
 | .any,hc=>by
   refine (NO (hc rfl)).imp fun vs H Q h=>?_;obtain ⟨xs,Z,G,Q',r,S,q,k⟩:=h
   match xs,q with
   | [x],q =>
     obtain ⟨v,rfl,rr⟩:=yN r;obtain ⟨ys,b,e,eb,q⟩:=q;obtain ⟨bs,e1,e2⟩:=JQ eb;subst e1 e2;obtain ⟨a,vs,rfl,ha,ta⟩:=dM S rr e;exact ⟨a,bs,rfl,by rw [←ta.bools]; exact ha,k.here S q bZ⟩
 | .sum,hc=>noC fun xs G Q q=>by unfold eV at q; exact q
 | .bool,hc=>noC fun xs G Q q=>by unfold eV at q; exact q
 | .repr,hc=>noC fun xs G Q q=>by unfold eV at q; exact q
end
inductive Ar where
 | arg (i:Nat) | non | bl (b:Bool) | int (i:Int) | str (x:Str)
 deriving DecidableEq
noncomputable def Ar.val (xs:List PV):Ar→PV
 | .arg i=>xs.getD i .non
 | .non=>.non
 | .bl b=>.bl b
 | .int i=>.int i
 | .str x=>.str x
inductive CE where
 | var (i:Nat) | int (i:Int) | bl (b:Bool) | non | str (x:Str) | glo (x:Str)
 | bin (op:Operator) (a b:CE) | neg (a:CE) | no (a:CE)
 | cmp (op:CmpOp) (a b:CE) | chn (op op':CmpOp) (a b c:CE)
 | an (a b:CE) | oo (a b:CE) | tst (a:CE) | tsb (a:CE)
 | tup (es:CE) | lst (m:Bool) (es:CE) | nil | cons (a b:CE)
 | idx (a i:CE) | sli (a lo hi:CE) | att (a:CE) (f:Str)
 | cal (f:Str) (es:CE) | cak (f:Str) (es ks:CE) (ar:List Ar) | blt (b:Bn) (es:CE) | app (a e:CE)
 | cmpr (m:Bool) (tg it ts el:CE) (js:List (Option Nat))
 | isq (e:CE) | irg (es:CE) | ien (e:CE) | izp (es:CE)
 | gn (i:Nat) | gt (n:Nat) (gs:CE)
 | ceq (eqs:List (String×Str)) (a b:CE) | dct (es:CE) | bow (b:Bn) (ls:List (String×Str)) (es:CE) | cne (eqs:List (String×Str)) (a b:CE) | gl (n:Nat) (gs:CE) | rpr (e:CE) | cex (op:CmpOp) (eqs:List (String×Str)) (a b:CE) | gix (ks:List (Str×Str)) (e:CE) | gin (neg:Bool) (ks:List (Str×Str)) (e:CE) | cav (fs:List (Str×Nat×List Ar)) (i:Nat) (es:CE) | isx (a:CE) (n:Str) | atx (a:CE) (f:Str) | cnt (a e:CE) | bln (a:CE) | met (m:Str) (ls:List (String×Str×List Ar)) (a es:CE)
inductive CS where
 | nil | seq (a b:CS) | ex (e:CE) | asg (g e:CE) | par (i j:Nat) (a b:CE) | par3 (i j l:Nat) (a b c:CE) | sub (o i e:CE) | fld (o:CE) (f:Str) (e:CE)
 | iff (c:CE) (a b:CS) | wh (c:CE) (b:CS) | fr (g it:CE) (b:CS) | ret (e:CE) | retN | nev
 | tri (b:CS) (i:Nat) (cs:List String) | trh (b:CS) (j:Nat) (h:CS) (cs:List String)
structure Tb where
 S:Str→Sp3
 gv:Str→PV
 cs:List String
 fl:List (String×Str)
 fam:PX→Str→Sp3:=fun _ _ _ _ _=>False
 xp:PX:=fun _ _ _ _=>False
 xi:List (String×Str×Bool):=[]
 fx:List (String×Str):=[]
noncomputable abbrev Tb.at (T:Tb) (x:PX):Tb:={ T with S:=T.fam x,xp:=x }
def aD7 (x:PV) (G:Gh) (Q:PK1):Prop:=match x with
 | .int i=>Q (.int (-i)) G
 | _=>False
def pIs (neg:Bool) (x y:PV) (G:Gh) (Q:PK1):Prop:=match y with
 | .non=>(x= .non∧Q (.bl (!neg)) G)∨(x≠.non∧Q (.bl neg) G)
 | .bl b=>∃ c,x= .bl c∧Q (.bl (if neg then !(c == b) else c == b)) G
 | _=>False
noncomputable def flP:PV→Bool
 | .non=>true
 | .bl _=>true
 | .int _=>true
 | .str _=>true
 | _=>false
def pIn (neg:Bool) (x y:PV) (G:Gh) (Q:PK1):Prop:= ∃ xs,(y= .tup xs∨bT G y=some xs)∧flP x=true∧xs.all flP=true∧Q (.bl (if neg=true then !(xs.any fun z=>peq z x) else xs.any fun z=>peq z x)) G
noncomputable def nK:CmpOp→P2
 | .Lt=>pI (fun _ _=>True) fun i j=>.bl (decide (i < j))
 | .LtE=>pI (fun _ _=>True) fun i j=>.bl (decide (i≤j))
 | .Gt=>pI (fun _ _=>True) fun i j=>.bl (decide (j < i))
 | .GtE=>pI (fun _ _=>True) fun i j=>.bl (decide (j≤i))
 | .Eq=>pEq false
 | .NotEq=>pEq true
 | .Is=>pIs false
 | .IsNot=>pIs true
 | .In=>pIn false
 | .NotIn=>pIn true
def FE (T:Tb) (x:PV) (f:Str) (G:Gh) (Q:PK1):Prop:= ∃ c ns xs v,(x= .ob c ns xs∨∃ a,x= .ref a∧G a=some (.ins c ns xs))∧(c,f)∈T.fl∧(ns.zip xs).lookup f=some v∧Q v G
noncomputable abbrev PTG:=PV→PSt→Gh→(PSt→Gh→Prop)→Prop
noncomputable abbrev PTI:=PSt→Gh→((Gh→Prop)→List PV→Gh→Prop)→Prop
noncomputable def yD (js:List (Option Nat)) (σ:PSt):PSt:=js.map fun o=>match o with | none=>none | some j=>(σ[j]?).getD none
noncomputable def gN (chk:Gh→Prop) (g:PTG) (ts:PTT) (te:PTE):List PV→List PV→PSt→Gh→(List PV→Gh→Prop)→Prop
 | [],acc,_,G,Q=>chk G∧Q acc G
 | x :: r,acc,σ,G,Q=>chk G∧g x σ G fun σ2 G2=>ts σ2 G2 fun ok G3=>if ok=true then te σ2 G3 fun y G4=>gN chk g ts te r (acc ++ [y]) σ2 G4 Q else gN chk g ts te r acc σ2 G3 Q
noncomputable def nS (chk:Gh→Prop) (g:PTG) (tb:PTS) (D:dY):List PV→PSt→Gh→Prop
 | [],σ,G=>chk G∧D.nx σ G
 | x :: r,σ,G=>chk G∧g x σ G fun σ2 G2=>tb { D with nx:=nS chk g tb D r,ct:=nS chk g tb D r,bk:=D.nx } σ2 G2
def vO (m:Bool) (G:Gh) (xs:List PV) (Q:PK1):Prop:=if m=true then ∀ p,G p=none→Q (.ref p) (gup G p (.lst xs)) else Q (.lst xs) G
noncomputable def oO (lo:Int) (n:Nat):List PV:=(List.range n).map fun (k:Nat)=>PV.int (lo + (k:Int))
noncomputable def AS (xs:List PV):List PV:=xs.zipIdx.map fun p=>PV.tup [.int (p.2:Int),p.1]
noncomputable def OY:PV→Option (List PV)
 | .tup ys=>some ys
 | .lst ys=>some ys
 | _=>none
noncomputable def mS (n:Nat) (yss:List (List PV)):List PV:=(List.range n).map fun i=>PV.tup (yss.map fun ys=>ys.getD i .non)
def UA (x:PV) (G:Gh) (R:(Gh→Prop)→List PV→Gh→Prop):Prop:=match x with
 | .tup xs=>R (fun _=>True) xs G
 | .lst xs=>R (fun _=>True) xs G
 | .scr ns=>R (fun _=>True) (ns.map .int) G
 | .ref a=>∃ xs,G a=some (.lst xs)∧R (fun G'=>G' a=some (.lst xs)) xs G
 | _=>False
noncomputable def aGy (T:Tb) (eqs:List (String×Str)) (x y:PV) (G:Gh) (Q:PK1):Prop :=
 (∃ c m ns xs ns' ys,(c,m)∈eqs∧x= .ob c ns xs∧y= .ob c ns' ys∧T.S m [x,y] G fun v G'=>∃ b,v= .bl b∧Q (.bl b) G')∨pEq false x y G Q
noncomputable def TV (T:Tb) (eqs:List (String×Str)) (x y:PV) (G:Gh) (Q:PK1):Prop :=
 (∃ c m ns xs ns' ys,(c,m)∈eqs∧x= .ob c ns xs∧y= .ob c ns' ys∧T.S m [x,y] G fun v G'=>∃ b,v= .bl b∧Q (.bl (!b)) G')∨pEq true x y G Q
def aJp (b:Bn) (v:PV) (G:Gh) (Q:PK1):Prop:=match b with
 | .len=>∃ n:Int,v= .int n∧0≤n∧n < 2 ^ 63∧Q (.int n) G
 | .bool=>∃ n:Int,v= .int n∧0≤n∧n < 2 ^ 63∧Q (.bl (n != 0)) G
 | .str=>∃ x,v= .str x∧Q (.str x) G
 | .repr=>∃ x,v= .str x∧Q (.str x) G
 | _=>False
noncomputable def aEa (T:Tb) (b:Bn) (ls:List (String×Str)) (xs:List PV) (G:Gh) (Q:PK1):Prop :=
 (∃ c m ns ys,(c,m)∈ls∧xs=[.ob c ns ys]∧T.S m xs G fun v G'=>aJp b v G' Q)∨eV T.cs b xs G Q
def aJG (x:PV) (G:Gh) (Q:PK1):Prop:= ∃ d,(dat x=some d∨dte x=some d)∧d.showable=true∧d.depth≤64∧d.shown.length≤sizeLine∧(∀ i:Int,x= .int i→i.natAbs.log2 < 1920)∧Q (.str d.shown) G
noncomputable def buP:PV→Gh→Prop
 | .non,_=>True
 | .bl _,_=>True
 | .int _,_=>True
 | .str _,_=>True
 | .tup _,_=>True
 | .lst _,_=>True
 | .scr _,_=>True
 | .emp,_=>True
 | .dct _ _,_=>True
 | .ref p,G=>∃ xs,bT G (.ref p)=some xs
 | _,_=>False
def anP (T:Tb) (c:String) (y:PV) (G:Gh):Prop:=buP y G∨∃ d ns ys,y= .ob d ns ys∧d∈T.cs∧d≠c
def aJb (T:Tb) (eqs:List (String×Str)) (x y:PV) (G:Gh) (Q:PK1):Prop:= ∃ c m ns xs,(c,m)∈eqs∧x= .ob c ns xs∧anP T c y G∧T.S m [x,y] G fun v G'=>∃ b,v= .bl b∧Q (.bl b) G'
def aIM (T:Tb) (eqs:List (String×Str)) (x y:PV) (G:Gh) (Q:PK1):Prop:= ∃ c m ns ys,(c,m)∈eqs∧y= .ob c ns ys∧anP T c x G∧T.S m [y,x] G fun v G'=>∃ b,v= .bl b∧Q (.bl b) G'
def aIT (T:Tb) (eqs:List (String×Str)) (x y:PV) (G:Gh) (Q:PK1):Prop:= ∃ c m ns xs,(c,m)∈eqs∧x= .ob c ns xs∧anP T c y G∧T.S m [x,y] G fun v G'=>∃ b,v= .bl b∧Q (.bl (!b)) G'
noncomputable def inP (T:Tb) (c:String) (m:Str) (x:PV) (Q:Bool→Gh→Prop):List PV→Gh→Prop
 | [],G=>Q false G
 | y :: r,G=>((∃ ns ys,y= .ob c ns ys)∧Q true G∧T.S m [y,x] G fun v G'=>∃ b,v= .bl b∧if b=true then Q true G' else inP T c m x Q r G')∨
     (anP T c y G∧T.S m [x,y] G fun v G'=>∃ b,v= .bl b∧if b=true then Q true G' else inP T c m x Q r G')
noncomputable def aFR (T:Tb) (eqs:List (String×Str)) (neg:Bool) (x y:PV) (G:Gh) (Q:PK1):Prop :=
 ∃ c m ns xs ys,(c,m)∈eqs∧x= .ob c ns xs∧(y= .lst ys∨(neg=false∧y= .tup ys))∧inP T c m x (fun b G'=>Q (.bl (if neg=true then !b else b)) G') ys G
def pX (T:Tb) (op:CmpOp) (eqs:List (String×Str)) (x y:PV) (G:Gh) (Q:PK1):Prop:=match op with
 | .Eq=>aGy T eqs x y G Q∨aJb T eqs x y G Q∨aIM T eqs x y G Q
 | .NotEq=>TV T eqs x y G Q∨aIT T eqs x y G Q
 | .In=>aFR T eqs false x y G Q
 | .NotIn=>aFR T eqs true x y G Q
 | _=>False
noncomputable def kP:Key→PV
 | .inl i=>.int i
 | .inr x=>.str x
noncomputable def flK:List (Key×PV)→List PV
 | []=>[]
 | p :: r=>kP p.1 :: p.2 :: flK r
mutual
noncomputable def wpE (T:Tb):CE→PTE
 | .var i=>fun σ G Q=>∃ v,σ[i]? =some (some v)∧Q v G
 | .int i=>fun _ G Q=>Q (.int i) G
 | .bl b=>fun _ G Q=>Q (.bl b) G
 | .non=>fun _ G Q=>Q .non G
 | .str x=>fun _ G Q=>Q (.str x) G
 | .glo x=>fun _ G Q=>Q (T.gv x) G
 | .bin op a b=>fun σ G Q=>wpE T a σ G fun x G1=>wpE T b σ G1 fun y G2=>zM op x y G2 Q
 | .neg a=>fun σ G Q=>wpE T a σ G fun x G1=>aD7 x G1 Q
 | .no a=>fun σ G Q=>wpE T a σ G fun x G1=>vU x G1 fun b G2=>Q (.bl (!b)) G2
 | .cmp op a b=>fun σ G Q=>wpE T a σ G fun x G1=>wpE T b σ G1 fun y G2=>nK op x y G2 Q
 | .chn op op' a b c=>fun σ G Q=>wpE T a σ G fun x G1=>wpE T b σ G1 fun y G2=>nK op x y G2 fun z G3=>∃ k,z= .bl k∧if k=true then wpE T c σ G3 fun w G4=>nK op' y w G4 Q else Q (.bl false) G3
 | .dct es=>fun σ G Q=>wpL T es σ G fun xs G1=>∃ kvs:List (Key×PV),xs=flK kvs∧(kvs.map (·.1)).Nodup∧kvs.length≤15∧Q (.dct (kvs.map (·.1)) (kvs.map (·.2))) G1
 | .cnt a b=>fun σ G Q=>wpE T a σ G fun x G1=>(∃ xs,bT G1 x=some xs)∧wpE T b σ G1 fun y G2=>∃ (bs:List Bool) (b:Bool),bT G2 x=some (bs.map PV.bl)∧y= .bl b∧Q (.int (bs.count b)) G2
 | .bow b ls es=>fun σ G Q=>wpL T es σ G fun xs G1=>aEa T b ls xs G1 Q
 | .cne eqs a b=>fun σ G Q=>wpE T a σ G fun x G1=>wpE T b σ G1 fun y G2=>TV T eqs x y G2 Q
 | .ceq eqs a b=>fun σ G Q=>wpE T a σ G fun x G1=>wpE T b σ G1 fun y G2=>aGy T eqs x y G2 Q
 | .an a b=>fun σ G Q=>wpE T a σ G fun x G1=>vU x G1 fun c G2=>if c=true then wpE T b σ G2 Q else Q x G2
 | .oo a b=>fun σ G Q=>wpE T a σ G fun x G1=>vU x G1 fun c G2=>if c=true then Q x G2 else wpE T b σ G2 Q
 | .tup es=>fun σ G Q=>wpL T es σ G fun xs G1=>xs.length≤sizeLine∧Q (.tup xs) G1
 | .lst m es=>fun σ G Q=>wpL T es σ G fun xs G1=>xs.length≤sizeLine∧vO m G1 xs Q
 | .idx a i=>fun σ G Q=>wpE T a σ G fun x G1=>wpE T i σ G1 fun y G2=>wE x y G2 Q
 | .sli a lo hi=>fun σ G Q=>wpE T a σ G fun x G1=>wpO T lo σ G1 fun l G2=>wpO T hi σ G2 fun h G3=>UH x l h G3 Q
 | .att a f=>fun σ G Q=>wpE T a σ G fun x G1=>FE T x f G1 Q
 | .cal f es=>fun σ G Q=>wpL T es σ G fun xs G1=>T.S f xs G1 Q
 | .cak f es ks ar=>fun σ G Q=>wpL T es σ G fun xs G1=>wpL T ks σ G1 fun zs G2=>T.S f (ar.map (Ar.val (xs ++ zs))) G2 Q
 | .blt b es=>fun σ G Q=>wpL T es σ G fun xs G1=>eV T.cs b xs G1 Q
 | .app a e=>fun σ G Q=>wpE T a σ G fun x G1=>(∃ ys,bT G1 x=some ys)∧wpE T e σ G1 fun y G2=>∃ p xs,x= .ref p∧G2 p=some (.lst xs)∧xs.length < sizeLine∧Q .non (gup G2 p (.lst (xs ++ [y])))
 | .cmpr m tg it ts el js=>fun σ G Q=>wpI T it σ G fun chk xs G1=>xs.length≤sizeLine∧gN chk (wpG T tg) (wpT T ts) (wpE T el) xs [] (yD js σ) G1 fun ys G2=>vO m G2 ys Q
 | .cex op eqs a b=>fun σ G Q=>wpE T a σ G fun x G1=>wpE T b σ G1 fun y G2=>pX T op eqs x y G2 Q
 | .rpr e=>fun σ G Q=>wpE T e σ G fun x G1=>aJG x G1 Q
 | .gix ks e=>fun σ G Q=>wpE T e σ G fun y G1=>∃ z f,y= .str z∧ks.lookup z=some f∧Q (.fn f) G1
 | .gin neg ks e=>fun σ G Q=>wpE T e σ G fun y G1=>∃ z,y= .str z∧Q (.bl (if neg=true then !(ks.lookup z).isSome else (ks.lookup z).isSome)) G1
 | .cav fs i es=>fun σ G Q=>∃ f n ar,σ[i]? =some (some (.fn f))∧(f,n,ar)∈fs∧wpL T es σ G fun xs G1=>T.S f (ar.map (Ar.val xs)) G1 Q
 | .isx a n=>fun σ G Q=>wpE T a σ G fun x G1=>∃ c ns xs r,x= .exc c ns xs∧(c,n,r)∈T.xi∧Q (.bl r) G1
 | .atx a f=>fun σ G Q=>wpE T a σ G fun x G1=>∃ c ns xs v,x= .exc c ns xs∧(c,f)∈T.fx∧(ns.zip xs).lookup f=some v∧Q v G1
 | .bln a=>fun σ G Q=>wpE T a σ G fun x G1=>∃ i:Int,x= .int i∧Q (.int ((Builtin.Int.intBits i:Nat):Int)) G1
 | .met m ls a es=>fun σ G Q=>wpE T a σ G fun x G1=>∃ c ky ar ns xs,(c,ky,ar)∈ls∧(x= .ob c ns xs∨∃ p,x= .ref p∧G1 p=some (.ins c ns xs))∧m∉ ns∧wpL T es σ G1 fun ys G2=>T.S ky (x :: ar.map (Ar.val ys)) G2 Q
 | .tst _=>fun _ _ _=>False
 | .tsb _=>fun _ _ _=>False
 | .nil=>fun _ _ _=>False
 | .cons _ _=>fun _ _ _=>False
 | .isq _=>fun _ _ _=>False
 | .irg _=>fun _ _ _=>False
 | .ien _=>fun _ _ _=>False
 | .izp _=>fun _ _ _=>False
 | .gn _=>fun _ _ _=>False
 | .gt _ _=>fun _ _ _=>False
 | .gl _ _=>fun _ _ _=>False
noncomputable def wpL (T:Tb):CE→PTA
 | .nil=>fun _ G Q=>Q [] G
 | .cons a b=>fun σ G Q=>wpE T a σ G fun x G1=>wpL T b σ G1 fun xs G2=>Q (x :: xs) G2
 | _=>fun _ _ _=>False
noncomputable def wpT (T:Tb):CE→PTT
 | .an a b=>fun σ G Q=>wpT T a σ G fun c G1=>if c=true then wpT T b σ G1 Q else Q false G1
 | .oo a b=>fun σ G Q=>wpT T a σ G fun c G1=>if c=true then Q true G1 else wpT T b σ G1 Q
 | .no a=>fun σ G Q=>wpT T a σ G fun c G1=>Q (!c) G1
 | .tst a=>fun σ G Q=>wpE T a σ G fun x G1=>vU x G1 Q
 | .tsb a=>fun σ G Q=>wpE T a σ G fun x G1=>∃ k,x= .bl k∧Q k G1
 | .nil=>fun _ G Q=>Q true G
 | _=>fun _ _ _=>False
noncomputable def wpO (T:Tb):CE→PSt→Gh→(Option Int→Gh→Prop)→Prop
 | .nil=>fun _ G Q=>Q none G
 | .tst e=>fun σ G Q=>wpE T e σ G fun x G1=>∃ i,x= .int i∧Q (some i) G1
 | _=>fun _ _ _=>False
noncomputable def wpI (T:Tb):CE→PTI
 | .isq e=>fun σ G R=>wpE T e σ G fun x G1=>UA x G1 R
 | .irg es=>fun σ G R=>wpL T es σ G fun xs G1=>(∃ j,xs=[.int j]∧ -(2 ^ 62)≤j∧j < 2 ^ 62∧R (fun _=>True) (oO 0 j.toNat) G1)∨(∃ i j,xs=[.int i,.int j]∧(-(2 ^ 62)≤i∧i < 2 ^ 62∧ -(2 ^ 62)≤j∧j < 2 ^ 62)∧R (fun _=>True) (oO i (j - i).toNat) G1)
 | .ien e=>fun σ G R=>wpE T e σ G fun x G1=>∃ xs,x= .tup xs∧R (fun _=>True) (AS xs) G1
 | .izp es=>fun σ G R=>wpL T es σ G fun xs G1=>(xs.length=2∨xs.length=3)∧∃ n yss,xs.map OY=yss.map some∧((∀ ys∈yss,ys.length=n)∨∃ a b,yss=[a,b]∧b.length=n∧n < a.length)∧R (fun _=>True) (mS n yss) G1
 | _=>fun _ _ _=>False
noncomputable def wpG (T:Tb):CE→PTG
 | .gn i=>fun x σ G Q=>Q (σ.set i (some x)) G
 | .gt n gs=>fun x σ G Q=>(∃ xs,x= .tup xs∧xs.length=n∧eG T gs xs σ G Q)
 | .gl n gs=>fun x σ G Q=>(∃ xs,bT G x=some xs∧xs.length=n∧eG T gs xs σ G Q)
 | _=>fun _ _ _ _=>False
noncomputable def eG (T:Tb):CE→List PV→PSt→Gh→(PSt→Gh→Prop)→Prop
 | .nil=>fun xs σ G Q=>xs=[]∧Q σ G
 | .cons a b=>fun xs σ G Q=>∃ x r,xs=x :: r∧wpG T a x σ G fun σ1 G1=>eG T b r σ1 G1 Q
 | _=>fun _ _ _ _=>False
end
noncomputable def NK (f:Str):List Str→List Str
 | []=>[f]
 | n :: r=>if n=f then n :: r else n :: NK f r
noncomputable def vT {α:Type} (f:Str) (v:α):List Str→List α→List α
 | [],_=>[v]
 | n :: r,x :: xs=>if n=f then v :: xs else x :: vT f v r xs
 | _ :: _,[]=>[]
noncomputable def wpS:Tb→CS→PTS
 | T,.nil=>fun D σ G=>D.nx σ G
 | T,.seq a b=>fun D σ G=>wpS T a { D with nx:=wpS T b D } σ G
 | T,.ex e=>fun D σ G=>wpE T e σ G fun _ G1=>D.nx σ G1
 | T,.asg g e=>fun D σ G=>wpE T e σ G fun x G1=>wpG T g x σ G1 D.nx
 | T,.par i j a b=>fun D σ G=>wpE T a σ G fun x G1=>wpE T b σ G1 fun y G2=>D.nx ((σ.set i (some x)).set j (some y)) G2
 | T,.par3 i j l a b c=>fun D σ G=>wpE T a σ G fun x G1=>wpE T b σ G1 fun y G2=>wpE T c σ G2 fun z G3=>D.nx (((σ.set i (some x)).set j (some y)).set l (some z)) G3
 | T,.sub o i e=>fun D σ G=>wpE T e σ G fun v G1=>wpE T o σ G1 fun x G2=>wpE T i σ G2 fun y G3=>aA8 x y v G3 fun G4=>D.nx σ G4
 | T,.fld o f e=>fun D σ G=>wpE T e σ G fun v G1=>wpE T o σ G1 fun x G2=>∃ p c ns xs,x= .ref p∧G2 p=some (.ins c ns xs)∧(c,f)∈T.fl∧ns.length < 1000∧D.nx σ (gup G2 p (.ins c (NK f ns) (vT f v ns xs)))
 | T,.iff c a b=>fun D σ G=>wpT T c σ G fun k G1=>if k=true then wpS T a D σ G1 else wpS T b D σ G1
 | T,.wh c b=>fun D σ G=>∃ W:Nat→PSt→Gh→Prop,(∃ m,W m σ G)∧∀ m σ G,W m σ G→wpT T c σ G fun k G1=>if k=true then wpS T b { D with nx:=fun σ' G'=>∃ m',m' < m∧W m' σ' G',ct:=fun σ' G'=>∃ m',m' < m∧W m' σ' G',bk:=D.nx } σ G1 else D.nx σ G1
 | T,.fr g it b=>fun D σ G=>wpI T it σ G fun chk xs G1=>nS chk (wpG T g) (wpS T b) D xs σ G1
 | T,.ret e=>fun D σ G=>wpE T e σ G D.rt
 | T,.retN=>fun D _ G=>D.rt .non G
 | T,.nev=>fun _ _ _=>False
 | T,.tri b i cs=>fun D σ G=>wpS (T.at (WkX fun c ns xs G1=>c∈cs∧D.nx ((List.replicate σ.length none).set i (some (.exc c ns xs))) G1)) b D σ G
 | T,.trh b j h cs=>fun D σ G=>wpS (T.at (WkX fun c ns xs G1=>c∈cs∧wpS T h ⟨fun σ2 G2=>D.nx (σ2.set j none) G2,D.rt,fun σ2 G2=>D.bk (σ2.set j none) G2,fun σ2 G2=>D.ct (σ2.set j none) G2⟩ ((List.replicate σ.length none).set j (some (.exc c ns xs))) G1)) b D σ G
def JE (X:Cx) (E:Ev) (e:Expr) (t:PTE):Prop:= ∀ F,PE X e (low E F t)
def JT (X:Cx) (E:Ev) (e:Expr) (t:PTT):Prop:= ∀ F,PT X e (zA E F t)
def JW (X:Cx) (E:Ev) (e:Expr) (t:PTT):Prop:= ∀ F,PW X e (zA E F t)
def JA (X:Cx) (E:Ev) (es:List Expr) (t:PTA):Prop:= ∀ F,PA X es (BP E F es.length t)
def JS (X:Cx) (E:Ev) (s:Stmt) (t:PTS):Prop:= ∀ F,PS X s (aEq E F t)
def JSs (X:Cx) (E:Ev) (s:List Stmt) (t:PTS):Prop:= ∀ F,PSs X s (aEq E F t)
def aEL (E:Ev) (F:Hp) (t:PTG):TG:=fun v σ H Q=>∃ x σ' Z G Q',RP E Z x v∧RSt E Z σ' σ∧Sim E F H Z G∧t x σ' G Q'∧KSt E F Z Q' Q
def JG (X:Cx) (E:Ev) (e:Expr) (t:PTG):Prop:= ∀ F,PG X e (aEL E F t)
noncomputable def aHp (E:Ev) (F:Hp) (t:List PV→PSt→Gh→(PSt→Gh→Prop)→Prop):TGs:=fun vs σ H Q=>∃ xs σ' Z G Q',RPs E Z xs vs∧RSt E Z σ' σ∧Sim E F H Z G∧t xs σ' G Q'∧KSt E F Z Q' Q
def JGs (X:Cx) (E:Ev) (es:List Expr) (t:List PV→PSt→Gh→(PSt→Gh→Prop)→Prop):Prop:= ∀ F,PGs X es (aHp E F t)
theorem PT.imp {X:Cx} {e:Expr} {t t':TT} (h:PT X e t) (g:∀ σ H Q,t' σ H Q→t σ H Q):PT X e t':=fun pins s σ H Q I q=>h pins s σ H Q I (g _ _ _ q)
theorem PW.imp {X:Cx} {e:Expr} {t t':TT} (h:PW X e t) (g:∀ σ H Q,t' σ H Q→t σ H Q):PW X e t':=fun wh pins s σ H Q I q=>h wh pins s σ H Q I (g _ _ _ q)
theorem PA.imp {X:Cx} {es:List Expr} {t t':TA} (h:PA X es t) (g:∀ σ H Q,t' σ H Q→t σ H Q):PA X es t':=fun pos pins s σ H Q I q=>h pos pins s σ H Q I (g _ _ _ q)
theorem PSs.imp {X:Cx} {st:List Stmt} {t t':TS} (h:PSs X st t) (g:∀ D σ H,t' D σ H→t D σ H):PSs X st t':=fun pins s σ H D I q=>h pins s σ H D I (g _ _ _ q)
theorem PGs.imp {X:Cx} {es:List Expr} {t t':TGs} (h:PGs X es t) (g:∀ vs σ H Q,t' vs σ H Q→t vs σ H Q):PGs X es t':=fun pins s σ H v u Q I r q=>h pins s σ H v u Q I r (g _ _ _ _ q)
section
variable {X:Cx} {E:Ev} {T:Tb} {k:Nat} {pos:Pos} {a b c:Expr} {ta tb tc:PTE}
structure Pl (X:Cx) (E:Ev) (T:Tb) (k:Nat):Prop where
 hK:E.K=X.K
 calm:40≤k→X.calm=true
 room:bE k X.A
 cls:WY E T.cs
 fld:∀ c f,(c,f)∈T.fl→Cls X.K (E.cls c)∧eA X.K (E.cls c) f
theorem Kq.go {F Z Z1 H1:Hp} {G1:Gh} {Q':PK1} {Q:VK} (k:Kq E F Z Q' Q) {x:PV} {v:V} (s:aN Z Z1) (S:Sim E F H1 Z1 G1) (r:RP E Z1 x v) (q:Q' x G1):Q v H1:=k x v Z1 G1 H1 s S r q
theorem aD3 {i:Nat} {x:Str} (hN:X.N[i]? =some x) (hv:Vis X.env.scope x) (hd:(x == ("__debug__":Str))=false) (hcd:(x == ("__classdict__":Str))=false):JE X E (.Name x pos) (wpE T (.var i)):=fun F =>
 (VU hN hv hd hcd).imp <|by
   rintro σ H Q ⟨σ',Z,G,Q',rs,S,h,kq⟩;rw [wpE] at h;obtain ⟨x,e,q⟩:=h;obtain ⟨v,e',r⟩:=rs.get e;exact ⟨v,e',kq.here S q r⟩
theorem aCn {i:Int} {j:Nat}:JE X E (.Constant (.int i) j pos) (wpE T (.int i)):=fun F=>aEh.imp <|by rintro σ H Q ⟨σ',Z,G,Q',rs,S,h,kq⟩;rw [wpE] at h; exact kq.here S h bK
theorem aFU {i:Bool} {j:Nat}:JE X E (.Constant (.bool i) j pos) (wpE T (.bl i)):=fun F=>aGD.imp <|by rintro σ H Q ⟨σ',Z,G,Q',rs,S,h,kq⟩;rw [wpE] at h; exact kq.here S h bZ
theorem aCp {j:Nat}:JE X E (.Constant .none j pos) (wpE T .non):=fun F=>aDq.imp <|by rintro σ H Q ⟨σ',Z,G,Q',rs,S,h,kq⟩;rw [wpE] at h; exact kq.here S h pM
theorem aDx {i:Str} {j:Nat}:JE X E (.Constant (.str i) j pos) (wpE T (.str i)):=fun F=>aFa.imp <|by rintro σ H Q ⟨σ',Z,G,Q',rs,S,h,kq⟩;rw [wpE] at h; exact kq.here S h pT
theorem aC5 {x:Str} {u:Value} {v:V} (hg:Gl X x) (hm:X.mg x=some u) (r:aP v u) (hr:RP E (fun _=>none) (T.gv x) v) (hd:(x == ("__debug__":Str))=false):JE X E (.Name x pos) (wpE T (.glo x)):=fun F =>
 (aAN hg hm r hd).imp <|by rintro σ H Q ⟨σ',Z,G,Q',rs,S,h,kq⟩;rw [wpE] at h; exact kq.here S h (hr.mono fun _ _ z=>by cases z)
theorem aGp {x:Str} {n:String} (hg:Gl X x) (hm:X.mg x=none) (hv:bootBuiltins x=some (.type n)) (hgv:T.gv x= .ty n) (hn:x≠"__name__") (hd:(x == ("__debug__":Str))=false):JE X E (.Name x pos) (wpE T (.glo x)):=fun F =>
 (aAp (v:=.ty n) hg hm hv rfl hn hd).imp <|by rintro σ H Q ⟨σ',Z,G,Q',rs,S,h,kq⟩;rw [wpE] at h; rw [hgv] at h; exact kq.here S h rfl
theorem KJ {F:Hp} {p:P2} {σ:L2.St} {H:Hp} {Q:VK} (h:low E F (fun σ G Q=>ta σ G fun x G1=>tb σ G1 fun y G2=>p x y G2 Q) σ H Q):tOp (gO E F p) (low E F ta) (low E F tb) σ H Q:=by
 obtain ⟨σ',Z,G,Q',rs,S,h,kq⟩:=h;refine ⟨σ',Z,G,_,rs,S,h,fun x v Z1 G1 H1 s1 S1 r1 q1=>⟨σ',Z1,G1,_,rs.mono s1,S1,q1,fun y u Z2 G2 H2 s2 S2 r2 q2=>?_⟩⟩;exact ⟨x,y,Z2,G2,Q',r1.mono s2,r2,S2,q2,kq.mono (s1.trans s2)⟩
theorem aDg {op:Operator} {a' b':CE} (P:Pl X E T k) (ha:JE X E a (wpE T a')) (hb:JE X E b (wpE T b')):JE X E (.BinOp a op b pos) (wpE T (.bin op a' b')):=fun F =>
 (aHu (ZX P.hK op) (ha F) (hb F)).imp fun σ H Q h=>KJ (by rw [wpE] at h; exact h)
theorem aCF {a':CE} (ha:JE X E a (wpE T a')):JE X E (.UnaryOp .USub a pos) (wpE T (.neg a')):=fun F =>
 (aGN aDL (ha F)).imp <|by
   rintro σ H Q ⟨σ',Z,G,Q',rs,S,h,kq⟩;rw [wpE] at h;refine ⟨σ',Z,G,_,rs,S,h,fun x v Z1 G1 H1 s1 S1 r1 q1=>?_⟩;unfold aD7 at q1;split at q1
   · exact ⟨_,r1,kq.go s1 S1 bK q1⟩
   · exact q1.elim
theorem aAX {te:TE} (he:PE X a te):PE X (.UnaryOp .Not a pos) (fun σ H Q=>te σ H fun x H1=>∃ b,MY X.K x H1 b∧Q (.bl (!b)) H1):=by
 intro pins s σ H Q I h;refine UnaryOp_ (thn (he pins s σ H _ I h) fun v s1 zz=>?_);obtain ⟨x,H1,I1,r1,b,tv,q⟩:=zz;exact not_of (thn (yL pins s1 σ H1 x v (fun c H2=>Q (.bl (!c)) H2) I1 r1 ⟨b,tv,q⟩) <|by rintro c s2 ⟨H2,I2,q2⟩;exact ⟨.bl (!c),H2,I2,rfl,q2⟩)
theorem aHV {a':CE} (P:Pl X E T k) (ha:JE X E a (wpE T a')):JE X E (.UnaryOp .Not a pos) (wpE T (.no a')):=fun F =>
 (aAX (ha F)).imp <|by
   rintro σ H Q ⟨σ',Z,G,Q',rs,S,h,kq⟩;rw [wpE] at h;refine ⟨σ',Z,G,_,rs,S,h,fun x v Z1 G1 H1 s1 S1 r1 q1=>?_⟩;obtain ⟨c,tv,q⟩:=sF P.hK S1 r1 q1;exact ⟨c,tv,kq.go s1 S1 bZ q⟩
theorem aAm {bA:List Expr} {te tf:TE} (ha:PE X a te) (hb:PE X (.BoolOp .And (b :: bA) pos) tf):PE X (.BoolOp .And (a :: b :: bA) pos) (fun σ H Q=>te σ H fun x H1=>∃ c,MY X.K x H1 c∧if c=true then tf σ H1 Q else Q x H1):=by
 intro pins s σ H Q I h;refine BoolOp_and (thn (ha pins s σ H _ I h) fun v s1 zz=>?_);obtain ⟨x,H1,I1,r1,c,tv,q1⟩:=zz;refine thn (yL pins s1 σ H1 x v (fun d H2=>d=c∧H2=H1) I1 r1 ⟨c,tv,rfl,rfl⟩) fun d s2 zz=>?_;obtain ⟨H2,I2,e1,e2⟩:=zz;subst e1 e2;cases d with
 | true=>exact hb pins s2 σ H2 Q I2 q1
 | false=>exact ⟨x,H2,I2,r1,q1⟩
theorem aDc {bA:List Expr} {te tf:TE} (ha:PE X a te) (hb:PE X (.BoolOp .Or (b :: bA) pos) tf):PE X (.BoolOp .Or (a :: b :: bA) pos) (fun σ H Q=>te σ H fun x H1=>∃ c,MY X.K x H1 c∧if c=true then Q x H1 else tf σ H1 Q):=by
 intro pins s σ H Q I h;refine BoolOp_or (thn (ha pins s σ H _ I h) fun v s1 zz=>?_);obtain ⟨x,H1,I1,r1,c,tv,q1⟩:=zz;refine thn (yL pins s1 σ H1 x v (fun d H2=>d=c∧H2=H1) I1 r1 ⟨c,tv,rfl,rfl⟩) fun d s2 zz=>?_;obtain ⟨H2,I2,e1,e2⟩:=zz;subst e1 e2;cases d with
 | false=>exact hb pins s2 σ H2 Q I2 q1
 | true=>exact ⟨x,H2,I2,r1,q1⟩
theorem aHA {bA:List Expr} {a' b':CE} (P:Pl X E T k) (ha:JE X E a (wpE T a')) (hb:JE X E (.BoolOp .And (b :: bA) pos) (wpE T b')):JE X E (.BoolOp .And (a :: b :: bA) pos) (wpE T (.an a' b')):=fun F =>
 (aAm (ha F) (hb F)).imp <|by
   rintro σ H Q ⟨σ',Z,G,Q',rs,S,h,kq⟩;rw [wpE] at h;refine ⟨σ',Z,G,_,rs,S,h,fun x v Z1 G1 H1 s1 S1 r1 q1=>?_⟩;obtain ⟨c,tv,q⟩:=sF P.hK S1 r1 q1;refine ⟨c,tv, ?_⟩;cases c with
   | true=>rw [if_pos rfl] at q ⊢; exact ⟨σ',Z1,G1,Q',rs.mono s1,S1,q,kq.mono s1⟩
   | false=>rw [if_neg Bool.false_ne_true] at q ⊢; exact kq.go s1 S1 r1 q
theorem aFm {bA:List Expr} {a' b':CE} (P:Pl X E T k) (ha:JE X E a (wpE T a')) (hb:JE X E (.BoolOp .Or (b :: bA) pos) (wpE T b')):JE X E (.BoolOp .Or (a :: b :: bA) pos) (wpE T (.oo a' b')):=fun F =>
 (aDc (ha F) (hb F)).imp <|by
   rintro σ H Q ⟨σ',Z,G,Q',rs,S,h,kq⟩;rw [wpE] at h;refine ⟨σ',Z,G,_,rs,S,h,fun x v Z1 G1 H1 s1 S1 r1 q1=>?_⟩;obtain ⟨c,tv,q⟩:=sF P.hK S1 r1 q1;refine ⟨c,tv, ?_⟩;cases c with
   | false=>rw [if_neg Bool.false_ne_true] at q ⊢; exact ⟨σ',Z1,G1,Q',rs.mono s1,S1,q,kq.mono s1⟩
   | true=>rw [if_pos rfl] at q ⊢; exact kq.go s1 S1 r1 q
theorem aEx {op:BoolOp} {t:PTE} (ha:JE X E a t):JE X E (.BoolOp op [a] pos) t:=fun F=>aCR (ha F)
theorem jG {Z:Hp} {x:PV} {v:V} (r:RP E Z x v):(v= .non)↔x= .non:=by
 cases x with
 | non=>exact ⟨fun _=>rfl,fun _=>r⟩
 | bl b=>rw [show v= .bl b from r]; exact ⟨(fun z=>nomatch z),(fun z=>nomatch z)⟩
 | int b=>rw [show v= .int b from r]; exact ⟨(fun z=>nomatch z),(fun z=>nomatch z)⟩
 | str b=>rw [show v= .str b from r]; exact ⟨(fun z=>nomatch z),(fun z=>nomatch z)⟩
 | ty b=>rw [show v= .ty b from r]; exact ⟨(fun z=>nomatch z),(fun z=>nomatch z)⟩
 | ref b=>rw [show v= .ref b from r]; exact ⟨(fun z=>nomatch z),(fun z=>nomatch z)⟩
 | cl b=>rw [show v= .ref _ from r]; exact ⟨(fun z=>nomatch z),(fun z=>nomatch z)⟩
 | fn b=>rw [show v= .ref _ from r]; exact ⟨(fun z=>nomatch z),(fun z=>nomatch z)⟩
 | emp=>obtain ⟨a,rfl,_⟩:=r; exact ⟨(fun z=>nomatch z),(fun z=>nomatch z)⟩
 | dct ks xs=>obtain ⟨_,_,rfl,_⟩:=r; exact ⟨(fun z=>nomatch z),(fun z=>nomatch z)⟩
 | tup xs=>obtain ⟨_,_,rfl,_⟩:=r; exact ⟨(fun z=>nomatch z),(fun z=>nomatch z)⟩
 | lst xs=>obtain ⟨_,_,rfl,_⟩:=r; exact ⟨(fun z=>nomatch z),(fun z=>nomatch z)⟩
 | scr xs=>obtain ⟨_,rfl,_⟩:=r; exact ⟨(fun z=>nomatch z),(fun z=>nomatch z)⟩
 | ob _ _ xs=>obtain ⟨_,_,_,rfl,_⟩:=r; exact ⟨(fun z=>nomatch z),(fun z=>nomatch z)⟩
 | exc _ _ xs=>obtain ⟨_,_,_,rfl,_⟩:=r; exact ⟨(fun z=>nomatch z),(fun z=>nomatch z)⟩
theorem aDi:OpR X (compareOp .Is) (fun x y H Q=>∃ i j,x= .bl i∧y= .bl j∧Q (.bl (i == j)) H):=by
 rintro pins s σ H x y v u Q I rx ry ⟨i,j,e1,e2,q⟩;subst e1 e2; cases rx; cases ry;exact is_bool ⟨.bl _,H,I,rfl,q⟩
theorem ZJ:OpR X (compareOp .IsNot) (fun x y H Q=>∃ i j,x= .bl i∧y= .bl j∧Q (.bl (!(i == j))) H):=by
 rintro pins s σ H x y v u Q I rx ry ⟨i,j,e1,e2,q⟩;subst e1 e2; cases rx; cases ry;exact isnot_bool ⟨.bl _,H,I,rfl,q⟩
theorem aC6 {F:Hp}:OpR X (compareOp .Is) (gO E F (pIs false)):=by
 refine (aE2.or aDi).imp fun v u H Q h=>?_;obtain ⟨x,y,Z,G,Q',r1,r2,S,q,k⟩:=h;unfold pIs at q;split at q
 · refine .inl ⟨r2, ?_⟩;rcases q with ⟨e,q⟩ | ⟨e,q⟩
   · rw [decide_eq_true ((jG r1).mpr e)]; exact k.here S q bZ
   · rw [decide_eq_false fun z=>e ((jG r1).mp z)]; exact k.here S q bZ
 · obtain ⟨c,e,q⟩:=q;subst e;exact .inr ⟨_,_,r1,r2,k.here S q bZ⟩
 · exact q.elim
theorem aAP {F:Hp}:OpR X (compareOp .IsNot) (gO E F (pIs true)):=by
 refine (aAY.or ZJ).imp fun v u H Q h=>?_;obtain ⟨x,y,Z,G,Q',r1,r2,S,q,k⟩:=h;unfold pIs at q;split at q
 · refine .inl ⟨r2, ?_⟩;rcases q with ⟨e,q⟩ | ⟨e,q⟩
   · rw [decide_eq_true ((jG r1).mpr e)]; exact k.here S q bZ
   · rw [decide_eq_false fun z=>e ((jG r1).mp z)]; exact k.here S q bZ
 · obtain ⟨c,e,q⟩:=q;subst e;exact .inr ⟨_,_,r1,r2,k.here S q bZ⟩
 · exact q.elim
theorem aBs {Z:Hp} {x:PV} {v:V} (r:RP E Z x v) (h:flP x=true):mF v=true:=by
 cases x <;> first | (cases h; done) | skip
 · rw [show v= .non from r]; rfl
 · rw [show v= .bl _ from r]; rfl
 · rw [show v= .int _ from r]; rfl
 · rw [show v= .str _ from r]; rfl
theorem aG2 {Z:Hp} {x y:PV} {v u:V} (r:RP E Z x v) (ry:RP E Z y u) (h:flP x=true) (hy:flP y=true):eqV v u=peq x y:=by
 cases x <;> first | (cases h; done) | skip
 all_goals (cases y <;> first | (cases hy; done) | skip)
 all_goals
   first
   | rw [show v= .non from r]
   | rw [show v= .bl _ from r]
   | rw [show v= .int _ from r]
   | rw [show v= .str _ from r]
 all_goals
   first
   | rw [show u= .non from ry]
   | rw [show u= .bl _ from ry]
   | rw [show u= .int _ from ry]
   | rw [show u= .str _ from ry]
 all_goals simp only [eqV,peq]
theorem aCe {Z:Hp} {x:PV} {v:V} (r:RP E Z x v) (h:flP x=true):∀ {xs:List PV} {vs:List V},RPs E Z xs vs→xs.all flP=true→vs.all mF=true∧inV v vs=xs.any fun z=>peq z x
 | [],_,hr,_=>by cases hr; exact ⟨rfl,rfl⟩
 | y :: ys,_,⟨u,us,e,r1,r2⟩,ha=>by
   subst e;rw [List.all_cons,Bool.and_eq_true] at ha;obtain ⟨a,b⟩:=aCe r h r2 ha.2;refine ⟨by rw [List.all_cons,aBs r1 ha.1,a]; rfl, ?_⟩;unfold inV at b ⊢;rw [List.any_cons,List.any_cons,b,aG2 r1 r ha.1 h]
theorem RX {F:Hp} {neg:Bool} (hK:E.K=X.K) {v u:V} {H:Hp} {Q:VK} (h:gO E F (pIn neg) v u H Q):rIn X.K neg v u H Q:=by
 obtain ⟨x,y,Z,G,Q',r1,r2,S,⟨xs,hx,h1,h2,q⟩,k⟩:=h;have key:∀ {a:Addr} {vs:List V},RPs E Z xs vs→(SqL X.K H a vs∨SqT X.K H a vs)→u= .ref a→rIn X.K neg v u H Q:=fun {a vs} t hs e=>by
   obtain ⟨a1,a2⟩:=aCe r1 h1 t h2;refine ⟨a,vs,e,hs,aBs r1 h1,a1, ?_⟩;rw [a2];exact k.here S q bZ
 rcases hx with rfl | hx
 · obtain ⟨a,vs,rfl,ha,ta⟩:=fR S r2;exact key ta (.inr (hK▸ha)) rfl
 · obtain ⟨a,vs,rfl,ha,ta⟩:=dM S r2 hx;exact key ta (.inl (SqL.of ha)) rfl
theorem lN {F:Hp} (P:Pl X E T k):∀ op,OpR X (compareOp op) (gO E F (nK op))
 | .Lt=>aFM.imp fun _ _ _ _ h=>vC (iZ (fun _ _ _=>bZ) h)
 | .LtE=>aG0.imp fun _ _ _ _ h=>vC (iZ (fun _ _ _=>bZ) h)
 | .Gt=>aHt.imp fun _ _ _ _ h=>vC (iZ (fun _ _ _=>bZ) h)
 | .GtE=>aFc.imp fun _ _ _ _ h=>vC (iZ (fun _ _ _=>bZ) h)
 | .Eq=>aDk P.room P.hK
 | .NotEq=>XT P.room P.hK
 | .Is=>aC6
 | .IsNot=>aAP
 | .In=>NQ.imp fun _ _ _ _ h=>RX P.hK h
 | .NotIn=>AM.imp fun _ _ _ _ h=>RX P.hK h
theorem aEm {op:CmpOp} {a' b':CE} (P:Pl X E T k) (hm:behindInMarks op b=false) (ha:JE X E a (wpE T a')) (hb:JE X E b (wpE T b')):JE X E (.Compare a [op] [b] pos) (wpE T (.cmp op a' b')):=fun F =>
 (JF (lN P op) (ha F) (hb F) hm).imp fun σ H Q h=>KJ (by rw [wpE] at h; exact h)
theorem aEu {op:CmpOp} {a' b':CE} (P:Pl X E T k) (hm:behindInMarks op b=false) (ha:JE X E a (wpE T a')) (hb:JE X E b (wpE T b')):JT X E (.Compare a [op] [b] pos) (wpT T (.tsb (.cmp op a' b'))):=fun F =>
 PT.imp (HX (lN P op) (ha F) (hb F) hm) fun σ H Q h=>KJ (by
   obtain ⟨σ',Z,G,Q',rs,S,h,kq⟩:=h;rw [wpT,wpE] at h;exact ⟨σ',Z,G,_,rs,S,h,by rintro x v Z1 G1 H1 s1 S1 r1 ⟨kk,e,q⟩;subst e; exact ⟨kk,r1,kq _ Z1 G1 H1 s1 S1 q⟩⟩)
theorem IR {F:Hp} {op op':CmpOp} {a' b' c':CE} {σ:L2.St} {H:Hp} {Q:VK} (h:low E F (wpE T (.chn op op' a' b' c')) σ H Q):FM (gO E F (nK op)) (gO E F (nK op')) (low E F (wpE T a')) (low E F (wpE T b')) (low E F (wpE T c')) σ H Q:=by
 obtain ⟨σ',Z,G,Q',rs,S,h,kq⟩:=h;rw [wpE] at h;refine ⟨σ',Z,G,_,rs,S,h,fun x v Z1 G1 H1 s1 S1 r1 q1=>⟨σ',Z1,G1,_,rs.mono s1,S1,q1,fun y u Z2 G2 H2 s2 S2 r2 q2=>⟨x,y,Z2,G2,_,r1.mono s2,r2,S2,q2, ?_⟩⟩⟩;rintro z w Z3 G3 H3 s3 S3 r3 ⟨kk,e,q3⟩;subst e;refine ⟨kk,r3, ?_⟩;have sz:=(s1.trans s2).trans s3;cases kk with
 | true =>
   rw [if_pos rfl] at q3 ⊢;exact ⟨σ',Z3,G3,_,rs.mono sz,S3,q3,fun z' w' Z4 G4 H4 s4 S4 r4 q4=>⟨y,z',Z4,G4,Q',(r2.mono s3).mono s4,r4,S4,q4,kq.mono (sz.trans s4)⟩⟩
 | false =>
   rw [if_neg Bool.false_ne_true] at q3 ⊢;exact kq.go sz S3 bZ q3
theorem aD6 {op op':CmpOp} {a' b' c':CE} (P:Pl X E T k) (hm:lastMarks [op,op'] [b,c]=false) (ha:JE X E a (wpE T a')) (hb:JE X E b (wpE T b')) (hc:JE X E c (wpE T c')):JE X E (.Compare a [op,op'] [b,c] pos) (wpE T (.chn op op' a' b' c')):=fun F =>
 (PM (lN P op) (lN P op') (ha F) (hb F) (hc F) hm).imp fun σ H Q h=>IR h
theorem aEz {op op':CmpOp} {a' b' c':CE} (P:Pl X E T k) (hm:lastMarks [op,op'] [b,c]=false) (ha:JE X E a (wpE T a')) (hb:JE X E b (wpE T b')) (hc:JE X E c (wpE T c')):JT X E (.Compare a [op,op'] [b,c] pos) (wpT T (.tsb (.chn op op' a' b' c'))):=fun F =>
 PT.imp (RQ (lN P op) (lN P op') (ha F) (hb F) (hc F) hm) fun σ H Q h=>IR (by
   obtain ⟨σ',Z,G,Q',rs,S,h,kq⟩:=h;rw [wpT] at h;exact ⟨σ',Z,G,_,rs,S,h,by rintro x v Z1 G1 H1 s1 S1 r1 ⟨kk,e,q⟩;subst e; exact ⟨kk,r1,kq _ Z1 G1 H1 s1 S1 q⟩⟩)
theorem zJ {a':CE} (P:Pl X E T k) (ha:JE X E a (wpE T a')) (he:∀ whole,isTrue a X.env whole=(do let v ←whole; standAt a.pos; holding [v] (truthy v))):JT X E a (wpT T (.tst a')):=fun F =>
 PT.imp (SB (ha F) he) <|by
   rintro σ H Q ⟨σ',Z,G,Q',rs,S,h,kq⟩;rw [wpT] at h;refine ⟨σ',Z,G,_,rs,S,h,fun x v Z1 G1 H1 s1 S1 r1 q1=>?_⟩;obtain ⟨c,tv,q⟩:=sF P.hK S1 r1 q1;exact ⟨c,tv,kq _ Z1 G1 H1 s1 S1 q⟩
theorem aCl {a':CE} (ha:JT X E a (wpT T a')):JW X E (.BoolOp .And [a] pos) (wpT T a'):=fun F=>ZB (ha F)
theorem aDz {a':CE} (ha:JT X E a (wpT T a')):JW X E (.BoolOp .Or [a] pos) (wpT T a'):=fun F=>aE1 (ha F)
theorem aFD {F:Hp} {a' b':CE} {σ:L2.St} {H:Hp} {Q:Bool→Hp→Prop} (h:zA E F (wpT T (.an a' b')) σ H Q):aHC (zA E F (wpT T a')) (zA E F (wpT T b')) σ H Q:=by
 obtain ⟨σ',Z,G,Q',rs,S,h,kq⟩:=h;rw [wpT] at h;refine ⟨σ',Z,G,_,rs,S,h,fun d Z1 G1 H1 s1 S1 q=>?_⟩;cases d with
 | true=>rw [if_pos rfl] at q ⊢; exact ⟨σ',Z1,G1,Q',rs.mono s1,S1,q,kq.mono s1⟩
 | false=>rw [if_neg Bool.false_ne_true] at q ⊢; exact kq _ _ _ _ s1 S1 q
theorem aFZ {F:Hp} {a' b':CE} {σ:L2.St} {H:Hp} {Q:Bool→Hp→Prop} (h:zA E F (wpT T (.oo a' b')) σ H Q):tOr (zA E F (wpT T a')) (zA E F (wpT T b')) σ H Q:=by
 obtain ⟨σ',Z,G,Q',rs,S,h,kq⟩:=h;rw [wpT] at h;refine ⟨σ',Z,G,_,rs,S,h,fun d Z1 G1 H1 s1 S1 q=>?_⟩;cases d with
 | false=>rw [if_neg Bool.false_ne_true] at q ⊢; exact ⟨σ',Z1,G1,Q',rs.mono s1,S1,q,kq.mono s1⟩
 | true=>rw [if_pos rfl] at q ⊢; exact kq _ _ _ _ s1 S1 q
theorem aHa {bA:List Expr} {a' b':CE} (ha:JT X E a (wpT T a')) (hb:JW X E (.BoolOp .And (b :: bA) pos) (wpT T b')):JW X E (.BoolOp .And (a :: b :: bA) pos) (wpT T (.an a' b')):=fun F=>PW.imp (aD4 (ha F) (hb F)) fun _ _ _ h=>aFD h
theorem aIk {bA:List Expr} {a' b':CE} (ha:JT X E a (wpT T a')) (hb:JW X E (.BoolOp .Or (b :: bA) pos) (wpT T b')):JW X E (.BoolOp .Or (a :: b :: bA) pos) (wpT T (.oo a' b')):=fun F=>PW.imp (aH1 (ha F) (hb F)) fun _ _ _ h=>aFZ h
theorem JW.jt {e:Expr} {t:PTT} (h:JW X E e t):JT X E e t:=fun F=>(h F).pt
theorem aGu {a':CE} (ha:JT X E a (wpT T a')):JT X E (.UnaryOp .Not a pos) (wpT T (.no a')):=fun F =>
 PT.imp (aCi (ha F)) <|by
   rintro σ H Q ⟨σ',Z,G,Q',rs,S,h,kq⟩;rw [wpT] at h;exact ⟨σ',Z,G,_,rs,S,h,fun d Z1 G1 H1 s1 S1 q=>kq _ _ _ _ s1 S1 q⟩
theorem aDe:JA X E [] (wpL T .nil):=fun F=>PA.imp lB <|by rintro σ H Q ⟨σ',Z,G,Q',rs,S,h,kq⟩;rw [wpL] at h; exact kq [] [] Z G H rfl (aN.refl Z) S rfl h
theorem aAR {e:Expr} {es:List Expr} {a' b':CE} (ha:JE X E e (wpE T a')) (hr:JA X E es (wpL T b')) (hs:starEach (e :: es) X.env=(false,eval e X.env) :: starEach es X.env):JA X E (e :: es) (wpL T (.cons a' b')):=fun F =>
 PA.imp (eS (ha F) (hr F) hs) <|by
   rintro σ H Q ⟨σ',Z,G,Q',rs,S,h,kq⟩;rw [wpL] at h;exact ⟨σ',Z,G,_,rs,S,h,fun x v Z1 G1 H1 s1 S1 r1 q1=>⟨σ',Z1,G1,_,rs.mono s1,S1,q1,fun xs vs Z2 G2 H2 l2 s2 S2 r2 q2=>kq (x :: xs) (v :: vs) _ _ _ (by rw [List.length_cons,l2]; rfl) (s1.trans s2) S2 ⟨v,vs,rfl,r1.mono s2,r2⟩ q2⟩⟩
theorem aD0 {es:List Expr} {x1:Nat} {es':CE} (h:JA X E es (wpL T es')):JE X E (.Tuple es x1 pos) (wpE T (.tup es')):=fun F =>
 (aCG (h F)).imp <|by
   rintro σ H Q ⟨σ',Z,G,Q',rs,S,h,kq⟩;rw [wpE] at h;refine ⟨σ',Z,G,_,rs,S,h,fun xs vs Z1 G1 H1 l1 s1 S1 r1 q1=>⟨by rw [←r1.length]; exact q1.1,fun p n=>(kq.mono s1).newZ S1 n (lH (S1.zn n) r1) q1.2⟩⟩
theorem UR {F Z H:Hp} {G:Gh} {m:Bool} {xs:List PV} {vs:List V} {Q':PK1} {Q:VK} {p:Addr} (S:Sim E F H Z G) (n:H p=none) (r:RPs E Z xs vs) (q:vO m G xs Q') (kq:Kq E F Z Q' Q):Q (.ref p) (upd H p (.lst vs)):=by
 unfold vO at q;cases m with
 | true =>
   rw [if_pos rfl] at q;exact kq (.ref p) _ _ _ _ (aN.refl Z) (S.new (go:=.lst xs) n ⟨vs,rfl,r⟩) rfl (q p (S.gn n))
 | false =>
   rw [if_neg Bool.false_ne_true] at q;exact kq.newZ S n (gQ (S.zn n) r) q
theorem aET {es:List Expr} {es':CE} {m:Bool} (h:JA X E es (wpL T es')):JE X E (.List es pos) (wpE T (.lst m es')):=fun F =>
 (aC1 (h F)).imp <|by
   rintro σ H Q ⟨σ',Z,G,Q',rs,S,h,kq⟩;rw [wpE] at h;refine ⟨σ',Z,G,_,rs,S,h,fun xs vs Z1 G1 H1 l1 s1 S1 r1 q1=>⟨by rw [←r1.length]; exact q1.1,fun p n=>UR S1 n r1 q1.2 (kq.mono s1)⟩⟩
theorem aEQ {a' b':CE} (P:Pl X E T k) (ha:JE X E a (wpE T a')) (hb:JE X E b (wpE T b')) (hs:AE b):JE X E (.Subscript a b pos) (wpE T (.idx a' b')):=fun F =>
 (aGP (aDy P.room P.hK) (ha F) (hb F) hs).imp fun σ H Q h=>KJ (by rw [wpE] at h; exact h)
noncomputable def aJH (E:Ev) (F:Hp) (t:PSt→Gh→(Option Int→Gh→Prop)→Prop):TO:=fun σ H Q=>∃ σ' Z G Q',RSt E Z σ' σ∧Sim E F H Z G∧t σ' G Q'∧∀ o Z1 G1 H1,aN Z Z1→Sim E F H1 Z1 G1→Q' o G1→Q o H1
def JO (X:Cx) (E:Ev) (e:Option Expr) (t:PSt→Gh→(Option Int→Gh→Prop)→Prop):Prop:= ∀ F,PO X e (aJH E F t)
theorem PO.imp {e:Option Expr} {t t':TO} (h:PO X e t) (g:∀ σ H Q,t' σ H Q→t σ H Q):PO X e t':=fun pins s σ H Q I q=>h pins s σ H Q I (g _ _ _ q)
theorem aCS:JO X E none (wpO T .nil):=fun F=>PO.imp aAU <|by rintro σ H Q ⟨σ',Z,G,Q',rs,S,h,kq⟩;rw [wpO] at h; exact kq _ _ _ _ (aN.refl Z) S h
theorem aAT {a':CE} (ha:JE X E a (wpE T a')):JO X E (some a) (wpO T (.tst a')):=fun F=>PO.imp (aA6 (ha F)) <|by
 rintro σ H Q ⟨σ',Z,G,Q',rs,S,h,kq⟩;rw [wpO] at h;exact ⟨σ',Z,G,_,rs,S,h,by rintro x v Z1 G1 H1 s1 S1 r1 ⟨i,e,q⟩;subst e; exact ⟨i,r1,kq _ _ _ _ s1 S1 q⟩⟩
theorem aEn {lo hi:Option Expr} {p2:Pos} {a' l' h':CE} (P:Pl X E T k) (ha:JE X E a (wpE T a')) (hl:JO X E lo (wpO T l')) (hu:JO X E hi (wpO T h')):JE X E (.Subscript a (.Slice lo hi none p2) pos) (wpE T (.sli a' l' h')):=fun F =>
 (SW (aDU P.hK) (ha F) (hl F) (hu F)).imp <|by
   rintro σ H Q ⟨σ',Z,G,Q',rs,S,h,kq⟩;rw [wpE] at h;refine ⟨σ',Z,G,_,rs,S,h,fun x v Z1 G1 H1 s1 S1 r1 q1=>⟨σ',Z1,G1,_,rs.mono s1,S1,q1,fun o Z2 G2 H2 s2 S2 q2=>⟨σ',Z2,G2,_,(rs.mono s1).mono s2,S2,q2,fun o' Z3 G3 H3 s3 S3 q3=>?_⟩⟩⟩;exact ⟨x,Z3,G3,Q',(r1.mono s2).mono s3,S3,q3,kq.mono ((s1.trans s2).trans s3)⟩
theorem mJ {ns:List Str} {f:Str} {x:PV} {Z:Hp}:∀ {ns:List Str} {xs:List PV} {vs:List V},RPs E Z xs vs→(ns.zip xs).lookup f=some x→∃ v,(ns.zip vs).lookup f=some v∧RP E Z x v
 | [],_,_,_,h=>by cases h
 | _ :: _,[],_,_,h=>by cases h
 | n :: ns,y :: ys,_,⟨v,r,e,r1,r2⟩,h=>by
   subst e;rw [List.zip_cons_cons,List.lookup_cons] at h;rw [List.zip_cons_cons,List.lookup_cons];cases hb:f == n with
   | true=>rw [hb] at h; cases h; exact ⟨v,rfl,r1⟩
   | false=>rw [hb] at h; exact mJ (ns:=ns) r2 h
theorem aDr {f:Str} {a':CE} (P:Pl X E T k) (ha:JE X E a (wpE T a')) (hb:attributeBase a f X.env (eval a X.env)=eval a X.env):JE X E (.Attribute a f pos) (wpE T (.att a' f)):=fun F =>
 (aEj (ha F) hb).imp <|by
   rintro σ H Q ⟨σ',Z,G,Q',rs,S,h,kq⟩;rw [wpE] at h;refine ⟨σ',Z,G,_,rs,S,h,fun x v Z1 G1 H1 s1 S1 r1 zz=>?_⟩;obtain ⟨c,ns,xs,y,hx,hf,hl,q⟩:=zz;obtain ⟨h1,h2⟩:=P.fld c f hf;rcases hx with e | ⟨a,e,hG⟩
   · subst e;obtain ⟨p,dx,vs,e,hp,_,t⟩:=r1;obtain ⟨w,e1,e2⟩:=mJ (ns:=ns) t hl;exact ⟨p,_,dx,_,w,e,S1.z _ _ hp,h1,h2,e1,kq.go s1 S1 e2 q⟩
   · subst e;obtain ⟨_,o',hp,dx,vs,e',_,t⟩:=S1.g _ _ hG;subst e';obtain ⟨w,e1,e2⟩:=mJ (ns:=ns) t hl;exact ⟨a,_,dx,_,w,r1,hp,h1,h2,e1,kq.go s1 S1 e2 q⟩
theorem aCy {x:Str} {p:Pos} {e:Expr} {es:List Expr} {bb:Bn} {es':CE} (P:Pl X E T k) (h40:MD bb=true→40≤k) (hg:Gl X x) (hm:X.mg x=none) (hv:bootBuiltins x=some (PB bb)) (hn:x≠"__name__") (hd:(x == ("__debug__":Str))=false)
   (ha:JA X E (e :: es) (wpL T es')) (he:starEach (e :: es) X.env=(false,eval e X.env) :: starEach es X.env) (hpl:(backTo pos (starEach es X.env)).any (·.1)=false):JE X E (.Call (.Name x p) (e :: es) [] pos) (wpE T (.blt bb es')):=fun F=>by
 have main:PE X (.Call (.Name x p) (e :: es) [] pos) (tCB (SV E F (eV T.cs bb)) (BP E F (e :: es).length (wpL T es'))):=by
   have hc:=IL (F:=F) (cs:=T.cs) P.hK P.cls bb fun z=>P.calm (h40 z);cases bb <;> first
     | exact DA hc hg hm hv (ha F) hn hd he hpl
     | exact xL hc hg hm hv (ha F) hn hd he hpl
 exact main.imp <|by
   rintro σ H Q ⟨σ',Z,G,Q',rs,S,h,kq⟩;rw [wpE] at h;exact ⟨σ',Z,G,_,rs,S,h,fun xs vs Z1 G1 H1 l1 s1 S1 r1 q1=>⟨xs,Z1,G1,Q',r1,S1,q1,kq.mono s1⟩⟩
noncomputable def jC (E:Ev) (sp:Sp3):Sp:=fun vs H Q _=>∃ xs Z G F Q',RPs E Z xs vs∧Sim E F H Z G∧sp xs G Q'∧Kq E F Z Q' Q
noncomputable abbrev SpX:=List PV→Gh→PX→Prop
noncomputable def DT (E:Ev) (sp:Sp3) (spx:SpX):Sp:=fun vs H Q EX=>∃ xs Z G F,RPs E Z xs vs∧Sim E F H Z G∧((∃ Q',sp xs G Q'∧Kq E F Z Q' Q)∨∃ x,spx xs G x∧KX E F Z x EX)
theorem aHB {X:Cx} {EX:XK} (h:∀ e s',xeO X EX e s'→X.xe e s'):jN (CXo X.prog X.w) X EX:=by
 rintro pins σ H s e s' I ⟨a,C,d,H',ee,ho,hb,un,hok,x,q⟩;have J:=I.call' ho un hok hb fun b z=>nomatch z;exact h _ _ ⟨a,C,d,σ,H',ee,J.nopins,.inr (x.mono I.lo_le),q⟩
def Co (X:Cx) (E:Ev) (sp3:Sp3) (k:Nat) (ad:Addr) (fd:FuncData) (ps:List Str):Prop:= ∃ (CX:CXT) (sp:Sp) (EX:XK),bP X.prog X.w X.K X.mg X.base CX k ad fd ps sp∧jN CX X EX∧∀ vs H Q,jC E sp3 vs H Q E0→sp vs H Q EX
theorem Co.of {sp3:Sp3} {ad:Addr} {fd:FuncData} {ps:List Str} (K:bP X.prog X.w X.K X.mg X.base CX0 k ad fd ps (jC E sp3)):Co X E sp3 k ad fd ps:=⟨CX0,_,E0,K,xB,fun _ _ _ h=>h⟩
theorem Co.ofX {sp3 sp:Sp3} {spx:SpX} {ad:Addr} {fd:FuncData} {ps:List Str} {x:PX} {EX:XK} (K:bP X.prog X.w X.K X.mg X.base (CXo X.prog X.w) k ad fd ps (DT E sp spx)) (h:∀ xs G Q,sp3 xs G Q→sp xs G Q∨spx xs G x)
   (hx:∀ e s',xeO X EX e s'→X.xe e s') (kx:KX E E.f0 E.z0 x EX):Co X E sp3 k ad fd ps:=by
 refine ⟨_,_,EX,K,aHB hx,fun vs H Q ⟨xs,Z,G,F,Q',r,S,q,kq⟩=>⟨xs,Z,G,F,r,S, ?_⟩⟩;rcases h _ _ _ q with q | q
 · exact .inl ⟨Q',q,kq⟩
 · exact .inr ⟨x,q,fun c ns ys d vs Z1 G1 H1 s1 S1 l r hd hn q=>kx c ns ys d vs Z1 G1 H1 S1.z0 S1.weakF l r hd hn q⟩
theorem SO {f:Str} {x:Str} {p:Pos} {e:Expr} {es:List Expr} {es':CE} {ad:Addr} {fd:FuncData} {ps:List Str} (K:Co X E (T.S f) k ad fd ps) (hr:bE k X.A) (hg:Gl X x) (hm:X.mg x=some (.ref ad)) (hk:W.keepIn X.K (.ref ad)=true)
   (hb:aG X.K fd ps []) (hd:(x == ("__debug__":Str))=false) (ha:JA X E (e :: es) (wpL T es')) (he:starEach (e :: es) X.env=(false,eval e X.env) :: starEach es X.env) (hpl:(backTo pos (starEach es X.env)).any (·.1)=false) :
   JE X E (.Call (.Name x p) (e :: es) [] pos) (wpE T (.cal f es')):=fun F=>by
 obtain ⟨CX,sp,EX,K,hp,hl⟩:=K;exact (YE K hr hg hm hk hb .nil hp (ha F) hd he hpl).imp <|by
   rintro σ H Q ⟨σ',Z,G,Q',rs,S,h,kq⟩;rw [wpE] at h;exact ⟨σ',Z,G,_,rs,S,h,fun xs vs Z1 G1 H1 l1 s1 S1 r1 q1=>by
     show sp (vs ++ []) H1 Q EX;rw [List.append_nil];exact hl _ _ _ ⟨xs,Z1,G1,F,Q',r1,S1,q1,kq.mono s1⟩⟩
structure aJS (X:Cx) (E:Ev) (T:Tb):Prop where
 xi:∀ c n r,(c,n,r)∈T.xi→XAt X.K (E.cls c)∧((∃ a,X.mg n=some (.ref a)∧W.kitOne X.K (.ref (E.cls c)) (.ref a)=some r)∨∃ t,X.mg n=none∧bootBuiltins n=some (.type t)∧n≠"__name__"∧W.kitOne X.K (.ref (E.cls c)) (.type t)=some r)
 fx:∀ c f,(c,f)∈T.fx→XAt X.K (E.cls c)∧W.findIn X.K (.ref (E.cls c)) f=some none
structure NeM (X:Cx) (E:Ev) (T:Tb) (k:Nat) (c:String) (m:Str):Prop where
 ex:∃ ad fd,NeC X.K (E.cls c)∧iN X.K (E.cls c) "__eq__" ad∧bP X.prog X.w X.K X.mg X.base CX0 k ad fd ["self","other"] (jC E (T.S m))∧aG X.K fd ["self","other"] []
theorem JJ {F:Hp} {eqs:List (String×Str)} (P:Pl X E T (k + 1)) (he:∀ y∈eqs,NeM X E T k y.1 y.2):OpR X (compareOp .NotEq) (gO E F (TV T eqs)):=by
 rintro pins s σ H v w u1 u2 Q I rv rw' ⟨x,y,Z,G,Q',r1,r2,S,q,kq⟩;rcases q with ⟨c,m,ns,xs,ns',ys,hm,e1,e2,q⟩ | q
 · subst e1 e2;obtain ⟨ad,fd,N,M,Fn,hb⟩:=(he _ hm).ex;have r1':=r1;have r2':=r2;obtain ⟨a,dx,vs,ea,hz,_,_⟩:=r1';obtain ⟨a2,dx2,vs2,ea2,hz2,_,_⟩:=r2';subst ea ea2;refine aCE N M Fn P.room hb pins s σ H _ _ u1 u2 Q I rv rw' ⟨a,dx,_,a2,dx2,_,rfl,rfl,S.z _ _ hz,S.z _ _ hz2, ?_⟩;exact ⟨[.ob c ns xs,.ob c ns' ys],Z,G,F,_,⟨_,_,rfl,r1,_,_,rfl,r2,rfl⟩,S,q,by rintro x v Z1 G1 H1 s1 S1 r3 ⟨b,e,q3⟩;subst e; have e:v= .bl b:=r3; exact ⟨b,e,kq _ _ Z1 G1 H1 s1 S1 bZ q3⟩⟩
 · exact XT P.room P.hK pins s σ H v w u1 u2 Q I rv rw' ⟨x,y,Z,G,Q',r1,r2,S,q,kq⟩
theorem aCs {eqs:List (String×Str)} {a' b':CE} (P:Pl X E T (k + 1)) (he:∀ y∈eqs,NeM X E T k y.1 y.2) (hm:behindInMarks .NotEq b=false) (ha:JE X E a (wpE T a')) (hb:JE X E b (wpE T b')):JE X E (.Compare a [.NotEq] [b] pos) (wpE T (.cne eqs a' b')):=fun F =>
 (JF (JJ P he) (ha F) (hb F) hm).imp fun σ H Q h=>KJ (by rw [wpE] at h; exact h)
theorem aDI {eqs:List (String×Str)} {a' b':CE} (P:Pl X E T (k + 1)) (he:∀ y∈eqs,NeM X E T k y.1 y.2) (hm:behindInMarks .NotEq b=false) (ha:JE X E a (wpE T a')) (hb:JE X E b (wpE T b')):JT X E (.Compare a [.NotEq] [b] pos) (wpT T (.tsb (.cne eqs a' b'))):=fun F =>
 PT.imp (HX (JJ P he) (ha F) (hb F) hm) fun σ H Q h=>KJ (by
   obtain ⟨σ',Z,G,Q',rs,S,h,kq⟩:=h;rw [wpT,wpE] at h;exact ⟨σ',Z,G,_,rs,S,h,by rintro x v Z1 G1 H1 s1 S1 r1 ⟨kk,e,q⟩;subst e; exact ⟨kk,r1,kq _ Z1 G1 H1 s1 S1 q⟩⟩)
theorem aEC {e:Expr} {apos:Pos} {a' b':CE} (ha:JE X E a (wpE T a')) (hb:JE X E e (wpE T b')) (hbase:attributeBase a "append" X.env (eval a X.env)=eval a X.env)
   (hs:starEach [e] X.env=[(false,eval e X.env)]) (hline:(apos.endLine == pos.line)=true):JE X E (.Call (.Attribute a "append" apos) [e] [] pos) (wpE T (.app a' b')):=fun F=>by
 refine (aGz PySem.F.plainAttrs_list PySem.F.slot_list_append PySem.F.type_list_append yB (ha F) (eS (hb F) lB hs) hbase (by rw [hs]; rfl) hline hs rfl).imp fun σ H Q ⟨σ',Z,G,Q',rs,S,h,kq⟩=>?_;rw [wpE] at h;refine ⟨σ',Z,G,_,rs,S,h,fun x v Z1 G1 H1 s1 S1 r1 zz=>?_⟩;obtain ⟨⟨ys,hy⟩,q1⟩:=zz;obtain ⟨a1,vs,rfl,hH,ta⟩:=dM S1 r1 hy;refine ⟨.inl ⟨rfl,vs,SqL.of hH⟩,σ',Z1,G1,_,rs.mono s1,S1,q1,fun y u Z2 G2 H2 s2 S2 r2 zz=>?_⟩;obtain ⟨p,xs,ex,hG,hz,q⟩:=zz;subst ex;have e1:V.ref a1= .ref p:=r1;cases e1;obtain ⟨_,o',hp,us,e',t⟩:=S2.g _ _ hG;subst e';refine ⟨a1,us,u,rfl,rfl,hp,by rw [←t.length]; exact hz,kq.go (s1.trans s2) (S2.set (go:=.lst (xs ++ [y])) hG ⟨us ++ [u],rfl,t.append ⟨u,[],rfl,r2,rfl⟩⟩) pM q⟩
noncomputable def bwN:Bn→Option Str
 | .len=>some "__len__"
 | .bool=>some "__len__"
 | .str=>some "__str__"
 | .repr=>some "__repr__"
 | _=>none
structure OwM (X:Cx) (E:Ev) (T:Tb) (k:Nat) (b:Bn) (c:String) (m:Str):Prop where
 ex:∃ ad fd k0 nm,k0 + 2≤k∧bwN b=some nm∧NeC X.K (E.cls c)∧iN X.K (E.cls c) nm ad∧bP X.prog X.w X.K X.mg X.base CX0 k0 ad fd ["self"] (jC E (T.S m))∧aG X.K fd ["self"] []
theorem aAb {F:Hp} {b:Bn} {ls:List (String×Str)} (P:Pl X E T (k + 1)) (h40:MD b=true→40≤k) (he:∀ y∈ls,OwM X E T k b y.1 y.2):bL X (PB b) (SV E F (aEa T b ls)):=by
 rintro pins s σ H vs us Q I rv ⟨xs,Z,G,Q',r,S,q,kq⟩;rcases q with ⟨c,m,ns,ys,hm,ex,q⟩ | q
 · subst ex;obtain ⟨ad,fd,k0,nm,hk,en,N,M,Fn,hb⟩:=(he _ hm).ex;obtain ⟨v,rfl,rp⟩:=yN r;have rp':=rp;obtain ⟨p,dx,ws,ea,hz,_,_⟩:=rp';subst ea;cases b <;> simp only [bwN,Option.some.injEq,reduceCtorEq] at en
   case len =>
     subst en;exact OK M Fn (P.room.mono (by omega)) hb pins s σ H _ us Q I rv ⟨p,dx,_,rfl,S.z _ _ hz,[.ob c ns ys],Z,G,F,_,⟨_,_,rfl,rp,rfl⟩,S,q,by rintro x v Z2 G2 H2 s2 S2 r3 ⟨n,e,h0,h1,q3⟩;subst e; have e:v= .int n:=r3; exact ⟨n,e,h0,h1,kq _ _ Z2 G2 H2 s2 S2 bK q3⟩⟩
   case str =>
     subst en;exact LY M Fn (P.room.mono (by omega)) hb pins s σ H _ us Q I rv ⟨p,dx,_,rfl,S.z _ _ hz,[.ob c ns ys],Z,G,F,_,⟨_,_,rfl,rp,rfl⟩,S,q,by rintro x v Z2 G2 H2 s2 S2 r3 ⟨n,e,q3⟩;subst e; have e:v= .str n:=r3; exact ⟨n,e,kq _ _ Z2 G2 H2 s2 S2 pT q3⟩⟩
   case bool =>
     subst en;exact GX N.bo M Fn (P.room.mono (by omega)) hb pins s σ H _ us Q I rv ⟨p,dx,_,rfl,S.z _ _ hz,[.ob c ns ys],Z,G,F,_,⟨_,_,rfl,rp,rfl⟩,S,q,by rintro x v Z2 G2 H2 s2 S2 r3 ⟨n,e,h0,h1,q3⟩;subst e; have e:v= .int n:=r3; exact ⟨n,e,h0,h1,kq _ _ Z2 G2 H2 s2 S2 bZ q3⟩⟩
   case repr =>
     subst en;exact GT M Fn (P.room.mono (by omega)) hb pins s σ H _ us Q I rv ⟨p,dx,_,rfl,S.z _ _ hz,[.ob c ns ys],Z,G,F,_,⟨_,_,rfl,rp,rfl⟩,S,q,by rintro x v Z2 G2 H2 s2 S2 r3 ⟨n,e,q3⟩;subst e; have e:v= .str n:=r3; exact ⟨n,e,kq _ _ Z2 G2 H2 s2 S2 pT q3⟩⟩
 · exact IL (F:=F) (cs:=T.cs) P.hK P.cls b (fun z=>P.calm (Nat.le_succ_of_le (h40 z))) pins s σ H vs us Q I rv ⟨xs,Z,G,Q',r,S,q,kq⟩
theorem aDn {x:Str} {p:Pos} {e:Expr} {es:List Expr} {bb:Bn} {ls:List (String×Str)} {es':CE} (P:Pl X E T (k + 1)) (h40:MD bb=true→40≤k) (ho:∀ y∈ls,OwM X E T k bb y.1 y.2) (hg:Gl X x) (hm:X.mg x=none) (hv:bootBuiltins x=some (PB bb)) (hn:x≠"__name__") (hd:(x == ("__debug__":Str))=false)
   (ha:JA X E (e :: es) (wpL T es')) (he:starEach (e :: es) X.env=(false,eval e X.env) :: starEach es X.env) (hpl:(backTo pos (starEach es X.env)).any (·.1)=false):JE X E (.Call (.Name x p) (e :: es) [] pos) (wpE T (.bow bb ls es')):=fun F=>by
 have main:PE X (.Call (.Name x p) (e :: es) [] pos) (tCB (SV E F (aEa T bb ls)) (BP E F (e :: es).length (wpL T es'))):=by
   have hc:=aAb (F:=F) P h40 ho;cases bb <;> first
     | exact DA hc hg hm hv (ha F) hn hd he hpl
     | exact xL hc hg hm hv (ha F) hn hd he hpl
 exact main.imp <|by
   rintro σ H Q ⟨σ',Z,G,Q',rs,S,h,kq⟩;rw [wpE] at h;exact ⟨σ',Z,G,_,rs,S,h,fun xs vs Z1 G1 H1 l1 s1 S1 r1 q1=>⟨xs,Z1,G1,Q',r1,S1,q1,kq.mono s1⟩⟩
mutual
theorem aDT:∀ {x:PV} {d:PyData},dat x=some d→d.hasDict=false
 | .non,d,h=>by simp only [dat] at h; cases h; rfl
 | .bl _,d,h=>by simp only [dat] at h; cases h; rfl
 | .int _,d,h=>by simp only [dat] at h; cases h; rfl
 | .str _,d,h=>by simp only [dat] at h; cases h; rfl
 | .tup xs,d,h=>by
   simp only [dat] at h;split at h
   · rename_i ds e; cases h; unfold PyData.hasDict; exact dats_nd e
   · cases h
 | .lst xs,d,h=>by
   simp only [dat] at h;split at h
   · rename_i ds e; cases h; unfold PyData.hasDict; exact dats_nd e
   · cases h
 | .scr _,d,h=>by simp [dat] at h
 | .ob _ _ _,d,h=>by simp [dat] at h
 | .ref _,d,h=>by simp [dat] at h
 | .ty _,d,h=>by simp [dat] at h
 | .cl _,d,h=>by simp [dat] at h
 | .fn _,d,h=>by simp [dat] at h
 | .emp,d,h=>by simp [dat] at h
 | .dct _ _,d,h=>by simp [dat] at h
theorem dats_nd:∀ {xs:List PV} {ds:List PyData},mY xs=some ds→PyData.hasDictAll ds=false
 | [],ds,h=>by simp only [mY] at h; cases h; rfl
 | x :: xs,ds,h=>by
   simp only [mY] at h;split at h
   · rename_i d ds' e1 e2;cases h;unfold PyData.hasDictAll;rw [aDT e1,dats_nd e2]; rfl
   · cases h
end
end
section
variable {X:Cx} {E:Ev} {T:Tb} {k:Nat} {F H Z:Hp} {G:Gh}
variable {a b:Expr} {pos:Pos}
end
section
variable {X:Cx} {E:Ev} {T:Tb} {k:Nat} {pos:Pos} {a b c e:Expr}
theorem zI {i:Nat} {x:Str} (hN:X.N.Nodup) (hi:X.N[i]? =some x) (hx:Loc X.env.scope x) (hf:X.fn x=true∨X.env.scope.names.lookup x=some .local):JG X E (.Name x pos) (wpG T (.gn i)):=fun F =>
 (JN hN hi hx hf).imp <|by
   rintro v σ H Q ⟨x,σ',Z,G,Q',r,rs,S,h,kq⟩;rw [wpG] at h;exact kq _ _ _ _ _ (aN.refl Z) S (rs.set r i) h
theorem ZD:JGs X E [] (eG T .nil):=fun F=>PGs.imp YW <|by
 rintro vs σ H Q ⟨xs,σ',Z,G,Q',r,rs,S,h,kq⟩;rw [eG] at h;obtain ⟨e,h⟩:=h;subst e;exact ⟨r,kq _ _ _ _ _ (aN.refl Z) S rs h⟩
theorem UC {e:Expr} {es:List Expr} {a' b':CE} (h1:JG X E e (wpG T a')) (h2:JGs X E es (eG T b')) (hs:(assignEach (e :: es) X.env).map (·.2)=assign e X.env :: (assignEach es X.env).map (·.2)):JGs X E (e :: es) (eG T (.cons a' b')):=fun F =>
 PGs.imp (RK (h1 F) (h2 F) hs) <|by
   rintro vs σ H Q ⟨xs,σ',Z,G,Q',r,rs,S,h,kq⟩;rw [eG] at h;obtain ⟨x,t,e,h⟩:=h;subst e;obtain ⟨v,u,e,r1,r2⟩:=r;exact ⟨v,u,e,x,σ',Z,G,_,r1,rs,S,h,fun σ1 σ2 Z1 G1 H1 s1 S1 rs1 q1=>⟨t,σ1,Z1,G1,Q',r2.mono s1,rs1,S1,q1,kq.mono s1⟩⟩
theorem TR {es:List Expr} {x1 n:Nat} {gs:CE} (P:Pl X E T k) (h40:40≤k) (h:JGs X E es (eG T gs)) (hn:(assignEach es X.env).length=n) (hst:(assignEach es X.env).findIdx? (·.1)=none):JG X E (.Tuple es x1 pos) (wpG T (.gt n gs)):=fun F =>
 (aEo (P.calm h40) (h F) hn hst).imp <|by
   rintro v σ H Q ⟨x,σ',Z,G,Q',r,rs,S,h,kq⟩;rw [wpG] at h;obtain ⟨xs,e,hl,h⟩:=h;subst e;obtain ⟨a,vs,e,ha,t⟩:=fR S r;exact ⟨a,vs,e,P.hK▸ha,by rw [←t.length]; exact hl,xs,σ',Z,G,Q',t,rs,S,h,kq⟩
theorem aDN {es:List Expr} {x1 n:Nat} {gs:CE} (P:Pl X E T k) (h40:40≤k) (h:JGs X E es (eG T gs)) (hn:(assignEach es X.env).length=n) (hst:(assignEach es X.env).findIdx? (·.1)=none):JG X E (.Tuple es x1 pos) (wpG T (.gl n gs)):=fun F =>
 (aEX (P.calm h40) (h F) hn hst).imp <|by
   rintro v σ H Q ⟨x,σ',Z,G,Q',r,rs,S,h,kq⟩;rw [wpG] at h;obtain ⟨xs,e,hl,h⟩:=h;obtain ⟨a,vs,e,ha,t⟩:=dM (xs:=xs) S r e;exact ⟨a,vs,e,ha,by rw [←t.length]; exact hl,xs,σ',Z,G,Q',t,rs,S,h,kq⟩
def vG (E:Ev) (J:It) (Z:Hp) (chk:Gh→Prop) (xs:List PV):Prop:= ∀ F (i:Nat) Z1 G1 H1,aN Z Z1→Sim E F H1 Z1 G1→chk G1→
 (∀ x,xs[i]? =some x→J.go i H1∧∀ v H2,J.yld i H1 v H2→∃ Z2,aN Z1 Z2∧Sim E F H2 Z2 G1∧RP E Z2 x v)∧(i=xs.length→J.stop i H1)
def aFl (E:Ev) (F:Hp) (t:PTI):TI:=fun σ H R=>∃ σ' Z G R',RSt E Z σ' σ∧Sim E F H Z G∧t σ' G R'∧∀ J chk xs Z1 G1 H1,aN Z Z1→Sim E F H1 Z1 G1→vG E J Z1 chk xs→R' chk xs G1→R J H1
def JI (X:Cx) (E:Ev) (tg iter:Expr) (t:PTI):Prop:= ∀ F,PI X tg iter (aFl E F t)
theorem aCA {tg l:Expr} {tl:TE} (hl:PE X l tl):PI X tg l (fun σ H R=>tl σ H fun x H1=>∃ a,x= .ref a∧(((∃ xs,SqL X.K H1 a xs)∧R (Itl X.K a) H1)∨((∃ xs,SqT X.K H1 a xs)∧R (Itt X.K a) H1))):=by
 intro pins s σ H R I h;have hw:=hl pins s σ H _ I h;refine thn hw fun v s1 zz=>?_;obtain ⟨x,H1,I1,r1,a,e,q1⟩:=zz;subst e;have r1':v= .ref a:=r1;subst r1';rcases q1 with ⟨⟨xs,hq⟩,q⟩ | ⟨⟨xs,hq⟩,q⟩
 · obtain ⟨its,rv,p,hz⟩:=I1.list hq;refine wpAny_pyIter_list p.isList ?_;refine ⟨s1.heap.objs.size,[s1.heap.objs.size],_,_,H1,rfl,I1.kept (t':=s1.toks) fun b o e=>wEq _ e,MR a _,⟨_,wGq _ rfl,rfl,rfl⟩,fun b hb=>?_,q⟩;have e:b=s1.heap.objs.size:=by simpa using hb
   subst e;exact I1.fpOk (Nat.le_refl _) (I1.hok.fresh (Nat.le_refl _))
 · obtain ⟨its,rv,p,hz⟩:=I1.tuple hq;refine wpAny_pyIter_tuple (show s1.heap.IsTuple a its.toArray from p) ?_;refine ⟨s1.heap.objs.size,[s1.heap.objs.size],_,_,H1,rfl,I1.kept (t':=s1.toks) fun b o e=>wEq _ e,ES a _,⟨_,wGq _ rfl,rfl,rfl⟩,fun b hb=>?_,q⟩;have e:b=s1.heap.objs.size:=by simpa using hb
   subst e;exact I1.fpOk (Nat.le_refl _) (I1.hok.fresh (Nat.le_refl _))
theorem AJ {a:Addr} {Z:Hp} {chk:Gh→Prop} {xs:List PV} (h:∀ F Z1 G1 H1,aN Z Z1→Sim E F H1 Z1 G1→chk G1→∃ vs,SqL E.K H1 a vs∧RPs E Z1 xs vs):vG E (Itl E.K a) Z chk xs:=by
 intro F i Z1 G1 H1 s1 S1 c1;obtain ⟨vs,hs,t⟩:=h F Z1 G1 H1 s1 S1 c1;refine ⟨fun x ex=>?_,fun e=>⟨vs,hs,by rw [e,t.length]; exact Nat.le_refl _⟩⟩;obtain ⟨v,ev,rv⟩:=t.get ex;refine ⟨⟨vs,v,hs,ev⟩,fun w H2 zz=>?_⟩;obtain ⟨e,y⟩:=zz;subst e;have:=y vs hs;rw [ev] at this;cases this;exact ⟨Z1,aN.refl _,S1,rv⟩
theorem aCo {a:Addr} {Z:Hp} {chk:Gh→Prop} {xs:List PV} (h:∀ F Z1 G1 H1,aN Z Z1→Sim E F H1 Z1 G1→chk G1→∃ vs,SqT E.K H1 a vs∧RPs E Z1 xs vs):vG E (Itt E.K a) Z chk xs:=by
 intro F i Z1 G1 H1 s1 S1 c1;obtain ⟨vs,hs,t⟩:=h F Z1 G1 H1 s1 S1 c1;refine ⟨fun x ex=>?_,fun e=>⟨vs,hs,by rw [e,t.length]; exact Nat.le_refl _⟩⟩;obtain ⟨v,ev,rv⟩:=t.get ex;refine ⟨⟨vs,v,hs,ev⟩,fun w H2 zz=>?_⟩;obtain ⟨e,y⟩:=zz;subst e;have:=y vs hs;rw [ev] at this;cases this;exact ⟨Z1,aN.refl _,S1,rv⟩
theorem aDR {a:Addr} {Z:Hp} {vs:List V} {xs:List PV} (hz:SqT E.K Z a vs) (t:RPs E Z xs vs):vG E (Ite E.K a) Z (fun _=>True) (AS xs):=by
 intro F i Z1 G1 H1 s1 S1 _;have hs:=cU S1.z (cU s1 hz);have hl:(AS xs).length=xs.length:=by unfold AS; rw [List.length_map,List.length_zipIdx]
 refine ⟨fun x ex=>?_,fun e=>⟨vs,hs,by rw [e,hl,t.length]; exact Nat.le_refl _⟩⟩;unfold AS at ex;rw [List.getElem?_map,List.getElem?_zipIdx] at ex;cases ey:xs[i]? with
 | none=>rw [ey] at ex; cases ex
 | some y =>
   rw [ey] at ex;have ex':x= .tup [.int ((0 + i:Nat):Int),y]:=by
     have:=Option.some.inj ex;exact this.symm
   obtain ⟨v,ev,rv⟩:=t.get ey;refine ⟨⟨vs,v,hs,ev⟩,fun w H2 zz=>?_⟩;obtain ⟨p,u,e,n,e2,y'⟩:=zz;subst e e2;have:=y' vs hs;rw [ev] at this;cases this;refine ⟨upd Z1 p (.tup [.int i,v]),bB (S1.zn n) _,S1.fz n, ?_⟩;rw [ex',Nat.zero_add];exact lH (xs:=[.int (i:Int),y]) (S1.zn n) ⟨_,_,rfl,bK,_,_,rfl,rv.mono s1,rfl⟩
theorem QW {lo:Int} {n:Nat} {Z:Hp}:vG E (Itr lo n) Z (fun _=>True) (oO lo n):=by
 intro F i Z1 G1 H1 s1 S1 _;have hl:(oO lo n).length=n:=by unfold oO; rw [List.length_map,List.length_range]
 refine ⟨fun x ex=>?_,fun e=>by rw [hl] at e; exact Nat.le_of_eq e.symm⟩;have hi:i < n:=by
   have:=(List.getElem?_eq_some_iff.mp ex).1;rw [hl] at this; exact this
 have ex':x= .int (lo + i):=by
   unfold oO at ex;rw [List.getElem?_map,List.getElem?_range hi] at ex;exact (Option.some.inj ex).symm
 refine ⟨hi,fun w H2 zz=>?_⟩;obtain ⟨e,y⟩:=zz;subst e y;exact ⟨Z1,aN.refl _,S1,by rw [ex']; exact bK⟩
theorem yR {tg:Expr} {a':CE} (P:Pl X E T k) (ha:JE X E a (wpE T a')):JI X E tg a (wpI T (.isq a')):=fun F =>
 (aCA (ha F)).imp <|by
   rintro σ H R ⟨σ',Z,G,R',rs,S,h,kr⟩;rw [wpI] at h;refine ⟨σ',Z,G,_,rs,S,h,fun x v Z1 G1 H1 s1 S1 r1 q1=>?_⟩;unfold UA at q1;split at q1
   · obtain ⟨a,vs,e,ha,t⟩:=r1;have ok:vG E (Itt E.K a) Z1 (fun _=>True) _:=aCo fun F2 Z2 G2 H2 s2 S2 _=>⟨vs,cU S2.z (cU s2 ha),t.mono s2⟩;exact ⟨a,e,.inr ⟨⟨vs,P.hK▸cU S1.z ha⟩,P.hK▸kr _ _ _ _ _ _ s1 S1 ok q1⟩⟩
   · obtain ⟨a,vs,e,ha,t⟩:=r1;have ok:vG E (Itl E.K a) Z1 (fun _=>True) _:=AJ fun F2 Z2 G2 H2 s2 S2 _=>⟨vs,SqL.of (S2.z _ _ (s2 _ _ ha)),t.mono s2⟩;exact ⟨a,e,.inl ⟨⟨vs,SqL.of (S1.z _ _ ha)⟩,P.hK▸kr _ _ _ _ _ _ s1 S1 ok q1⟩⟩
   · obtain ⟨a,e,ha⟩:=r1;have ok:vG E (Itl E.K a) Z1 (fun _=>True) _:=AJ fun F2 Z2 G2 H2 s2 S2 _=>⟨_,S2.z.seq (s2.seq ha),RPs.ofInts _⟩;exact ⟨a,e,.inl ⟨⟨_,P.hK▸S1.z.seq ha⟩,P.hK▸kr _ _ _ _ _ _ s1 S1 ok q1⟩⟩
   · rename_i a;obtain ⟨xs,hG,q1⟩:=q1;obtain ⟨_,o',hp,vs,e',t⟩:=S1.g _ _ hG;subst e';have ok:vG E (Itl E.K a) Z1 (fun G'=>G' a=some (.lst xs)) xs:=AJ fun F2 Z2 G2 H2 s2 S2 c2=>by
       obtain ⟨_,o',hp,vs,e',t⟩:=S2.g _ _ c2;subst e';exact ⟨vs,SqL.of hp,t⟩
     exact ⟨a,r1,.inl ⟨⟨vs,SqL.of hp⟩,P.hK▸kr _ _ _ _ _ _ s1 S1 ok q1⟩⟩
   · exact q1.elim
theorem aAs {tg:Expr} {p:Pos} {a':CE} (hg:Gl X "range") (hm:X.mg "range"=none) (ha:JE X E a (wpE T a')) (hs:starEach [a] X.env=[(false,eval a X.env)]):JI X E tg (.Call (.Name "range" p) [a] [] pos) (wpI T (.irg (.cons a' .nil))):=fun F =>
 (MK hg hm (eS (ha F) lB hs) hs).imp <|by
   rintro σ H R ⟨σ',Z,G,R',rs,S,h,kr⟩;rw [wpI,wpL,wpL] at h;refine ⟨σ',Z,G,_,rs,S,h,fun x v Z1 G1 H1 s1 S1 r1 q1=>?_⟩;rcases q1 with ⟨j,e,h1,h2,q⟩ | ⟨i,j,e,_⟩
   · cases e;exact ⟨j,by rw [show v= .int j from r1],h1,h2,kr _ _ _ _ _ _ s1 S1 QW q⟩
   · cases e
theorem YH {tg:Expr} {p:Pos} {a' b':CE} (hg:Gl X "range") (hm:X.mg "range"=none) (ha:JE X E a (wpE T a')) (hb:JE X E b (wpE T b')) (hs:starEach [a,b] X.env=[(false,eval a X.env),(false,eval b X.env)]) (hs2:starEach [b] X.env=[(false,eval b X.env)]) :
   JI X E tg (.Call (.Name "range" p) [a,b] [] pos) (wpI T (.irg (.cons a' (.cons b' .nil)))):=fun F =>
 (MF hg hm (eS (ha F) (eS (hb F) lB hs2) (by rw [hs,hs2])) hs hs2).imp <|by
   rintro σ H R ⟨σ',Z,G,R',rs,S,h,kr⟩;rw [wpI,wpL,wpL,wpL] at h;refine ⟨σ',Z,G,_,rs,S,h,fun x v Z1 G1 H1 s1 S1 r1 q1=>⟨σ',Z1,G1,_,rs.mono s1,S1,q1,fun y u Z2 G2 H2 s2 S2 r2 q2=>?_⟩⟩;rcases q2 with ⟨j,e,h1,h2,q⟩ | ⟨i,j,e,hb,q⟩
   · cases e
   · cases e;exact ⟨i,j,by rw [show v= .int i from r1,show u= .int j from r2],hb,kr _ _ _ _ _ _ (s1.trans s2) S2 QW q⟩
theorem aDj {es:List Expr} {x1:Nat} {tp p:Pos} {a':CE} (P:Pl X E T k) (hg:Gl X "enumerate") (hm:X.mg "enumerate"=none) (ha:JE X E a (wpE T a')) (hs:starEach [a] X.env=[(false,eval a X.env)]):JI X E (.Tuple es x1 tp) (.Call (.Name "enumerate" p) [a] [] pos) (wpI T (.ien a')):=fun F =>
 (aAt hg hm (eS (ha F) lB hs) hs).imp <|by
   rintro σ H R ⟨σ',Z,G,R',rs,S,h,kr⟩;rw [wpI] at h;refine ⟨σ',Z,G,_,rs,S,h,fun x v Z1 G1 H1 s1 S1 r1 zz=>?_⟩;obtain ⟨xs,e,q1⟩:=zz;subst e;obtain ⟨a,vs,e,ha,t⟩:=r1;exact ⟨a,by rw [e],⟨vs,P.hK▸cU S1.z ha⟩,P.hK▸kr _ _ _ _ _ _ s1 S1 (aDR ha t) q1⟩
def rN (E:Ev) (Z:Hp) (b:Bool) (l:Addr) (us:List V):Prop:=if b=true then SqT E.K Z l us else Z l=some (.lst us)
theorem rN.mono {Z Z':Hp} {b:Bool} {l:Addr} {us:List V} (s:aN Z Z') (h:rN E Z b l us):rN E Z' b l us:=by
 unfold rN at *;split
 · rename_i e; rw [if_pos e] at h; exact cU s h
 · rename_i e; rw [if_neg e] at h; exact s _ _ h
theorem rN.at_ {Z:Hp} {b:Bool} {l:Addr} {us:List V} (h:rN E Z b l us):rG E.K Z b l us:=by
 unfold rN at h;unfold rG;split
 · rename_i e; rw [if_pos e] at h; exact h
 · rename_i e; rw [if_neg e] at h; exact SqL.of h
theorem IA {Z:Hp}:∀ {xs:List PV} {vs:List V} {yss:List (List PV)},RPs E Z xs vs→xs.map OY=yss.map some→∃ (ls:List (Bool×Addr)) (xss:List (List V)),vs=ls.map (fun p=>V.ref p.2)∧ls.length=yss.length∧xss.length=yss.length∧
   (∀ (j:Nat) (p:Bool×Addr) (us:List V),ls[j]? =some p→xss[j]? =some us→rN E Z p.1 p.2 us)∧∀ (j:Nat) (ys:List PV) (us:List V),yss[j]? =some ys→xss[j]? =some us→RPs E Z ys us
 | [],vs,yss,r,h=>by
   have e:vs=[]:=r;subst e;cases yss with
   | nil=>exact ⟨[],[],rfl,rfl,rfl,(fun j p us h _=>by simp at h),fun j ys us h _=>by simp at h⟩
   | cons a b=>cases h
 | x :: xs,vs,yss,r,h=>by
   obtain ⟨v,vr,e,rx,rr⟩:=r;subst e;cases yss with
   | nil=>cases h
   | cons ys yss =>
     rw [List.map_cons,List.map_cons] at h;injection h with h1 h2;obtain ⟨ls,xss,e,l1,l2,ha,hb⟩:=IA rr h2;have key:∃ (p:Bool×Addr) (us:List V),v= .ref p.2∧rN E Z p.1 p.2 us∧RPs E Z ys us:=by
       unfold OY at h1;split at h1
       · have e:=Option.some.inj h1;subst e;obtain ⟨a,us,e,q,t⟩:=rx;exact ⟨(true,a),us,e,by unfold rN; rw [if_pos rfl]; exact q,t⟩
       · have e:=Option.some.inj h1;subst e;obtain ⟨a,us,e,q,t⟩:=rx;exact ⟨(false,a),us,e,by unfold rN; rw [if_neg Bool.false_ne_true]; exact q,t⟩
       · cases h1
     obtain ⟨p,us,ev,k1,k2⟩:=key;refine ⟨p :: ls,us :: xss,by rw [ev,e]; rfl,by simp [l1],by simp [l2],fun j q ws hq hw=>?_,fun j zs ws hq hw=>?_⟩
     · cases j with
       | zero=>cases hq; cases hw; exact k1
       | succ j=>exact ha j q ws hq hw
     · cases j with
       | zero=>cases hq; cases hw; exact k2
       | succ j=>exact hb j zs ws hq hw
theorem XU {Z:Hp} {i:Nat}:∀ {yss:List (List PV)} {xss:List (List V)},xss.length=yss.length→(∀ (j:Nat) (ys:List PV) (us:List V),yss[j]? =some ys→xss[j]? =some us→RPs E Z ys us)→(∀ ys∈yss,i < ys.length)→
   ∃ vs,vs.length=xss.length∧(∀ (j:Nat) (us:List V),xss[j]? =some us→us[i]? =vs[j]?)∧RPs E Z (yss.map fun ys=>ys.getD i .non) vs
 | [],xss,l,_,_=>by
   have e:xss=[]:=List.length_eq_zero_iff.mp l;subst e;exact ⟨[],rfl,(fun j us h=>by simp at h),rfl⟩
 | ys :: yss,[],l,_,_=>by cases l
 | ys :: yss,us :: xss,l,h,hi=>by
   obtain ⟨vs,a,b,c⟩:=XU (yss:=yss) (xss:=xss) (by simpa using l) (fun j zs ws=>h (j + 1) zs ws) fun zs hz=>hi zs (wCq _ hz);have hy:=hi ys (wDq ..);have ey:ys[i]? =some (ys.getD i .non):=by rw [List.getD_eq_getElem?_getD,wHq hy]; rfl
   obtain ⟨v,ev,rv⟩:=(h 0 ys us rfl rfl).get ey;refine ⟨v :: vs,by simp [a],fun j ws hw=>?_,v,vs,rfl,rv,c⟩;cases j with
   | zero=>cases hw; exact ev
   | succ j=>exact b j ws hw
theorem aEe {n:Nat} {Z:Hp} {rs:List LZ.Zr} {ls:List (Bool×Addr)} {xss:List (List V)} {yss:List (List PV)} (er:rs.map (fun r=>(r.b,r.l))=ls) (l1:ls.length=yss.length) (l2:xss.length=yss.length) (hne:yss≠ [])
   (ha:∀ (j:Nat) (p:Bool×Addr) (us:List V),ls[j]? =some p→xss[j]? =some us→rN E Z p.1 p.2 us) (hb:∀ (j:Nat) (ys:List PV) (us:List V),yss[j]? =some ys→xss[j]? =some us→RPs E Z ys us) (hn:(∀ ys∈yss,ys.length=n)∨∃ a b,yss=[a,b]∧b.length=n∧n < a.length) :
   vG E (Itz E.K rs) Z (fun _=>True) (mS n yss):=by
 intro F i Z1 G1 H1 s1 S1 _;have lr:rs.length=yss.length:=by rw [←l1,←er,List.length_map]
 have RA:uD E.K H1 rs xss:=by
   refine ⟨by omega,fun j r us hr hu=>?_⟩;have hp:ls[j]? =some (r.b,r.l):=by rw [←er,List.getElem?_map,hr]; rfl
   exact (((ha j _ us hp hu).mono s1).mono S1.z).at_
 have hl:(mS n yss).length=n:=by unfold mS; rw [List.length_map,List.length_range]
 refine ⟨fun x ex=>?_,fun e=>?_⟩
 · have hi:i < n:=by have:=(List.getElem?_eq_some_iff.mp ex).1; rw [hl] at this; exact this
   have ex':x= .tup (yss.map fun ys=>ys.getD i .non):=by
     unfold mS at ex;rw [List.getElem?_map,List.getElem?_range hi] at ex;exact (Option.some.inj ex).symm
   obtain ⟨vs,a,b,c⟩:=XU (i:=i) l2 (fun j ys us h1 h2=>(hb j ys us h1 h2).mono s1) fun ys hy=>by
     rcases hn with hn | ⟨u,v,rfl,h1,h2⟩
     · rw [hn ys hy]; exact hi
     · simp only [List.mem_cons,List.not_mem_nil,or_false] at hy;rcases hy with rfl | rfl <;> omega
   refine ⟨⟨xss,vs,RA,by omega,b⟩,fun w H2 ⟨p,ws,e,nn,e2,wl,y'⟩=>?_⟩;subst e e2;have ew:ws=vs:=by
     refine List.ext_getElem? fun j=>?_;by_cases hj:j < xss.length
     · have e:=wHq hj;rw [←y' xss RA j _ e,←b j _ e]
     · rw [List.getElem?_eq_none (by omega),List.getElem?_eq_none (by omega)]
   subst ew;refine ⟨upd Z1 p (.tup ws),bB (S1.zn nn) _,S1.fz nn, ?_⟩;rw [ex'];exact lH (S1.zn nn) c
 · rw [hl] at e;rcases hn with hn | ⟨u,v,rfl,h1,h2⟩
   · cases xss with
     | nil=>exact absurd (List.length_eq_zero_iff.mp l2.symm) hne
     | cons us t =>
       refine .inl ⟨us,t,RA, ?_⟩;cases yss with
       | nil=>exact absurd rfl hne
       | cons ys yt=>rw [e,←hn ys (wDq ..),(hb 0 ys us rfl rfl).length]; exact Nat.le_refl _
   · match xss,l2,RA,hb with
     | [us,ws],_,RA,hb =>
       have q1:=(hb 0 u us rfl rfl).length;have q2:=(hb 1 v ws rfl rfl).length;exact .inr ⟨us,ws,[],RA,by omega,by omega⟩
theorem aDp {es0:List Expr} {x1:Nat} {tp p:Pos} {e:Expr} {es:List Expr} {es':CE} (P:Pl X E T k) (hg:Gl X "zip") (hm:X.mg "zip"=none) (ha:JA X E (e :: es) (wpL T es')) (hs:starEach (e :: es) X.env=(false,eval e X.env) :: starEach es X.env) (hpl:(backTo pos (starEach es X.env)).any (·.1)=false) :
   JI X E (.Tuple es0 x1 tp) (.Call (.Name "zip" p) (e :: es) [] pos) (wpI T (.izp es')):=fun F =>
 (aD9 hg hm (ha F) hs hpl).imp <|by
   rintro σ H R ⟨σ',Z,G,R',rs,S,h,kr⟩;rw [wpI] at h;refine ⟨σ',Z,G,_,rs,S,h,fun xs vs Z1 G1 H1 l0 s1 S1 r1 zz=>?_⟩;obtain ⟨hl,n,yss,er,hn,q1⟩:=zz;obtain ⟨ls,xss,e,l1,l2,hA,hB⟩:=IA r1 er;have ly:yss.length=xs.length:=by have:=congrArg List.length er; simpa using this.symm
   refine ⟨ls,e,by omega,⟨xss,by omega,fun j p us h1 h2=>P.hK▸((hA j p us h1 h2).mono S1.z).at_⟩,fun zs ez=>P.hK▸kr _ _ _ _ _ _ s1 S1 (aEe ez l1 l2 (by intro z; rw [z] at ly; simp at ly; omega) hA hB hn) q1⟩
theorem aEr {tg iter:Expr} {body:List Stmt} {g' i':CE} {b':CS} (P:Pl X E T k) (h40:40≤k) (hp:PassesOwn (model X.prog X.w) X.A X.env X.xe) (hi:JI X E tg iter (wpI T i')) (hg:JG X E tg (wpG T g')) (hb:JSs X E body (wpS T b'))
   (hs:∀ x,foldedSetIterable iter X.env x=pure x):JS X E (.For tg iter body [] pos) (wpS T (.fr g' i' b')):=fun F =>
 (aCq hp (P.calm h40) (hi F) (hg F) (hb F) hs).imp <|by
   rintro D σ H ⟨σ',Z,G,D',rs,S,h,kd⟩;rw [wpS] at h;refine ⟨σ',Z,G,_,rs,S,h,fun J chk xs Z1 G1 H1 s1 S1 ok q=>?_⟩;refine ⟨fun i m σ H=>m=xs.length - i∧i≤xs.length∧∃ σ' Z2 G2,aN Z1 Z2∧Sim E F H Z2 G2∧RSt E Z2 σ' σ∧nS chk (wpG T g') (wpS T b') D' (xs.drop i) σ' G2,⟨xs.length,by simp,Nat.zero_le _,σ',Z1,G1,aN.refl _,S1,rs.mono s1,q⟩, ?_⟩;rintro i m σ2 H2 ⟨rfl,hi,σ3,Z2,G2,s2,S2,rs2,q2⟩;have sz:=s1.trans s2;by_cases hlt:i < xs.length
   · have hd:xs.drop i=xs[i] :: xs.drop (i + 1):=List.drop_eq_getElem_cons hlt;rw [hd] at q2;unfold nS at q2;obtain ⟨c2,q2⟩:=q2;obtain ⟨go,yl⟩:=(ok F i Z2 G2 H2 s2 S2 c2).1 xs[i] (by simp [hlt]);refine .inr ⟨go,fun σ4 H4=>∃ σ5 Z4 G4,aN Z2 Z4∧Sim E F H4 Z4 G4∧RSt E Z4 σ5 σ4∧nS chk (wpG T g') (wpS T b') D' (xs.drop (i + 1)) σ5 G4,by rintro σ4 H4 ⟨σ5,Z4,G4,s4,S4,rs4,q4⟩;exact ⟨xs.length - (i + 1),by omega,rfl,hlt,σ5,Z4,G4,s2.trans s4,S4,rs4,q4⟩,fun v H3 y=>?_⟩;obtain ⟨Z3,s3,S3,r3⟩:=yl v H3 y;refine ⟨xs[i],σ3,Z3,G2,_,r3,rs2.mono s3,S3,q2,fun σ6 σ7 Z5 G5 H5 s5 S5 rs5 q5=>⟨σ6,Z5,G5,_,rs5,S5,q5, ?_⟩⟩;have s35:=s3.trans s5;exact ⟨fun σ8 σ9 Z6 G6 H6 s6 S6 rs6 q6=>⟨σ8,Z6,G6,s35.trans s6,S6,rs6,q6⟩,kd.rt.mono (sz.trans s35),kd.nx.mono (sz.trans s35),fun σ8 σ9 Z6 G6 H6 s6 S6 rs6 q6=>⟨σ8,Z6,G6,s35.trans s6,S6,rs6,q6⟩⟩
   · have e:i=xs.length:=by omega
     rw [e,List.drop_length] at q2;unfold nS at q2;obtain ⟨c2,q2⟩:=q2;exact .inl ⟨(ok F i Z2 G2 H2 s2 S2 c2).2 e,kd.nx _ _ _ _ _ sz S2 rs2 q2⟩
theorem aGh {body:List Stmt} {c':CE} {b':CS} (hp:PassesOwn (model X.prog X.w) X.A X.env X.xe) (hc:JT X E c (wpT T c')) (hb:JSs X E body (wpS T b')):JS X E (.While c body [] pos) (wpS T (.wh c' b')):=fun F =>
 (RI hp (hc F) (hb F)).imp <|by
   rintro D σ H ⟨σ',Z,G,D',rs,S,h,kd⟩;rw [wpS] at h;obtain ⟨W,⟨m0,w0⟩,turn⟩:=h;refine ⟨fun m σ H=>∃ σ' Z2 G2,aN Z Z2∧Sim E F H Z2 G2∧RSt E Z2 σ' σ∧W m σ' G2,⟨m0,σ',Z,G,aN.refl _,S,rs,w0⟩, ?_⟩;rintro m σ2 H2 ⟨σ3,Z2,G2,s2,S2,rs2,w2⟩;refine ⟨σ3,Z2,G2,_,rs2,S2,turn m σ3 G2 w2,fun d Z3 G3 H3 s3 S3 q3=>?_⟩;have s23:=s2.trans s3;dsimp only;cases d with
   | true =>
     rw [if_pos rfl] at q3 ⊢;refine ⟨fun σ4 H4=>∃ σ5 Z4 G4 m',m' < m∧aN Z Z4∧Sim E F H4 Z4 G4∧RSt E Z4 σ5 σ4∧W m' σ5 G4,by rintro σ4 H4 ⟨σ5,Z4,G4,m',lt,s4,S4,rs4,w4⟩;exact ⟨m',lt,σ5,Z4,G4,s4,S4,rs4,w4⟩,σ3,Z3,G3,_,rs2.mono s3,S3,q3, ?_⟩;exact ⟨by rintro σ8 σ9 Z6 G6 H6 s6 S6 rs6 ⟨m',lt,w6⟩;exact ⟨σ8,Z6,G6,m',lt,s23.trans s6,S6,rs6,w6⟩,kd.rt.mono s23,kd.nx.mono s23,by rintro σ8 σ9 Z6 G6 H6 s6 S6 rs6 ⟨m',lt,w6⟩;exact ⟨σ8,Z6,G6,m',lt,s23.trans s6,S6,rs6,w6⟩⟩
   | false =>
     rw [if_neg Bool.false_ne_true] at q3 ⊢;exact kd.nx _ _ _ _ _ s23 S3 (rs2.mono s3) q3
theorem aCQ {st:Stmt} {bA:List Stmt} {a' b':CS} (h1:JS X E st (wpS T a')) (h2:JSs X E bA (wpS T b')):JSs X E (st :: bA) (wpS T (.seq a' b')):=fun F =>
 PSs.imp (VM (h1 F) (h2 F)) <|by
   rintro D σ H ⟨σ',Z,G,D',rs,S,h,kd⟩;rw [wpS] at h;exact ⟨σ',Z,G,_,rs,S,h,⟨fun σ1 σ2 Z1 G1 H1 s1 S1 rs1 q1=>⟨σ1,Z1,G1,D',rs1,S1,q1,kd.mono s1⟩,kd.rt,kd.bk,kd.ct⟩⟩
theorem aEi {st:Stmt} {a':CS} (h1:JS X E st (wpS T a')):JSs X E [st] (wpS T a'):=fun F=>ZO (h1 F)
theorem aEk:JSs X E [] (wpS T .nil):=fun F=>PSs.imp ZR <|by
 rintro D σ H ⟨σ',Z,G,D',rs,S,h,kd⟩;rw [wpS] at h;exact kd.nx _ _ _ _ _ (aN.refl Z) S rs h
theorem ZL:JS X E (.Pass pos) (wpS T .nil):=fun F=>aAo.imp <|by
 rintro D σ H ⟨σ',Z,G,D',rs,S,h,kd⟩;rw [wpS] at h;exact kd.nx _ _ _ _ _ (aN.refl Z) S rs h
theorem aCY {x:Str} {j:Nat} {pos':Pos}:JS X E (.Expr (.Constant (.str x) j pos) pos') (wpS T .nil):=fun F=>aE8.imp <|by
 rintro D σ H ⟨σ',Z,G,D',rs,S,h,kd⟩;rw [wpS] at h;exact kd.nx _ _ _ _ _ (aN.refl Z) S rs h
theorem aGC {e':CE} (he:JE X E e (wpE T e')) (hs:swapsWith e none pos.line X.env=pure false):JS X E (.Expr e pos) (wpS T (.ex e')):=fun F =>
 (YQ (he F) hs).imp <|by
   rintro D σ H ⟨σ',Z,G,D',rs,S,h,kd⟩;rw [wpS] at h;exact ⟨σ',Z,G,_,rs,S,h,fun x v Z1 G1 H1 s1 S1 r1 q1=>kd.nx _ _ _ _ _ s1 S1 (rs.mono s1) q1⟩
theorem aEl {e':CE} (he:JE X E e (wpE T e')):JS X E (.Return (some e) pos) (wpS T (.ret e')):=fun F =>
 (aDM (he F)).imp <|by
   rintro D σ H ⟨σ',Z,G,D',rs,S,h,kd⟩;rw [wpS] at h;exact ⟨σ',Z,G,_,rs,S,h,kd.rt⟩
theorem aAu:JS X E (.Return none pos) (wpS T .retN):=fun F=>aAC.imp <|by
 rintro D σ H ⟨σ',Z,G,D',rs,S,h,kd⟩;rw [wpS] at h;exact kd.rt _ _ _ _ _ (aN.refl Z) S pM h
theorem aD5 {st:Stmt}:JS X E st (wpS T .nev):=fun F=>VH.imp <|by
 rintro D σ H ⟨σ',Z,G,D',rs,S,h,kd⟩;rw [wpS] at h;exact h
theorem aAD {sts:List Stmt}:JSs X E sts (wpS T .nev):=fun F=>PSs.imp NA <|by
 rintro D σ H ⟨σ',Z,G,D',rs,S,h,kd⟩;rw [wpS] at h;exact h
theorem aGj {x y:List Stmt} {c':CE} {a' b':CS} (hc:JT X E c (wpT T c')) (ha:JSs X E x (wpS T a')) (hb:JSs X E y (wpS T b')):JS X E (.If c x y pos) (wpS T (.iff c' a' b')):=fun F =>
 (aGX (hc F) (ha F) (hb F)).imp <|by
   rintro D σ H ⟨σ',Z,G,D',rs,S,h,kd⟩;rw [wpS] at h;refine ⟨σ',Z,G,_,rs,S,h,fun d Z1 G1 H1 s1 S1 q=>?_⟩;cases d with
   | true=>rw [if_pos rfl] at q ⊢; exact ⟨σ',Z1,G1,D',rs.mono s1,S1,q,kd.mono s1⟩
   | false=>rw [if_neg Bool.false_ne_true] at q ⊢; exact ⟨σ',Z1,G1,D',rs.mono s1,S1,q,kd.mono s1⟩
theorem aAr {F:Hp} {g' e':CE} {D:uT} {σ:L2.St} {H:Hp} (h:aEq E F (wpS T (.asg g' e')) D σ H):aCv (low E F (wpE T e')) (aEL E F (wpG T g')) D σ H:=by
 obtain ⟨σ',Z,G,D',rs,S,h,kd⟩:=h;rw [wpS] at h;exact ⟨σ',Z,G,_,rs,S,h,fun x v Z1 G1 H1 s1 S1 r1 q1=>⟨x,σ',Z1,G1,_,r1,rs.mono s1,S1,q1,kd.nx.mono s1⟩⟩
theorem tS {tg:Expr} {g' e':CE} (he:JE X E e (wpE T e')) (hg:JG X E tg (wpG T g')) (hs:swapsWithSole [tg] e pos.line X.env=pure false) (hw:swappedStores [tg] e X.env=pure none) (h1:(assignEach [tg] X.env).map (·.2)=[assign tg X.env]) :
   JS X E (.Assign [tg] e pos) (wpS T (.asg g' e')):=fun F=>(XQ (he F) (hg F) hs hw h1).imp fun D σ H h=>aAr h
theorem aDl {i j:Nat} {x y:Str} {a' b':CE} {px py pt pt2:Pos} {kt k2:Nat} (P:Pl X E T k) (h40:40≤k) (hN:X.N.Nodup) (hi:X.N[i]? =some x) (hj:X.N[j]? =some y) (hij:i≠j) (hx:X.env.scope.names.lookup x=some .local) (hy:X.env.scope.names.lookup y=some .local)
   (ha:JE X E a (wpE T a')) (hb:JE X E b (wpE T b')) (s1:starEach [a,b] X.env=(false,eval a X.env) :: starEach [b] X.env) (s2:starEach [b] X.env=(false,eval b X.env) :: starEach [] X.env)
   (hw:swappedStores [.Tuple [.Name x px,.Name y py] kt pt] (.Tuple [a,b] k2 pt2) X.env=pure (some [x,y])) (hs:swapsWithSole [.Tuple [.Name x px,.Name y py] kt pt] (.Tuple [a,b] k2 pt2) pos.line X.env=pure false) :
   JS X E (.Assign [.Tuple [.Name x px,.Name y py] kt pt] (.Tuple [a,b] k2 pt2) pos) (wpS T (.par i j a' b')):=fun F =>
 (aCD (P.calm h40) hN hi hj hij hx hy (eS (ha F) (eS (hb F) lB s2) s1) hw hs).imp <|by
   rintro D σ H ⟨σ',Z,G,D',rs,S,h,kd⟩;rw [wpS] at h;refine ⟨σ',Z,G,_,rs,S,h,fun x v Z1 G1 H1 s1 S1 r1 q1=>⟨σ',Z1,G1,_,rs.mono s1,S1,q1,fun y u Z2 G2 H2 s2 S2 r2 q2=>?_⟩⟩;exact ⟨v,u,rfl,kd.nx _ _ _ _ _ (s1.trans s2) S2 ((((rs.mono s1).mono s2).set (r1.mono s2) i).set r2 j) q2⟩
theorem aCO {o i:Expr} {pos':Pos} {o' i' e':CE} (he:JE X E e (wpE T e')) (ho:JE X E o (wpE T o')) (hi:JE X E i (wpE T i'))
   (ha:∀ v,assign (.Subscript o i pos') X.env v=(do
     let ov ←holding [v] (eval o X.env)
     let iv ←holding [v,ov] (eval i X.env)
     standAt pos'
     holding [v,ov,iv] (setItem ov iv v)
     release [v,ov,iv] []))
   (hs:swapsWithSole [.Subscript o i pos'] e pos.line X.env=pure false) (hw:swappedStores [.Subscript o i pos'] e X.env=pure none):JS X E (.Assign [.Subscript o i pos'] e pos) (wpS T (.sub o' i' e')):=fun F =>
 (XQ (he F) (aC2 (ho F) (hi F) (ZI (E:=E) (F:=F)) ha) hs hw rfl).imp <|by
   rintro D σ H ⟨σ',Z,G,D',rs,S,h,kd⟩;rw [wpS] at h;refine ⟨σ',Z,G,_,rs,S,h,fun v v' Z1 G1 H1 s1 S1 r1 q1=>⟨σ',Z1,G1,_,rs.mono s1,S1,q1,fun x x' Z2 G2 H2 s2 S2 r2 q2=>⟨σ',Z2,G2,_,(rs.mono s1).mono s2,S2,q2,fun y y' Z3 G3 H3 s3 S3 r3 q3=>?_⟩⟩⟩;have s13:=(s1.trans s2).trans s3;exact ⟨x,y,v,Z3,G3,_,r2.mono s3,r3,(r1.mono s2).mono s3,S3,q3,fun G4 H4 S4 q4=>kd.nx _ _ _ _ _ s13 S4 (rs.mono s13) q4⟩
theorem CI (f:Str) (v:V):∀ (ns:List Str) (vs:List V),ns.length=vs.length→jS f v (ns.zip vs)=(NK f ns).zip (vT f v ns vs)∧(NK f ns).length=(vT f v ns vs).length
 | [],[],_=>⟨rfl,rfl⟩
 | [],_ :: _,h=>by cases h
 | _ :: _,[],h=>by cases h
 | n :: ns,u :: us,h=>by
   obtain ⟨a,b⟩:=CI f v ns us (by simpa using h);rw [List.zip_cons_cons];unfold jS NK vT;split
   · exact ⟨by rw [List.zip_cons_cons],by simpa using h⟩
   · exact ⟨by rw [List.zip_cons_cons,a],by simpa using b⟩
theorem HU {Z:Hp} {f:Str} {y:PV} {u:V} (r:RP E Z y u):∀ {ns:List Str} {xs:List PV} {vs:List V},RPs E Z xs vs→RPs E Z (vT f y ns xs) (vT f u ns vs)
 | [],_,_,_=>⟨u,[],rfl,r,rfl⟩
 | _ :: _,[],_,h=>by cases h; exact rfl
 | n :: ns,x :: xs,_,⟨v,t,e,r1,r2⟩=>by
   subst e;unfold vT;split
   · exact ⟨u,t,rfl,r,r2⟩
   · exact ⟨v,_,rfl,r1,HU r r2⟩
theorem aDO {o:Expr} {f:Str} {pos':Pos} {o' e':CE} (P:Pl X E T k) (ho:JE X E o (wpE T o')) (he:JE X E e (wpE T e')) (hs:swapsWith e (some (.Attribute o f pos')) pos.line X.env=pure false):JS X E (.Assign [.Attribute o f pos'] e pos) (wpS T (.fld o' f e')):=fun F =>
 (aEJ (ho F) (he F) hs).imp <|by
   rintro D σ H ⟨σ',Z,G,D',rs,S,h,kd⟩;rw [wpS] at h;refine ⟨σ',Z,G,_,rs,S,h,fun v v' Z1 G1 H1 s1 S1 r1 q1=>⟨σ',Z1,G1,_,rs.mono s1,S1,q1,fun x x' Z2 G2 H2 s2 S2 r2 zz=>?_⟩⟩;obtain ⟨p,c,ns,xs,e,hG,hf,hl,q2⟩:=zz;subst e;have e:x'= .ref p:=r2;subst e;obtain ⟨_,o',hp,dx,vs,e',l,t⟩:=S2.g _ _ hG;subst e';obtain ⟨h1,h2⟩:=P.fld c f hf;obtain ⟨e1,e2⟩:=CI f v' ns vs l;refine ⟨p,_,dx,_,rfl,hp,h1,h2,by rw [List.length_zip,←l,Nat.min_self]; exact hl,kd.nx _ _ _ _ _ (s1.trans s2) (S2.set (go:=.ins c (NK f ns) (vT f v ns xs)) hG ⟨dx,vT f v' ns vs,by rw [e1],e2,HU (r1.mono s2) t⟩) ((rs.mono s1).mono s2) q2⟩
end
section
variable {X:Cx} {E:Ev} {T:Tb} {k:Nat} {pos:Pos} {a b c e:Expr}
theorem aDD {Z:Hp} {js:List (Option Nat)} {σ':PSt} {σ:L2.St} (rs:RSt E Z σ' σ):RSt E Z (yD js σ') (YB js σ):=by
 induction js with
 | nil=>exact .nil
 | cons o r ih =>
   refine .cons ?_ ih;cases o with
   | none=>exact trivial
   | some j =>
     show RSl E Z ((σ'[j]?).getD none) ((σ[j]?).getD none);cases e:σ'[j]? with
     | none=>exact trivial
     | some u =>
       cases u with
       | none=>exact trivial
       | some x =>
         obtain ⟨v,e',r⟩:=rs.get e;rw [e'];exact ⟨v,rfl,r⟩
def aC0 (E:Ev) (t:PTE):TE:=fun σ H Q=>∃ F,low E F t σ H Q
def YG (E:Ev) (t:PTT):TT:=fun σ H Q=>∃ F,zA E F t σ H Q
def aEI (E:Ev) (t:PTG):TG:=fun v σ H Q=>∃ F,aEL E F t v σ H Q
theorem JE.any {t:PTE} (h:JE X E e t):PE X e (aC0 E t):=by rintro pins s σ H Q I ⟨F,q⟩;exact h F pins s σ H Q I q
theorem JT.any {t:PTT} (h:JT X E e t):PT X e (YG E t):=by rintro pins s σ H Q I ⟨F,q⟩;exact h F pins s σ H Q I q
theorem JG.any {t:PTG} (h:JG X E e t):PG X e (aEI E t):=by rintro pins s σ H v u Q I r ⟨F,q⟩;exact h F pins s σ H v u Q I r q
theorem RG {F:Hp} {J:It} {Z1 H1:Hp} {G1:Gh} {chk:Gh→Prop} {xs:List PV} {g':PTG} {ts':PTT} {te':PTE} {σ':PSt} {σ:L2.St} {m:Bool} {Q':PK1} {Q:VK} {D:Addr}
   (S1:Sim E F H1 Z1 G1) (ok:vG E J Z1 chk xs) (rs:RSt E Z1 σ' σ) (hz:xs.length≤sizeLine) (n:H1 D=none) (q:gN chk g' ts' te' xs [] σ' G1 fun ys G2=>vO m G2 ys Q') (kq:Kq E F Z1 Q' Q) :
   QR J D (aEI E g') (YG E ts') (aC0 E te') Q σ (upd H1 D (.lst [])):=by
 have fD:F D=none:=S1.fn n;refine ⟨fun i m' σ H=>m'=xs.length - i∧i≤xs.length∧∃ σ' Z2 G2 acc vs,aN Z1 Z2∧Sim E (upd F D (.lst vs)) H Z2 G2∧RPs E Z2 acc vs∧RSt E Z2 σ' σ∧acc.length≤i∧gN chk g' ts' te' (xs.drop i) acc σ' G2 fun ys G2=>vO m G2 ys Q',
   ⟨xs.length,by simp,Nat.zero_le _,σ',Z1,G1,[],[],aN.refl _,S1.mine n,rfl,rs,Nat.le_refl _,q⟩, ?_⟩
 rintro i m' σ2 H2 ⟨rfl,hi,σ3,Z2,G2,acc,vs,s2,S2,ra,rs2,la,q2⟩;by_cases hlt:i < xs.length
 · have hd:xs.drop i=xs[i] :: xs.drop (i + 1):=List.drop_eq_getElem_cons hlt;rw [hd] at q2;unfold gN at q2;obtain ⟨c2,q2⟩:=q2;obtain ⟨go,yl⟩:=(ok _ i Z2 G2 H2 s2 S2 c2).1 xs[i] (by simp [hlt]);refine .inr ⟨go,fun σ4 H4=>∃ σ5 Z4 G4 acc4 vs4,aN Z1 Z4∧Sim E (upd F D (.lst vs4)) H4 Z4 G4∧RPs E Z4 acc4 vs4∧RSt E Z4 σ5 σ4∧acc4.length≤i + 1∧gN chk g' ts' te' (xs.drop (i + 1)) acc4 σ5 G4 fun ys G2=>vO m G2 ys Q',
     by rintro σ4 H4 ⟨σ5,Z4,G4,acc4,vs4,s4,S4,ra4,rs4,l4,q4⟩;exact ⟨xs.length - (i + 1),by omega,rfl,hlt,σ5,Z4,G4,acc4,vs4,s4,S4,ra4,rs4,l4,q4⟩,fun v H3 y=>?_⟩
   obtain ⟨Z3,s3,S3,r3⟩:=yl v H3 y;refine ⟨_,xs[i],σ3,Z3,G2,_,r3,rs2.mono s3,S3,q2,fun σ6 σ7 Z5 G5 H5 s5 S5 rs5 q5=>⟨_,σ6,Z5,G5,_,rs5,S5,q5,fun ok' Z6 G6 H6 s6 S6 q6=>?_⟩⟩;have s26:=(s3.trans s5).trans s6;dsimp only;cases ok' with
   | true =>
     rw [if_pos rfl] at q6 ⊢;refine ⟨_,σ6,Z6,G6,_,rs5.mono s6,S6,q6,fun y' u Z7 G7 H7 s7 S7 r7 q7=>?_⟩;refine ⟨vs,(S7.f D _ aJ).1, ?_, ?_⟩
     · have:=ra.length; omega
     · have s27:=s26.trans s7;exact ⟨σ6,Z7,G7,acc ++ [y'],vs ++ [u],s2.trans s27,S7.turn (S1.f0n n),(ra.mono s27).append ⟨u,[],rfl,r7,rfl⟩,(rs5.mono s6).mono s7,by rw [List.length_append]; exact Nat.succ_le_succ la,q7⟩
   | false =>
     rw [if_neg Bool.false_ne_true] at q6 ⊢;exact ⟨σ6,Z6,G6,acc,vs,s2.trans s26,S6,ra.mono s26,rs5.mono s6,Nat.le_succ_of_le la,q6⟩
 · have e:i=xs.length:=by omega
   rw [e,List.drop_length] at q2;unfold gN at q2;obtain ⟨c2,q2⟩:=q2;refine .inl ⟨(ok _ i Z2 G2 H2 s2 S2 c2).2 e, ?_⟩;unfold vO at q2;cases m with
   | true =>
     rw [if_pos rfl] at q2;exact kq (.ref D) _ Z2 _ _ s2 (S2.mineG fD (S1.f0n n) (go:=.lst acc) ⟨vs,rfl,ra⟩) rfl (q2 D (S2.f D _ aJ).2.2)
   | false =>
     rw [if_neg Bool.false_ne_true] at q2;have zn:=(S2.f D _ aJ).2.1;exact kq (.lst acc) _ (upd Z2 D (.lst vs)) _ _ (s2.trans (bB zn _)) (S2.mineZ fD (S1.f0n n)) (gQ zn ra) q2
theorem DW {F:Hp} {m:Bool} {tg' it' ts' el':CE} {js:List (Option Nat)} {σ:L2.St} {H:Hp} {Q:VK} (h:low E F (wpE T (.cmpr m tg' it' ts' el' js)) σ H Q):US (aFl E F (wpI T it')) (aEI E (wpG T tg')) (YG E (wpT T ts')) (aC0 E (wpE T el')) js σ H Q:=by
 obtain ⟨σ',Z,G,Q',rs,S,h,kq⟩:=h;rw [wpE] at h;refine ⟨σ',Z,G,_,rs,S,h,fun J chk xs Z1 G1 H1 s1 S1 ok q D n=>?_⟩;exact RG S1 ok (aDD (rs.mono s1)) q.1 n q.2 (kq.mono s1)
def ML (X:Cx) (E:Ev) (ifs:List Expr) (t:PTT):Prop:=PTs X ifs (YG E t)
theorem aJu:ML X E [] (wpT T .nil):=by
 rintro pins s σ H Q I ⟨F,σ',Z,G,Q',rs,S,h,kt⟩;rw [wpT] at h;exact aAx pins s σ H Q I (kt _ _ _ _ (aN.refl Z) S h)
theorem aJn {t:PTT} (h:JT X E c t):ML X E [c] t:=aAG h.any
section
variable {N:List Str} {scope:Scope} {cl:List (Str×Addr)} {js:List (Option Nat)} {tg iter elt:Expr} {ifs:List Expr} {m:Bool} {tg' it' ts' el':CE}
theorem aA9 (S:jD X N scope cl js) (P:Pl X E T k) (h40:40≤k) (hi:JI X E tg iter (wpI T it')) (hg:∀ C s₀ H₀ ex,JG (cxC X N scope cl C s₀ H₀ ex) E tg (wpG T tg')) (ht:∀ C s₀ H₀ ex,ML (cxC X N scope cl C s₀ H₀ ex) E ifs (wpT T ts'))
   (he:∀ C s₀ H₀ ex,JE (cxC X N scope cl C s₀ H₀ ex) E elt (wpE T el')) (hs:∀ x,foldedSetIterable iter X.env x=pure x):JE X E (.ListComp elt [⟨tg,iter,ifs,0⟩] scope pos) (wpE T (.cmpr m tg' it' ts' el' js)):=fun F =>
 (aAe S (P.calm h40) (hi F) (fun C s₀ H₀ ex=>(hg C s₀ H₀ ex).any) ht (fun C s₀ H₀ ex=>(he C s₀ H₀ ex).any) hs).imp fun σ H Q h=>DW h
theorem aA3 {i:Nat} {y:Str} {py spos:Pos} (S:jD X N scope cl js) (P:Pl X E T k) (h40:40≤k) (hN:X.N.Nodup) (hi':X.N[i]? =some y) (hy:X.env.scope.names.lookup y=some .local) (hi:JI X E tg iter (wpI T it')) (hg:∀ C s₀ H₀ ex,JG (cxC X N scope cl C s₀ H₀ ex) E tg (wpG T tg'))
   (ht:∀ C s₀ H₀ ex,ML (cxC X N scope cl C s₀ H₀ ex) E ifs (wpT T ts')) (he:∀ C s₀ H₀ ex,JE (cxC X N scope cl C s₀ H₀ ex) E elt (wpE T el'))
   (hsw:swapsWith (.ListComp elt [⟨tg,iter,ifs,0⟩] scope pos) (some (.Name y py)) spos.line X.env=pure true) (hs:∀ x,foldedSetIterable iter X.env x=pure x) :
   JS X E (.Assign [.Name y py] (.ListComp elt [⟨tg,iter,ifs,0⟩] scope pos) spos) (wpS T (.asg (.gn i) (.cmpr m tg' it' ts' el' js))):=fun F =>
 (aAF S (P.calm h40) hN hi' hy (hi F) (fun C s₀ H₀ ex=>(hg C s₀ H₀ ex).any) ht (fun C s₀ H₀ ex=>(he C s₀ H₀ ex).any) hsw hs).imp <|by
   rintro D σ H ⟨σ',Z,G,D',rs,S,h,kd⟩;rw [wpS] at h;refine DW (m:=m) ⟨σ',Z,G,_,rs,S,h,fun x v Z1 G1 H1 s1 S1 r1 q1=>?_⟩;unfold wpG at q1;exact kd.nx _ _ _ _ _ s1 S1 ((rs.mono s1).set r1 i) q1
end
def FA (T:Tb) (c:String) (x xi:Str):Prop:= ∀ xs G Q,T.S x xs G Q→∀ p,G p=none→T.S xi (.ref p :: xs) (gup G p (.ins c [] [])) fun r G1=>r= .non∧∃ ns ys,G1 p=some (.ins c ns ys)∧Q (.ob c ns ys) (MW G1 p)
theorem WU {F:Hp} {c:String} {x xi:Str} {Z1 H1:Hp} {G1:Gh} {xs:List PV} {vs:List V} {Q':PK1} {Q:VK} {p dx:Addr} {us:List V} (hu:us= .ref p :: vs) (M:FA T c x xi) (S1:Sim E F H1 Z1 G1) (r:RPs E Z1 xs vs) (q:T.S x xs G1 Q') (kq:Kq E F Z1 Q' Q) (n:H1 p=none) (nd:H1 dx=none) (ne:dx≠p) :
   jC E (T.S xi) us (upd (upd H1 dx (.own p)) p (.ins (E.cls c) dx [])) (fun v H2=>v= .non∧Q (.ref p) H2) E0:=by
 subst hu;have S2:Sim E F (upd H1 dx (.own p)) Z1 G1:=S1.other nd;have n2:upd H1 dx (.own p) p=none:=by rw [aC (Ne.symm ne)]; exact n
 have S3:Sim E F (upd (upd H1 dx (.own p)) p (.ins (E.cls c) dx [])) Z1 (gup G1 p (.ins c [] [])):=S2.new n2 ⟨dx,[],rfl,rfl,rfl⟩;refine ⟨.ref p :: xs,Z1,_,F,_,⟨.ref p,vs,rfl,rfl,r⟩,S3,M xs G1 Q' q p (S1.gn n), ?_⟩;rintro z v Z4 G4 H4 s4 S4 r4 ⟨e,ns,ys,hG,q4⟩;subst e;obtain ⟨zn,o',hp,dx',vs',e',l,t⟩:=S4.g _ _ hG;subst e';exact ⟨r4,kq (.ob c ns ys) _ (upd Z4 p _) _ _ (s4.trans (bB zn _)) (S4.frz hG hp) ⟨p,dx',vs',rfl,aJ,l,t.mono (bB zn _)⟩ q4⟩
theorem UN {c:String} {y x xi:Str} {p:Pos} {e:Expr} {es:List Expr} {es':CE} {f:Addr} {fd:FuncData} {ps:List Str} (M:Mk X.K (E.cls c) f) (K:Co X E (T.S xi) k f fd ps) (hr:bE (k + 1) X.A) (hg:Gl X x) (hm:X.mg x=some (.ref (E.cls c)))
   (hb:aG X.K fd ps []) (ms:FA T c y xi) (hd:(x == ("__debug__":Str))=false) (ha:JA X E (e :: es) (wpL T es')) (he:starEach (e :: es) X.env=(false,eval e X.env) :: starEach es X.env) (hpl:(backTo pos (starEach es X.env)).any (·.1)=false) :
   JE X E (.Call (.Name x p) (e :: es) [] pos) (wpE T (.cal y es')):=fun F=>by
 obtain ⟨CX,sp,EX,K,hp,hl⟩:=K;exact (aAw M K hr hg hm hb .nil hp (ha F) hd he hpl).imp <|by
   rintro σ H Q ⟨σ',Z,G,Q',rs,S,h,kq⟩;rw [wpE] at h;exact ⟨σ',Z,G,_,rs,S,h,fun xs vs Z1 G1 H1 l1 s1 S1 r1 q1 p dx n nd ne=>hl _ _ _ (WU (by rw [List.append_nil]) ms S1 r1 q1 (kq.mono s1) n nd ne)⟩
def JK (X:Cx) (E:Ev) (kws:List Keyword) (t:PTA):Prop:= ∀ F,PK X kws (BP E F kws.length t)
theorem PK.imp {kws:List Keyword} {t t':TA} (h:PK X kws t) (g:∀ σ H Q,t' σ H Q→t σ H Q):PK X kws t':=fun pos pins s σ H Q I q=>h pos pins s σ H Q I (g _ _ _ q)
theorem OU:JK X E [] (wpL T .nil):=fun F=>PK.imp aEZ <|by rintro σ H Q ⟨σ',Z,G,Q',rs,S,h,kq⟩;rw [wpL] at h; exact kq [] [] Z G H rfl (aN.refl Z) S rfl h
theorem ZM {n:Option Str} {v:Expr} {p:Pos} {kws:List Keyword} {a' b':CE} (ha:JE X E v (wpE T a')) (hr:JK X E kws (wpL T b')):JK X E (⟨n,v,p⟩ :: kws) (wpL T (.cons a' b')):=fun F =>
 PK.imp (ZS (ha F) (hr F)) <|by
   rintro σ H Q ⟨σ',Z,G,Q',rs,S,h,kq⟩;rw [wpL] at h;exact ⟨σ',Z,G,_,rs,S,h,fun x v Z1 G1 H1 s1 S1 r1 q1=>⟨σ',Z1,G1,_,rs.mono s1,S1,q1,fun xs vs Z2 G2 H2 l2 s2 S2 r2 q2=>kq (x :: xs) (v :: vs) _ _ _ (by rw [List.length_cons,l2]; rfl) (s1.trans s2) S2 ⟨v,vs,rfl,r1.mono s2,r2⟩ q2⟩⟩
noncomputable def Ar.valV (vs:List V):Ar→V
 | .arg i=>vs.getD i .non
 | .non=>.non
 | .bl b=>.bl b
 | .int i=>.int i
 | .str x=>.str x
theorem xZ {Z:Hp} {xs:List PV} {vs:List V} (r:RPs E Z xs vs):∀ ar:List Ar,RPs E Z (ar.map (Ar.val xs)) (ar.map (Ar.valV vs))
 | []=>rfl
 | a :: l=>by
   refine ⟨_,_,rfl, ?_,xZ r l⟩;cases a with
   | arg i =>
     show RP E Z (xs.getD i .non) (vs.getD i .non);rw [List.getD_eq_getElem?_getD,List.getD_eq_getElem?_getD];cases e:xs[i]? with
     | none =>
       have:vs[i]? =none:=List.getElem?_eq_none_iff.mpr (by rw [←r.length]; exact List.getElem?_eq_none_iff.mp e);rw [this]; exact pM
     | some x =>
       obtain ⟨v,e',rr⟩:=r.get e;rw [e']; exact rr
   | non=>exact pM
   | bl b=>exact bZ
   | int i=>exact bK
   | str x=>exact pT
structure lW (K:W.Frag) (fd:FuncData) (ps:List Str) (n:Nat) (ks:List Str) (ar:List Ar):Prop where
 len:ar.length=ps.length
 to:∀ (s:Shared) (us ws:List Value),K.In s.heap→us.length=n→ws.length=ks.length→∃ bs,BindsTo s fd ⟨us,ks.zip ws⟩ (ps.zip bs)∧∀ vs zs,aM vs us→aM zs ws→aM (ar.map (Ar.valV (vs ++ zs))) bs
theorem zH {pins:List (Addr×Obj)} {σ:L2.St} {H:Hp} {s:Shared} {Q:VK} {us ws:List Value} {vs zs:List V} {f:Addr} {fd:FuncData} {ps ks:List Str} {n:Nat} {ar:List Ar} {sp:Sp} {A':Around} {CX:CXT} {EX:XK}
   (K:bP X.prog X.w X.K X.mg X.base CX k f fd ps sp) (hx:jN CX X EX) (hr:bE k A') (e0:pH X.prog X.w X.K X.mg X.base A' X.stack s H) (hb:lW X.K fd ps n ks ar) (I:Inv X pins σ H s) (r:aM vs us) (rz:aM zs ws) (l1:vs.length=n) (l2:zs.length=ks.length) (h:sp (ar.map (Ar.valV (vs ++ zs))) H Q EX) :
   wpAny (model X.prog X.w) A' (call (.ref f) us (ks.zip ws)) (EP X pins σ Q) X.xe s:=by
 obtain ⟨bs,hbs,hv⟩:=hb.to s us ws I.kIn (by rw [←r.length]; exact l1) (by rw [←rz.length]; exact l2);refine wpAny_call (codeAny_mono (K.run A' X.stack s H ⟨us,ks.zip ws⟩ bs _ Q EX hr e0 hbs (hv vs zs r rz) h) fun r s' hq=>?_);cases r with
 | error e=>exact hx pins σ H s e s' I hq
 | ok fl =>
   cases fl with
   | ret u=>exact I.after hq
   | next=>exact False.elim hq
   | brk=>exact False.elim hq
   | cont=>exact False.elim hq
theorem SJ {y f:Str} {p:Pos} {e:Expr} {es:List Expr} {kws:List Keyword} {es' ks':CE} {ad:Addr} {fd:FuncData} {ps ks:List Str} {n:Nat} {ar:List Ar} (K:Co X E (T.S y) k ad fd ps) (hr:bE k X.A) (hg:Gl X f) (hm:X.mg f=some (.ref ad))
   (hk:W.keepIn X.K (.ref ad)=true) (hb:lW X.K fd ps n ks ar) (hd:(f == ("__debug__":Str))=false) (ha:JA X E (e :: es) (wpL T es')) (hkw:JK X E kws (wpL T ks')) (hn:(e :: es).length=n) (hkn:kws.length=ks.length)
   (hall:(backToKw pos (keywordEach kws X.env)).all (·.1.isSome)=true) (hks:(backToKw pos (keywordEach kws X.env)).filterMap (·.1)=ks) (he:starEach (e :: es) X.env=(false,eval e X.env) :: starEach es X.env)
   (hpl:((backTo pos (starEach (e :: es) X.env)).any (·.1) || (backToKw pos (keywordEach kws X.env)).any (·.1.isNone))=false) :
   JE X E (.Call (.Name f p) (e :: es) kws pos) (wpE T (.cak y es' ks' ar)):=fun F=>by
 obtain ⟨CX,sp,EX,K,hp,hl⟩:=K;have main:PE X (.Call (.Name f p) (e :: es) kws pos) (fun σ H Q=>BP E F (e :: es).length (wpL T es') σ H fun vs H1=>vs.length=n∧BP E F kws.length (wpL T ks') σ H1 fun zs H2=>zs.length=ks.length∧sp (ar.map (Ar.valV (vs ++ zs))) H2 Q EX):=by
   intro pins s σ H Q I h;refine wpAny_Call_Name_kw (fL I hg hm ?_ hd);refine W.callWith_KW (h₀:=X.base) I.ok.mod.kin hk hall (thn (ha F pos pins s σ H _ I h) fun us s1 zz=>?_) hpl he;obtain ⟨vs,H1,I1,r,l1,q⟩:=zz;refine thn (hkw F pos pins s1 σ H1 _ I1 q) fun ws s2 ⟨zs,H2,I2,rz,l2,q2⟩=>⟨I2.kIn, ?_⟩;rw [hks];exact zH K hp hr I2.env0 hb I2 r rz l1 l2 q2
 refine main.imp fun σ H Q zz=>?_;obtain ⟨σ',Z,G,Q',rs,S,h,kq⟩:=zz;rw [wpE] at h;exact ⟨σ',Z,G,_,rs,S,h,fun xs vs Z1 G1 H1 l1 s1 S1 r1 q1=>⟨by rw [←r1.length,l1]; exact hn,σ',Z1,G1,_,rs.mono s1,S1,q1,fun zs us Z2 G2 H2 l2 s2 S2 r2 q2 =>
   ⟨by rw [←r2.length,l2]; exact hkn,hl _ _ _ ⟨_,Z2,G2,F,Q',xZ ((r1.mono s2).append r2) ar,S2,q2,kq.mono (s1.trans s2)⟩⟩⟩⟩
theorem ID {y f:Str} {p:Pos} {kws:List Keyword} {ks':CE} {ad:Addr} {fd:FuncData} {ps ks:List Str} {ar:List Ar} (K:Co X E (T.S y) k ad fd ps) (hr:bE k X.A) (hg:Gl X f) (hm:X.mg f=some (.ref ad))
   (hk:W.keepIn X.K (.ref ad)=true) (hb:lW X.K fd ps 0 ks ar) (hd:(f == ("__debug__":Str))=false) (hkw:JK X E kws (wpL T ks')) (hkn:kws.length=ks.length)
   (hall:(backToKw pos (keywordEach kws X.env)).all (·.1.isSome)=true) (hks:(backToKw pos (keywordEach kws X.env)).filterMap (·.1)=ks)
   (hpl:((backTo pos (starEach [] X.env)).any (·.1) || (backToKw pos (keywordEach kws X.env)).any (·.1.isNone))=false) :
   JE X E (.Call (.Name f p) [] kws pos) (wpE T (.cak y .nil ks' ar)):=fun F=>by
 obtain ⟨CX,sp,EX,K,hp,hl⟩:=K;have main:PE X (.Call (.Name f p) [] kws pos) (fun σ H Q=>BP E F kws.length (wpL T ks') σ H fun zs H2=>zs.length=ks.length∧sp (ar.map (Ar.valV ([] ++ zs))) H2 Q EX):=by
   intro pins s σ H Q I h;refine wpAny_Call_Name_kw (fL I hg hm ?_ hd);refine W.callWith_KW0 (h₀:=X.base) (first:=[]) I.ok.mod.kin hk hall ?_ hpl;refine thn (hkw F pos pins s σ H _ I h) fun ws s2 ⟨zs,H2,I2,rz,l2,q2⟩=>⟨I2.kIn, ?_⟩;rw [hks];exact zH (us:=[]) (vs:=[]) K hp hr I2.env0 hb I2 .nil rz rfl l2 q2
 refine main.imp fun σ H Q zz=>?_;obtain ⟨σ',Z,G,Q',rs,S,h,kq⟩:=zz;rw [wpE,wpL] at h;exact ⟨σ',Z,G,_,rs,S,h,fun zs us Z2 G2 H2 l2 s2 S2 r2 q2=>⟨by rw [←r2.length,l2]; exact hkn,hl _ _ _ ⟨_,Z2,G2,F,Q',xZ r2 ar,S2,q2,kq.mono s2⟩⟩⟩
theorem HY {c:String} {w x xi:Str} {p:Pos} {kws:List Keyword} {ks':CE} {f:Addr} {fd:FuncData} {ps ks:List Str} {ar:List Ar} (M:Mk X.K (E.cls c) f) (K:Co X E (T.S xi) k f fd ps) (hr:bE (k + 1) X.A) (hg:Gl X x) (hm:X.mg x=some (.ref (E.cls c)))
   (hb:lW X.K fd ps 1 ks (.arg 0 :: ar.map fun a=>match a with | .arg i=>.arg (i + 1) | a=>a)) (ms:FA T c w xi) (hd:(x == ("__debug__":Str))=false) (hkw:JK X E kws (wpL T ks')) (hkn:kws.length=ks.length)
   (hall:(backToKw pos (keywordEach kws X.env)).all (·.1.isSome)=true) (hks:(backToKw pos (keywordEach kws X.env)).filterMap (·.1)=ks)
   (hpl:((backTo pos (starEach [] X.env)).any (·.1) || (backToKw pos (keywordEach kws X.env)).any (·.1.isNone))=false) :
   JE X E (.Call (.Name x p) [] kws pos) (wpE T (.cak w .nil ks' ar)):=fun F=>by
 obtain ⟨CX,sp,EX,K,hp,hl⟩:=K;have main:PE X (.Call (.Name x p) [] kws pos) (fun σ H Q=>BP E F kws.length (wpL T ks') σ H fun zs H2=>zs.length=ks.length∧∀ y dx,H2 y=none→H2 dx=none→dx≠y→
     sp (.ref y :: ar.map (Ar.valV zs)) (upd (upd H2 dx (.own y)) y (.ins (E.cls c) dx [])) (fun v H3=>v= .non∧Q (.ref y) H3) EX):=by
   intro pins s σ H Q I h;refine wpAny_Call_Name_kw (fL I hg hm ?_ hd);refine W.callWith_KW0 (h₀:=X.base) (first:=[]) I.ok.mod.kin M.kp hall ?_ hpl;refine thn (hkw F pos pins s σ H _ I h) fun ws s2 ⟨zs,H2,I2,rz,l2,q2⟩=>⟨I2.kIn, ?_⟩;rw [hks];have hq:=q2 (s2.heap.objs.size + 1) s2.heap.objs.size (I2.hok.fresh (Nat.le_succ _)) (I2.hok.fresh (Nat.le_refl _)) (Nat.ne_of_lt (Nat.lt_succ_self _));have I3:=Inv.made (C:=E.cls c) I2;have e:V.ref (s2.heap.objs.size + 1) :: ar.map (Ar.valV zs)=(Ar.arg 0 :: ar.map fun a=>match a with | .arg i=>.arg (i + 1) | a=>a).map (Ar.valV ([V.ref (s2.heap.objs.size + 1)] ++ zs)):=by
     rw [List.map_cons,List.map_map];refine congr (congrArg List.cons rfl) (List.map_congr_left fun a _=>?_);cases a <;> rfl
   rw [e] at hq;obtain ⟨bs,hbs,hv⟩:=hb.to { s2 with heap:=(s2.heap.push _).push _ } [Value.ref (s2.heap.objs.size + 1)] ws I3.kIn rfl (by rw [←rz.length]; exact l2);refine wpAny_call (BQ (f:=f) (vs:=[]) (kw:=ks.zip ws) I2.kIn M.makes M.init (beq_iff_eq.mp M.fn) (codeAny_mono (K.run _ X.stack _ _ ⟨[Value.ref (s2.heap.objs.size + 1)],ks.zip ws⟩ bs _ _ EX (hr.make (E.cls c) [] (ks.zip ws))
     (I3.env0.make (E.cls c) [] (ks.zip ws)) hbs (hv [V.ref (s2.heap.objs.size + 1)] zs (.cons rfl .nil) rz) hq) fun r s' hq'=>?_))
   cases r with
   | error e=>exact hp pins σ _ _ e s' I3 hq'
   | ok fl =>
     cases fl with
     | ret u =>
       obtain ⟨v,H',I4,rv,ev,q3⟩:=I3.after hq';subst ev;exact ⟨rv,⟨V.ref (s2.heap.objs.size + 1),H',I4,rfl,q3⟩⟩
     | next=>exact False.elim hq'
     | brk=>exact False.elim hq'
     | cont=>exact False.elim hq'
 refine main.imp fun σ H Q zz=>?_;obtain ⟨σ',Z,G,Q',rs,S,h,kq⟩:=zz;rw [wpE,wpL] at h;exact ⟨σ',Z,G,_,rs,S,h,fun zs us Z2 G2 H2 l2 s2 S2 r2 q2=>⟨by rw [←r2.length,l2]; exact hkn,fun y dx n nd ne=>hl _ _ _ (WU rfl ms S2 (xZ r2 ar) q2 (kq.mono s2) n nd ne)⟩⟩
theorem IG {o:Expr} {m:Str} {apos pos:Pos} {es:List Expr} {env:Env} (hb:attributeBase o m env (eval o env)=eval o env)
   (hf:methodCallForm (es.length + ([]:List Keyword).length) (backTo pos (starEach es env)) (backToKw pos (keywordEach [] env))=true) (hl:(apos.endLine == pos.line)=true) :
   eval (.Call (.Attribute o m apos) es [] pos) env=(do
     let ov ←eval o env
     standAt apos.atName
     let (f,first) ←holding [ov] (getMethod ov m (do
       let b ←importBound o env
       pure (b.getD true)))
     callWith pos f first (backTo pos (starEach es env)) (backToKw pos (keywordEach [] env))):=by
 conv=>lhs; unfold eval
 rw [hb];unfold methodCall calleeOf methodCallPos;rw [hf];simp only [hl,Bool.not_true,Bool.false_or,if_true];rfl
theorem uR {m:Str}:∀ {ns:List Str} {vs:List V},m∉ ns→(ns.zip vs).lookup m=none
 | [],_,_=>rfl
 | _ :: _,[],_=>rfl
 | n :: r,v :: t,h=>by
   rw [List.zip_cons_cons,List.lookup_cons];have e:(m == n)=false:=beq_eq_false_iff_ne.mpr fun e=>h (e▸wDq ..);rw [e];exact uR fun z=>h (wCq _ z)
noncomputable def upA:Ar→Ar
 | .arg i=>.arg (i + 1)
 | a=>a
structure aAv (X:Cx) (E:Ev) (T:Tb) (k:Nat) (m:Str) (n:Nat) (y:String×Str×List Ar):Prop where
 ex:∃ f fd ps,Cls X.K (E.cls y.1)∧iN X.K (E.cls y.1) m f∧Co X E (T.S y.2.1) k f fd ps∧lW X.K fd ps (n + 1) [] (.arg 0 :: y.2.2.map upA)
theorem XB {F Z H:Hp} {G:Gh} {x:PV} {v:V} {c:String} {ns:List Str} {xs:List PV} (S:Sim E F H Z G) (r:RP E Z x v) (h:x= .ob c ns xs∨∃ p,x= .ref p∧G p=some (.ins c ns xs)):∃ a dx vs,v= .ref a∧H a=some (.ins (E.cls c) dx (ns.zip vs)):=by
 rcases h with rfl | ⟨p,rfl,hG⟩
 · obtain ⟨a,dx,vs,e,hz,_,_⟩:=r;exact ⟨a,dx,vs,e,S.z _ _ hz⟩
 · obtain ⟨_,o',hp,dx,vs,e',_,_⟩:=S.g _ _ hG;subst e';exact ⟨p,dx,vs,r,hp⟩
theorem XL {m:Str} {ls:List (String×Str×List Ar)} {o:Expr} {es:List Expr} {o' es':CE} {apos:Pos} (F:Hp) (hr:bE k X.A) (ho:JE X E o (wpE T o')) (ha:JA X E es (wpL T es')) (hM:∀ y∈ls,aAv X E T k m es.length y)
   (hb:attributeBase o m X.env (eval o X.env)=eval o X.env) (hl:(apos.endLine == pos.line)=true) (hf:methodCallForm (es.length + ([]:List Keyword).length) (backTo pos (starEach es X.env)) (backToKw pos (keywordEach [] X.env))=true)
   (hc:∀ (f:Value) (a:Addr) (s:Shared) (Q:Value→Shared→Prop),X.K.In s.heap→W.keepIn X.K f=true→wpAny (model X.prog X.w) X.A (spliced (backTo pos (starEach es X.env))) (fun vs s₁=>X.K.In s₁.heap∧wpAny (model X.prog X.w) X.A (call f ([.ref a] ++ vs)) Q X.xe s₁) X.xe s→
     wpAny (model X.prog X.w) X.A (callWith pos f [.ref a] (backTo pos (starEach es X.env)) []) Q X.xe s) :
   PE X (.Call (.Attribute o m apos) es [] pos) (low E F (wpE T (.met m ls o' es'))):=by
 rintro pins s σ H Q I ⟨σ',Z,G,Q',rs,S,h,kq⟩;rw [wpE] at h;refine W.methodCall_KW (thn (ho F pins s σ H (fun v H1=>∃ x Z1 G1,aN Z Z1∧Sim E F H1 Z1 G1∧RP E Z1 x v∧∃ c ky ar ns xs,(c,ky,ar)∈ls∧(x= .ob c ns xs∨∃ p,x= .ref p∧G1 p=some (.ins c ns xs))∧m∉ ns∧wpL T es' σ' G1 fun ys G2=>T.S ky (x :: ar.map (Ar.val ys)) G2 Q') I ⟨σ',Z,G,_,rs,S,h,fun x v Z1 G1 H1 s1 S1 r1 q=>⟨x,Z1,G1,s1,S1,r1,q⟩⟩) fun u s1 zz=>?_) (IG hb hf hl);obtain ⟨v,H1,I1,ru,x,Z1,G1,sz,S1,rx,c,ky,ar,ns,xs,hm,hx,hn,q⟩:=zz;obtain ⟨a,dx,vs0,ev,ea⟩:=XB S1 rx hx;subst ev;obtain rfl:u=Value.ref a:=ru;obtain ⟨f,fd,ps,cl,me,⟨CX,sp,EX,K,hp,hL⟩,hB⟩:=(hM _ hm).ex;refine uU I1 ea cl me (uR hn) ?_;refine hc _ _ _ _ I1.kIn me.kp ?_;refine thn (ha F pos pins s1 σ H1 (fun vs H2=>vs.length=es.length∧jC E (T.S ky) (.ref a :: ar.map (Ar.valV vs)) H2 Q E0) I1 ⟨σ',Z1,G1,_,rs.mono sz,S1,q,fun ys vs Z2 G2 H2 l2 s2 S2 r2 q2=>⟨by rw [←r2.length,l2],x :: ar.map (Ar.val ys),Z2,G2,F,Q',⟨_,_,rfl,rx.mono s2,xZ r2 ar⟩,S2,q2,kq.mono (sz.trans s2)⟩⟩) fun us s2 ⟨vs,H2,I2,r,l2,q2⟩=>⟨I2.kIn, ?_⟩;have e:V.ref a :: ar.map (Ar.valV vs)=(Ar.arg 0 :: ar.map upA).map (Ar.valV ((V.ref a :: vs) ++ [])):=by
   rw [List.append_nil,List.map_cons,List.map_map];refine congr (congrArg List.cons rfl) (List.map_congr_left fun z _=>?_);cases z <;> rfl
 refine zH (ks:=[]) (us:=Value.ref a :: us) (ws:=[]) (vs:=V.ref a :: vs) (zs:=[]) K hp hr I2.env0 hB I2 (.cons rfl r) .nil (by rw [List.length_cons,l2]) rfl (hL _ _ _ ?_);rw [←e]; exact q2
theorem aD1 {m:Str} {ls:List (String×Str×List Ar)} {o e:Expr} {es:List Expr} {o' es':CE} {apos:Pos} (hr:bE k X.A) (ho:JE X E o (wpE T o')) (ha:JA X E (e :: es) (wpL T es')) (hM:∀ y∈ls,aAv X E T k m (e :: es).length y)
   (hb:attributeBase o m X.env (eval o X.env)=eval o X.env) (hl:(apos.endLine == pos.line)=true) (hf:methodCallForm ((e :: es).length + ([]:List Keyword).length) (backTo pos (starEach (e :: es) X.env)) (backToKw pos (keywordEach [] X.env))=true)
   (hst:starEach (e :: es) X.env=(false,eval e X.env) :: starEach es X.env) (hpl:(backTo pos (starEach es X.env)).any (·.1)=false):JE X E (.Call (.Attribute o m apos) (e :: es) [] pos) (wpE T (.met m ls o' es')):=fun F =>
 XL F hr ho ha hM hb hl hf fun f a s Q hk kp h=>W.callWith_K (first:=[.ref a]) hk kp h hst hpl
theorem YM {m:Str} {ls:List (String×Str×List Ar)} {o:Expr} {o':CE} {apos:Pos} (hr:bE k X.A) (ho:JE X E o (wpE T o')) (hM:∀ y∈ls,aAv X E T k m 0 y)
   (hb:attributeBase o m X.env (eval o X.env)=eval o X.env) (hl:(apos.endLine == pos.line)=true):JE X E (.Call (.Attribute o m apos) [] [] pos) (wpE T (.met m ls o' .nil)):=fun F=>by
 rintro pins s σ H Q I ⟨σ',Z,G,Q',rs,S,h,kq⟩;rw [wpE,wpL] at h;refine W.methodCall_KW (thn (ho F pins s σ H (fun v H1=>∃ x Z1 G1,aN Z Z1∧Sim E F H1 Z1 G1∧RP E Z1 x v∧∃ c ky ar ns xs,(c,ky,ar)∈ls∧(x= .ob c ns xs∨∃ p,x= .ref p∧G1 p=some (.ins c ns xs))∧m∉ ns∧T.S ky (x :: ar.map (Ar.val [])) G1 Q') I ⟨σ',Z,G,_,rs,S,h,fun x v Z1 G1 H1 s1 S1 r1 q=>⟨x,Z1,G1,s1,S1,r1,q⟩⟩) fun u s1 zz=>?_) (IG hb rfl hl);obtain ⟨v,H1,I1,ru,x,Z1,G1,sz,S1,rx,c,ky,ar,ns,xs,hm,hx,hn,q⟩:=zz;obtain ⟨a,dx,vs0,ev,ea⟩:=XB S1 rx hx;subst ev;obtain rfl:u=Value.ref a:=ru;obtain ⟨f,fd,ps,cl,me,⟨CX,sp,EX,K,hp,hL⟩,hB⟩:=(hM _ hm).ex;refine uU I1 ea cl me (uR hn) ?_;have e:V.ref a :: ar.map (Ar.valV [])=(Ar.arg 0 :: ar.map upA).map (Ar.valV ([V.ref a] ++ [])):=by
   rw [List.append_nil,List.map_cons,List.map_map];refine congr (congrArg List.cons rfl) (List.map_congr_left fun z _=>?_);cases z <;> rfl
 refine W.callWith_K0 (first:=[.ref a]) I1.kIn me.kp (zH (ks:=[]) (us:=[Value.ref a]) (ws:=[]) (vs:=[V.ref a]) (zs:=[]) K hp hr I1.env0 hB I1 (.cons rfl .nil) .nil rfl rfl (hL _ _ _ ?_));rw [←e];exact ⟨x :: ar.map (Ar.val []),Z1,G1,F,Q',⟨_,_,rfl,rx,xZ (xs:=[]) (vs:=[]) rfl ar⟩,S1,q,kq.mono sz⟩
theorem aDE {o:Expr} {o':CE} {apos:Pos} (ho:JE X E o (wpE T o')) (hb:attributeBase o "bit_length" X.env (eval o X.env)=eval o X.env) (hl:(apos.endLine == pos.line)=true):JE X E (.Call (.Attribute o "bit_length" apos) [] [] pos) (wpE T (.bln o')):=fun F=>by
 refine (aEd PySem.F.plainAttrs_int PySem.F.slot_int_bit_length PySem.F.type_int_bit_length aAM (ho F) hb hl).imp fun σ H Q zz=>?_;obtain ⟨σ',Z,G,Q',rs,S,h,kq⟩:=zz;rw [wpE] at h;refine ⟨σ',Z,G,_,rs,S,h,fun x v Z1 G1 H1 s1 S1 r1 zz=>?_⟩;obtain ⟨i,ex,q⟩:=zz;subst ex;have e:v= .int i:=r1;subst e;exact ⟨by first | rfl | trivial | exact ⟨_,rfl⟩ | simp [tyV],i,rfl,rfl,kq.go s1 S1 bK q⟩
end
noncomputable def clos (cells:List (Str×Addr)):List (Str×NameKind)→List (Str×Addr)→List (Str×Addr)
 | [],acc=>acc
 | (n,k) :: r,acc=>clos cells r (if k= .free then (n,(cells.lookup n).getD 0) :: acc else acc)
theorem aA0 {scope:Scope} {env:Env} (h:∀ y∈scope.names,y.2= .free→∃ c,env.cells.lookup y.1=some c):closureFor scope env=pure (clos env.cells scope.names []):=by
 unfold closureFor;have main:∀ (l:List (Str×NameKind)) (acc:List (Str×Addr)),(∀ y∈l,y.2= .free→∃ c,env.cells.lookup y.1=some c)→
     (forIn l acc (fun x r=>if (x.2 == NameKind.free)=true then do let c ←cellOf env x.1; pure (ForInStep.yield ((x.1,c) :: r)) else pure (ForInStep.yield r)):Sem (List (Str×Addr)))=pure (clos env.cells l acc):=by
   intro l;induction l with
   | nil=>intro acc _; rfl
   | cons y r ih =>
     intro acc hy;obtain ⟨n,k⟩:=y;rw [List.forIn_cons];have ihr:=fun acc=>ih acc fun z hz=>hy z (wCq _ hz);by_cases hk:k= .free
     · subst hk;obtain ⟨c,hc⟩:=hy (n,.free) (wDq ..) rfl;have e:cellOf env n=pure c:=by unfold cellOf; rw [hc]
       simp only [beq_self_eq_true,if_true,e];unfold clos;rw [if_pos rfl,hc];exact ihr _
     · have e:((n,k).2 == NameKind.free)=false:=beq_eq_false_iff_ne.mpr hk;simp only [e];unfold clos;rw [if_neg hk];exact ihr _
 have:=main scope.names [] h;have e:(forIn scope.names ([]:List (Str×Addr)) (fun x r=>match x with
     | (name,kind)=>if (kind == NameKind.free)=true then do let c ←cellOf env name; pure (ForInStep.yield ((name,c) :: r)) else pure (ForInStep.yield r)):Sem (List (Str×Addr)))=pure (clos env.cells scope.names []):=by
   rw [←this]
 show ((forIn scope.names ([]:List (Str×Addr)) (fun x r=>match x with
     | (name,kind)=>if (kind == NameKind.free)=true then do let c ←cellOf env name; pure (ForInStep.yield ((name,c) :: r)) else pure (ForInStep.yield r)):Sem (List (Str×Addr))) >>= pure)=_
 rw [e];rfl
theorem IZ {cells:List (Str×Addr)}:∀ {l:List (Str×NameKind)} {acc:List (Str×Addr)},(∀ y∈l,y.2= .free→∃ c,cells.lookup y.1=some c)→vX cells acc→vX cells (clos cells l acc)
 | [],_,_,h=>h
 | (n,k) :: r,acc,hy,h=>by
   unfold clos;refine IZ (fun z hz=>hy z (wCq _ hz)) ?_;split
   · rename_i hk;obtain ⟨c,hc⟩:=hy (n,k) (wDq ..) hk;exact ⟨by rw [hc]; rfl,h⟩
   · exact h
theorem uL {cells:List (Str×Addr)}:∀ {l:List (Str×NameKind)} {acc:List (Str×Addr)} {n:Str},((∃ c,(n,c)∈acc)∨(n,NameKind.free)∈l)→∃ c,(n,c)∈clos cells l acc
 | [],_,_,h=>by
   rcases h with h | h
   · exact h
   · cases h
 | (m, k) :: r,acc,n,h=>by
   unfold clos;refine uL ?_;rcases h with ⟨c,h⟩ | h
   · refine .inl ?_;split
     · exact ⟨c,wCq _ h⟩
     · exact ⟨c,h⟩
   · rcases List.mem_cons.mp h with e | h
     · cases e;exact .inl ⟨_,by rw [if_pos rfl]; exact wDq ..⟩
     · exact .inr h
theorem yE {cells:List (Str×Addr)}:∀ {cl:List (Str×Addr)} {n:Str},vX cells cl→(∃ c,(n,c)∈cl)→∃ c,cl.lookup n=some c∧cells.lookup n=some c
 | [],_,_,⟨_,h⟩=>by cases h
 | (m,d) :: r,n,ok,⟨c,h⟩=>by
   rw [List.lookup_cons];cases hb:n == m with
   | true =>
     rw [beq_iff_eq.mp hb];exact ⟨d,rfl,ok.1⟩
   | false =>
     rcases List.mem_cons.mp h with e | h
     · cases e; rw [beq_self_eq_true] at hb; cases hb
     · exact yE ok.2 ⟨c,h⟩
theorem HR {cl cells:List (Str×Addr)} (hcl:vX cells cl):∀ {l:List (Str×NameKind)},(∀ n,(n,NameKind.free)∈l→∃ c,(n,c)∈cl)→mT cl cells l
 | [],_=>trivial
 | (n,k) :: r,h=>⟨fun e=>by subst e; exact yE hcl (h n (wDq ..)),HR hcl fun m hm=>h m (wCq _ hm)⟩
structure Cfg where
 N:List Str
 names:List (Str×NameKind)
 blk:Bool:=false
 fns:List Str:=[]
 mks:List Str:=[]
 shs:List (Str×Nat×List Str×List Ar):=[]
 mkk:List (Str×List Str×List Ar):=[]
 gls:List Str:=[]
 tys:List Str:=[]
 blt:List Str:=[]
 M:List Str:=[]
 rm:Bool:=false
 eqs:List (String×Str):=[]
 own:List Str:=[]
 ls:List Str:=[]
 nes:List (String×Str):=[]
 lns:List (String×Str):=[]
 ows:List (Str×List (String×Str)):=[]
 gds:List (Str×List (Str×Str)):=[]
 fvs:List (Str×Nat×List Ar):=[]
 mkp:List (Str×Nat×List Str×List Ar):=[]
 rp:Bool:=false
 exs:List (String×Str):=[]
 ky:List (Str×Str):=[]
 rz:Bool:=false
 xcl:List (Str×Str):=[]
 xis:List Str:=[]
 xat:List Str:=[]
 tr:Bool:=false
 tky:List (Str×Str):=[]
 cat:List String:=[]
 cln:List Str:=[]
 cm:Bool:=true
 hs:Bool:=false
 hfn:List Str:=[]
 mts:List (Str×Nat×List (String×Str×List Ar)):=[]
 tmts:List (Str×Nat×List (String×Str×List Ar)):=[]
 bmts:List (Str×Nat×List (String×Str×List Ar)):=[]
noncomputable def Cfg.key (C:Cfg) (x:Str):Str:=(C.ky.lookup x).getD x
noncomputable def Cfg.inT (C:Cfg):Cfg:={ C with ky:=C.tky,rz:=true,tr:=false,mts:=C.tmts }
noncomputable def Cfg.inH (C:Cfg):Cfg:={ C with fns:=C.hfn,mks:=[],shs:=[],mkk:=[],mkp:=[],eqs:=[],nes:=[],lns:=[],ows:=[],fvs:=[],exs:=[],ky:=[],rz:=false,xcl:=[],tr:=false,cm:=false,mts:=[],bmts:=[] }
noncomputable def slot:List Str→Str→Option Nat
 | [],_=>none
 | y :: r,x=>if y=x then some 0 else (slot r x).map (· + 1)
theorem dF:∀ {N:List Str} {x:Str} {i:Nat},slot N x=some i→N[i]? =some x
 | [],_,_,h=>by cases h
 | y :: r,x,i,h=>by
   unfold slot at h;split at h
   · rename_i e; cases h; rw [e]; rfl
   · cases e:slot r x with
     | none=>rw [e] at h; cases h
     | some j =>
       rw [e] at h;cases h;rw [List.getElem?_cons_succ];exact dF e
noncomputable def aDQ (C:Cfg) (x:Str):Bool:=match C.names.lookup x with
 | some .local=>true
 | some .cell=>true
 | some .free=>true
 | _=>false
noncomputable def TJ (C:Cfg) (x:Str):Bool:=match C.names.lookup x with
 | some .local=>true
 | some .cell=> !C.blk || C.own.contains x
 | _=>false
noncomputable def glB (C:Cfg) (x:Str):Bool:=C.names.lookup x == some .globalImplicit
noncomputable def kN (x:Str):Bool:= !(x == ("__debug__":Str)) && !(x == ("__classdict__":Str))
noncomputable def cR:Expr→Bool
 | .Starred .. =>true
 | _=>false
noncomputable def tJ:Expr→Bool
 | .Call (.Name _ _) [] [] _=>true
 | _=>false
noncomputable def pN:Expr→Bool
 | .Set .. =>true
 | _=>false
noncomputable def aAA:Expr→Bool
 | .Slice .. =>true
 | _=>false
noncomputable def sZ:Expr→Bool
 | .ListComp .. | .SetComp .. | .DictComp .. =>true
 | _=>false
noncomputable def KG:List (Str×Bn):=[("len",.len),("abs",.abs),("max",.max),("min",.min),("int",.int),("str",.str),("isinstance",.isi),("tuple",.tuple),("list",.list),("all",.all),("any",.any),("sum",.sum),("bool",.bool),("repr",.repr),("divmod",.divmod)]
noncomputable def kwN:List Keyword→Option (List Str)
 | []=>some []
 | ⟨some n,_,_⟩ :: r=>(kwN r).map (n :: ·)
 | ⟨none,_,_⟩ :: _=>none
noncomputable def iA (C:Cfg) (sc:Scope):List (Str×NameKind):=sc.names.map fun (n,k)=>if (k == .free && C.names.lookup n == some .cell) then (n,.cell) else (n,k)
noncomputable def lQ (C:Cfg):List (Str×NameKind)→List (Str×Option Nat)
 | []=>[]
 | (n,k) :: r=>match k with
   | .local=>(n,none) :: lQ C r
   | .cell=>(n,none) :: lQ C r
   | .free=>match slot C.N n with
     | some j=>if C.names.lookup n=some .cell then (n,some j) :: lQ C r else lQ C r
     | none=>lQ C r
   | _=>lQ C r
noncomputable def wY (C:Cfg) (sc:Scope):Bool:=C.cm && sc.kind == .function && sc.names.all (fun y=>(y.2 != .cell || !sc.names.contains (y.1,.free)) && (y.2 != .local || sc.names.lookup y.1 == some .local) && (y.2 != .free || C.names.lookup y.1 == some .cell)) && decide (((lQ C sc.names).map (·.1)).Nodup)
 && (lQ C sc.names).all (fun p=>p.2.isNone || ((iA C sc).lookup p.1 == some .cell))
noncomputable def HE (C:Cfg) (sc:Scope):Cfg:={ C with N:=(lQ C sc.names).map (·.1),names:=iA C sc,blk:=true,own:=(sc.names.filter (fun y=>y.2 == .cell)).map (·.1),ky:=[],rz:=false,xcl:=[],tr:=false,mts:=C.bmts }
mutual
noncomputable def xE:Nat→Cfg→Bool→Expr→Option CE
 | 0,_,_,_=>none
 | n + 1,C,m,e=>match e with
   | .Compare a [.NotEq] [b] _=>if pN b || C.nes.isEmpty then none else (cE n C false a).bind fun a'=>(cE n C false b).bind fun b'=>some (.cne C.nes a' b')
   | _=>none
noncomputable def vE:Nat→Cfg→Expr→Option CE
 | 0,_,_=>none
 | n + 1,C,e=>match e with
   | .Call (.Attribute o mth ap) es [] pos=>if mth == ("bit_length":Str) && es.isEmpty && !tJ o && ap.endLine == pos.line then (cE n C false o).bind fun o'=>some (.bln o') else (match C.mts.find? (fun s=>s.1 == mth && s.2.1 == es.length) with
     | some s=>if !tJ o && es.all (fun e=> !cR e) && decide (es.length < 29) && ap.endLine == pos.line then (cE n C false o).bind fun o'=>(cL n C es).bind fun es'=>some (.met mth s.2.2 o' es') else none
     | none=>none)
   | _=>none
noncomputable def zE:Nat→Cfg→Expr→Option CE
 | 0,_,_=>none
 | n + 1,C,e=>match e with
   | _=>none
noncomputable def cE:Nat→Cfg→Bool→Expr→Option CE
 | 0,_,_,_=>none
 | n + 1,C,m,e=>match vE n C e with
 | some c=>some c
 | none=>match zE n C e with
 | some c=>some c
 | none=>match xE n C m e with
 | some c=>some c
 | none => match e with
   | .Name x _=>if kN x then (match slot C.N x with
     | some i=>if aDQ C x then some (.var i) else none
     | none=>if glB C x && (C.gls.contains x || C.tys.contains x) then some (.glo x) else none) else none
   | .Constant v _ _=>(match v with
     | .int i=>some (.int i)
     | .bool b=>some (.bl b)
     | .none=>some .non
     | .str s=>some (.str s)
     | _=>none)
   | .BinOp a op b _=>(cE n C false a).bind fun a'=>(cE n C false b).bind fun b'=>some (.bin op a' b')
   | .UnaryOp op a _=>(match op with
     | .USub=>(cE n C false a).bind fun a'=>some (.neg a')
     | .Not=>(cE n C false a).bind fun a'=>some (.no a')
     | _=>none)
   | .BoolOp op vs _=>cB n C op vs
   | .Compare a ops bs _=>(match ops,bs with
     | [op],[b]=>if pN b then none else (cE n C false a).bind fun a'=>(cE n C false b).bind fun b'=>some (.cmp op a' b')
     | [op,op'],[b,c]=>if pN c then none else (cE n C false a).bind fun a'=>(cE n C false b).bind fun b'=>(cE n C false c).bind fun c'=>some (.chn op op' a' b' c')
     | _,_=>none)
   | .Tuple es _ _=>(cL n C es).bind fun es'=>some (.tup es')
   | .List es _=>(cL n C es).bind fun es'=>some (.lst m es')
   | .Subscript a s _=>(match s with
     | .Slice lo hi none _=>(cE n C false a).bind fun a'=>(cO n C lo).bind fun l'=>(cO n C hi).bind fun h'=>some (.sli a' l' h')
     | s=>if aAA s then none else (cE n C false a).bind fun a'=>(cE n C false s).bind fun i'=>some (.idx a' i'))
   | .Attribute a f _=>if tJ a then none else (cE n C false a).bind fun a'=>some (.att a' f)
   | .Call f es kws pos=>(match f,es,kws with
     | .Name x _,e :: r,[]=>if glB C x then (match KG.lookup x with
         | some b=>if C.blt.contains x && (C.cm || !MD b) then (cL n C (e :: r)).bind fun es'=>some (match C.ows.lookup x with | some ls=>.bow b ls es' | none=>.blt b es') else none
         | none=>(match C.shs.find? (fun s=>s.1 == x && s.2.1 == (e :: r).length && s.2.2.1 == []) with
           | some s=>(cL n C (e :: r)).bind fun es'=>some (.cak (C.key x) es' .nil s.2.2.2)
           | none=>if C.fns.contains x || C.mks.contains x then (cL n C (e :: r)).bind fun es'=>some (.cal (C.key x) es') else none)) else none
     | .Name x _,e :: r,kw :: kws=>if glB C x then (kwN (kw :: kws)).bind fun ks=>(match C.shs.find? (fun s=>s.1 == x && s.2.1 == (e :: r).length && s.2.2.1 == ks) with
         | some s=>(cL n C (e :: r)).bind fun es'=>(cK n C (kw :: kws)).bind fun ks'=>some (.cak (C.key x) es' ks' s.2.2.2)
         | none=>none) else none
     | .Name x _,[],kw :: kws=>if glB C x then (kwN (kw :: kws)).bind fun ks=>(match C.shs.find? (fun s=>s.1 == x && s.2.1 == 0 && s.2.2.1 == ks) with
         | some s=>(cK n C (kw :: kws)).bind fun ks'=>some (.cak (C.key x) .nil ks' s.2.2.2)
         | none=>(match C.mkk.find? (fun s=>s.1 == x && s.2.1 == ks) with
           | some s=>(cK n C (kw :: kws)).bind fun ks'=>some (.cak (C.key x) .nil ks' s.2.2)
           | none=>none)) else none
     | .Attribute o mth ap,[e],[]=>if mth="append" && !tJ o && !cR e && ap.endLine == pos.line then (cE n C false o).bind fun o'=>(cE n C false e).bind fun e'=>some (.app o' e') else none
     | _,_,_=>none)
   | .ListComp elt gens sc _=>(match gens with
     | [⟨tg,iter,ifs,0⟩]=>if wY C sc && !pN iter then (cI n C tg iter).bind fun it'=>(cG n (HE C sc) tg).bind fun tg'=>(cTs n (HE C sc) ifs).bind fun ts'=>(cE n (HE C sc) false elt).bind fun el'=>some (.cmpr m tg' it' ts' el' ((lQ C sc.names).map (·.2))) else none
     | _=>none)
   | _=>none
noncomputable def cL:Nat→Cfg→List Expr→Option CE
 | 0,_,_=>none
 | n + 1,C,es=>match es with
   | []=>some .nil
   | e :: r=>if cR e then none else (cE n C false e).bind fun e'=>(cL n C r).bind fun r'=>some (.cons e' r')
noncomputable def cK:Nat→Cfg→List Keyword→Option CE
 | 0,_,_=>none
 | n + 1,C,ks=>match ks with
   | []=>some .nil
   | ⟨_,v,_⟩ :: r=>(cE n C false v).bind fun e'=>(cK n C r).bind fun r'=>some (.cons e' r')
noncomputable def cB:Nat→Cfg→BoolOp→List Expr→Option CE
 | 0,_,_,_=>none
 | n + 1,C,op,vs=>match vs with
   | []=>none
   | [a]=>cE n C false a
   | a :: b :: r=>(cE n C false a).bind fun a'=>(cB n C op (b :: r)).bind fun b'=>some (match op with | .And=>.an a' b' | .Or=>.oo a' b')
noncomputable def xT:Nat→Cfg→Expr→Option CE
 | 0,_,_=>none
 | n + 1,C,e=>match e with
   | .Compare a [.NotEq] [b] _=>if pN b || C.nes.isEmpty then none else (cE n C false a).bind fun a'=>(cE n C false b).bind fun b'=>some (.tsb (.cne C.nes a' b'))
   | _=>none
noncomputable def cT:Nat→Cfg→Expr→Option CE
 | 0,_,_=>none
 | n + 1,C,e=>match xT n C e with
 | some c=>some c
 | none=>match e with
   | .BoolOp op vs _=>cW n C op vs
   | .UnaryOp .Not a _=>(cT n C a).bind fun a'=>some (.no a')
   | .Compare a ops bs _=>(match ops,bs with
     | [op],[b]=>if pN b then none else (cE n C false a).bind fun a'=>(cE n C false b).bind fun b'=>some (.tsb (.cmp op a' b'))
     | [op,op'],[b,c]=>if pN c then none else (cE n C false a).bind fun a'=>(cE n C false b).bind fun b'=>(cE n C false c).bind fun c'=>some (.tsb (.chn op op' a' b' c'))
     | _,_=>none)
   | .Name .. | .Call .. | .Subscript .. | .Attribute .. =>(cE n C false e).bind fun e'=>some (.tst e')
   | _=>none
noncomputable def cW:Nat→Cfg→BoolOp→List Expr→Option CE
 | 0,_,_,_=>none
 | n + 1,C,op,vs=>match vs with
   | []=>none
   | [a]=>cT n C a
   | a :: b :: r=>(cT n C a).bind fun a'=>(cW n C op (b :: r)).bind fun b'=>some (match op with | .And=>.an a' b' | .Or=>.oo a' b')
noncomputable def cO:Nat→Cfg→Option Expr→Option CE
 | 0,_,_=>none
 | n + 1,C,o=>match o with
   | none=>some .nil
   | some e=>(cE n C false e).bind fun e'=>some (.tst e')
noncomputable def cTs:Nat→Cfg→List Expr→Option CE
 | 0,_,_=>none
 | n + 1,C,l=>match l with
   | []=>some .nil
   | [c]=>cT n C c
   | _=>none
noncomputable def cG:Nat→Cfg→Expr→Option CE
 | 0,_,_=>none
 | n + 1,C,e=>match e with
   | .Name x _=>if TJ C x then (slot C.N x).bind fun i=>some (.gn i) else none
   | .Tuple es _ _=>if C.cm then (cGs n C es).bind fun g=>some (.gt es.length g) else none
   | _=>none
noncomputable def cGs:Nat→Cfg→List Expr→Option CE
 | 0,_,_=>none
 | n + 1,C,es=>match es with
   | []=>some .nil
   | e :: r=>if cR e then none else (cG n C e).bind fun g=>(cGs n C r).bind fun r'=>some (.cons g r')
noncomputable def cI:Nat→Cfg→Expr→Expr→Option CE
 | 0,_,_,_=>none
 | n + 1, C,tg,e=>match e with
   | .Call (.Name x p) es kws pos=>if x="zip" then (match kws,tg,es with
       | [],.Tuple ..,_ :: _=>if glB C x && C.blt.contains x then (cL n C es).bind fun es'=>some (.izp es') else none
       | _,_,_=>none)
     else (match kws,es with
     | [],[a]=>if cR a then none else if x="range" then (if glB C x && C.blt.contains x then (cE n C false a).bind fun a'=>some (.irg (.cons a' .nil)) else none)
       else if x="enumerate" then (match tg with
         | .Tuple .. =>if glB C x && C.blt.contains x then (cE n C false a).bind fun a'=>some (.ien a') else none
         | _=>none)
       else (cE n C false (.Call (.Name x p) es kws pos)).bind fun e'=>some (.isq e')
     | [],[a,b]=>if cR a || cR b then none else if x="range" then (if glB C x && C.blt.contains x then (cE n C false a).bind fun a'=>(cE n C false b).bind fun b'=>some (.irg (.cons a' (.cons b' .nil))) else none)
       else (cE n C false (.Call (.Name x p) es kws pos)).bind fun e'=>some (.isq e')
     | _,_=>(cE n C false (.Call (.Name x p) es kws pos)).bind fun e'=>some (.isq e'))
   | e=>if pN e then none else (cE n C false e).bind fun e'=>some (.isq e')
end
structure Fk (P:Program) (w:World) (K:W.Frag) (mg:Str→Option Value) (base:Heap) (E:Ev) (T:Tb) (k:Nat) (f:Str) (ad:Addr) (fd:FuncData) (ps:List Str):Prop where
 ok:bP P w K mg base CX0 k ad fd ps (jC E (T.S f))
 mg:mg f=some (.ref ad)
 kp:W.keepIn K (.ref ad)=true
 db:(f == ("__debug__":Str))=false
structure Mf (P:Program) (w:World) (K:W.Frag) (mg:Str→Option Value) (base:Heap) (E:Ev) (T:Tb) (k:Nat) (x:Str) (c:String) (xi:Str) (ad:Addr) (fd:FuncData) (ps:List Str):Prop where
 mkr:Mk K (E.cls c) ad
 ok:bP P w K mg base CX0 k ad fd ps (jC E (T.S xi))
 mg:mg x=some (.ref (E.cls c))
 ms:FA T c x xi
 db:(x == ("__debug__":Str))=false
noncomputable def up1:Ar→Ar
 | .arg i=>.arg (i + 1)
 | a=>a
structure FkX (P:Program) (w:World) (K:W.Frag) (mg:Str→Option Value) (base:Heap) (E:Ev) (T:Tb) (k:Nat) (f y:Str) (ad:Addr) (fd:FuncData) (ps:List Str):Prop where
 ok:∃ S0 X0,bP P w K mg base (CXo P w) k ad fd ps (DT E S0 X0)∧∀ xs G Q,T.S y xs G Q→S0 xs G Q∨X0 xs G T.xp
 mg:mg f=some (.ref ad)
 kp:W.keepIn K (.ref ad)=true
 db:(f == ("__debug__":Str))=false
structure MfX (P:Program) (w:World) (K:W.Frag) (mg:Str→Option Value) (base:Heap) (E:Ev) (T:Tb) (k:Nat) (x y:Str) (c:String) (xi:Str) (ad:Addr) (fd:FuncData) (ps:List Str):Prop where
 mkr:Mk K (E.cls c) ad
 ok:∃ S0 X0,bP P w K mg base (CXo P w) k ad fd ps (DT E S0 X0)∧∀ xs G Q,T.S xi xs G Q→S0 xs G Q∨X0 xs G T.xp
 mg:mg x=some (.ref (E.cls c))
 ms:FA T c y xi
 db:(x == ("__debug__":Str))=false
noncomputable def aGa (P:Program) (w:World) (K:W.Frag) (mg:Str→Option Value) (base:Heap) (E:Ev) (T:Tb) (k:Nat) (x y:Str):Prop :=
 (∃ c f fd ps Bn fld,XIn K mg (E.cls c) f Bn fld∧mg x=some (.ref (E.cls c))∧bP P w K mg base CX0 k f fd ps (spI (E.cls c) fld)∧L2.aG K fd ps []∧∀ xs G Q,T.S y xs G Q→∃ v,xs=[v]∧T.xp c [fld] [v] G)∨False
structure Gf (P:Program) (w:World) (K:W.Frag) (mg:Str→Option Value) (base:Heap) (E:Ev) (T:Tb) (k:Nat) (C:Cfg):Prop where
 fns:∀ f∈C.fns,∃ ad fd ps,Fk P w K mg base E T k f ad fd ps∧L2.aG K fd ps []
 mks:∀ x∈C.mks,∃ c xi ad fd ps,Mf P w K mg base E T k x c xi ad fd ps∧L2.aG K fd ps []
 shs:∀ s∈C.shs,∃ ad fd ps,Fk P w K mg base E T k s.1 ad fd ps∧lW K fd ps s.2.1 s.2.2.1 s.2.2.2
 mkk:∀ s∈C.mkk,∃ c xi ad fd ps,Mf P w K mg base E T k s.1 c xi ad fd ps∧lW K fd ps 1 s.2.1 (.arg 0 :: s.2.2.map up1)
 gls:∀ x∈C.gls,∃ u v,mg x=some u∧aP v u∧RP E (fun _=>none) (T.gv x) v
 tys:∀ x∈C.tys,mg x=none∧(∃ n,bootBuiltins x=some (.type n)∧T.gv x= .ty n)∧x≠"__name__"
 blt:∀ x∈C.blt,mg x=none
 eqs:∀ y∈C.eqs,∃ ad fd,iN K (E.cls y.1) "__eq__" ad∧bP P w K mg base CX0 k ad fd ["self","other"] (jC E (T.S y.2))∧L2.aG K fd ["self","other"] []
 nes:∀ y∈C.nes,∃ ad fd,NeC K (E.cls y.1)∧iN K (E.cls y.1) "__eq__" ad∧bP P w K mg base CX0 k ad fd ["self","other"] (jC E (T.S y.2))∧L2.aG K fd ["self","other"] []
 lns:∀ y∈C.lns,∃ ad fd,NeC K (E.cls y.1)∧iN K (E.cls y.1) "__len__" ad∧bP P w K mg base CX0 k ad fd ["self"] (jC E (T.S y.2))∧L2.aG K fd ["self"] []
 ows:∀ y∈C.ows,∀ b,KG.lookup y.1=some b→∀ z∈y.2,∃ ad fd k0 nm,k0 + 2≤k∧bwN b=some nm∧NeC K (E.cls z.1)∧iN K (E.cls z.1) nm ad∧bP P w K mg base CX0 k0 ad fd ["self"] (jC E (T.S z.2))∧L2.aG K fd ["self"] []
 gds:∀ y∈C.gds,∃ a es n,mg y.1=some (.ref a)∧K.lookup a=some ⟨.type "dict",none,.dict es n, #[]⟩∧W.KeysLit w.params es.toList∧(a == sysModules)=false∧∀ z,findBy Value.isStrOf es z=(y.2.lookup z).map fun f=>.ref (E.fna f)
 fvs:∀ y∈C.fvs,∃ fd ps,bP P w K mg base CX0 k (E.fna y.1) fd ps (jC E (T.S y.1))∧W.keepIn K (.ref (E.fna y.1))=true∧lW K fd ps y.2.1 [] y.2.2
 mkp:∀ s∈C.mkp,∃ c xi ad fd ps,Mf P w K mg base E T k s.1 c xi ad fd ps∧lW K fd ps (s.2.1 + 1) s.2.2.1 (.arg 0 :: s.2.2.2.map up1)
 exs:∀ y∈C.exs,∃ ad fd,NeC K (E.cls y.1)∧iN K (E.cls y.1) "__eq__" ad∧bP P w K mg base CX0 k ad fd ["self","other"] (jC E (T.S y.2))∧L2.aG K fd ["self","other"] []∧EqL K (E.cls y.1)∧∀ d∈T.cs,d≠y.1→EqD K (E.cls y.1) (E.cls d)
 kr:∀ y∈C.ky,C.rz=true
 kf:∀ y∈C.ky,(y.1∈C.fns→∃ ad fd ps,FkX P w K mg base E T k y.1 y.2 ad fd ps∧L2.aG K fd ps [])∧(y.1∈C.mks→∃ c xi ad fd ps,MfX P w K mg base E T k y.1 y.2 c xi ad fd ps∧L2.aG K fd ps [])
 ks:∀ s∈C.shs,∀ y∈C.ky,y.1=s.1→∃ ad fd ps,FkX P w K mg base E T k s.1 y.2 ad fd ps∧lW K fd ps s.2.1 s.2.2.1 s.2.2.2
 km:∀ s∈C.mkk,∀ y∈C.ky,y.1=s.1→∃ c xi ad fd ps,MfX P w K mg base E T k s.1 y.2 c xi ad fd ps∧lW K fd ps 1 s.2.1 (.arg 0 :: s.2.2.map up1)
 kp:∀ s∈C.mkp,∀ y∈C.ky,y.1=s.1→∃ c xi ad fd ps,MfX P w K mg base E T k s.1 y.2 c xi ad fd ps∧lW K fd ps (s.2.1 + 1) s.2.2.1 (.arg 0 :: s.2.2.2.map up1)
 xc:∀ y∈C.xcl,aGa P w K mg base E T k y.1 y.2
 mts:∀ s∈C.mts,∀ y∈s.2.2,∃ ad fd ps,Cls K (E.cls y.1)∧iN K (E.cls y.1) s.1 ad∧lW K fd ps (s.2.1 + 1) [] (.arg 0 :: y.2.2.map upA)∧
   (bP P w K mg base CX0 k ad fd ps (jC E (T.S y.2.1))∨(C.rz=true∧∃ S0 X0,bP P w K mg base (CXo P w) k ad fd ps (DT E S0 X0)∧∀ xs G Q,T.S y.2.1 xs G Q→S0 xs G Q∨X0 xs G T.xp))
 bmts:∀ s∈C.bmts,∀ y∈s.2.2,∃ ad fd ps,Cls K (E.cls y.1)∧iN K (E.cls y.1) s.1 ad∧lW K fd ps (s.2.1 + 1) [] (.arg 0 :: y.2.2.map upA)∧bP P w K mg base CX0 k ad fd ps (jC E (T.S y.2.1))
def aFV (K:W.Frag) (mg:Str→Option Value) (E:Ev) (cat:List String) (ns:List Str):Prop:= ∃ cs:List Addr,(∀ p∈ns.zip cs,mg p.1=some (.ref p.2))∧ns.length=cs.length∧(∀ c∈cs,LX.rJ K c=true∧W.typeIn K (.ref c)=some (.type "type"))∧W.subIn K (.type "type") (.type "tuple")=some false∧∀ c∈cat,LX.nZ K (E.cls c) cs=some true
structure Tf (P:Program) (w:World) (K:W.Frag) (mg:Str→Option Value) (base:Heap) (E:Ev) (T:Tb) (k:Nat) (C:Cfg):Prop where
 tr:C.tr=true→∀ x f z,Gf P w K mg base (E.at f z) (T.at x) k C.inT
 ca:C.tr=true→aFV K mg E C.cat C.cln
 hh:C.tr=true→C.hs=true→∃ kh,kh + 1 < 40∧kh≤k∧Gf P w K mg base E T kh C.inH
structure Kn (X:Cx) (E:Ev) (T:Tb) (k:Nat) (C:Cfg):Prop where
 pl:Pl X E T (k + 1)
 N:X.N=C.N
 nd:C.N.Nodup
 nm:X.env.scope.names=C.names
 kd:X.env.scope.kind= .function
 fn:∀ x,(C.blk=false∨x∈C.own)→X.fn x=true
 ce:∀ x,C.names.lookup x=some .cell→∃ c,X.env.cells.lookup x=some c
 ps:PassesOwn (model X.prog X.w) X.A X.env X.xe
 gf:Gf X.prog X.w X.K X.mg X.base E T k C
 ow:(C.rz=true∨C.tr=true)→Own X
 xk:C.rz=true→∃ EX,(∀ e s',xeO X EX e s'→X.xe e s')∧KX E E.f0 E.z0 T.xp EX
 xi:aJS X E T
 cm:C.cm=true→40≤k
 gu:C.rp=true→X.A.guards=some []
 tf:Tf X.prog X.w X.K X.mg X.base E T k C
theorem aAQ:∀ y∈KG,bootBuiltins y.1=some (PB y.2)∧y.1≠"__name__"∧(y.1 == ("__debug__":Str))=false:=by
 intro y hy;simp only [KG,List.mem_cons,List.not_mem_nil,or_false] at hy;rcases hy with rfl | rfl | rfl | rfl | rfl | rfl | rfl | rfl | rfl | rfl | rfl | rfl | rfl | rfl | rfl <;> exact ⟨by first | exact PySem.boot_len | (with_unfolding_all rfl),by decide,by decide⟩
theorem aZ {α β:Type} [BEq α] [LawfulBEq α]:∀ {l:List (α×β)} {x:α} {b:β},l.lookup x=some b→(x,b)∈l
 | [],_,_,h=>by cases h
 | (y,c) :: r,x,b,h=>by
   rw [List.lookup_cons] at h;cases e:x == y with
   | true=>rw [e] at h; cases h; rw [beq_iff_eq.mp e]; exact wDq ..
   | false=>rw [e] at h; exact wCq _ (aZ h)
section
variable {X:Cx} {E:Ev} {T:Tb} {k:Nat} {C:Cfg}
theorem Kn.vis (K:Kn X E T k C) {x:Str} (h:aDQ C x=true):Vis X.env.scope x:=by
 unfold aDQ at h;unfold Vis;rw [K.nm];split at h
 · rename_i e; exact .inl e
 · rename_i e; exact .inr (.inl e)
 · rename_i e; exact .inr (.inr e)
 · cases h
theorem Kn.loc (K:Kn X E T k C) {x:Str} (h:TJ C x=true):L2.Loc X.env.scope x∧(X.fn x=true∨X.env.scope.names.lookup x=some .local):=by
 unfold TJ at h;unfold L2.Loc;rw [K.nm];split at h
 · rename_i e; exact ⟨.inl e,.inr e⟩
 · rename_i e;exact ⟨.inr e,.inl (K.fn x (by
     rw [Bool.or_eq_true] at h;exact h.imp (fun z=>by simpa using z) fun z=>List.contains_iff_mem.mp z))⟩
 · cases h
theorem Kn.gl (K:Kn X E T k C) {x:Str} (h:glB C x=true):Gl X x:=by
 unfold glB at h;unfold Gl Env.kindOf;rw [K.nm];exact beq_iff_eq.mp h
theorem oP {x:Str} (h:C.ky.lookup x=none):C.key x=x:=by unfold Cfg.key; rw [h]; rfl
theorem oU {x y:Str} (h:C.ky.lookup x=some y):C.key x=y:=by unfold Cfg.key; rw [h]; rfl
theorem Kn.co (K:Kn X E T k C) (hz:C.rz=true) {y:Str} {ad:Addr} {fd:FuncData} {ps:List Str} {j:Nat} (F:∃ S0 X0,bP X.prog X.w X.K X.mg X.base (CXo X.prog X.w) j ad fd ps (DT E S0 X0)∧∀ xs G Q,T.S y xs G Q→S0 xs G Q∨X0 xs G T.xp):Co X E (T.S y) j ad fd ps:=by
 obtain ⟨S0,X0,F,h⟩:=F;obtain ⟨EX,hx,kx⟩:=K.xk hz;exact Co.ofX F h hx kx
theorem aX {e:Expr} {es:List Expr} {env:Env} (h:cR e=false):starEach (e :: es) env=(false,eval e env) :: starEach es env:=by
 cases e <;> first | rfl | (cases h)
theorem DJ {e:Expr} {es:List Expr} {env:Env} (h:cR e=false):assignEach (e :: es) env=(false,assign e env) :: assignEach es env:=by
 cases e <;> first | rfl | (cases h)
theorem iD {o:Expr} {f:Str} {env:Env} {w:Sem Value} (h:tJ o=false):attributeBase o f env w=w:=by
 unfold attributeBase;split
 · cases h
 · rfl
theorem kK {op:CmpOp} {b:Expr} (h:pN b=false):behindInMarks op b=false:=by
 cases b <;> first | rfl | (cases h)
theorem pS {e:Expr} {env:Env} (h:pN e=false):∀ x,foldedSetIterable e env x=pure x:=by
 intro x;cases e <;> first | rfl | (cases h)
theorem FD {e:Expr} (h:aAA e=false):AE e:=by
 intro o i;cases e <;> first | rfl | (cases h)
theorem vF (K:Kn X E T k C) (sc:Scope):(relabel sc X.env).names=iA C sc:=by
 unfold relabel iA Env.kindOf;rw [K.nm,K.kd];simp
theorem EM {cl:List (Str×Addr)} {sc:Scope} (K:Kn X E T k C):∀ {l:List (Str×Option Nat)},(∀ p∈l,∀ j,p.2=some j→X.N[j]? =some p.1∧X.env.kindOf p.1=some .cell∧(relabel sc X.env).names.lookup p.1=some .cell∧∃ c,cl.lookup p.1=some c∧X.env.cells.lookup p.1=some c)→fP X sc cl (l.map (·.1)) (l.map (·.2))
 | [],_=>trivial
 | (n,none) :: r,h=>by
   show fP X sc cl (r.map (·.1)) (r.map (·.2));exact EM K fun p hp=>h p (wCq _ hp)
 | (n,some j) :: r,h=>⟨h _ (wDq ..) j rfl,EM K fun p hp=>h p (wCq _ hp)⟩
theorem gF {C:Cfg}:∀ {l:List (Str×NameKind)} {p:Str×Option Nat} {j:Nat},p∈lQ C l→p.2=some j→(p.1,NameKind.free)∈l∧slot C.N p.1=some j∧C.names.lookup p.1=some .cell
 | [],_,_,h,_=>by cases h
 | (n, kk) :: r,p,j,h,e=>by
   unfold lQ at h;split at h
   · rcases List.mem_cons.mp h with z | z
     · subst z; cases e
     · obtain ⟨a,b⟩:=gF z e; exact ⟨wCq _ a,b⟩
   · rcases List.mem_cons.mp h with z | z
     · subst z; cases e
     · obtain ⟨a,b⟩:=gF z e; exact ⟨wCq _ a,b⟩
   · split at h
     · rename_i j' hs;split at h
       · rename_i hc;rcases List.mem_cons.mp h with z | z
         · subst z; cases e; exact ⟨wDq ..,hs,hc⟩
         · obtain ⟨a,b⟩:=gF z e; exact ⟨wCq _ a,b⟩
       · obtain ⟨a,b⟩:=gF h e; exact ⟨wCq _ a,b⟩
     · obtain ⟨a,b⟩:=gF h e; exact ⟨wCq _ a,b⟩
   · obtain ⟨a,b⟩:=gF h e; exact ⟨wCq _ a,b⟩
theorem JD {cells:List (Str×Addr)}:∀ {l:List (Str×NameKind)} {acc:List (Str×Addr)} {n:Str} {c:Addr},(n,c)∈clos cells l acc→(n,c)∈acc∨(n,NameKind.free)∈l
 | [],_,_,_,h=>.inl h
 | (m, k) :: r,acc,n,c,h=>by
   unfold clos at h;rcases JD h with z | z
   · split at z
     · rename_i hk;rcases List.mem_cons.mp z with e | z
       · cases e; subst hk; exact .inr (wDq ..)
       · exact .inl z
     · exact .inl z
   · exact .inr (wCq _ z)
theorem WH {sc:Scope} (h:wY C sc=true):C.cm=true:=by
 unfold wY at h;simp only [Bool.and_eq_true] at h;exact h.1.1.1.1
theorem Kn.block (K:Kn X E T k C) {sc:Scope} (h:wY C sc=true):∃ cl,jD X ((lQ C sc.names).map (·.1)) sc cl ((lQ C sc.names).map (·.2))∧∀ C0 s₀ H₀ ex,Kn (cxC X ((lQ C sc.names).map (·.1)) sc cl C0 s₀ H₀ ex) E T k (HE C sc):=by
 unfold wY at h;simp only [Bool.and_eq_true,List.all_eq_true,decide_eq_true_eq] at h;obtain ⟨⟨⟨⟨_,hk⟩,hn⟩,hd⟩,hc⟩:=h;have hk:sc.kind= .function:=beq_iff_eq.mp hk;have fr:∀ y∈sc.names,y.2= .free→C.names.lookup y.1=some .cell:=fun y hy e=>by
   have:=(hn y hy).2;rw [e] at this;simpa using this
 have ncell:∀ x,(x,NameKind.cell)∈sc.names→(x,NameKind.free)∉ sc.names:=fun x hx hf=>by
   have:=(hn _ hx).1.1;simp [hf] at this
 have hf:∀ y∈sc.names,y.2= .free→∃ c,X.env.cells.lookup y.1=some c:=fun y hy e=>K.ce y.1 (fr y hy e);have hcl:vX X.env.cells (clos X.env.cells sc.names []):=IZ hf trivial;have look:∀ n,(n,NameKind.free)∈sc.names→∃ c,(clos X.env.cells sc.names []).lookup n=some c∧X.env.cells.lookup n=some c:=fun n hn=>yE hcl (uL (.inr hn));refine ⟨clos X.env.cells sc.names [],⟨aA0 hf,(fun x hx=>by
   cases e:(clos X.env.cells sc.names []).lookup x with
   | none=>rfl
   | some c =>
     rcases JD (aZ e) with z | z
     · cases z
     · exact absurd z (ncell x hx)),hk,fun y hy e=>?_,HR hcl fun n hn=>uL (.inr hn),hcl,EM K fun p hp j e=>?_⟩,fun C0 s₀ H₀ ex=>⟨⟨K.pl.hK,K.pl.calm,K.pl.room,K.pl.cls,K.pl.fld⟩,rfl,hd,vF K sc,hk,(fun x z=>by
   rcases z with z | z
   · cases z
   · obtain ⟨y,hy,e⟩:=List.mem_map.mp z;obtain ⟨h1,h2⟩:=List.mem_filter.mp hy;subst e;refine List.contains_iff_mem.mpr ?_;rw [show (y.1,NameKind.cell)=y from by rw [←beq_iff_eq.mp h2]];exact h1),fun x hx=>?_,PassesOwn.never,⟨K.gf.fns,K.gf.mks,K.gf.shs,K.gf.mkk,K.gf.gls,K.gf.tys,K.gf.blt,K.gf.eqs,K.gf.nes,K.gf.lns,K.gf.ows,K.gf.gds,K.gf.fvs,K.gf.mkp,K.gf.exs,(fun _ h=>nomatch h),(fun _ h=>nomatch h),(fun _ _ _ h=>nomatch h),(fun _ _ _ h=>nomatch h),(fun _ _ _ h=>nomatch h),(fun _ h=>nomatch h),(fun s hs y hy=>let ⟨ad,fd,ps,a,b,c,d⟩:=K.gf.bmts s hs y hy; ⟨ad,fd,ps,a,b,c,.inl d⟩),K.gf.bmts⟩,(fun h=>by rcases h with h | h <;> cases h),(fun h=>by cases h),⟨K.xi.xi,K.xi.fx⟩,K.cm,K.gu,⟨(fun h=>by cases h),(fun h=>by cases h),(fun h=>by cases h)⟩⟩⟩
 · have:=(hn y hy).1.2;rw [e] at this;simpa using this
 · obtain ⟨hm,hs,hcell⟩:=gF hp e;refine ⟨by rw [K.N]; exact dF hs,by unfold Env.kindOf; rw [K.nm]; exact hcell, ?_,look _ hm⟩;rw [vF K sc];have:=hc p hp;rw [e] at this;simpa using this
 · have hx:(iA C sc).lookup x=some .cell:=hx;have hm:=aZ hx;unfold iA at hm;obtain ⟨⟨n,kk⟩,hy,e⟩:=List.mem_map.mp hm;have e':(if (kk == NameKind.free && C.names.lookup n == some NameKind.cell)=true then (n,NameKind.cell) else (n,kk))=(x,NameKind.cell):=e;split at e'
   · rename_i hcond;cases e';have:kk= .free:=by
       rw [Bool.and_eq_true] at hcond;exact beq_iff_eq.mp hcond.1
     subst this;obtain ⟨c,h1,_⟩:=look x hy;exact ⟨c,rA (fun z=>ncell x z hy) h1⟩
   · cases e';obtain ⟨c,h1,_⟩:=xK (n:=C0 + 1) (cl:=clos X.env.cells sc.names []) hy;exact ⟨c,h1⟩
theorem tU {pos:Pos} {env:Env}:∀ {kws:List Keyword} {ks:List Str},kwN kws=some ks→(backToKw pos (keywordEach kws env)).all (·.1.isSome)=true∧(backToKw pos (keywordEach kws env)).filterMap (·.1)=ks∧(backToKw pos (keywordEach kws env)).any (·.1.isNone)=false∧kws.length=ks.length
 | [],ks,h=>by cases h; exact ⟨rfl,rfl,rfl,rfl⟩
 | ⟨some n,v,p⟩ :: r,ks,h=>by
   unfold kwN at h;cases e:kwN r with
   | none=>rw [e] at h; cases h
   | some l =>
     rw [e] at h;cases h;obtain ⟨a,b,c,d⟩:=tU (pos:=pos) (env:=env) e;refine ⟨?_, ?_, ?_,by rw [List.length_cons,List.length_cons,d]⟩
     · show (true && (backToKw pos (keywordEach r env)).all (·.1.isSome))=true;rw [a]; rfl
     · show n :: (backToKw pos (keywordEach r env)).filterMap (·.1)=n :: l;rw [b]
     · show (false || (backToKw pos (keywordEach r env)).any (·.1.isNone))=false;rw [c]; rfl
 | ⟨none,v,p⟩ :: r,ks,h=>by cases h
end
structure Snd (E:Ev) (T:Tb) (k:Nat) (n:Nat):Prop where
 e:∀ X C m e c,Kn X E T k C→cE n C m e=some c→JE X E e (wpE T c)
 xe:∀ X C m e c,Kn X E T k C→xE n C m e=some c→JE X E e (wpE T c)
 ve:∀ X C e c,Kn X E T k C→vE n C e=some c→JE X E e (wpE T c)
 ze:∀ X C e c,Kn X E T k C→zE n C e=some c→JE X E e (wpE T c)
 xt:∀ X C e c,Kn X E T k C→xT n C e=some c→JT X E e (wpT T c)
 l:∀ X C es c,Kn X E T k C→cL n C es=some c→JA X E es (wpL T c)∧∀ e∈es,cR e=false
 kk:∀ X C ks c,Kn X E T k C→cK n C ks=some c→JK X E ks (wpL T c)
 b:∀ X C op vs c pos,Kn X E T k C→cB n C op vs=some c→JE X E (.BoolOp op vs pos) (wpE T c)
 t:∀ X C e c,Kn X E T k C→cT n C e=some c→JT X E e (wpT T c)
 w:∀ X C op vs c pos,Kn X E T k C→cW n C op vs=some c→JW X E (.BoolOp op vs pos) (wpT T c)
 o:∀ X C o c,Kn X E T k C→cO n C o=some c→JO X E o (wpO T c)
 ts:∀ X C l c,Kn X E T k C→cTs n C l=some c→ML X E l (wpT T c)
 g:∀ X C e c,Kn X E T k C→cG n C e=some c→JG X E e (wpG T c)
 gs:∀ X C es c,Kn X E T k C→cGs n C es=some c→JGs X E es (eG T c)∧∀ e∈es,cR e=false
 i:∀ X C tg e c,Kn X E T k C→cI n C tg e=some c→JI X E tg e (wpI T c)
section
variable {E:Ev} {T:Tb} {k n:Nat}
theorem bnd {α β:Type} {o:Option α} {f:α→Option β} {b:β} (h:o.bind f=some b):∃ a,o=some a∧f a=some b:=Option.bind_eq_some_iff.mp h
theorem cV {pos:Pos} {env:Env}:∀ {es:List Expr},(∀ e∈es,cR e=false)→(backTo pos (starEach es env)).any (·.1)=false
 | [],_=>rfl
 | e :: r,h=>by
   rw [aX (h e (wDq ..))];show (false || (backTo pos (starEach r env)).any (·.1))=false;rw [cV fun x hx=>h x (wCq _ hx)]; rfl
theorem sT {env:Env}:∀ {es:List Expr},(∀ e∈es,cR e=false)→(assignEach es env).length=es.length∧(assignEach es env).findIdx? (·.1)=none
 | [],_=>⟨rfl,rfl⟩
 | e :: r,h=>by
   obtain ⟨a,b⟩:=sT (env:=env) (es:=r) fun x hx=>h x (wCq _ hx);rw [DJ (h e (wDq ..))];refine ⟨by rw [List.length_cons,List.length_cons,a], ?_⟩;rw [List.findIdx?_cons];simp only [b];rfl
theorem aBH {op op':CmpOp} {b c:Expr} (h:pN c=false):lastMarks [op,op'] [b,c]=false:=by
 show lastMarks [op'] [c]=false;exact kK h
theorem zD {α:Type} {l:List α} {p:α→Bool} {s:α} (h:l.find? p=some s):s∈l∧p s=true:=⟨List.mem_of_find?_eq_some h,List.find?_some h⟩
theorem kX {x:Str} (h:kN x=true):(x == ("__debug__":Str))=false∧(x == ("__classdict__":Str))=false:=by
 unfold kN at h;rw [Bool.and_eq_true,Bool.not_eq_true',Bool.not_eq_true'] at h;exact h
theorem or2 {a b:Bool} (h:¬(a || b)=true):a=false∧b=false:=by cases a <;> cases b <;> simp at h ⊢
theorem aJM:Snd E T k 0:=by
 constructor <;> (intros; rename_i h; first | (unfold vE at h; cases h) | (unfold zE at h; cases h) | (unfold cE at h; cases h) | (unfold cL at h; cases h) | (unfold cK at h; cases h) | (unfold cB at h; cases h) | (unfold cT at h; cases h) | (unfold cW at h; cases h) | (unfold cO at h; cases h) | (unfold cTs at h; cases h) | (unfold cG at h; cases h) | (unfold cGs at h; cases h) | (unfold cI at h; cases h))
theorem aHc (S:Snd E T k n):∀ X C es c,Kn X E T k C→cL (n + 1) C es=some c→JA X E es (wpL T c)∧∀ e∈es,cR e=false:=by
 intro X C es c K h;cases es with
 | nil=>unfold cL at h; cases h; exact ⟨aDe,fun e he=>nomatch he⟩
 | cons e r =>
   unfold cL at h;dsimp only at h;split at h
   · cases h
   · rename_i hs;obtain ⟨e',h1,h⟩:=bnd h;obtain ⟨r',h2,h⟩:=bnd h;cases h;have hs:cR e=false:=by simpa using hs
     obtain ⟨a,b⟩:=S.l X C r r' K h2;refine ⟨aAR (S.e X C false e e' K h1) a (aX hs),fun x hx=>?_⟩;rcases List.mem_cons.mp hx with z | z
     · rw [z]; exact hs
     · exact b x z
theorem aHv (S:Snd E T k n):∀ X C ks c,Kn X E T k C→cK (n + 1) C ks=some c→JK X E ks (wpL T c):=by
 intro X C ks c K h;cases ks with
 | nil=>unfold cK at h; cases h; exact OU
 | cons e r =>
   obtain ⟨nm,v,p⟩:=e;unfold cK at h;dsimp only at h;obtain ⟨e',h1,h⟩:=bnd h;obtain ⟨r',h2,h⟩:=bnd h;cases h;exact ZM (S.e X C false v e' K h1) (S.kk X C r r' K h2)
theorem aHG (S:Snd E T k n):∀ X C op vs c pos,Kn X E T k C→cB (n + 1) C op vs=some c→JE X E (.BoolOp op vs pos) (wpE T c):=by
 intro X C op vs c pos K h;unfold cB at h;split at h
 · cases h
 · exact aEx (S.e X C false _ c K h)
 · obtain ⟨a',h1,h⟩:=bnd h;obtain ⟨b',h2,h⟩:=bnd h;cases op with
   | And=>cases h; exact aHA K.pl (S.e X C false _ a' K h1) (S.b X C .And _ b' pos K h2)
   | Or=>cases h; exact aFm K.pl (S.e X C false _ a' K h1) (S.b X C .Or _ b' pos K h2)
theorem aHD (S:Snd E T k n):∀ X C op vs c pos,Kn X E T k C→cW (n + 1) C op vs=some c→JW X E (.BoolOp op vs pos) (wpT T c):=by
 intro X C op vs c pos K h;unfold cW at h;split at h
 · cases h
 · cases op with
   | And=>exact aCl (S.t X C _ c K h)
   | Or=>exact aDz (S.t X C _ c K h)
 · obtain ⟨a',h1,h⟩:=bnd h;obtain ⟨b',h2,h⟩:=bnd h;cases op with
   | And=>cases h; exact aHa (S.t X C _ a' K h1) (S.w X C .And _ b' pos K h2)
   | Or=>cases h; exact aIk (S.t X C _ a' K h1) (S.w X C .Or _ b' pos K h2)
theorem aIg (S:Snd E T k n):∀ X C o c,Kn X E T k C→cO (n + 1) C o=some c→JO X E o (wpO T c):=by
 intro X C o c K h;unfold cO at h;split at h
 · cases h; exact aCS
 · obtain ⟨e',h1,h⟩:=bnd h;cases h;exact aAT (S.e X C false _ e' K h1)
theorem aCT (S:Snd E T k n):∀ X C l c,Kn X E T k C→cTs (n + 1) C l=some c→ML X E l (wpT T c):=by
 intro X C l c K h;unfold cTs at h;split at h
 · cases h; exact aJu
 · exact aJn (S.t X C _ c K h)
 · cases h
theorem aHX (S:Snd E T k n):∀ X C e c,Kn X E T k C→cG (n + 1) C e=some c→JG X E e (wpG T c):=by
 intro X C e c K h;unfold cG at h;split at h
 · split at h
   · rename_i hl;obtain ⟨i,h1,h⟩:=bnd h;cases h;obtain ⟨a,b⟩:=K.loc hl;exact zI (by rw [K.N]; exact K.nd) (by rw [K.N]; exact dF h1) a b
   · cases h
 · split at h
   · rename_i hcm;obtain ⟨g,h1,h⟩:=bnd h;cases h;obtain ⟨a,b⟩:=S.gs X C _ g K h1;obtain ⟨l1,l2⟩:=sT (env:=X.env) b;exact TR K.pl (Nat.le_succ_of_le (K.cm hcm)) a l1 l2
   · cases h
 · cases h
theorem aCH (S:Snd E T k n):∀ X C es c,Kn X E T k C→cGs (n + 1) C es=some c→JGs X E es (eG T c)∧∀ e∈es,cR e=false:=by
 intro X C es c K h;cases es with
 | nil=>unfold cGs at h; cases h; exact ⟨ZD,fun e he=>nomatch he⟩
 | cons e r =>
   unfold cGs at h;dsimp only at h;split at h
   · cases h
   · rename_i hs;obtain ⟨e',h1,h⟩:=bnd h;obtain ⟨r',h2,h⟩:=bnd h;cases h;have hs:cR e=false:=by simpa using hs
     obtain ⟨a,b⟩:=S.gs X C r r' K h2;refine ⟨UC (S.g X C e e' K h1) a (by rw [DJ hs]; rfl),fun x hx=>?_⟩;rcases List.mem_cons.mp hx with z | z
     · rw [z]; exact hs
     · exact b x z
theorem aFS (S:Snd E T k n):∀ X C e c,Kn X E T k C→cT (n + 1) C e=some c→JT X E e (wpT T c):=by
 intro X C e c K h;unfold cT at h;split at h
 · rename_i c2 hx;cases h;exact S.xt X C e _ K hx
 split at h
 · exact (S.w X C _ _ c _ K h).jt
 · obtain ⟨a',h1,h⟩:=bnd h;cases h;exact aGu (S.t X C _ a' K h1)
 · split at h
   · split at h
     · cases h
     · rename_i hs;obtain ⟨a',h1,h⟩:=bnd h;obtain ⟨b',h2,h⟩:=bnd h;cases h;exact aEu K.pl (kK (by simpa using hs)) (S.e X C false _ a' K h1) (S.e X C false _ b' K h2)
   · split at h
     · cases h
     · rename_i hs;obtain ⟨a',h1,h⟩:=bnd h;obtain ⟨b',h2,h⟩:=bnd h;obtain ⟨c',h3,h⟩:=bnd h;cases h;exact aEz K.pl (aBH (by simpa using hs)) (S.e X C false _ a' K h1) (S.e X C false _ b' K h2) (S.e X C false _ c' K h3)
   · cases h
 · obtain ⟨e',h1,h⟩:=bnd h;cases h;exact zJ K.pl (S.e X C false _ e' K h1) fun _=>rfl
 · obtain ⟨e',h1,h⟩:=bnd h;cases h;exact zJ K.pl (S.e X C false _ e' K h1) fun _=>rfl
 · obtain ⟨e',h1,h⟩:=bnd h;cases h;exact zJ K.pl (S.e X C false _ e' K h1) fun _=>rfl
 · obtain ⟨e',h1,h⟩:=bnd h;cases h;exact zJ K.pl (S.e X C false _ e' K h1) fun _=>rfl
 · cases h
theorem aH2 (S : Snd E T k n):∀ X C tg e c,Kn X E T k C→cI (n + 1) C tg e=some c→JI X E tg e (wpI T c):=by
 intro X C tg e c K h;unfold cI at h;split at h
 · split at h
   · rename_i hx;split at h
     · split at h
       · rename_i hb;rw [Bool.and_eq_true] at hb;obtain ⟨es',h1,h⟩:=bnd h;cases h;subst hx;obtain ⟨a,b⟩:=S.l X C _ es' K h1;exact aDp K.pl (K.gl hb.1) (K.gf.blt _ (by simpa using hb.2)) a (aX (b _ (wDq ..))) (cV fun y hy=>b y (wCq _ hy))
       · cases h
     · cases h
   · split at h
     · split at h
       · cases h
       · rename_i hs;split at h
         · rename_i hx;split at h
           · rename_i hb;rw [Bool.and_eq_true] at hb;obtain ⟨a',h1,h⟩:=bnd h;cases h;subst hx;exact aAs (K.gl hb.1) (K.gf.blt _ (by simpa using hb.2)) (S.e X C false _ a' K h1) (aX (by simpa using hs))
           · cases h
         · split at h
           · rename_i hx;split at h
             · split at h
               · rename_i hb;rw [Bool.and_eq_true] at hb;obtain ⟨a',h1,h⟩:=bnd h;cases h;subst hx;exact aDj K.pl (K.gl hb.1) (K.gf.blt _ (by simpa using hb.2)) (S.e X C false _ a' K h1) (aX (by simpa using hs))
               · cases h
             · cases h
           · obtain ⟨e',h1,h⟩:=bnd h;cases h;exact yR K.pl (S.e X C false _ e' K h1)
     · split at h
       · cases h
       · rename_i hs;have hs':=or2 hs;split at h
         · rename_i hx;split at h
           · rename_i hb;rw [Bool.and_eq_true] at hb;obtain ⟨a',h1,h⟩:=bnd h;obtain ⟨b',h2,h⟩:=bnd h;cases h;subst hx;exact YH (K.gl hb.1) (K.gf.blt _ (by simpa using hb.2)) (S.e X C false _ a' K h1) (S.e X C false _ b' K h2) (by rw [aX hs'.1,aX hs'.2]; rfl) (aX hs'.2)
           · cases h
         · obtain ⟨e',h1,h⟩:=bnd h;cases h;exact yR K.pl (S.e X C false _ e' K h1)
     · obtain ⟨e',h1,h⟩:=bnd h;cases h;exact yR K.pl (S.e X C false _ e' K h1)
 · split at h
   · cases h
   · obtain ⟨e',h1,h⟩:=bnd h;cases h;exact yR K.pl (S.e X C false _ e' K h1)
theorem RC (S:Snd E T k n) {X:Cx} {C:Cfg} {x:Str} {p pos:Pos} {e:Expr} {r:List Expr} {es':CE} (K:Kn X E T k C) (hg:glB C x=true) (hc:C.fns.contains x=true∨C.mks.contains x=true) (h:cL n C (e :: r)=some es'):JE X E (.Call (.Name x p) (e :: r) [] pos) (wpE T (.cal (C.key x) es')):=by
 obtain ⟨a,b⟩:=S.l X C _ es' K h;have s1:=aX (env:=X.env) (es:=r) (b e (wDq ..));have s2:=cV (pos:=pos) (env:=X.env) fun y hy=>b y (wCq _ hy);cases hy:C.ky.lookup x with
 | none =>
   rw [oP hy];rcases hc with hc | hc
   · obtain ⟨ad,fd,ps,F,hb⟩:=K.gf.fns x (by simpa using hc);exact SO (.of F.ok) (K.pl.room.mono (Nat.le_succ _)) (K.gl hg) F.mg F.kp hb F.db a s1 s2
   · obtain ⟨c,xi,ad,fd,ps,F,hb⟩:=K.gf.mks x (by simpa using hc);exact UN F.mkr (.of F.ok) K.pl.room (K.gl hg) F.mg hb F.ms F.db a s1 s2
 | some y =>
   rw [oU hy];have hz:=K.gf.kr _ (aZ hy);obtain ⟨f1,f2⟩:=K.gf.kf _ (aZ hy);rcases hc with hc | hc
   · obtain ⟨ad,fd,ps,F,hb⟩:=f1 (by simpa using hc);exact SO (K.co hz F.ok) (K.pl.room.mono (Nat.le_succ _)) (K.gl hg) F.mg F.kp hb F.db a s1 s2
   · obtain ⟨c,xi,ad,fd,ps,F,hb⟩:=f2 (by simpa using hc);exact UN F.mkr (K.co hz F.ok) K.pl.room (K.gl hg) F.mg hb F.ms F.db a s1 s2
theorem XR (S:Snd E T k n) {X:Cx} {C:Cfg} {x:Str} {p pos:Pos} {e:Expr} {r:List Expr} {kws:List Keyword} {ks:List Str} {s:Str×Nat×List Str×List Ar} {es' ks':CE} (K:Kn X E T k C) (hg:glB C x=true) (hk:kwN kws=some ks)
   (hf:C.shs.find? (fun s=>s.1 == x && s.2.1 == (e :: r).length && s.2.2.1 == ks)=some s) (h:cL n C (e :: r)=some es') (h2:JK X E kws (wpL T ks')):JE X E (.Call (.Name x p) (e :: r) kws pos) (wpE T (.cak (C.key x) es' ks' s.2.2.2)):=by
 obtain ⟨a,b⟩:=S.l X C _ es' K h;have s1:=aX (env:=X.env) (es:=r) (b e (wDq ..));have s2:=cV (pos:=pos) (env:=X.env) (es:=e :: r) b;obtain ⟨hm,hp⟩:=zD hf;simp only [Bool.and_eq_true,beq_iff_eq] at hp;obtain ⟨⟨e1,e2⟩,e3⟩:=hp;obtain ⟨k1,k2,k3,k4⟩:=tU (pos:=pos) (env:=X.env) hk;cases hy:C.ky.lookup x with
 | none =>
   rw [oP hy];obtain ⟨ad,fd,ps,F,hb⟩:=K.gf.shs s hm;rw [e1] at F;exact SJ (.of F.ok) (K.pl.room.mono (Nat.le_succ _)) (K.gl hg) F.mg F.kp hb F.db a h2 e2.symm (by rw [e3]; exact k4) k1 (by rw [e3]; exact k2) s1 (by rw [s2,k3]; rfl)
 | some y =>
   rw [oU hy];obtain ⟨ad,fd,ps,F,hb⟩:=K.gf.ks s hm _ (aZ hy) e1.symm;rw [e1] at F;exact SJ (K.co (K.gf.kr _ (aZ hy)) F.ok) (K.pl.room.mono (Nat.le_succ _)) (K.gl hg) F.mg F.kp hb F.db a h2 e2.symm (by rw [e3]; exact k4) k1 (by rw [e3]; exact k2) s1 (by rw [s2,k3]; rfl)
theorem aBd {X:Cx} {C:Cfg} (K:Kn X E T k C):∀ y∈C.nes,NeM X E T k y.1 y.2:=fun y hy=>⟨K.gf.nes y hy⟩
theorem aEM (S:Snd E T k n):∀ X C e c,Kn X E T k C→vE (n + 1) C e=some c→JE X E e (wpE T c):=by
 intro X C e c K h;unfold vE at h;split at h
 · rename_i o mth ap es pos;split at h
   · rename_i hc;simp only [Bool.and_eq_true,beq_iff_eq,Bool.not_eq_true'] at hc;obtain ⟨⟨⟨e1,e2⟩,e3⟩,e4⟩:=hc;obtain ⟨o',h1,h⟩:=bnd h;cases h;subst e1;obtain rfl:=List.isEmpty_iff.mp e2;exact aDE (S.e X C false _ o' K h1) (iD e3) (beq_iff_eq.mpr e4)
   · split at h
     · rename_i s hs;split at h
       · rename_i hc;simp only [Bool.and_eq_true,beq_iff_eq,Bool.not_eq_true',decide_eq_true_eq] at hc;obtain ⟨⟨⟨e1,e2⟩,e3⟩,e4⟩:=hc;obtain ⟨o',h1,h⟩:=bnd h;obtain ⟨es',h2,h⟩:=bnd h;cases h;have hm:=List.mem_of_find?_eq_some hs;have hp:=List.find?_some hs;simp only [Bool.and_eq_true,beq_iff_eq] at hp;obtain ⟨p1,p2⟩:=hp;have hM:∀ y∈s.2.2,aAv X E T k s.1 s.2.1 y:=fun y hy=>by
           obtain ⟨ad,fd,ps,a,b,c,d⟩:=K.gf.mts s hm y hy;refine ⟨ad,fd,ps,a,b, ?_,c⟩;rcases d with d | ⟨hz,d⟩
           · exact .of d
           · exact K.co hz d
         rw [p1,p2] at hM;have hr:=K.pl.room.mono (Nat.le_succ _);cases es with
         | nil =>
           have e0:es'= .nil:=by
             cases n with
             | zero=>cases h2
             | succ n=>unfold cL at h2; cases h2; rfl
           subst e0;exact YM hr (S.e X C false _ o' K h1) hM (iD e1) (beq_iff_eq.mpr e4)
         | cons e es =>
           obtain ⟨ja,hst⟩:=S.l X C (e :: es) es' K h2;refine aD1 hr (S.e X C false _ o' K h1) ja hM (iD e1) (beq_iff_eq.mpr e4) ?_ (aX (hst _ (wDq ..))) (cV fun y hy=>hst y (wCq _ hy));have an:=cV (pos:=pos) (env:=X.env) hst;have al:(backTo pos (starEach (e :: es) X.env)).all (fun x=> !x.1)=true:=by
             rw [List.all_eq_true];intro x hx;have:=List.any_eq_false.mp an x hx;simpa using this
           unfold methodCallForm;rw [al];show decide ((e :: es).length + 0 + 0 < 30)=true;exact decide_eq_true (by omega)
       · cases h
     · cases h
 · cases h
theorem aDs (S:Snd E T k n):∀ X C e c,Kn X E T k C→zE (n + 1) C e=some c→JE X E e (wpE T c):=by
 intro X C e c K h;simp [zE] at h
theorem aCU (S:Snd E T k n):∀ X C m e c,Kn X E T k C→xE (n + 1) C m e=some c→JE X E e (wpE T c):=by
 intro X C m e c K h;unfold xE at h;split at h
 · split at h
   · cases h
   · rename_i hs;obtain ⟨a',h1,h⟩:=bnd h;obtain ⟨b',h2,h⟩:=bnd h;cases h;simp only [Bool.or_eq_true,not_or,Bool.not_eq_true] at hs;exact aCs K.pl (aBd K) (kK hs.1) (S.e X C false _ a' K h1) (S.e X C false _ b' K h2)
 · cases h
theorem aDW (S:Snd E T k n):∀ X C e c,Kn X E T k C→xT (n + 1) C e=some c→JT X E e (wpT T c):=by
 intro X C e c K h;unfold xT at h;split at h
 · split at h
   · cases h
   · rename_i hs;obtain ⟨a',h1,h⟩:=bnd h;obtain ⟨b',h2,h⟩:=bnd h;cases h;simp only [Bool.or_eq_true,not_or,Bool.not_eq_true] at hs;exact aDI K.pl (aBd K) (kK hs.1) (S.e X C false _ a' K h1) (S.e X C false _ b' K h2)
 · cases h
theorem aFg (S:Snd E T k n):∀ X C m e c,Kn X E T k C→cE (n + 1) C m e=some c→JE X E e (wpE T c):=by
 intro X C m e c K h;unfold cE at h;split at h
 · rename_i c2 hx;cases h;exact S.ve X C e _ K hx
 split at h
 · rename_i c2 hx;cases h;exact S.ze X C e _ K hx
 split at h
 · rename_i c2 hx;cases h;exact S.xe X C m e _ K hx
 split at h
 · -- a name
   split at h
   · rename_i hp;obtain ⟨d1,d2⟩:=kX hp;split at h
     · rename_i i hs;split at h
       · rename_i hv;cases h;exact aD3 (by rw [K.N]; exact dF hs) (K.vis hv) d1 d2
       · cases h
     · split at h
       · rename_i hg;rw [Bool.and_eq_true,Bool.or_eq_true] at hg;cases h;rcases hg.2 with hh | hh
         · obtain ⟨u,v,h1,h2,h3⟩:=K.gf.gls _ (by simpa using hh);exact aC5 (K.gl hg.1) h1 h2 h3 d1
         · obtain ⟨h1,⟨nn,h2,h3⟩,h4⟩:=K.gf.tys _ (by simpa using hh);exact aGp (K.gl hg.1) h1 h2 h3 h4 d1
       · cases h
   · cases h
 · split at h
   · cases h; exact aCn
   · cases h; exact aFU
   · cases h; exact aCp
   · cases h; exact aDx
   · cases h
 · obtain ⟨a',h1,h⟩:=bnd h;obtain ⟨b',h2,h⟩:=bnd h;cases h;exact aDg K.pl (S.e X C false _ a' K h1) (S.e X C false _ b' K h2)
 · split at h
   · obtain ⟨a',h1,h⟩:=bnd h;cases h;exact aCF (S.e X C false _ a' K h1)
   · obtain ⟨a',h1,h⟩:=bnd h;cases h;exact aHV K.pl (S.e X C false _ a' K h1)
   · cases h
 · exact S.b X C _ _ c _ K h
 · split at h
   · split at h
     · cases h
     · rename_i hs;obtain ⟨a',h1,h⟩:=bnd h;obtain ⟨b',h2,h⟩:=bnd h;cases h;exact aEm K.pl (kK (by simpa using hs)) (S.e X C false _ a' K h1) (S.e X C false _ b' K h2)
   · split at h
     · cases h
     · rename_i hs;obtain ⟨a',h1,h⟩:=bnd h;obtain ⟨b',h2,h⟩:=bnd h;obtain ⟨c',h3,h⟩:=bnd h;cases h;exact aD6 K.pl (aBH (by simpa using hs)) (S.e X C false _ a' K h1) (S.e X C false _ b' K h2) (S.e X C false _ c' K h3)
   · cases h
 · obtain ⟨es',h1,h⟩:=bnd h;cases h;exact aD0 (S.l X C _ es' K h1).1
 · obtain ⟨es',h1,h⟩:=bnd h;cases h;exact aET (S.l X C _ es' K h1).1
 · split at h
   · obtain ⟨a',h1,h⟩:=bnd h;obtain ⟨l',h2,h⟩:=bnd h;obtain ⟨u',h3,h⟩:=bnd h;cases h;exact aEn K.pl (S.e X C false _ a' K h1) (S.o X C _ l' K h2) (S.o X C _ u' K h3)
   · split at h
     · cases h
     · rename_i hs;obtain ⟨a',h1,h⟩:=bnd h;obtain ⟨i',h2,h⟩:=bnd h;cases h;exact aEQ K.pl (S.e X C false _ a' K h1) (S.e X C false _ i' K h2) (FD (by simpa using hs))
 · split at h
   · cases h
   · rename_i hs;obtain ⟨a',h1,h⟩:=bnd h;cases h;exact aDr K.pl (S.e X C false _ a' K h1) (iD (by simpa using hs))
 · split at h
   · split at h
     · rename_i hg;split at h
       · rename_i b hb;split at h
         · rename_i hc;obtain ⟨hc,hcm⟩:=Bool.and_eq_true_iff.mp hc;have h40:MD b=true→40≤k:=fun z=>K.cm (by rw [z] at hcm; simpa using hcm);obtain ⟨es',h1,h⟩:=bnd h;cases h;obtain ⟨a,st⟩:=S.l X C _ es' K h1;obtain ⟨b1,b2,b3⟩:=aAQ _ (aZ hb);split
           · rename_i ls hl;exact aDn K.pl h40 (fun y hy=>⟨K.gf.ows _ (aZ hl) b hb y hy⟩) (K.gl hg) (K.gf.blt _ (by simpa using hc)) b1 b2 b3 a (aX (st _ (wDq ..))) (cV fun y hy=>st y (wCq _ hy))
           exact aCy K.pl (fun z=>Nat.le_succ_of_le (h40 z)) (K.gl hg) (K.gf.blt _ (by simpa using hc)) b1 b2 b3 a (aX (st _ (wDq ..))) (cV fun y hy=>st y (wCq _ hy))
         · cases h
       · split at h
         · rename_i s hf;obtain ⟨es',h1,h⟩:=bnd h;cases h;exact XR S K hg (ks:=[]) rfl hf h1 OU
         · split at h
           · rename_i hc;obtain ⟨es',h1,h⟩:=bnd h;cases h;rw [Bool.or_eq_true] at hc;exact RC S K hg hc h1
           · cases h
     · cases h
   · split at h
     · rename_i hg;obtain ⟨ks,hk,h⟩:=bnd h;split at h
       · rename_i s hf;obtain ⟨es',h1,h⟩:=bnd h;obtain ⟨ks',h2,h⟩:=bnd h;cases h;exact XR S K hg hk hf h1 (S.kk X C _ ks' K h2)
       · cases h
     · cases h
   · split at h
     · rename_i hg;obtain ⟨ks,hk,h⟩:=bnd h;obtain ⟨k1,k2,k3,k4⟩:=tU (pos:=_) (env:=X.env) hk;split at h
       · rename_i s hf;obtain ⟨ks',h2,h⟩:=bnd h;cases h;obtain ⟨hm,hp⟩:=zD hf;simp only [Bool.and_eq_true,beq_iff_eq] at hp;obtain ⟨⟨e1,e2⟩,e3⟩:=hp;cases hy:C.ky.lookup _ with
         | none =>
           rw [oP hy];obtain ⟨ad,fd,ps,F,hb⟩:=K.gf.shs s hm;rw [e1] at F;rw [e2] at hb;exact ID (.of F.ok) (K.pl.room.mono (Nat.le_succ _)) (K.gl hg) F.mg F.kp hb F.db (S.kk X C _ ks' K h2) (by rw [e3]; exact k4) k1 (by rw [e3]; exact k2) (by rw [k3]; rfl)
         | some y =>
           rw [oU hy];obtain ⟨ad,fd,ps,F,hb⟩:=K.gf.ks s hm _ (aZ hy) e1.symm;rw [e1] at F;rw [e2] at hb;exact ID (K.co (K.gf.kr _ (aZ hy)) F.ok) (K.pl.room.mono (Nat.le_succ _)) (K.gl hg) F.mg F.kp hb F.db (S.kk X C _ ks' K h2) (by rw [e3]; exact k4) k1 (by rw [e3]; exact k2) (by rw [k3]; rfl)
       · split at h
         · rename_i s hf;obtain ⟨ks',h2,h⟩:=bnd h;cases h;obtain ⟨hm,hp⟩:=zD hf;simp only [Bool.and_eq_true,beq_iff_eq] at hp;obtain ⟨e1,e3⟩:=hp;cases hy:C.ky.lookup _ with
           | none =>
             rw [oP hy];obtain ⟨c,xi,ad,fd,ps,F,hb⟩:=K.gf.mkk s hm;rw [e1] at F;exact HY F.mkr (.of F.ok) K.pl.room (K.gl hg) F.mg hb F.ms F.db (S.kk X C _ ks' K h2) (by rw [e3]; exact k4) k1 (by rw [e3]; exact k2) (by rw [k3]; rfl)
           | some y =>
             rw [oU hy];obtain ⟨c,xi,ad,fd,ps,F,hb⟩:=K.gf.km s hm _ (aZ hy) e1.symm;rw [e1] at F;exact HY F.mkr (K.co (K.gf.kr _ (aZ hy)) F.ok) K.pl.room (K.gl hg) F.mg hb F.ms F.db (S.kk X C _ ks' K h2) (by rw [e3]; exact k4) k1 (by rw [e3]; exact k2) (by rw [k3]; rfl)
         · cases h
     · cases h
   · split at h
     · rename_i hc;simp only [Bool.and_eq_true,decide_eq_true_eq,Bool.not_eq_true'] at hc;obtain ⟨⟨⟨e1,e2⟩,e3⟩,e4⟩:=hc;obtain ⟨o',h1,h⟩:=bnd h;obtain ⟨e',h2,h⟩:=bnd h;cases h;subst e1;exact aEC (S.e X C false _ o' K h1) (S.e X C false _ e' K h2) (iD e2) (aX e3) e4
     · cases h
   · cases h
 · split at h
   · split at h
     · rename_i hb;rw [Bool.and_eq_true] at hb;obtain ⟨it',h1,h⟩:=bnd h;obtain ⟨tg',h2,h⟩:=bnd h;obtain ⟨ts',h3,h⟩:=bnd h;obtain ⟨el',h4,h⟩:=bnd h;cases h;obtain ⟨cl,B,KB⟩:=K.block hb.1;exact aA9 B K.pl (Nat.le_succ_of_le (K.cm (WH hb.1))) (S.i X C _ _ it' K h1) (fun C0 s₀ H₀ ex=>S.g _ _ _ tg' (KB C0 s₀ H₀ ex) h2) (fun C0 s₀ H₀ ex=>S.ts _ _ _ ts' (KB C0 s₀ H₀ ex) h3) (fun C0 s₀ H₀ ex=>S.e _ _ false _ el' (KB C0 s₀ H₀ ex) h4) (pS (by simpa using hb.2))
     · cases h
   · cases h
 · cases h
theorem snd:∀ n,Snd E T k n
 | 0=>aJM
 | n + 1=>⟨aFg (snd n),aCU (snd n),aEM (snd n),aDs (snd n),aDW (snd n),aHc (snd n),aHv (snd n),aHG (snd n),aFS (snd n),aHD (snd n),aIg (snd n),aCT (snd n),aHX (snd n),aCH (snd n),aH2 (snd n)⟩
end
section
variable {X:Cx} {E:Ev} {T:Tb} {k:Nat} {C:Cfg}
theorem AN (K:Kn X E T k C):X.env.blockKind= .function:=by
 unfold Env.blockKind;rw [K.kd]; rfl
noncomputable def ZK:Expr→Bool
 | .Tuple .. =>true
 | _=>false
noncomputable def PQ:Expr→Bool
 | .Tuple vs _ _=> !(vs.all (foldedForSure 8))
 | _=>false
theorem aDt {ts:List Expr} {kt:Nat} {pt:Pos} {value:Expr} {env:Env} (h:ZK value=false):swappedStores [.Tuple ts kt pt] value env=pure none:=by
 cases value <;> first | rfl | (cases h)
theorem ZA {ts vs:List Expr} {kt kv:Nat} {pt pv:Pos} {env:Env} (h:vs.all (foldedForSure 8)=true):swappedStores [.Tuple ts kt pt] (.Tuple vs kv pv) env=pure none:=by
 unfold swappedStores;dsimp only;split
 · rfl
 · split
   · rfl
   · split
     · rfl
     · first | rfl | rw [if_pos h]
theorem SQ {ts:List Expr} {kt:Nat} {pt:Pos} {v:Expr} {env:Env} (h:¬PQ v=true):swappedStores [.Tuple ts kt pt] v env=pure none:=by
 cases v with
 | Tuple vs kv pv =>
   refine ZA ?_;cases e:vs.all (foldedForSure 8) with
   | true=>rfl
   | false=>exact absurd (show (!(vs.all (foldedForSure 8)))=true by rw [e]; rfl) h
 | _=>exact aDt rfl
theorem aDa (K:Kn X E T k C) {x y:Str} {px py pt pt2:Pos} {kt k2:Nat} {a b:Expr} (hx:C.names.lookup x=some .local) (hy:C.names.lookup y=some .local) (hl:py.line=px.line) (hne:x≠y) (sa:cR a=false) (sb:cR b=false)
   (nf: [a,b].all (foldedForSure 8)=false) (nc: [a,b].all (constantsAlone 8)=false):swappedStores [.Tuple [.Name x px,.Name y py] kt pt] (.Tuple [a,b] k2 pt2) X.env=pure (some [x,y]):=by
 unfold swappedStores;dsimp only;have kx:(X.env.kindOf x == some .local)=true:=by unfold Env.kindOf; rw [K.nm,hx]; rfl
 have ky:(X.env.kindOf y == some .local)=true:=by unfold Env.kindOf; rw [K.nm,hy]; rfl
 have e:∀ e:Expr,cR e=false→(match e with | .Starred .. =>true | _=>false)=false:=fun e h=>by cases e <;> first | rfl | (cases h)
 have c1:(!([Expr.Name x px,Expr.Name y py].length == 2 || [Expr.Name x px,Expr.Name y py].length == 3) || [a,b].length != [Expr.Name x px,Expr.Name y py].length || X.env.blockKind != ScopeKind.function)=false:=by
   rw [AN K]; rfl
 rw [if_neg (by rw [c1]; exact Bool.false_ne_true)];have nm:([x,y]:List Str).eraseDups.length=2:=by
   have hb:(y == x)=false:=beq_eq_false_iff_ne.mpr (Ne.symm hne);simp [List.eraseDups_cons,hb]
 split
 · rename_i h2;exfalso
   simp only [List.any_cons,List.any_nil,Bool.or_false,Bool.or_eq_true] at h2;rcases h2 with h2 | h2
   · cases a <;> first | (cases h2; done) | (cases sa)
   · cases b <;> first | (cases h2; done) | (cases sb)
 · simp only [List.filterMap_cons,List.filterMap_nil,kx,ky,List.head?_cons,Option.map_some,Option.getD_some,Bool.true_and,Expr.pos,hl,beq_self_eq_true,if_true,List.length_cons,List.length_nil,nm,nf,nc];rfl
noncomputable def aFu (C:Cfg):Expr→Bool
 | .Name x _=> !(C.names.lookup x == some .local)
 | _=>false
theorem aB4 {α β:Type} {f:α→Option β}:∀ {l:List α},(∃ x∈l,f x=none)→(l.filterMap f).length < l.length
 | [],⟨_,h,_⟩=>nomatch h
 | a :: r,⟨x,h,e⟩=>by
   have le:(r.filterMap f).length≤r.length:=List.length_filterMap_le ..;rcases List.mem_cons.mp h with z | z
   · subst z;rw [List.filterMap_cons_none e,List.length_cons]; omega
   · have:=aB4 ⟨x,z,e⟩;cases ea:f a with
     | none=>rw [List.filterMap_cons_none ea,List.length_cons]; omega
     | some b=>rw [List.filterMap_cons_some ea,List.length_cons,List.length_cons]; omega
theorem aCx (K:Kn X E T k C) {ts:List Expr} {kt:Nat} {pt:Pos} {v:Expr} (hv:ZK v=true) (h:ts.any (aFu C)=true):swappedStores [.Tuple ts kt pt] v X.env=pure none:=by
 cases v with
 | Tuple vs kv pv =>
   unfold swappedStores;dsimp only;split
   · rfl
   · split
     · rfl
     · rw [if_pos ?_];obtain ⟨x,hx,hc⟩:=List.any_eq_true.mp h;rw [Bool.or_eq_true];refine .inl ?_;rw [bne_iff_ne];refine Nat.ne_of_lt (aB4 ⟨x,hx, ?_⟩);cases x with
       | Name y p =>
         dsimp only;rw [if_neg];intro z;rw [Bool.and_eq_true] at z;have e1:X.env.kindOf y=C.names.lookup y:=by unfold Env.kindOf; rw [K.nm]
         rw [e1] at z;have hc:(!(C.names.lookup y == some NameKind.local))=true:=hc;rw [z.1] at hc;cases hc
       | _=>cases hc
 | _=>cases hv
noncomputable def RS (C:Cfg):Expr→Bool
 | .ListComp .. =>true
 | .List .. =>true
 | .Name x _=>C.ls.contains x
 | _=>false
noncomputable def yS (n:Nat) (C:Cfg) (s:Stmt):Option CS:=match s with
 | .Assign [.Tuple gs kt pt] v pos=>if RS C v && C.cm then (cE n C false v).bind fun v'=>(cGs n C gs).bind fun g'=>some (.asg (.gl gs.length g') v')
     else if ZK v && gs.any (aFu C) && C.cm then (cE n C false v).bind fun v'=>(cGs n C gs).bind fun g'=>some (.asg (.gt gs.length g') v') else none
 | .Assign [.Name x px] (.ListComp elt gens sc vp) pos=>if TJ C x && C.names.lookup x == some .cell then (slot C.N x).bind fun i=>(cE n C (C.M.contains x) (.ListComp elt gens sc vp)).bind fun v'=>some (.asg (.gn i) v') else none
 | .Raise (some (.Call (.Name x _) [e] [] _)) none _=>(match C.xcl.lookup x with
     | some y=>if C.rz && glB C x && kN x && !cR e && C.cm then (cE n C false e).bind fun e'=>some (.ex (.cal y (.cons e' .nil))) else none
     | none=>none)
 | _=>none
noncomputable def CM:List Expr→Option (List (Str×Pos))
 | []=>some []
 | .Name x p :: r=>(CM r).map ((x,p) :: ·)
 | _ :: _=>none
noncomputable def clB (C:Cfg):Expr→Bool
 | .Tuple es _ _=>(match CM es with
   | some l=>l.map (·.1) == C.cln && l.all (fun q=>glB C q.1 && kN q.1) && decide (l.length≤100)
   | none=>false)
 | .Name x _=>[x] == C.cln && glB C x && kN x
 | _=>false
noncomputable def aC9 (C:Cfg) (x:Str):Bool:=C.names.lookup x == some .local && kN x
theorem HD {X:Cx} {E:Ev} {T:Tb} {k:Nat} {C:Cfg} (K:Kn X E T k C) {x:Str} {px vp:Pos} {l:Nat} {elt:Expr} {gens:List Comprehension} {sc:Scope} (c3:(C.names.lookup x == some .cell)=true) :
   swapsWithSole [.Name x px] (.ListComp elt gens sc vp) l X.env=pure false:=by
 unfold swapsWithSole swapsWith;dsimp only;have e1:X.env.kindOf x=C.names.lookup x:=by unfold Env.kindOf; rw [K.nm]
 rw [AN K,e1,beq_iff_eq.mp c3];rfl
mutual
noncomputable def cS:Nat→Cfg→Stmt→Option CS
 | 0,_,_=>none
 | n + 1,C,s=>match yS n C s with
 | some c=>some c
 | none => match s with
   | .Expr e _=>(match e with
     | .Constant (.str _) _ _=>some .nil
     | e=>if sZ e then none else (cE n C false e).bind fun e'=>some (.ex e'))
   | .Pass _=>some .nil
   | .Try b hs o f _=>(match hs,o,f with
     | [.ExceptHandler (some t) (some m) (s0 :: ss) _],[],[]=>if C.tr && C.hs && aC9 C m && clB C t then
         (slot C.N m).bind fun j=>(cSs n C.inT b).bind fun b'=>(cSs n C.inH (s0 :: ss)).bind fun h'=>some (.trh b' j h' C.cat) else none
     | _,_,_=>none)
   | .Raise .. =>some .nev
   | .Return o _=>(match o with
     | none=>some .retN
     | some e=>(cE n C C.rm e).bind fun e'=>some (.ret e'))
   | .If c a b _=>(cT n C c).bind fun c'=>(cSs n C a).bind fun a'=>(cSs n C b).bind fun b'=>some (.iff c' a' b')
   | .While c b o _=>(match o with
     | []=>(cT n C c).bind fun c'=>some (.wh c' ((cSs n C b).getD .nev))
     | _=>none)
   | .For tg it b o _=>(match o with
     | []=>if pN it || !C.cm then none else (cI n C tg it).bind fun i'=>(cG n C tg).bind fun g'=>(cSs n C b).bind fun b'=>some (.fr g' i' b')
     | _=>none)
   | .Assign ts v pos=>(match ts with
     | [.Name x px]=>if TJ C x then (slot C.N x).bind fun i=>(match v with
         | .ListComp elt gens sc vp=>(match gens with
           | [⟨tg,iter,ifs,0⟩]=>if wY C sc && !pN iter && C.names.lookup x == some .local && px.line == vp.line && !(sc.names.any fun y=>y.1 == x && (y.2 == .local || y.2 == .cell)) then
               (cI n C tg iter).bind fun it'=>(cG n (HE C sc) tg).bind fun tg'=>(cTs n (HE C sc) ifs).bind fun ts'=>(cE n (HE C sc) false elt).bind fun el'=>some (.asg (.gn i) (.cmpr (C.M.contains x) tg' it' ts' el' ((lQ C sc.names).map (·.2))))
             else none
           | _=>none)
         | v=>if sZ v then none else (cE n C (C.M.contains x) v).bind fun v'=>some (.asg (.gn i) v')) else none
     | [.Attribute o f _]=>if sZ v then none else (cE n C false o).bind fun o'=>(cE n C false v).bind fun v'=>some (.fld o' f v')
     | [.Subscript o i _]=>if sZ v || aAA i then none else (cE n C false o).bind fun o'=>(cE n C false i).bind fun i'=>(cE n C false v).bind fun v'=>some (.sub o' i' v')
     | [.Tuple gs kt pt]=>if PQ v then (match gs,v with
         | [.Name x px,.Name y py],.Tuple [a,b] _ _=>if C.names.lookup x == some .local && C.names.lookup y == some .local && py.line == px.line && x != y && !cR a && !cR b && !([a,b].all (constantsAlone 8)) && C.cm then
             (slot C.N x).bind fun i=>(slot C.N y).bind fun j=>(cE n C false a).bind fun a'=>(cE n C false b).bind fun b'=>some (.par i j a' b') else none
         | _,_=>none)
       else if sZ v then none else (cE n C false v).bind fun v'=>(cG n C (.Tuple gs kt pt)).bind fun g'=>some (.asg g' v')
     | _=>none)
   | _=>none
noncomputable def cSs:Nat→Cfg→List Stmt→Option CS
 | 0,_,_=>none
 | n + 1,C,l=>match l with
   | []=>some .nil
   | [s]=>cS n C s
   | s :: t :: r=>(cS n C s).bind fun s'=>(cSs n C (t :: r)).bind fun r'=>some (.seq s' r')
end
theorem rB {e:Expr} {t:Option Expr} {l:Nat} {env:Env} (h:sZ e=false):swapsWith e t l env=pure false:=by
 cases e <;> first | rfl | (cases h)
theorem FU (K:Kn X E T k C) {x:Str} {px vp:Pos} {l:Nat} {elt:Expr} {gens:List Comprehension} {sc:Scope} (c3:(C.names.lookup x == some .local)=true) (c4:(px.line == vp.line)=true) (c5:(!(sc.names.any fun y=>y.1 == x && (y.2 == .local || y.2 == .cell)))=true) :
   swapsWith (.ListComp elt gens sc vp) (some (.Name x px)) l X.env=pure true:=by
 unfold swapsWith;dsimp only;have e1:X.env.kindOf x=C.names.lookup x:=by unfold Env.kindOf; rw [K.nm]
 rw [AN K,e1,c3];have e2:(!(sc.names.any fun (n,k)=>n == x && (k == .local || k == .cell)))=true:=by rw [←c5]
 show pure (true && true && (px.line == vp.line) && !(sc.names.any fun (n,k)=>n == x && (k == .local || k == .cell)))=pure true;rw [c4,e2]; rfl
theorem mP {e t:Expr} {l:Nat} {env:Env} (h:sZ e=false):swapsWithSole [t] e l env=pure false:=rB h
theorem aAB {o i:Expr} {pos':Pos} {env:Env} (h:aAA i=false) (v:Value):assign (.Subscript o i pos') env v=(do
     let ov ←holding [v] (eval o env)
     let iv ←holding [v,ov] (eval i env)
     standAt pos'
     holding [v,ov,iv] (setItem ov iv v)
     release [v,ov,iv] []):=by
 cases i <;> first | rfl | (cases h)
theorem KE {gs:List Expr} {kt:Nat} {pt:Pos} {v:Expr} {l:Nat} {env:Env} (h:RS C v=true):swapsWithSole [.Tuple gs kt pt] v l env=pure false:=by
 cases v <;> first | rfl | (cases h)
theorem UV {gs:List Expr} {kt:Nat} {pt:Pos} {v:Expr} {l:Nat} {env:Env} (h:ZK v=true):swapsWithSole [.Tuple gs kt pt] v l env=pure false:=by
 cases v <;> first | rfl | (cases h)
theorem OP {v:Expr} (h:RS C v=true):¬PQ v=true:=by
 cases v <;> first | (intro z; cases z; done) | (cases h)
structure Sns (E:Ev) (T:Tb) (k:Nat) (n:Nat):Prop where
 s:∀ X C s c,Kn X E T k C→cS n C s=some c→JS X E s (wpS T c)
 ss:∀ X C s c,Kn X E T k C→cSs n C s=some c→JSs X E s (wpS T c)
theorem aCN {n:Nat} (S:Sns E T k n):∀ X C l c,Kn X E T k C→cSs (n + 1) C l=some c→JSs X E l (wpS T c):=by
 intro X C l c K h;unfold cSs at h;split at h
 · cases h; exact aEk
 · exact aEi (S.s X C _ c K h)
 · obtain ⟨s',h1,h⟩:=bnd h;obtain ⟨r',h2,h⟩:=bnd h;cases h;exact aCQ (S.s X C _ s' K h1) (S.ss X C _ r' K h2)
theorem aDd (K:Kn X E T k C) (hz:C.rz=true) (h40:40≤k) {x y:Str} {np cpos pos:Pos} {e:Expr} {e':CE} (F0:aGa X.prog X.w X.K X.mg X.base E T k x y) (hg:glB C x=true) (hp:kN x=true) (hs:cR e=false) (he:JE X E e (wpE T e')) :
   JS X E (.Raise (some (.Call (.Name x np) [e] [] cpos)) none pos) (wpS T (.ex (.cal y (.cons e' .nil)))):=fun F=>by
 obtain ⟨EX,hx,kx⟩:=K.xk hz;rcases F0 with ⟨c,f,fd,ps,Bn,fld,D,hm,Fi,hb,hT⟩ | F0
 · refine PS.imp (LI D (K.gl hg) hm (kX hp).1 Fi (K.pl.room.hd (Nat.le_succ_of_le h40)) K.pl.room hb (he F) hx (aX hs)) fun D0 σ H zz=>?_;obtain ⟨σ',Z,G,D',rs,S,h,kd⟩:=zz;rw [wpS,wpE,wpL] at h;refine ⟨σ',Z,G,_,rs,S,h,fun v u Z1 G1 H1 s1 S1 r1 q d hd=>?_⟩;rw [wpL] at q;obtain ⟨v',e1,q⟩:=hT _ _ _ q;cases e1;exact kx c [fld] [v] (some d) [u] (upd Z1 d (.xd [(fld,u)])) G1 _ (S1.z0.trans (bB (S1.zn hd) _)) (S1.fz hd).weakF rfl ⟨u,[],rfl,r1.mono (bB (S1.zn hd) _),rfl⟩ (fun dd z=>by cases z; exact aJ) (fun z=>by cases z) q
 · exact F0.elim
theorem UZ:∀ {es:List Expr} {l:List (Str×Pos)},CM es=some l→es=l.map fun q=>Expr.Name q.1 q.2
 | [],l,h=>by cases h; rfl
 | e :: r,l,h=>by
   unfold CM at h;split at h
   · rename_i e0; cases e0
   · rename_i x p r' e0;cases e0;cases hr:CM r with
     | none=>rw [hr] at h; cases h
     | some l' =>
       rw [hr] at h;cases h;rw [UZ hr];rfl
   · cases h
theorem xN:∀ {l:List (Str×Pos)} {cs:List Addr},l.length=cs.length→l=(l.zip cs).map (fun q=>(q.1.1,q.1.2))∧cs=(l.zip cs).map (·.2)
 | [],[],_=>⟨rfl,rfl⟩
 | a :: l,c :: cs,h=>by
   obtain ⟨h1,h2⟩:=xN (l:=l) (cs:=cs) (by simpa using h);rw [List.zip_cons_cons,List.map_cons,List.map_cons,←h1,←h2];exact ⟨rfl,rfl⟩
theorem MZ (K:Kn X E T k C) (h:C.tr=true) {t:Expr} (hc:clB C t=true):∃ cs,iY X t cs∧(∀ c∈cs,LX.rJ X.K c=true)∧∀ c∈C.cat,LX.nZ X.K (E.cls c) cs=some true:=by
 obtain ⟨cs,hm,hl,hcs,ht,hcat⟩:=K.tf.ca h;refine ⟨cs, ?_,fun c z=>(hcs c z).1,hcat⟩;unfold clB at hc;split at hc
 · rename_i es k0 p0;split at hc
   · rename_i l hn;simp only [Bool.and_eq_true,beq_iff_eq,List.all_eq_true,decide_eq_true_eq] at hc;obtain ⟨⟨h1,h2⟩,h3⟩:=hc;have hl2:l.length=cs.length:=by rw [←hl,←h1,List.length_map]
     obtain ⟨z1,z2⟩:=xN hl2;have ee:es=((l.zip cs).map fun q=>((q.1.1,q.1.2,q.2):Str×Pos×Addr)).map fun q=>Expr.Name q.1 q.2.1:=by
       rw [UZ hn,List.map_map];conv=>lhs; rw [z1]
       rw [List.map_map]; rfl
     have ec:cs=((l.zip cs).map fun q=>((q.1.1,q.1.2,q.2):Str×Pos×Addr)).map (·.2.2):=by
       rw [List.map_map]; exact z2
     have cl:iY X (.Tuple (((l.zip cs).map fun q=>((q.1.1,q.1.2,q.2):Str×Pos×Addr)).map fun q=>Expr.Name q.1 q.2.1) k0 p0) (((l.zip cs).map fun q=>((q.1.1,q.1.2,q.2):Str×Pos×Addr)).map (·.2.2)):=by
       refine .tup (fun q hq=>?_) ?_
       · obtain ⟨⟨⟨x,p⟩,c⟩,hq0,rfl⟩:=List.mem_map.mp hq;have h4:=h2 (x,p) (List.of_mem_zip hq0).1;refine ⟨K.gl h4.1,hm (x,c) ?_,(kX h4.2).1⟩;rw [←h1];have:=List.mem_map_of_mem (f:=fun q:(Str×Pos)×Addr=>(q.1.1,q.2)) hq0;have e:(l.zip cs).map (fun q=>(q.1.1,q.2))=(l.map (·.1)).zip cs:=by rw [List.zip_map_left]; rfl
         rw [←e]; exact this
       · rw [List.length_map,List.length_zip,←hl2,Nat.min_self];have:(100:Nat)≤sizeLine:=by rw [sizeLine_eq]; decide
         omega
     rw [←ee,←ec] at cl;exact cl
   · cases hc
 · rename_i x p0;simp only [Bool.and_eq_true,beq_iff_eq] at hc;obtain ⟨⟨h1,h2⟩,h3⟩:=hc;rw [←h1] at hm hl
   match cs,hl,hm,hcs with
   | [c],_,hm,hcs=>exact .one (K.gl h2) (hm (x,c) (wDq ..)) (kX h3).1 (hcs c (wDq ..)).2 ht
 · cases hc
theorem aDA {n:Nat} (S0:∀ k E T,Sns E T k n) (K:Kn X E T k C) (htr:C.tr=true) (hhs:C.hs=true) {t:Expr} {m:Str} {hp pos:Pos} {b ss:List Stmt} {s0:Stmt} {b' h':CS} {j:Nat} (hj:slot C.N m=some j) (hlm:aC9 C m=true) (hc:clB C t=true) (hb:cSs n C.inT b=some b') (hh:cSs n C.inH (s0 :: ss)=some h') :
   JS X E (.Try b [.ExceptHandler (some t) (some m) (s0 :: ss) hp] [] [] pos) (wpS T (.trh b' j h' C.cat)):=by
 rintro F pins s σ H D I ⟨σ',Z,G,D',rs,S,h,kd⟩;rw [wpS] at h;have ow:=K.ow (.inr htr);obtain ⟨cs,cl,hcs,hcat⟩:=MZ K htr hc;obtain ⟨kh,k1,k2,gh⟩:=K.tf.hh htr hhs;have hN:X.N=C.N:=K.N;have lm:X.env.scope.names.lookup m=some .local:=by rw [K.nm]; unfold aC9 at hlm; exact beq_iff_eq.mp (Bool.and_eq_true_iff.mp hlm).1
 have pm:=kX (Bool.and_eq_true_iff.mp hlm).2;have hlen:σ'.length=X.N.length:=by rw [rs.length]; exact I.len
 generalize hx0:(fun c ns xs G1=>c∈C.cat∧wpS T h' ⟨fun σ2 G2=>D'.nx (σ2.set j none) G2,D'.rt,fun σ2 G2=>D'.bk (σ2.set j none) G2,fun σ2 G2=>D'.ct (σ2.set j none) G2⟩ ((List.replicate σ'.length none).set j (some (.exc c ns xs))) G1:PX)=x0 at h
 let EX:XK:=fun Cv d H1=>∃ c ns xs vs Z1 G1,Cv= .ref (E.cls c)∧aN Z Z1∧Sim (E.at F Z) F H1 Z1 G1∧ns.length=vs.length∧RPs E Z1 xs vs∧(∀ dd,d=some dd→Z1 dd=some (.xd (ns.zip vs)))∧(d=none→ns=[])∧WkX x0 c ns xs G1
 have ow':Own (X.pin pins):=⟨ow.st,ow.fr⟩;have K':Kn ((X.pin pins).wish (xeO (X.pin pins) EX)) (E.at F Z) (T.at (WkX x0)) k C.inT:=by
   refine ⟨⟨K.pl.hK,K.pl.calm,K.pl.room,⟨K.pl.cls.own,K.pl.cls.plain,K.pl.cls.other,K.pl.cls.apart⟩,K.pl.fld⟩,K.N,K.nd,K.nm,K.kd,K.fn,K.ce,aIQ (X:=X.pin pins) ow',K.tf.tr htr _ _ _,(fun _=>⟨ow'.st,ow'.fr⟩),(fun _=>⟨EX,by rintro e s' ⟨a,C0,d,σ1,H1,ee,J,x1,q⟩;exact ⟨a,C0,d,σ1,H1,ee,J.unwish,x1,q⟩, ?_⟩),⟨K.xi.xi,K.xi.fx⟩,K.cm,K.gu,⟨(fun z=>by cases z),(fun z=>by cases z),(fun z=>by cases z)⟩⟩;intro c ns xs d vs Z1 G1 H1 s1 S1 l r hd hn q;exact ⟨c,ns,xs,vs,Z1,G1,rfl,s1,S1,l,r.un,hd,hn,q⟩
 have hbj:=(S0 k (E.at F Z) (T.at (WkX x0))).ss _ C.inT b b' K' hb F;refine aGi ow I (EX:=EX) (j:=j) (by rw [hN]; exact K.nd) (by rw [hN]; exact dF hj) lm cl hcs hbj ⟨σ',Z,G,D',rs.at,S.at,h, ?_⟩ ?_
 · exact ⟨fun a b Z1 G1 H1 s1 S1 r q=>kd.nx a b Z1 G1 H1 s1 (S.un (F1:=F) S1) r.un q,fun a b Z1 G1 H1 s1 S1 r q=>kd.rt a b Z1 G1 H1 s1 (S.un (F1:=F) S1) r.un q,fun a b Z1 G1 H1 s1 S1 r q=>kd.bk a b Z1 G1 H1 s1 (S.un (F1:=F) S1) r.un q,fun a b Z1 G1 H1 s1 S1 r q=>kd.ct a b Z1 G1 H1 s1 (S.un (F1:=F) S1) r.un q⟩
 · rintro Cv d H1 ⟨c,ns,xs,vs,Z1,G1,rfl,s1,S1,l,r,hd,hn,G2,hG,q⟩;rw [←hx0] at q;obtain ⟨hcc,q⟩:=q;refine ⟨_,rfl,hcat c hcc,fun a ha=>?_⟩;have KH:Kn ((X.pin pins).mk2 (.ref a)) E T kh C.inH:=by
     refine ⟨⟨K.pl.hK,(fun z=>absurd z (by omega)), ?_,⟨K.pl.cls.own,K.pl.cls.plain,K.pl.cls.other,K.pl.cls.apart⟩,K.pl.fld⟩,K.N,K.nd,K.nm,K.kd,K.fn,K.ce,PassesOwn.never,gh,(fun z=>by rcases z with z | z <;> cases z),(fun z=>by cases z),⟨K.xi.xi,K.xi.fx⟩,(fun z=>by cases z),K.gu,⟨(fun z=>by cases z),(fun z=>by cases z),(fun z=>by cases z)⟩⟩;have R0:=K.pl.room.mono (j:=kh + 1) (by omega);exact ⟨(fun z=>absurd z (by omega)),R0.dp,R0.un,R0.gd⟩
   have S2:=((S.un (F1:=F) S1).weak hG).fz (o:=.ext (XC a (.ref (E.cls c)) d)) ha;have zn:Z1 a=none:=(S.un (F1:=F) S1).zn ha;have rp:RP E (upd Z1 a (.ext (XC a (.ref (E.cls c)) d))) (.exc c ns xs) (.ref a):=⟨a,d,vs,rfl,aJ,l,(fun dd z=>by rw [aC (aH (hd dd z) zn)]; exact hd dd z),hn,r.mono (bB zn _)⟩;refine ⟨_,(S0 kh E T).ss _ C.inH _ h' KH hh F, ?_⟩;refine ⟨(List.replicate σ'.length none).set j (some (.exc c ns xs)),_,_,_, ?_,S2,q, ?_⟩
   · rw [hlen]; exact (RSt.nones _).set rp j
   · have s2:=s1.trans (bB zn (.ext (XC a (.ref (E.cls c)) d)));exact ⟨fun a b Z2 G2 H2 s3 S3 r3 q3=>kd.nx _ _ Z2 G2 H2 (s2.trans s3) S3 (RSt.unset j r3) q3,fun a b Z2 G2 H2 s3 S3 r3 q3=>kd.rt a b Z2 G2 H2 (s2.trans s3) S3 r3 q3,fun a b Z2 G2 H2 s3 S3 r3 q3=>kd.bk _ _ Z2 G2 H2 (s2.trans s3) S3 (RSt.unset j r3) q3,fun a b Z2 G2 H2 s3 S3 r3 q3=>kd.ct _ _ Z2 G2 H2 (s2.trans s3) S3 (RSt.unset j r3) q3⟩
theorem aIc {n:Nat} (S0:∀ k E T,Sns E T k n) (S:Sns E T k n):∀ X C l c,Kn X E T k C→cS (n + 1) C l=some c→JS X E l (wpS T c):=by
 intro X C l c K h;have R:Snd E T k n:=snd n;unfold cS at h;split at h
 · rename_i c2 hx;cases h;unfold yS at hx;split at hx
   · split at hx
     · rename_i hl;obtain ⟨hl,hcm⟩:=Bool.and_eq_true_iff.mp hl;obtain ⟨v',h1,hx⟩:=bnd hx;obtain ⟨g',h2,hx⟩:=bnd hx;cases hx;obtain ⟨ga,gb⟩:=R.gs X C _ g' K h2;obtain ⟨l1,l2⟩:=sT (env:=X.env) gb;exact tS (R.e X C _ _ v' K h1) (aDN K.pl (Nat.le_succ_of_le (K.cm hcm)) ga l1 l2) (KE hl) (SQ (OP hl)) rfl
     · split at hx
       · rename_i hl;obtain ⟨hl,hcm⟩:=Bool.and_eq_true_iff.mp hl;obtain ⟨hl1,hl2⟩:=Bool.and_eq_true_iff.mp hl;obtain ⟨v',h1,hx⟩:=bnd hx;obtain ⟨g',h2,hx⟩:=bnd hx;cases hx;obtain ⟨ga,gb⟩:=R.gs X C _ g' K h2;obtain ⟨l1,l2⟩:=sT (env:=X.env) gb;exact tS (R.e X C _ _ v' K h1) (TR K.pl (Nat.le_succ_of_le (K.cm hcm)) ga l1 l2) (UV hl1) (aCx K hl1 hl2) rfl
       · cases hx
   · split at hx
     · rename_i hc;obtain ⟨c1,c2⟩:=Bool.and_eq_true_iff.mp hc;obtain ⟨l1,l2⟩:=K.loc c1;obtain ⟨i,h1,hx⟩:=bnd hx;obtain ⟨v',h2,hx⟩:=bnd hx;cases hx;exact tS (R.e X C _ _ v' K h2) (zI (by rw [K.N]; exact K.nd) (by rw [K.N]; exact dF h1) l1 l2) (HD K c2) rfl rfl
     · cases hx
   · split at hx
     · rename_i y hy;split at hx
       · rename_i hc;simp only [Bool.and_eq_true,Bool.not_eq_true'] at hc;obtain ⟨⟨⟨⟨hz,hg⟩,hp⟩,hs⟩,hcm⟩:=hc;obtain ⟨e',h1,hx⟩:=bnd hx;cases hx;exact aDd K hz (K.cm hcm) (K.gf.xc _ (aZ hy)) hg hp hs (R.e X C false _ e' K h1)
       · cases hx
     · cases hx
   · cases hx
 split at h
 · split at h
   · cases h; exact aCY
   · split at h
     · cases h
     · rename_i hc;obtain ⟨e',h1,h⟩:=bnd h;cases h;exact aGC (R.e X C false _ e' K h1) (rB (by simpa using hc))
 · cases h; exact ZL
 · split at h
   · split at h
     · rename_i hc;simp only [Bool.and_eq_true] at hc;obtain ⟨⟨⟨htr,hhs⟩,hlm⟩,hcl⟩:=hc;obtain ⟨j,h2,h⟩:=bnd h;obtain ⟨b',h3,h⟩:=bnd h;obtain ⟨h',h4,h⟩:=bnd h;cases h;exact aDA S0 K htr hhs h2 hlm hcl h3 h4
     · cases h
   · cases h
 · cases h; exact aD5
 · split at h
   · cases h; exact aAu
   · obtain ⟨e',h1,h⟩:=bnd h;cases h;exact aEl (R.e X C C.rm _ e' K h1)
 · obtain ⟨c',h1,h⟩:=bnd h;obtain ⟨a',h2,h⟩:=bnd h;obtain ⟨b',h3,h⟩:=bnd h;cases h;exact aGj (R.t X C _ c' K h1) (S.ss X C _ a' K h2) (S.ss X C _ b' K h3)
 · split at h
   · obtain ⟨c',h1,h⟩:=bnd h;cases h;refine aGh K.ps (R.t X C _ c' K h1) ?_;cases h2:cSs n C _ with
     | none=>exact aAD
     | some b'=>exact S.ss X C _ b' K h2
   · cases h
 · split at h
   · split at h
     · cases h
     · rename_i hs;obtain ⟨hs,hcm⟩:=or2 hs;have hcm:C.cm=true:=by simpa using hcm
       obtain ⟨i',h1,h⟩:=bnd h;obtain ⟨g',h2,h⟩:=bnd h;obtain ⟨b',h3,h⟩:=bnd h;cases h;exact aEr K.pl (Nat.le_succ_of_le (K.cm hcm)) K.ps (R.i X C _ _ i' K h1) (R.g X C _ g' K h2) (S.ss X C _ b' K h3) (pS (by simpa using hs))
   · cases h
 · split at h
   · split at h
     · rename_i hl;obtain ⟨i,h1,h⟩:=bnd h;obtain ⟨l1,l2⟩:=K.loc hl;split at h
       · split at h
         · split at h
           · rename_i hc;rw [Bool.and_eq_true,Bool.and_eq_true,Bool.and_eq_true,Bool.and_eq_true] at hc;obtain ⟨⟨⟨⟨c1,c2⟩,c3⟩,c4⟩,c5⟩:=hc;obtain ⟨it',g1,h⟩:=bnd h;obtain ⟨tg',g2,h⟩:=bnd h;obtain ⟨ts',g3,h⟩:=bnd h;obtain ⟨el',g4,h⟩:=bnd h;cases h;obtain ⟨cl,B,KB⟩:=K.block c1;refine aA3 B K.pl (Nat.le_succ_of_le (K.cm (WH c1))) (by rw [K.N]; exact K.nd) (by rw [K.N]; exact dF h1) (by rw [K.nm]; exact beq_iff_eq.mp c3) (R.i X C _ _ it' K g1) (fun C0 s₀ H₀ ex=>R.g _ _ _ tg' (KB C0 s₀ H₀ ex) g2) (fun C0 s₀ H₀ ex=>R.ts _ _ _ ts' (KB C0 s₀ H₀ ex) g3) (fun C0 s₀ H₀ ex=>R.e _ _ false _ el' (KB C0 s₀ H₀ ex) g4) ?_ (pS (by simpa using c2));exact FU K c3 c4 c5
           · cases h
         · cases h
       · split at h
         · cases h
         · rename_i hc;obtain ⟨v',h2,h⟩:=bnd h;cases h;exact tS (R.e X C _ _ v' K h2) (zI (by rw [K.N]; exact K.nd) (by rw [K.N]; exact dF h1) l1 l2) (mP (by simpa using hc)) rfl rfl
     · cases h
   · split at h
     · cases h
     · rename_i hc;obtain ⟨o',h1,h⟩:=bnd h;obtain ⟨v',h2,h⟩:=bnd h;cases h;exact aDO K.pl (R.e X C _ _ o' K h1) (R.e X C _ _ v' K h2) (rB (by simpa using hc))
   · split at h
     · cases h
     · rename_i hc;obtain ⟨hc1,hc2⟩:=or2 hc;obtain ⟨o',h1,h⟩:=bnd h;obtain ⟨i',h2,h⟩:=bnd h;obtain ⟨v',h3,h⟩:=bnd h;cases h;exact aCO (R.e X C _ _ v' K h3) (R.e X C _ _ o' K h1) (R.e X C _ _ i' K h2) (aAB hc2) (mP hc1) rfl
   · split at h
     · split at h
       · split at h
         · rename_i hc;simp only [Bool.and_eq_true,Bool.not_eq_true',beq_iff_eq,bne_iff_ne,ne_eq] at hc;obtain ⟨⟨⟨⟨⟨⟨⟨c1,c2⟩,c3⟩,c4⟩,c5⟩,c6⟩,c7⟩,hcm⟩:=hc;obtain ⟨i,g1,h⟩:=bnd h;obtain ⟨j,g2,h⟩:=bnd h;obtain ⟨a',g3,h⟩:=bnd h;obtain ⟨b',g4,h⟩:=bnd h;cases h;have ij:i≠j:=fun e=>by
             subst e;have a1:=dF g1;have a2:=dF g2;rw [a1] at a2;exact c4 (Option.some.inj a2)
           exact aDl K.pl (Nat.le_succ_of_le (K.cm hcm)) (by rw [K.N]; exact K.nd) (by rw [K.N]; exact dF g1) (by rw [K.N]; exact dF g2) ij (by rw [K.nm]; exact c1) (by rw [K.nm]; exact c2) (R.e X C _ _ a' K g3) (R.e X C _ _ b' K g4) (aX c5) (aX c6) (aDa K c1 c2 c3 c4 c5 c6 (by have hf:= ‹PQ _=true›; unfold PQ at hf; exact Bool.not_eq_true' _▸hf) c7) rfl
         · cases h
       · cases h
     · rename_i hf;split at h
       · cases h
       · rename_i hc;obtain ⟨v',h1,h⟩:=bnd h;obtain ⟨g',h2,h⟩:=bnd h;cases h;exact tS (R.e X C _ _ v' K h1) (R.g X C _ g' K h2) (mP (by simpa using hc)) (SQ hf) rfl
   · cases h
 · cases h
theorem sns:∀ n k E T,Sns E T k n
 | 0,_,_,_=>⟨(fun X C s c K h=>by unfold cS at h; cases h),(fun X C s c K h=>by unfold cSs at h; cases h)⟩
 | n + 1,k,E,T=>⟨aIc (sns n) (sns n k E T),aCN (sns n k E T)⟩
end
structure bJ (K:W.Frag) (x qual:Str) (st:Stmt) (dV:Value) (f:Addr) (fd:FuncData):Prop where
 ex :∃ (oc:Value) (od:Option Addr) (kV doc pm:Value) (an:Option Addr) (cdv ct:Value) (osl:Array (Option Value)),
   fd=W.fnOf x qual (gM st) (aD st) (aB st) dV kV doc pm an cdv ct∧K.lookup f=some ⟨oc,od,.func fd,osl⟩∧W.codeIn K cdv qual=true
 kp:W.keepIn K (.ref f)=true
noncomputable def Wk (Q:PK1):PK1:=fun x G=>∃ G2:Gh,(∀ a o,G2 a=some o→G a=some o)∧(Q x G2∨∃ p xs,x= .ref p∧G2 p=none∧G p=some (.lst xs)∧Q (.lst xs) G2)
theorem Wk.here {Q:PK1} {x:PV} {G:Gh} (q:Q x G):Wk Q x G:=⟨G,fun _ _ z=>z,.inl q⟩
theorem Wk.of {Q:PK1} {x:PV} {G G2:Gh} (q:Q x G2) (h:∀ a o,G2 a=some o→G a=some o):Wk Q x G:=⟨G2,h,.inl q⟩
theorem QB {E:Ev} {F Z Z1 H1:Hp} {G1:Gh} {Q':PK1} {Q:VK} {y:PV} {v:V} (kq:Kq E F Z Q' Q) (s1:aN Z Z1) (S1:Sim E F H1 Z1 G1) (r1:RP E Z1 y v) (w:Wk Q' y G1):Q v H1:=by
 obtain ⟨G2,hG,q1 | ⟨p,xs,e,n,hp,q1⟩⟩:=w
 · exact kq _ _ _ _ _ s1 (S1.weak hG) r1 q1
 · subst e;have e:v= .ref p:=r1;subst e;obtain ⟨z,o',ho,vs,e,t⟩:=S1.g _ _ hp;subst e;refine kq _ _ _ _ _ (s1.trans (bB z _)) ((S1.frz hp ho).weak fun a o q=>?_) (gQ z t) q1;by_cases ea:a=p
   · subst ea; rw [n] at q; cases q
   · rw [yK ea]; exact hG a o q
noncomputable def aQ (Q:PK1):dY:=⟨fun _ G=>Wk Q .non G,Wk Q,fun _ _=>False,fun _ _=>False⟩
structure aR (st:Stmt) (ps:List Str) (C:Cfg):Prop where
 sc:yY C.N ps (aB st)
 nm:(aB st).names=C.names
 bk:C.blk=false
structure Ck (K:W.Frag) (E:Ev) (T:Tb):Prop where
 hK:E.K=K
 cls:WY E T.cs
 fld:∀ c f,(c,f)∈T.fl→Cls K (E.cls c)∧eA K (E.cls c) f
structure Xo (K:W.Frag) (mg:Str→Option Value) (E:Ev) (T:Tb):Prop where
 xi:∀ c n r,(c,n,r)∈T.xi→XAt K (E.cls c)∧((∃ a,mg n=some (.ref a)∧W.kitOne K (.ref (E.cls c)) (.ref a)=some r)∨∃ t,mg n=none∧bootBuiltins n=some (.type t)∧n≠"__name__"∧W.kitOne K (.ref (E.cls c)) (.type t)=some r)
 fx:∀ c f,(c,f)∈T.fx→XAt K (E.cls c)∧W.findIn K (.ref (E.cls c)) f=some none
theorem Xo.no {K:W.Frag} {mg:Str→Option Value} {E:Ev} {T:Tb} (h1:T.xi=[]) (h2:T.fx=[]):Xo K mg E T:=⟨(fun c n r h=>by rw [h1] at h; cases h),(fun c f h=>by rw [h2] at h; cases h)⟩
theorem Tf.no {P:Program} {w:World} {K:W.Frag} {mg:Str→Option Value} {base:Heap} {E:Ev} {T:Tb} {k:Nat} {C:Cfg} (h:C.tr=false):Tf P w K mg base E T k C:=⟨(fun z=>by rw [h] at z; cases z),(fun z=>by rw [h] at z; cases z),(fun z=>by rw [h] at z; cases z)⟩
theorem aT {P:Program} {w:World} {K:W.Frag} {mg:Str→Option Value} {base:Heap} {E:Ev} {T:Tb} {k n:Nat} {C:Cfg} {x qual:Str} {st:Stmt} {dV:Value} {f:Addr} {fd:FuncData} {ps:List Str} {sp:Sp3} {code:CS}
   (F:bJ K x qual st dV f fd) (D:aR st ps C) (ck:Ck K E T) (gf:Gf P w K mg base E T k C) (hc:cSs n C (aD st)=some code) (xo:Xo K mg E T) (tf:Tf P w K mg base E T k C) (hz:C.rz=false) (hcm:C.cm=true→40≤k) (hrp:C.rp=true→79≤k)
   (len:∀ xs G Q,sp xs G Q→xs.length=ps.length) (hw:∀ xs G Q,sp xs G Q→wpS T code (aQ Q) (aF C.N.length xs) G):bP P w K mg base CX0 (k + 2) f fd ps (jC E sp):=by
 obtain ⟨oc,od,kV,doc,pm,an,cdv,ct,osl,e,lk,hcd⟩:=F.ex;subst e;refine aG4 lk hcd D.sc (by rintro vs H Q E' ⟨xs,Z,G,F',Q',r,S,q,kq⟩;rw [←r.length]; exact len xs G Q' q) fun A outer s H vs Q E' hr hsp=>?_;obtain ⟨xs,Z,G,F',Q',r,S,q,kq⟩:=hsp;have kn:Kn (LV CX0 P w K mg base C.N qual (aB st) f cdv A outer s H E').nox E T k C:=by
   refine ⟨⟨ck.hK,(fun z=>Option.isNone_iff_eq_none.mpr (hr.hd z)),hr,ck.cls,ck.fld⟩,rfl,D.sc.nd,D.nm,D.sc.kind,fun _ _=>rfl,fun y hy=>?_,PassesOwn.never,gf,fun _=>⟨rfl,rfl⟩,(fun z=>by rw [hz] at z; cases z),⟨xo.xi,xo.fx⟩,hcm,(fun z=>hr.gd (Nat.succ_le_succ (hrp z))),tf⟩;exact tQ (n:=s.heap.objs.size + 1) (by rw [D.nm]; exact hy)
 have js:=(sns n k E T).ss _ C _ code kn hc F';refine ⟨_,js.nox,aF C.N.length xs,Z,G,aQ Q',RSt.start r,S,hw xs G Q' q,⟨?_, ?_, ?_, ?_⟩⟩
 · rintro σ1 σ2 Z1 G1 H1 s1 S1 rs1 w;exact QB kq s1 S1 pM w
 · rintro y v Z1 G1 H1 s1 S1 r1 w;exact QB kq s1 S1 r1 w
 · rintro σ1 σ2 Z1 G1 H1 s1 S1 rs1 z; exact z
 · rintro σ1 σ2 Z1 G1 H1 s1 S1 rs1 z; exact z
def AG:Sp3:=fun xs G Q=>∃ ns:List Int,xs=[.scr ns]∧ns.length≤63∧∀ G',Q (.bl true) G'
noncomputable def II (K:W.Frag):Sp:=fun vs H Q _=>∃ (p:Addr) (ns:List Int),vs=[.ref p]∧SqL K H p (ns.map V.int)∧ns.length≤63∧∀ H',Q (.bl true) H'
theorem aEN {E:Ev} {vs:List V} {H:Hp} {Q:VK} {X:XK} (h0:aN E.z0 H) (hf:aN E.f0 fun _=>none) (h:II E.K vs H Q X):jC E AG vs H Q X:=by
 obtain ⟨p,ns,e,hS,hl,q⟩:=h;subst e;refine ⟨[.scr ns],H,fun _=>none,fun _=>none,fun x _=>x= .bl true,⟨.ref p,[],rfl,⟨p,rfl,hS⟩,rfl⟩,⟨aN.refl H,(fun a o z=>nomatch z),(fun a o z=>nomatch z),h0,hf⟩,⟨ns,rfl,hl,fun _=>rfl⟩, ?_⟩;intro x v Z1 G1 H1 s1 S1 r1 e;subst e;have e:v= .bl true:=r1;subst e;exact q H1
theorem NE {K:W.Frag} {H:Hp} {a:Addr} {ns:List Int} (hl:ns.length≤63) (_:QN H) (h:SqL K H a (ns.map V.int)):II K [.ref a] H (fun v _=>v= .bl true) fun _ _ _=>False:=⟨a,ns,rfl,h,hl,fun _=>rfl⟩
theorem ZU {K:W.Frag} {x qual:Str} {st:Stmt} {f:Addr} {oc:Value} {od an:Option Addr} {osl:Array (Option Value)} {dV kV doc pm cdv ct:Value} (l:K.lookup f=some ⟨oc,od,.func (W.fnOf x qual (gM st) (aD st) (aB st) dV kV doc pm an cdv ct),osl⟩)
   (c:W.codeIn K cdv qual=true) (k:W.keepIn K (.ref f)=true):bJ K x qual st dV f (W.fnOf x qual (gM st) (aD st) (aB st) dV kV doc pm an cdv ct):=⟨⟨oc,od,kV,doc,pm,an,cdv,ct,osl,rfl,l,c⟩,k⟩
theorem bJ.binds {K:W.Frag} {x qual:Str} {st:Stmt} {dV:Value} {f:Addr} {fd:FuncData} {ps:List Str} (F:bJ K x qual st dV f fd)
   (h:∀ (kV doc pm:Value) (an:Option Addr) (cdv ct:Value) (s:Shared) (us:List Value),K.In s.heap→us.length=ps.length→BindsTo s (W.fnOf x qual (gM st) (aD st) (aB st) dV kV doc pm an cdv ct) ⟨us,[]⟩ (ps.zip us)):L2.aG K fd ps []:=by
 obtain ⟨oc,od,kV,doc,pm,an,cdv,ct,osl,rfl,lk,hcd⟩:=F.ex;intro s us hK hl;rw [List.append_nil] at hl ⊢;exact h kV doc pm an cdv ct s us hK hl
theorem bJ.sh {K:W.Frag} {x qual:Str} {st:Stmt} {dV:Value} {f:Addr} {fd:FuncData} {ps:List Str} {n:Nat} {ks:List Str} {ar:List Ar} (F:bJ K x qual st dV f fd) (hl:ar.length=ps.length)
   (h:∀ (kV doc pm:Value) (an:Option Addr) (cdv ct:Value) (s:Shared) (us ws:List Value),K.In s.heap→us.length=n→ws.length=ks.length→∃ bs,BindsTo s (W.fnOf x qual (gM st) (aD st) (aB st) dV kV doc pm an cdv ct) ⟨us,ks.zip ws⟩ (ps.zip bs)∧∀ vs zs,aM vs us→aM zs ws→aM (ar.map (Ar.valV (vs ++ zs))) bs):lW K fd ps n ks ar:=by
 obtain ⟨oc,od,kV,doc,pm,an,cdv,ct,osl,rfl,lk,hcd⟩:=F.ex;exact ⟨hl,h kV doc pm an cdv ct⟩
theorem ac {α:Type} {P:α→Prop} {x:α} {l:List α} (h:P x) (t:∀ y∈l,P y):∀ y∈x :: l,P y:=List.forall_mem_cons.mpr ⟨h,t⟩
theorem an {α:Type} {P:α→Prop}:∀ y∈([]:List α),P y:=fun _ h=>nomatch h
theorem aDB {E:Ev} {mg:Str→Option Value} {x:Str} {i:Int} {t:Tok} (h:mg x=some (.int i t)):∃ u v,mg x=some u∧aP v u∧RP E (fun _=>none) (.int i) v:=⟨_,.int i,h,⟨t,rfl⟩,rfl⟩
theorem pA {E:Ev} {mg:Str→Option Value} {x:Str} {c:String} {a:Addr} (h:mg x=some (.ref a)) (e:E.cls c=a):∃ u v,mg x=some u∧aP v u∧RP E (fun _=>none) (.cl c) v:=⟨_,.ref a,h,rfl,by rw [←e]; rfl⟩
theorem IY {E:Ev} {K:W.Frag} {mg:Str→Option Value} {x:Str} {a:Addr} {i j:Int} {t u:Tok} {n:Nat} {sl:Array (Option Value)} (hK:E.K=K) (h:mg x=some (.ref a)) (l:K.lookup a=some ⟨.type "tuple",none,.seq #[.int i t,.int j u] n,sl⟩):∃ u v,mg x=some u∧aP v u∧RP E (fun _=>none) (.tup [.int i,.int j]) v :=
 ⟨_,.ref a,h,rfl,a,[.int i,.int j],rfl,.inr ⟨_,_,_,by rw [hK]; exact l,rfl,rfl,by show 2≤sizeLine; decide,.cons ⟨t,rfl⟩ (.cons ⟨u,rfl⟩ .nil),rfl⟩,_,_,rfl,rfl,_,_,rfl,rfl,rfl⟩
theorem YO {E:Ev} {K:W.Frag} {mg:Str→Option Value} {x:Str} {a:Addr} {i j k:Int} {t u v:Tok} {n:Nat} {sl:Array (Option Value)} (hK:E.K=K) (h:mg x=some (.ref a)) (l:K.lookup a=some ⟨.type "tuple",none,.seq #[.int i t,.int j u,.int k v] n,sl⟩):∃ u v,mg x=some u∧aP v u∧RP E (fun _=>none) (.tup [.int i,.int j,.int k]) v :=
 ⟨_,.ref a,h,rfl,a,[.int i,.int j,.int k],rfl,.inr ⟨_,_,_,by rw [hK]; exact l,rfl,rfl,by show 3≤sizeLine; decide,.cons ⟨t,rfl⟩ (.cons ⟨u,rfl⟩ (.cons ⟨v,rfl⟩ .nil)),rfl⟩,_,_,rfl,rfl,_,_,rfl,rfl,_,_,rfl,rfl,rfl⟩
theorem yT {E:Ev} {mg:Str→Option Value} {x:Str} {y z:PV} (h:∃ u v,mg x=some u∧aP v u∧RP E (fun _=>none) y v) (e:z=y):∃ u v,mg x=some u∧aP v u∧RP E (fun _=>none) z v:=e▸h
end L3
namespace L3
open PySem PySem.W PyProof.Rows
theorem aG6 {p q:Program} {loose:List Str} {Xt:Shared→Bool} {α:Type} {Yf:Shared→α} {Ya:World→α} {N:Nat} {g0:Bool} {H₀:Params→Heap} {gs₀:Array GenState} {d₀:Drawn} {k₀ m₀:Nat} {ann:Option Value} {M:Nat}
   (open_:∀ w:World,(fencedOpening treeTable p w N).map (fun s=>(s.heap,s.gens,s.drawn,s.toks))=some (H₀ w.params,gs₀,d₀,k₀))
   (size:∀ w:World,((H₀ w.params).isNs mainGlobals && gs₀.size == 0,(H₀ w.params).objs.size,(H₀ w.params).nsMap mainGlobals "__annotations__")=(true,m₀,ann)) (le:Nat.ble M N=true)
   (run:∀ (w:World) (os:OsState),∃ s₁,topRun treeTable p w m₀ ann M ⟨H₀ w.params,gs₀,d₀,k₀,os⟩ (topStub p)=some s₁∧
     (staticsOk (importedModules p.main.body) (H₀ w.params) s₁.heap && namesBound p s₁.heap && gensDone s₁ && laidKept (H₀ w.params) s₁.heap,openSeen q loose (importedModules p.main.body) Xt g0 s₁,Yf s₁)=(true,openGood q loose,Ya w)):LeftO p q loose Xt Yf Ya N g0:=fun w=>by
 obtain ⟨⟨h,gs,d,k,os⟩,e,e'⟩:=Option.map_eq_some_iff.mp (open_ w);obtain ⟨rfl,rfl,rfl,rfl⟩:h=H₀ w.params∧gs=gs₀∧d=d₀∧k=k₀:=by simpa using e'
 obtain ⟨z1,z2,z3⟩:_∧_∧_:=by simpa only [Prod.mk.injEq] using size w
 obtain ⟨s₁,r,l⟩:=run w os;obtain ⟨l1,l2,l3⟩:_∧_∧_:=by simpa only [Prod.mk.injEq] using l
 have r:=topRun_mono (N - M) _ _ _ _ r;rw [show M + (N - M)=N by have:=Nat.le_of_ble_eq_true le; omega] at r;have t:topFrom treeTable p w N ⟨H₀ w.params,gs,d,k,os⟩=some s₁:=by
   unfold topFrom;dsimp only;rw [z1,z2,z3,r];show (match staticsOk (importedModules p.main.body) (H₀ w.params) s₁.heap && namesBound p s₁.heap && gensDone s₁ && laidKept (H₀ w.params) s₁.heap with | true=>_ | false=>_)=_;rw [l1]
 unfold openEnds;rw [e];show (topFrom treeTable p w N _).map _=_;rw [t];exact congrArg some (Prod.ext l2 l3)
noncomputable def aGT (o:Option (Shared×Thread)) (s:Shared):Shared:=match o with | some x=>x.1 | none=>s
noncomputable def aGb (o:Option (Flow×Shared×Code×Pos)) (s:Shared):Shared:=match o with | some x=>x.2.1 | none=>s
end L3
namespace L3
open PySem PySem.Spec
open PyProof.Rows hiding St
open L2
section
variable {G:Gh} {Q:PK1} {x y:PV} {i j:Int} {s:Str} {b c:Bool} {a:Addr}
theorem jK {C:Int→Int→Prop} {g:Int→Int→PV}:pI C g (.int i) (.int j) G Q=(C i j∧Q (g i j) G):=rfl
theorem dZ:zM .Add=EY:=rfl
theorem eT:zM .Sub=pI (fun _ _=>True) fun i j=>.int (i - j):=rfl
theorem eU:zM .Mult (.int i) (.int j) G Q=(oV i j∧Q (.int (i * j)) G):=rfl
theorem nP:zM .FloorDiv=pI xX fun i j=>.int (i / j):=rfl
theorem uJ:zM .Mod=pI aCd fun i j=>.int (i % j):=rfl
theorem PR:zM .Pow=pI MM fun i j=>.int (i ^ j.toNat):=rfl
theorem dU:EY (.int i) (.int j) G Q=Q (.int (i + j)) G:=rfl
theorem aFq {t:Str}:EY (.str s) (.str t) G Q=(s.length + t.length≤sizeLine∧Q (.str (s ++ t)) G):=rfl
theorem XW {xs ys:List PV}:EY (.tup xs) (.tup ys) G Q=(xs.length + ys.length≤sizeLine∧Q (.tup (xs ++ ys)) G):=rfl
theorem sL:nK .Lt=pI (fun _ _=>True) fun i j=>.bl (decide (i < j)):=rfl
theorem HV:nK .LtE=pI (fun _ _=>True) fun i j=>.bl (decide (i≤j)):=rfl
theorem sP:nK .Gt=pI (fun _ _=>True) fun i j=>.bl (decide (j < i)):=rfl
theorem HW:nK .GtE=pI (fun _ _=>True) fun i j=>.bl (decide (j≤i)):=rfl
theorem fJ:nK .Eq=pEq false:=rfl
theorem sE:nK .NotEq=pEq true:=rfl
theorem ZZ:nK .Is=pIs false:=rfl
theorem aFr:nK .IsNot=pIs true:=rfl
theorem gE:pEq false (.int i) (.int j) G Q=Q (.bl (decide (i=j))) G:=by
 show (true=true∧true=true∧Q (.bl (i == j)) G)=_;simp only [true_and]; congr 2
theorem kO:pEq true (.int i) (.int j) G Q=Q (.bl (!decide (i=j))) G:=by
 show (true=true∧true=true∧Q (.bl (!(i == j))) G)=_;simp only [true_and]; congr 2
theorem eR {R:Bool→Gh→Prop}:vU (.bl b) G R=R b G:=rfl
theorem aHI {R:Bool→Gh→Prop}:vU .non G R=R false G:=rfl
theorem aF3 {R:Bool→Gh→Prop} {xs:List PV}:vU (.tup xs) G R=R (!xs.isEmpty) G:=rfl
theorem nC:aD7 (.int i) G Q=Q (.int (-i)) G:=rfl
theorem UT:pIs false .non .non G Q=Q (.bl true) G:=propext ⟨fun h=>h.elim (fun z=>z.2) (fun z=>absurd rfl z.1),fun h=>.inl ⟨rfl,h⟩⟩
theorem YS (h:x≠.non):pIs false x .non G Q=Q (.bl false) G:=propext ⟨fun z=>z.elim (fun z=>absurd z.1 h) (fun z=>z.2),fun q=>.inr ⟨h,q⟩⟩
theorem kR {xs:List PV}:wE (.tup xs) (.int i) G Q=(∃ v,atI xs i=some v∧Q v G):=rfl
theorem PH {ns:List Int}:wE (.scr ns) (.int i) G Q=(∃ n,atI ns i=some n∧Q (.int n) G):=rfl
theorem kJ {xs:List PV}:wE (.lst xs) (.int i) G Q=(∃ v,atI xs i=some v∧Q v G):=by
 show (∃ ys v,some xs=some ys∧_)=_;exact propext ⟨by rintro ⟨_,v,e1,h⟩;cases e1; exact ⟨v,h⟩,by rintro ⟨v,h⟩;exact ⟨_,v,rfl,h⟩⟩
theorem eO {xs:List PV} (h:G a=some (.lst xs)):bT G (.ref a)=some xs:=by unfold bT; dsimp only; rw [h]
theorem aFb {xs:List PV}:bT G (.lst xs)=some xs:=rfl
theorem KL {xs:List PV}:bT (gup G a (.lst xs)) (.ref a)=some xs:=eO aS
theorem CW {xs:List PV} (h:G a=some (.lst xs)):wE (.ref a) (.int i) G Q=(∃ v,atI xs i=some v∧Q v G):=by
 show (∃ ys v,bT G (.ref a)=some ys∧_)=_;rw [eO h];exact propext ⟨by rintro ⟨_,v,e1,h⟩;cases e1; exact ⟨v,h⟩,by rintro ⟨v,h⟩;exact ⟨_,v,rfl,h⟩⟩
theorem AT {xs:List PV}:wE (.ref a) (.int i) (gup G a (.lst xs)) Q=(∃ v,atI xs i=some v∧Q v (gup G a (.lst xs))):=CW aS
theorem DH {xs:List PV} {v:PV} {R:Gh→Prop} (h:G a=some (.lst xs)):aA8 (.ref a) (.int i) v G R=(∃ j,ixN xs.length i=some j∧R (gup G a (.lst (xs.set j v)))):=propext
 ⟨by rintro ⟨_,_,_,j,e1,e2,e3,e4,r⟩;cases e1; cases e2; rw [h] at e3; cases e3; exact ⟨j,e4,r⟩,by rintro ⟨j,e4,r⟩;exact ⟨_,_,_,j,rfl,rfl,h,e4,r⟩⟩
theorem WS {xs:List PV} {v:PV} {R:Gh→Prop}:aA8 (.ref a) (.int i) v (gup G a (.lst xs)) R=(∃ j,ixN xs.length i=some j∧R (gup G a (.lst (xs.set j v)))):=by
 rw [DH aS]; simp only [lK]
variable {cs:List String}
theorem tP {xs:List PV}:eV cs .len [.tup xs] G Q=Q (.int xs.length) G:=by
 refine propext ⟨fun h=>?_,fun q=>.inl ⟨_,rfl,q⟩⟩;rcases h with ⟨ys,e,q⟩ | ⟨ys,e,q⟩ | ⟨z,e,_⟩ | ⟨ys,e,q⟩
 · cases e; exact q
 · cases e
 · cases e
 · cases e
theorem WW {xs:List Int}:eV cs .len [.scr xs] G Q=Q (.int xs.length) G:=by
 refine propext ⟨fun h=>?_,fun q=>.inr (.inl ⟨_,rfl,q⟩)⟩;rcases h with ⟨ys,e,q⟩ | ⟨ys,e,q⟩ | ⟨z,e,_⟩ | ⟨ys,e,q⟩
 · cases e
 · cases e; exact q
 · cases e
 · cases e
theorem CB:eV cs .abs [.int i] G Q=Q (.int (i.natAbs:Int)) G:=rfl
theorem vI:eV cs .max [.int i,.int j] G Q=Q (.int (max i j)) G:=rfl
theorem TM:eV cs .min [.int i,.int j] G Q=Q (.int (min i j)) G:=rfl
theorem aHy:eV cs .int [.int i] G Q=Q (.int i) G:=rfl
theorem aAI:eV cs .int [.bl b] G Q=Q (.int (if b then 1 else 0)) G:=rfl
theorem IC {n T:String} (h:pV x G=some n):eV cs .isi [x,.ty T] G Q=(T∈oM∧Q (.bl (BZ n T)) G):=propext
 ⟨by rintro ⟨hT,h'⟩;exact ⟨hT,by
   rcases h' with ⟨m,e,q⟩ | ⟨c,e,_,q⟩
   · rw [h] at e; cases e; exact q
   · exfalso; cases x <;> first | (cases e; done) | skip
     · cases h
     · unfold pV at h; unfold KK at e; dsimp only at h e;split at h
       · rename_i q; rw [q] at e; cases e
       · cases h⟩,by rintro ⟨hT,q⟩;exact ⟨hT,.inl ⟨n,h,q⟩⟩⟩
theorem aFz:pV (.int i) G=some "int":=rfl
theorem aIq:pV (.bl b) G=some "bool":=rfl
theorem aFC:pV (.str s) G=some "str":=rfl
theorem aGY:pV .non G=some "NoneType":=rfl
theorem aGS {xs:List PV}:pV (.tup xs) G=some "tuple":=rfl
theorem aGe {xs:List PV}:pV (.lst xs) G=some "list":=rfl
theorem XV {T:String}:eV cs .isi [.int i,.ty T] G Q=(T∈oM∧Q (.bl (BZ "int" T)) G):=IC rfl
theorem BY {T:String} {xs:List PV}:eV cs .isi [.tup xs,.ty T] G Q=(T∈oM∧Q (.bl (BZ "tuple" T)) G):=IC rfl
theorem ZP {c:String} {ns:List Str} {xs:List PV}:eV cs .isi [.ob c ns xs,.cl c] G Q=(c∈cs∧Q (.bl true) G):=propext
 ⟨by rintro ⟨hc,h'⟩;exact ⟨hc,by
   rcases h' with ⟨m,e,q⟩ | ⟨c',e,_,q⟩
   · cases e
   · cases e; rw [decide_eq_true rfl] at q; exact q⟩,by rintro ⟨hc,q⟩;exact ⟨hc,.inr ⟨c,rfl,hc,by rw [decide_eq_true rfl]; exact q⟩⟩⟩
theorem nW {xs:List PV}:eV cs .tuple [.lst xs] G Q=Q (.tup xs) G:=propext
 ⟨fun h=>by
   rcases h with ⟨ys,e,q⟩ | ⟨ys,e,q⟩
   · cases e
   · cases e; exact q,fun q=>.inr ⟨_,rfl,q⟩⟩
theorem RE {xs:List PV} (h:G a=some (.lst xs)):eV cs .tuple [.ref a] G Q=Q (.tup xs) G:=propext
 ⟨fun h'=>by
   rcases h' with ⟨ys,e,q⟩ | ⟨ys,e,q⟩
   · cases e
   · rw [eO h] at e; cases e; exact q,fun q=>.inr ⟨_,eO h,q⟩⟩
theorem tZ {xs:List PV}:eV cs .tuple [.ref a] (gup G a (.lst xs)) Q=Q (.tup xs) (gup G a (.lst xs)):=RE aS
theorem TW {xs:List PV}:eV cs .all [.lst xs] G Q=(∃ b,FX xs=some b∧Q (.bl b) G):=propext
 ⟨by rintro ⟨_,b,e,eb,q⟩;cases e; exact ⟨b,eb,q⟩,by rintro ⟨b,eb,q⟩;exact ⟨_,b,rfl,eb,q⟩⟩
theorem uW {xs:List PV}:vO true G xs Q= ∀ p,G p=none→Q (.ref p) (gup G p (.lst xs)):=rfl
theorem jU {xs:List PV}:vO false G xs Q=Q (.lst xs) G:=rfl
theorem DU {xs:List PV} {R:(Gh→Prop)→List PV→Gh→Prop}:UA (.tup xs) G R=R (fun _=>True) xs G:=rfl
theorem TC {xs:List PV} {R:(Gh→Prop)→List PV→Gh→Prop}:UA (.lst xs) G R=R (fun _=>True) xs G:=rfl
theorem aFx {xs:List Int} {R:(Gh→Prop)→List PV→Gh→Prop}:UA (.scr xs) G R=R (fun _=>True) (xs.map .int) G:=rfl
theorem sH {α:Type} {v:α} {R:α→Prop}:(∃ c,some v=some c∧R c)=R v:=propext ⟨by rintro ⟨_,e,r⟩;cases e; exact r,fun r=>⟨v,rfl,r⟩⟩
end
theorem at0 {α:Type} {x:α} {xs:List α}:atI (x :: xs) 0=some x:=dE (xs:=x :: xs) (j:=0) rfl
theorem at1 {α:Type} {x y:α} {xs:List α}:atI (x :: y :: xs) 1=some y:=dE (xs:=x :: y :: xs) (j:=1) rfl
theorem at2 {α:Type} {x y z:α} {xs:List α}:atI (x :: y :: z :: xs) 2=some z:=dE (xs:=x :: y :: z :: xs) (j:=2) rfl
theorem at3 {α:Type} {x y z u:α} {xs:List α}:atI (x :: y :: z :: u :: xs) 3=some u:=dE (xs:=x :: y :: z :: u :: xs) (j:=3) rfl
theorem at4 {α:Type} {x y z u v:α} {xs:List α}:atI (x :: y :: z :: u :: v :: xs) 4=some v:=dE (xs:=x :: y :: z :: u :: v :: xs) (j:=4) rfl
theorem aIr {Q:PK1}:(aQ Q).rt=Wk Q:=rfl
theorem aIp {Q:PK1} {σ:PSt} {G:Gh}:(aQ Q).nx σ G=Wk Q .non G:=rfl
theorem aI:("int"∈oM)=True∧("bool"∈oM)=True∧("tuple"∈oM)=True∧("str"∈oM)=True∧("list"∈oM)=True:=⟨eq_true (by decide),eq_true (by decide),eq_true (by decide),eq_true (by decide),eq_true (by decide)⟩
theorem aEF:BZ "int" "int"=true:=by decide
theorem aDu:BZ "int" "bool"=false:=by decide
theorem FC:BZ "tuple" "tuple"=true:=by decide
theorem sz2:(2:Nat)≤sizeLine:=by decide
theorem sz1:(1:Nat)≤sizeLine:=by decide
theorem sz3:(3:Nat)≤sizeLine:=by decide
noncomputable def FQ (q:Rat):PV:=.tup [.int q.num,.int (q.den:Int)]
def dX:Sp3:=fun xs G Q=>∃ i,xs=[.int i]∧Q (.bl true) G
def lA:Sp3:=fun xs G Q=>∃ i j:Int,xs=[.int i,.int j]∧0≤i∧0≤j∧Q (.int (Int.gcd i j)) G
def iB:Sp3:=fun xs G Q=>∃ q,xs=[FQ q]∧Q (.bl true) G
def bF:Sp3:=fun xs G Q=>∃ t b:Int,xs=[.int t,.int b]∧b≠0∧Sm 9000 b∧Q (FQ (Rat.divInt t b)) G
def Bd (n:Nat) (q:Rat):Prop:=Sm n q.num∧Sm n (q.den:Int)
theorem Bd.mono {n m:Nat} {q:Rat} (h:Bd n q) (e:n≤m):Bd m q:=⟨h.1.mono e,h.2.mono e⟩
theorem QG {t b:Int} (hb:b≠0):0 < b.gcd t:=Int.gcd_pos_of_ne_zero_left _ hb
theorem Bd.divInt {n:Nat} {t b:Int} (ht:Sm n t) (hb:Sm n b) (h0:b≠0):Bd n (Rat.divInt t b):=by
 have gp:(0:Int) < (b.gcd t:Int):=by have:=QG (t:=t) h0; omega
 constructor
 · rw [Rat.num_divInt];have e:Sm n (b.sign * t):=by
     rcases Int.lt_trichotomy b 0 with z | z | z
     · rw [Int.sign_eq_neg_one_of_neg z,Int.neg_one_mul]; exact ht.neg
     · exact absurd z h0
     · rw [Int.sign_eq_one_of_pos z,Int.one_mul]; exact ht
   exact e.div gp
 · rw [Rat.den_divInt,if_neg h0];have e:Sm n ((b.natAbs:Int)):=by unfold Sm at *; omega
   have:=e.div gp;rw [Int.natCast_ediv];exact this
theorem yJ {t b:Int} (hb:0 < b):FQ (Rat.divInt t b)= .tup [.int (t / (Int.gcd t b:Int)),.int (b / (Int.gcd t b:Int))]:=by
 unfold FQ;rw [Rat.num_divInt,Rat.den_divInt,if_neg (by omega),Int.sign_eq_one_of_pos hb,Int.one_mul,Int.gcd_comm,Int.natCast_ediv];have:(b.natAbs:Int)=b:=by omega
 rw [this]
theorem aBN (a b:Rat):Rat.divInt (a.num * (b.den:Int) + b.num * (a.den:Int)) ((a.den:Int) * (b.den:Int))=a + b:=by
 rw [Rat.add_def',←Rat.divInt_ofNat,Int.natCast_mul]
theorem DQ (a b:Rat):Rat.divInt (a.num * (b.den:Int) - b.num * (a.den:Int)) ((a.den:Int) * (b.den:Int))=a - b:=by
 rw [Rat.sub_def',←Rat.divInt_ofNat,Int.natCast_mul]
theorem aB6 (a b:Rat):Rat.divInt (a.num * b.num) ((a.den:Int) * (b.den:Int))=a * b:=by
 rw [Rat.mul_def',←Rat.divInt_ofNat,Int.natCast_mul]
theorem aBO (a b:Rat):Rat.divInt (a.num * (b.den:Int)) ((a.den:Int) * b.num)=a / b:=by
 rw [Rat.div_def,Rat.inv_def];conv=>rhs; rw [←Rat.num_divInt_den a]
 rw [Rat.divInt_mul_divInt]
theorem aY {q:Rat}:(q.den:Int)≠0:=by have:=q.den_pos; omega
theorem VQ {q:Rat}:(0:Int) < q.den:=by have:=q.den_pos; omega
theorem bQ {a b:Int} (ha:a≠0) (hb:b≠0):a * b≠0:=Int.mul_ne_zero ha hb
theorem Bd.add {n m l:Nat} {a b:Rat} (ha:Bd n a) (hb:Bd m b) (e:n + m + 1≤l):Bd l (a + b):=by
 rw [←aBN];refine Bd.divInt ?_ ?_ (bQ aY aY)
 · exact ((ha.1.mul hb.2)).add ((hb.1.mul ha.2).mono (by omega)) e
 · exact (ha.2.mul hb.2).mono (by omega)
theorem Bd.sub {n m l:Nat} {a b:Rat} (ha:Bd n a) (hb:Bd m b) (e:n + m + 1≤l):Bd l (a - b):=by
 rw [←DQ];refine Bd.divInt ?_ ?_ (bQ aY aY)
 · exact ((ha.1.mul hb.2)).sub ((hb.1.mul ha.2).mono (by omega)) e
 · exact (ha.2.mul hb.2).mono (by omega)
theorem Bd.mul {n m l:Nat} {a b:Rat} (ha:Bd n a) (hb:Bd m b) (e:n + m≤l):Bd l (a * b):=by
 rw [←aB6];exact Bd.divInt ((ha.1.mul hb.1).mono e) ((ha.2.mul hb.2).mono e) (bQ aY aY)
theorem Bd.dv {n m l:Nat} {a b:Rat} (ha:Bd n a) (hb:Bd m b) (h0:b≠0) (e:n + m≤l):Bd l (a / b):=by
 rw [←aBO];exact Bd.divInt ((ha.1.mul hb.2).mono e) ((ha.2.mul hb.1).mono e) (bQ aY (fun z=>h0 (Rat.num_eq_zero.mp z)))
theorem Bd.int {n:Nat} {i:Int} (h:Sm n i) (e:1≤n):Bd n (i:Rat):=⟨h,by
 show Sm n ((1:Nat):Int);unfold Sm;have:2 ^ 1≤2 ^ n:=Nat.pow_le_pow_right (by decide) e;show 1 < 2 ^ n;omega⟩
theorem uA {i:Int}:PV.tup [.int i,.int 1]=FQ (i:Rat):=rfl
theorem smK {x:Int} {n:Nat} (a: -1000000000000≤x) (b:x < 1000000000000) (e:41≤n):Sm n x:=by
 have:Sm 41 x:=by unfold Sm; omega
 exact this.mono e
def nB:Sp3:=fun xs G Q=>∃ qs:List Rat,xs=[.tup (qs.map FQ)]∧qs.length≤2∧Q .non G
def jI:Sp3:=fun xs G Q=>∃ a b,xs=[FQ a,FQ b]∧Bd 4000 a∧Bd 4000 b∧Q (FQ (a + b)) G
def fK:Sp3:=fun xs G Q=>∃ a b,xs=[FQ a,FQ b]∧Bd 4000 a∧Bd 4000 b∧Q (FQ (a - b)) G
def cY:Sp3:=fun xs G Q=>∃ a b,xs=[FQ a,FQ b]∧Bd 4000 a∧Bd 4000 b∧Q (FQ (a * b)) G
def kC:Sp3:=fun xs G Q=>∃ a b,xs=[FQ a,FQ b]∧Bd 4000 a∧Bd 4000 b∧b≠0∧Q (FQ (a / b)) G
def cQ:Sp3:=fun xs G Q=>∃ a b,xs=[FQ a,FQ b]∧Bd 4000 a∧Bd 4000 b∧Q (.bl (decide (a < b))) G
noncomputable def nw (q:Rat):Int:=(2 * q.num + (q.den:Int)) / (2 * (q.den:Int))
def yU:Sp3:=fun xs G Q=>∃ a,xs=[FQ a]∧Bd 8900 a∧Q (.int (nw a)) G
def iI:Sp3:=fun xs G Q=>∃ a,xs=[FQ a]∧0≤a∧a≤1∧Q (.bl true) G
noncomputable def SH (a b c:Rat):PV:=.ob "Shade" ["ember","leaf","sky"] [FQ a,FQ b,FQ c]
def In1 (a:Rat):Prop:=0≤a∧a≤1
def lJ:Sp3:=fun xs G Q=>∃ a b c,xs=[FQ a,FQ b,FQ c]∧In1 a∧In1 b∧In1 c∧Q (SH a b c) G
def oW:Sp3:=fun xs G Q=>∃ p a b c,xs=[.ref p,FQ a,FQ b,FQ c]∧G p=some (.ins "Shade" [] [])∧In1 a∧In1 b∧In1 c∧Q .non (gup G p (.ins "Shade" ["ember","leaf","sky"] [FQ a,FQ b,FQ c]))
def iM:Sp3:=fun xs G Q=>∃ a b c,xs=[SH a b c]∧Q (.bl true) G
def jJ:Sp3:=fun xs G Q=>∃ a b c,xs=[SH a b c]∧Q .non G
def bV:Sp3:=fun xs G Q=>∃ a b c,xs=[SH a b c]∧Q (.tup [FQ a,FQ b,FQ c]) G
def iF:Sp3:=fun xs G Q=>∃ x a b c,xs=[x]∧bT G x=some [FQ a,FQ b,FQ c]∧In1 a∧In1 b∧In1 c∧Q (SH a b c) G
def nO:Sp3:=fun xs G Q=>∃ g:Int,xs=[.int g]∧1≤g∧g≤1000∧Q .non G
def zL:Sp3:=fun xs G Q=>∃ g:Int,xs=[.int g]∧1≤g∧g≤1000∧Q (.bl true) G
def oG:Sp3:=fun xs G Q=>∃ s g:Int,xs=[.int s,.int g]∧0≤s∧s≤g∧Q (.bl true) G
def jM:Sp3:=fun xs G Q=>∃ s g:Int,xs=[.int s,.int g]∧0≤s∧s≤g∧Q .non G
noncomputable def stp (a:Rat) (g:Int):PV:=.int (nw (a * (g:Rat)))
def pL:Sp3:=fun xs G Q=>∃ a b c g,xs=[SH a b c,.int g]∧1≤g∧g≤1000∧Bd 3000 a∧Bd 3000 b∧Bd 3000 c∧Q (.tup [stp a g,stp b g,stp c g]) G
noncomputable def aDm (s g:Int):Rat:=Rat.divInt (max (2 * s - 1) 0) (2 * g)
noncomputable def aEt (s g:Int):Rat:=if s=g then 1 else Rat.divInt (2 * s + 1) (2 * g)
def FL:Sp3:=fun xs G Q=>∃ s g:Int,xs=[.int s,.int g]∧1≤g∧g≤1000∧0≤s∧s≤g∧Q (.tup [FQ (aDm s g),FQ (aEt s g),.bl (decide (s=g))]) G
structure PT (T:Tb):Prop where
 is_whole:T.S "is_whole"=dX
 common:T.S "common"=lA
 is_fraction:T.S "is_fraction"=iB
 lowest:T.S "lowest"=bF
 need_fractions:T.S "need_fractions"=nB
 plus:T.S "plus"=jI
 minus:T.S "minus"=fK
 times:T.S "times"=cY
 over:T.S "over"=kC
 below:T.S "below"=cQ
 nearest_whole:T.S "nearest_whole"=yU
 is_share:T.S "is_share"=iI
 shade:T.S "Shade"=lJ
 shadeI:T.S "Shade.__init__"=oW
 is_shade:T.S "is_shade"=iM
 need_shade:T.S "need_shade"=jJ
 shares_of:T.S "shares_of"=bV
 shade_of:T.S "shade_of"=iF
 is_grade:T.S "is_grade"=zL
 need_grade:T.S "need_grade"=nO
 is_step:T.S "is_step"=oG
 need_step:T.S "need_step"=jM
 printed:T.S "printed"=pL
 span_of:T.S "span_of"=FL
 gv_ONE:T.gv "ONE"=FQ 1
 gv_ZERO:T.gv "ZERO"=FQ 0
 gv_MOST_GRADE:T.gv "MOST_GRADE"= .int 1000
 gv_Shade:T.gv "Shade"= .cl "Shade"
 cs: "Shade"∈T.cs
 fl_e:("Shade",("ember":Str))∈T.fl
 fl_l:("Shade",("leaf":Str))∈T.fl
 fl_s:("Shade",("sky":Str))∈T.fl
 ty_int:T.gv "int"= .ty "int"
 ty_bool:T.gv "bool"= .ty "bool"
 ty_tuple:T.gv "tuple"= .ty "tuple"
theorem WI {q:Rat} {G:Gh} {Q:PK1}:wE (FQ q) (.int 0) G Q=Q (.int q.num) G:=by unfold FQ; rw [kR,at0,sH]
theorem TX {q:Rat} {G:Gh} {Q:PK1}:wE (FQ q) (.int 1) G Q=Q (.int q.den) G:=by unfold FQ; rw [kR,at1,sH]
theorem gX {a b:Rat}:(FQ a=FQ b)=(a=b):=propext ⟨fun h=>by
 unfold FQ at h;injection h with h;injection h with h1 h;injection h with h2 _;injection h1 with h1;injection h2 with h2;exact Rat.ext h1 (by omega),fun h=>by rw [h]⟩
theorem aCM {q:Rat}:(1:Int)≤q.den:=by have:=q.den_pos; omega
theorem aC7 {q:Rat}:Int.gcd (q.num.natAbs:Int) (q.den:Int)=1:=q.reduced
theorem WV {G:Gh} {Q:PK1} {a b:Rat}:nB [.tup [FQ a,FQ b]] G Q=Q .non G:=propext ⟨by rintro ⟨_,e,_,q⟩;exact q,fun q=>⟨[a,b],rfl,by show 2≤2; decide,q⟩⟩
theorem nX {chk:Gh→Prop} {g:PTG} {tb:PTS} {D:dY} {σ:PSt} {G:Gh}:nS chk g tb D [] σ G=(chk G∧D.nx σ G):=rfl
theorem lO {chk:Gh→Prop} {g:PTG} {tb:PTS} {D:dY} {x:PV} {r:List PV} {σ:PSt} {G:Gh}:nS chk g tb D (x :: r) σ G=(chk G∧g x σ G fun σ2 G2=>tb { D with nx:=nS chk g tb D r,ct:=nS chk g tb D r,bk:=D.nx } σ2 G2):=rfl
theorem iC {chk:Gh→Prop} {g:PTG} {ts:PTT} {te:PTE} {acc:List PV} {σ:PSt} {G:Gh} {Q:List PV→Gh→Prop}:gN chk g ts te [] acc σ G Q=(chk G∧Q acc G):=rfl
theorem fQ {chk:Gh→Prop} {g:PTG} {ts:PTT} {te:PTE} {x:PV} {r acc:List PV} {σ:PSt} {G:Gh} {Q:List PV→Gh→Prop}:gN chk g ts te (x :: r) acc σ G Q=(chk G∧g x σ G fun σ2 G2=>ts σ2 G2 fun ok G3=>if ok=true then te σ2 G3 fun y G4=>gN chk g ts te r (acc ++ [y]) σ2 G4 Q else gN chk g ts te r acc σ2 G3 Q):=rfl
theorem aGn {a:PV}:AS [a]=[.tup [.int 0,a]]:=rfl
theorem aFT {a b:PV}:AS [a,b]=[.tup [.int 0,a],.tup [.int 1,b]]:=rfl
theorem aFh {a b c:PV}:AS [a,b,c]=[.tup [.int 0,a],.tup [.int 1,b],.tup [.int 2,c]]:=rfl
theorem aJU:oO 0 (3:Int).toNat=[.int 0,.int 1,.int 2]:=rfl
theorem PP:oO 0 3=[.int 0,.int 1,.int 2]:=rfl
theorem zF {a b c a' b' c':Rat}:(SH a b c=SH a' b' c')=(a=a'∧b=b'∧c=c'):=propext ⟨fun h=>by
 unfold SH at h;injection h with _ _ h;injection h with h1 h;injection h with h2 h;injection h with h3 _;rw [gX] at h1 h2 h3;exact ⟨h1,h2,h3⟩,by rintro ⟨h1,h2,h3⟩;rw [h1,h2,h3]⟩
def mW0:=aI.1
def mW1:=aI.2.1
def mW2:=aI.2.2.1
def wk (s:String):Lean.MacroM Lean.Syntax:=do
 let n←(s.splitOn " ").filterMapM fun x=>do if (←Lean.Macro.resolveGlobalName x.toName).isEmpty then pure none else pure (some x.toName)
 let l←n.mapM fun x=>`(Lean.Parser.Tactic.simpLemma| $(Lean.mkIdent x):term)
 return (←`(tactic| simp only [$(l.toArray),*, *])).raw
def wB:="wpS wpE wpL wpT wpO wpI wpG eG aQ aF List.length_cons List.length_nil List.cons_append List.nil_append List.append_nil List.replicate Nat.reduceAdd Nat.reduceSub Nat.zero_add List.getElem?_cons_zero List.getElem?_cons_succ List.set_cons_zero List.set_cons_succ Option.some.injEq exists_eq_left' true_and and_true ite_self jK fJ eR mW0 mW1 mW2 List.cons.injEq PV.int.injEq PV.bl.injEq PV.str.injEq PV.ref.injEq PV.tup.injEq and_assoc exists_and_left eq_self List.map Bool.not_true Bool.not_false Bool.and_self Bool.and_true Bool.true_and if_true if_false ite_true ite_false Bool.false_eq_true decide_eq_true_eq decide_true decide_false reduceCtorEq sz2 Wk.here dZ eT eU dU jU gX bF Int.reduceToNat Int.reducePow"
local macro_rules | `(tactic| walk_at "rd") => wk (wB++" nP uJ sL HW sE gE kO nC tP CB XV BY aEF aDu FC aHL aHn dX lA")
section
variable {T:Tb}
noncomputable def hV:CS:=(.ret (.an (.blt .isi (.cons (.var 0) (.cons (.glo "int") .nil))) (.no (.blt .isi (.cons (.var 0) (.cons (.glo "bool") .nil))))))
theorem FK (h:PT T):∀ xs G Q,dX xs G Q→wpS T hV (aQ Q) (aF 1 xs) G:=by
 rintro xs G Q ⟨i,rfl,q⟩;unfold hV;have:=h.ty_int;have:=h.ty_bool;walk_at "rd"
theorem BW {x y:Int} (hx:0≤x) (hy:0 < y):Int.gcd y (x % y)=Int.gcd x y:=by
 rw [Int.gcd_comm x y];show y.natAbs.gcd (x % y).natAbs=y.natAbs.gcd x.natAbs;have e:(x % y).natAbs=x.natAbs % y.natAbs:=by rw [Int.natAbs_emod_of_nonneg hx]
 rw [e,Nat.gcd_rec y.natAbs x.natAbs,Nat.gcd_comm]
noncomputable def lF:CS:=(.seq (.wh (.tsb (.cmp .NotEq (.var 1) (.int 0))) (.par 0 1 (.var 1) (.bin .Mod (.var 0) (.var 1))))
 (.ret (.var 0)))
theorem XZ (h:PT T):∀ xs G Q,lA xs G Q→wpS T lF (aQ Q) (aF 2 xs) G:=by
 rintro xs G Q ⟨i,j,rfl,hi,hj,q⟩;unfold lF;walk_at "rd"
 refine ⟨fun m σ H=>∃ x y,σ=[some (.int x),some (.int y)]∧H=G∧0≤x∧0≤y∧Int.gcd x y=Int.gcd i j∧m=y.toNat,⟨_,i,j,rfl,rfl,hi,hj,rfl,rfl⟩, ?_⟩;rintro m σ H ⟨x,y,rfl,rfl,hx,hy,hg,rfl⟩;walk_at "rd"
 split
 · rename_i hy0;have hy0:y≠0:=by simpa using hy0
   have h2:=Int.emod_lt_of_pos x (show 0 < y by omega);have h3:=Int.emod_nonneg x (show y≠0 by omega);exact ⟨by show 0 < y; omega,(x % y).toNat,by omega,h3,(BW hx (by omega)).trans hg,rfl⟩
 · rename_i hy0;have e:y=0:=by simpa using hy0
   subst e;have g:((Int.gcd x 0:Nat):Int)=x:=by rw [Int.gcd_zero_right]; omega
   refine Wk.here ?_;rw [←g,hg]; exact q
noncomputable def eJ:CS:=(.seq (.iff (.oo (.no (.tst (.blt .isi (.cons (.var 0) (.cons (.glo "tuple") .nil))))) (.tsb (.cmp .NotEq (.blt .len (.cons (.var 0) .nil)) (.int 2)))) (.ret (.bl false)) .nil)
 (.seq (.asg (.gt 2 (.cons (.gn 1) (.cons (.gn 2) .nil))) (.var 0))
 (.ret (.an (.cal "is_whole" (.cons (.var 1) .nil)) (.an (.cal "is_whole" (.cons (.var 2) .nil)) (.an (.cmp .GtE (.var 2) (.int 1)) (.cmp .Eq (.cal "common" (.cons (.blt .abs (.cons (.var 1) .nil)) (.cons (.var 2) .nil))) (.int 1))))))))
theorem vM (h:PT T):∀ xs G Q,iB xs G Q→wpS T eJ (aQ Q) (aF 3 xs) G:=by
 rintro xs G Q ⟨q,rfl,hq⟩;unfold eJ;have:=h.ty_tuple;have:=h.is_whole;have:=h.common;have h1:=aCM (q:=q);have h2:=aC7 (q:=q);unfold FQ;walk_at "rd"
 exact ⟨by omega,by omega⟩
noncomputable def kZ:CS:=(.seq (.iff (.tsb (.cmp .Lt (.var 1) (.int 0))) (.par 0 1 (.neg (.var 0)) (.neg (.var 1))) .nil)
 (.seq (.asg (.gn 2) (.cal "common" (.cons (.blt .abs (.cons (.var 0) .nil)) (.cons (.var 1) .nil))))
 (.ret (.tup (.cons (.bin .FloorDiv (.var 0) (.var 2)) (.cons (.bin .FloorDiv (.var 1) (.var 2)) .nil))))))
theorem yQ (t b:Int):Int.gcd (t.natAbs:Int) b=Int.gcd t b:=by show (t.natAbs:Int).natAbs.gcd _=_; rw [Int.natAbs_natCast]; rfl
theorem zB {t b:Int} (hb:0 < b) (sb:Sm 9000 b):xX t (Int.gcd t b:Int)∧xX b (Int.gcd t b:Int):=by
 have gp:(0:Int) < (Int.gcd t b:Int):=by have:=Int.gcd_pos_of_ne_zero_right t (show b≠0 by omega); omega
 have gl:(Int.gcd t b:Int)≤b:=Int.le_of_dvd hb (Int.gcd_dvd_right _ _);have sg:Sm 9000 (Int.gcd t b:Int):=sb.le (by omega) gl;exact ⟨wG gp sg,wG gp sg⟩
theorem TH (h:PT T):∀ xs G Q,bF xs G Q→wpS T kZ (aQ Q) (aF 3 xs) G:=by
 rintro xs G Q ⟨t,b,rfl,h0,sb,hq⟩;unfold kZ;have:=h.common;walk_at "rd"
 split
 · rename_i hb;obtain ⟨d1,d2⟩:=zB (t:= -t) (b:= -b) (by omega) sb.neg;simp only [yQ];refine ⟨by omega,by omega,d1,d2,Wk.here ?_⟩;rw [←yJ (by omega),Rat.neg_divInt_neg]; exact hq
 · rename_i hb;obtain ⟨d1,d2⟩:=zB (t:=t) (b:=b) (by omega) sb;simp only [yQ];refine ⟨by omega,by omega,d1,d2,Wk.here ?_⟩;rw [←yJ (by omega)]; exact hq
end
local macro_rules | `(tactic| walk_at "rd") => wk (wB++" List.map_cons List.map_nil nP HV gE vI nW DU WI TX dX iB WV exists_eq' nX lO iC fQ aGn aFT aFh zF yD Option.getD_some cY yU iI iM jJ bV nO zL oG jM sz1 sz3")
section
variable {T:Tb}
noncomputable def cZ:CS:=(.fr (.gt 2 (.cons (.gn 1) (.cons (.gn 2) .nil))) (.ien (.var 0)) (.iff (.no (.tst (.cal "is_fraction" (.cons (.var 2) .nil)))) .nev .nil))
theorem pG (h:PT T):∀ xs G Q,nB xs G Q→wpS T cZ (aQ Q) (aF 3 xs) G:=by
 rintro xs G Q ⟨qs,rfl,hl,hq⟩;unfold cZ;have:=h.is_fraction
 match qs,hl with
 | [],_=>simp only [List.map_nil]; walk_at "rd"; exact ⟨trivial,Wk.here hq⟩
 | [a],_=>simp only [List.map_cons,List.map_nil]; walk_at "rd"
 | [a,b],_=>simp only [List.map_cons,List.map_nil]; walk_at "rd"
theorem aDv {a b:Rat} (ha:Bd 4000 a) (hb:Bd 4000 b):Sm 9000 ((a.den:Int) * (b.den:Int)):=(ha.2.mul hb.2).mono (by decide)
noncomputable def hX:CS:=(.ret (.an (.cal "is_fraction" (.cons (.var 0) .nil)) (.chn .LtE .LtE (.int 0) (.idx (.var 0) (.int 0)) (.idx (.var 0) (.int 1)))))
theorem UU {a:Rat} (h:0≤a):0≤a.num:=Rat.num_nonneg.mpr h
theorem aDK {a:Rat} (h:a≤1):a.num≤(a.den:Int):=by
 have:=(Rat.le_iff a 1).mp h;simpa using this
theorem EN (h:PT T):∀ xs G Q,iI xs G Q→wpS T hX (aQ Q) (aF 1 xs) G:=by
 rintro xs G Q ⟨a,rfl,h0,h1,hq⟩;unfold hX;have:=h.is_fraction;have:=UU h0;have:=aDK h1;walk_at "rd"
noncomputable def gR:CS:=(.ret (.blt .isi (.cons (.var 0) (.cons (.glo "Shade") .nil))))
theorem XA {a b c:Rat} {G:Gh} {Q:PK1} {cs:List String}:eV cs .isi [SH a b c,.cl "Shade"] G Q=("Shade"∈cs∧Q (.bl true) G):=ZP
theorem EO (h:PT T):∀ xs G Q,iM xs G Q→wpS T gR (aQ Q) (aF 1 xs) G:=by
 rintro xs G Q ⟨a,b,c,rfl,hq⟩;unfold gR;have:=h.gv_Shade;have:=h.cs;have:=@XA;walk_at "rd"
noncomputable def eW:CS:=(.iff (.no (.tst (.cal "is_shade" (.cons (.var 0) .nil)))) .nev .nil)
theorem yF (h:PT T):∀ xs G Q,jJ xs G Q→wpS T eW (aQ Q) (aF 1 xs) G:=by
 rintro xs G Q ⟨a,b,c,rfl,hq⟩;unfold eW;have:=h.is_shade;walk_at "rd"
noncomputable def fY:CS:=(.seq (.ex (.cal "need_shade" (.cons (.var 0) .nil)))
 (.ret (.tup (.cons (.att (.var 0) "ember") (.cons (.att (.var 0) "leaf") (.cons (.att (.var 0) "sky") .nil))))))
theorem nH {c:String} {ns:List Str} {xs:List PV} {f:Str} {v:PV} {G:Gh} {Q:PK1} (hf:(c,f)∈T.fl) (hl:(ns.zip xs).lookup f=some v):FE T (.ob c ns xs) f G Q=Q v G:=by
 refine propext ⟨fun h=>?_,fun q=>⟨_,_,_,_,.inl rfl,hf,hl,q⟩⟩;obtain ⟨c',ns',xs',v',e,_,l,q⟩:=h;rcases e with e | ⟨_,e,_⟩
 · cases e;rw [hl] at l;cases l;exact q
 · cases e
theorem aIz (h:PT T) {a b c:Rat} {G:Gh} {Q:PK1}:FE T (SH a b c) "ember" G Q=Q (FQ a) G:=nH h.fl_e rfl
theorem aIX (h:PT T) {a b c:Rat} {G:Gh} {Q:PK1}:FE T (SH a b c) "leaf" G Q=Q (FQ b) G:=nH h.fl_l rfl
theorem aIV (h:PT T) {a b c:Rat} {G:Gh} {Q:PK1}:FE T (SH a b c) "sky" G Q=Q (FQ c) G:=nH h.fl_s rfl
theorem CZ (h:PT T):∀ xs G Q,bV xs G Q→wpS T fY (aQ Q) (aF 1 xs) G:=by
 rintro xs G Q ⟨a,b,c,rfl,hq⟩;unfold fY;have:=h.need_shade;have e1:=@aIz T h;have e2:=@aIX T h;have e3:=@aIV T h;walk_at "rd"
noncomputable def dB:CS:=(.seq (.fr (.gt 2 (.cons (.gn 4) (.cons (.gn 5) .nil))) (.ien (.tup (.cons (.var 1) (.cons (.var 2) (.cons (.var 3) .nil))))) (.iff (.no (.tst (.cal "is_share" (.cons (.var 5) .nil)))) .nev .nil))
 (.seq (.fld (.var 0) "ember" (.var 1))
 (.seq (.fld (.var 0) "leaf" (.var 2))
 (.fld (.var 0) "sky" (.var 3)))))
theorem pY (h:PT T):∀ xs G Q,oW xs G Q→wpS T dB (aQ Q) (aF 6 xs) G:=by
 rintro xs G Q ⟨p,a,b,c,rfl,hp,⟨a1,a2⟩,⟨b1,b2⟩,⟨c1,c2⟩,hq⟩;unfold dB;have:=h.is_share;walk_at "rd"
 refine ⟨"Shade",[],[],rfl,h.fl_e,by decide,"Shade",["ember"],[FQ a],aS,h.fl_l,by decide,"Shade",["ember","leaf"],[FQ a,FQ b],aS,h.fl_s,by decide, ?_⟩;simp only [lK];exact Wk.here hq
theorem BX (h:PT T):FA T "Shade" "Shade" "Shade.__init__":=by
 intro xs G Q q p hp;rw [h.shade] at q;rw [h.shadeI];obtain ⟨a,b,c,rfl,ha,hb,hc,q⟩:=q;refine ⟨p,a,b,c,rfl,aS,ha,hb,hc,rfl,_,_,aS, ?_⟩;rw [lK,CH hp];exact q
end
noncomputable def PU (x y z:Int):GO:=.lst [.int x,.int y,.int z]
def Pu (p:Addr) (G:Gh):Prop:= ∃ x y z,G p=some (PU x y z)
def Pn (p:Addr) (G G':Gh):Prop:= ∃ x y z,G'=gup G p (PU x y z)
theorem Pn.pu {p:Addr} {G G':Gh} (h:Pn p G G'):Pu p G':=let ⟨x,y,z,e⟩:=h; ⟨x,y,z,by rw [e]; exact aS⟩
theorem Pn.ne {p q:Addr} {G G':Gh} (h:Pn p G G') (n:q≠p):G' q=G q:=let ⟨x,y,z,e⟩:=h; by rw [e]; exact eZ n
theorem Pn.trans {p:Addr} {G G1 G2:Gh} (a:Pn p G G1) (b:Pn p G1 G2):Pn p G G2:=let ⟨x,y,z,e⟩:=a; let ⟨x',y',z',e'⟩:=b; ⟨x',y',z',by rw [e',e,lK]⟩
theorem Pu.ne {p q:Addr} {G:Gh} (h:Pu p G) (n:G q=none):q≠p:=fun e=>by subst e; obtain ⟨_,_,_,e⟩:=h; rw [n] at e; cases e
theorem Pu.new {p q:Addr} {G:Gh} {o:GO} (h:Pu p G) (n:G q=none):Pu p (gup G q o):=let ⟨x,y,z,e⟩:=h; ⟨x,y,z,by rw [eZ (Ne.symm (h.ne n))]; exact e⟩
def jX:Sp3:=fun xs G Q=>∃ p m,xs=[.ref p,.int m]∧Pu p G∧0 < m∧Sm 8000 m∧∀ r G',0≤r→r < m→Pn p G G'→Q (.int r) G'
def uF:Sp3:=fun xs G Q=>∃ (ns:List Int) (k:Int),xs=[.scr ns,.int k]∧0≤k∧k < 64∧∀ c,Q (.int c) G
def nY:Sp3:=fun xs G Q=>∃ c:Int,xs=[.int c]∧∀ p x y z,G p=none→Q (.ref p) (gup G p (PU x y z))
def lD:Sp3:=fun xs G Q=>∃ p,xs=[.ref p]∧Pu p G∧∀ q G',In1 q→Bd 12 q→Pn p G G'→Q (FQ q) G'
def hZ:Sp3:=fun xs G Q=>∃ p,xs=[.ref p]∧Pu p G∧∀ a b c G',In1 a→In1 b→In1 c→Bd 12 a→Bd 12 b→Bd 12 c→Pn p G G'→Q (.tup [FQ a,FQ b,FQ c]) G'
def pR:Sp3:=fun xs G Q=>∃ q,xs=[FQ q]∧Bd 8900 q∧Q (.bl true) G
structure LT (T:Tb):Prop where
 cell:T.S "_law_cell"=uF
 purse:T.S "_law_purse"=nY
 pick:T.S "_law_pick"=jX
 whole:T.S "_law_whole"=dX
 low:T.S "_law_low"=bF
 plus:T.S "_law_plus"=jI
 minus:T.S "_law_minus"=fK
 times:T.S "_law_times"=cY
 over:T.S "_law_over"=kC
 below:T.S "_law_below"=cQ
 is_fraction:T.S "_law_is_fraction"=pR
 share:T.S "_law_share"=lD
 shares:T.S "_law_shares"=hZ
local macro_rules | `(tactic| walk_at "rd") => wk (wB++" nP uJ PR sL sP HW sE kO kJ AT WS CB aAI uW FC at0 at1 at2 aFH aBy aBV WI TX dX sz3")
section
variable {T:Tb}
noncomputable def kA:CS:=(.seq (.sub (.var 0) (.int 2) (.bin .Add (.idx (.var 0) (.int 2)) (.int 1)))
 (.seq (.asg (.gn 2) (.bin .Mod (.idx (.var 0) (.int 0)) (.int 999999937)))
 (.seq (.sub (.var 0) (.int 0) (.bin .Add (.bin .Mult (.var 2) (.bin .Add (.bin .Mod (.var 2) (.int 50021)) (.int 20011))) (.bin .Mult (.int 90001) (.idx (.var 0) (.int 2)))))
 (.seq (.iff (.tsb (.cmp .Gt (.idx (.var 0) (.int 1)) (.int 0))) (.seq (.asg (.gn 3) (.bin .Mod (.idx (.var 0) (.int 1)) (.var 1)))
 (.seq (.sub (.var 0) (.int 1) (.bin .FloorDiv (.idx (.var 0) (.int 1)) (.var 1)))
 (.ret (.var 3)))) .nil)
 (.ret (.bin .Mod (.bin .FloorDiv (.bin .Mod (.idx (.var 0) (.int 0)) (.int 999999937)) (.int 16)) (.var 1)))))))
theorem PN {G:Gh} {p:Addr} {o:GO} (h:G p=some o):gup G p o=G:=by
 funext b; unfold gup; split
 · rename_i e; rw [e]; exact h.symm
 · rfl
theorem FR {x:Int} (a:0≤x) (b:x < 1000000000000):Sm 64 x:=by unfold Sm; omega
theorem SZ:∀ xs G Q,jX xs G Q→wpS T kA (aQ Q) (aF 4 xs) G:=by
 rintro xs G Q ⟨p,m,rfl,⟨x,y,z,hp⟩,h0,h1,hq⟩;unfold kA;have e:G=gup G p (.lst [.int x,.int y,.int z]):=(PN hp).symm;have fin:∀ r x' y' z',0≤r→r < m→Q (.int r) (gup G p (.lst [.int x',.int y',.int z'])):=fun r x' y' z' a b=>hq r _ a b ⟨x',y',z',rfl⟩;generalize hG:gup G p (.lst [.int x,.int y,.int z])=G1 at e;rw [←hG] at e;rw [e];clear e hG;walk_at "rd"
 refine ⟨by show (0:Int) < 999999937; decide,by show (0:Int) < 50021; decide,UF (FR (Int.emod_nonneg _ (by decide)) (Int.lt_trans (Int.emod_lt_of_pos _ (by decide)) (by decide))),UF (FR (by decide) (by decide)), ?_⟩;split
 · exact ⟨h0,wG (k:=8000) h0 h1,Wk.here (fin _ _ _ _ (Int.emod_nonneg _ (by omega)) (Int.emod_lt_of_pos _ h0))⟩
 · exact ⟨by show (0:Int) < 999999937; decide,wG (k:=64) (by decide) (FR (by decide) (by decide)),h0,Wk.here (fin _ _ _ _ (Int.emod_nonneg _ (by omega)) (Int.emod_lt_of_pos _ h0))⟩
noncomputable def jO:CS:=(.ret (.lst true (.cons (.bin .Add (.bin .Mult (.bin .Mod (.var 0) (.int 999999937)) (.int 7001)) (.int 3301)) (.cons (.idx (.lst false (.cons (.int 0) (.cons (.var 0) .nil))) (.blt .int (.cons (.cmp .GtE (.var 0) (.bin .Pow (.int 10) (.int 18))) .nil))) (.cons (.int 0) .nil)))))
theorem LW:∀ xs G Q,nY xs G Q→wpS T jO (aQ Q) (aF 1 xs) G:=by
 rintro xs G Q ⟨c,rfl,hq⟩;unfold jO;walk_at "rd"
 refine ⟨by show (0:Int) < 999999937; decide,aGr (FR (by decide) (by decide)),⟨by decide,by decide,by decide⟩, ?_⟩;have e:∃ x,atI [PV.int 0,PV.int c] (if decide ((10:Int) ^ Int.toNat 18≤c)=true then 1 else 0)=some (.int x):=by
   split
   · exact ⟨_,at1⟩
   · exact ⟨_,at0⟩
 obtain ⟨x,e⟩:=e;simp only [decide_eq_true_eq] at e;refine ⟨_,e,fun p n=>Wk.here (hq p _ _ _ n)⟩
noncomputable def vH:CS:=(.seq (.par 2 3 (.blt .abs (.cons (.var 0) .nil)) (.var 1))
 (.seq (.wh (.tsb (.cmp .Gt (.var 3) (.int 0))) (.par 2 3 (.var 3) (.bin .Mod (.var 2) (.var 3))))
 (.ret (.tup (.cons (.bin .FloorDiv (.var 0) (.var 2)) (.cons (.bin .FloorDiv (.var 1) (.var 2)) .nil))))))
noncomputable def mV:CS:=(.seq (.iff (.tsb (.cmp .Lt (.var 1) (.int 0))) (.par 0 1 (.bin .Sub (.int 0) (.var 0)) (.bin .Sub (.int 0) (.var 1))) .nil) vH)
theorem BE {t b:Int} {G:Gh} {Q:PK1} (hb:0 < b) (sb:Sm 9000 b) (hq:Q (FQ (Rat.divInt t b)) G) :
   wpS T vH (aQ Q) [some (.int t),some (.int b),none,none] G:=by
 unfold vH;walk_at "rd"
 refine ⟨fun m σ H=>∃ x y,σ=[some (.int t),some (.int b),some (.int x),some (.int y)]∧H=G∧0≤x∧0≤y∧Int.gcd x y=Int.gcd t b∧m=y.toNat,⟨_,_,_,rfl,rfl,by omega,by omega,yQ t b,rfl⟩, ?_⟩;rintro m σ H ⟨x,y,rfl,rfl,hx,hy,hg,rfl⟩;walk_at "rd"
 split
 · rename_i hy0;have h2:=Int.emod_lt_of_pos x (show 0 < y by omega);have h3:=Int.emod_nonneg x (show y≠0 by omega);exact ⟨by show 0 < y; omega,(x % y).toNat,by omega,h3,(BW hx (by omega)).trans hg,rfl⟩
 · rename_i hy0;have e:y=0:=by omega
   subst e;have g:x=((Int.gcd t b:Nat):Int):=by rw [←hg,Int.gcd_zero_right]; omega
   obtain ⟨d1,d2⟩:=zB (t:=t) (b:=b) hb sb;subst g;refine ⟨d1,d2,Wk.here ?_⟩;rw [←yJ hb]; exact hq
theorem aAK:∀ xs G Q,bF xs G Q→wpS T mV (aQ Q) (aF 4 xs) G:=by
 rintro xs G Q ⟨t,b,rfl,h0,sb,hq⟩;unfold mV;have e0:∀ x:Int,0 - x= -x:=fun x=>by omega
 walk_at "rd"
 split
 · rename_i hb;refine BE (by omega) sb.neg ?_;rw [Rat.neg_divInt_neg]; exact hq
 · rename_i hb;exact BE (by omega) sb hq
noncomputable def lG:CS:=(.ret (.cal "_law_low" (.cons (.bin .Add (.bin .Mult (.idx (.var 0) (.int 0)) (.idx (.var 1) (.int 1))) (.bin .Mult (.idx (.var 1) (.int 0)) (.idx (.var 0) (.int 1)))) (.cons (.bin .Mult (.idx (.var 0) (.int 1)) (.idx (.var 1) (.int 1))) .nil))))
theorem PJ (h:LT T):∀ xs G Q,jI xs G Q→wpS T lG (aQ Q) (aF 2 xs) G:=by
 rintro xs G Q ⟨a,b,rfl,ha,hb,hq⟩;unfold lG;have:=h.low;walk_at "rd"
 refine ⟨bR ha.1 hb.2,bR hb.1 ha.2,bR ha.2 hb.2,bQ aY aY,aDv ha hb,Wk.here ?_⟩;rw [aBN]; exact hq
noncomputable def iS:CS:=(.ret (.cal "_law_low" (.cons (.bin .Sub (.bin .Mult (.idx (.var 0) (.int 0)) (.idx (.var 1) (.int 1))) (.bin .Mult (.idx (.var 1) (.int 0)) (.idx (.var 0) (.int 1)))) (.cons (.bin .Mult (.idx (.var 0) (.int 1)) (.idx (.var 1) (.int 1))) .nil))))
theorem LQ (h:LT T):∀ xs G Q,fK xs G Q→wpS T iS (aQ Q) (aF 2 xs) G:=by
 rintro xs G Q ⟨a,b,rfl,ha,hb,hq⟩;unfold iS;have:=h.low;walk_at "rd"
 refine ⟨bR ha.1 hb.2,bR hb.1 ha.2,bR ha.2 hb.2,bQ aY aY,aDv ha hb,Wk.here ?_⟩;rw [DQ]; exact hq
noncomputable def jE:CS:=(.ret (.cal "_law_low" (.cons (.bin .Mult (.idx (.var 0) (.int 0)) (.idx (.var 1) (.int 0))) (.cons (.bin .Mult (.idx (.var 0) (.int 1)) (.idx (.var 1) (.int 1))) .nil))))
theorem MN (h:LT T):∀ xs G Q,cY xs G Q→wpS T jE (aQ Q) (aF 2 xs) G:=by
 rintro xs G Q ⟨a,b,rfl,ha,hb,hq⟩;unfold jE;have:=h.low;walk_at "rd"
 refine ⟨bR ha.1 hb.1,bR ha.2 hb.2,bQ aY aY,aDv ha hb,Wk.here ?_⟩;rw [aB6]; exact hq
noncomputable def fH:CS:=(.ret (.cmp .Lt (.bin .Mult (.idx (.var 0) (.int 0)) (.idx (.var 1) (.int 1))) (.bin .Mult (.idx (.var 1) (.int 0)) (.idx (.var 0) (.int 1)))))
theorem xR:∀ xs G Q,cQ xs G Q→wpS T fH (aQ Q) (aF 2 xs) G:=by
 rintro xs G Q ⟨a,b,rfl,ha,hb,hq⟩;unfold fH;walk_at "rd"
 refine ⟨bR ha.1 hb.2,bR hb.1 ha.2,Wk.here ?_⟩;rw [show decide (a.num * (b.den:Int) < b.num * (a.den:Int))=decide (a < b) from decide_eq_decide.mpr (Rat.lt_iff a b).symm];exact hq
theorem aID {q:Rat}:shp (FQ q)=true:=rfl
theorem aIs {G:Gh} {q:Rat}:pur G (FQ q)=FQ q:=rfl
theorem aEA {a b:Rat}:peq (FQ a) (FQ b)=decide (a=b):=by
 have:peq (FQ a) (FQ b)=(a.num == b.num && ((a.den:Int) == (b.den:Int) && true)):=by unfold FQ; simp only [peq,nF]
 rw [this,Bool.and_true,Bool.eq_iff_iff,Bool.and_eq_true,decide_eq_true_eq,beq_iff_eq,beq_iff_eq];exact ⟨by rintro ⟨x,y⟩;exact Rat.ext x (by omega),fun e=>by rw [e]; exact ⟨rfl,rfl⟩⟩
end
local macro_rules | `(tactic| walk_at "rd") => wk (wB++" exists_false false_and and_false or_false uJ sL gE kR PH kJ AT WW tZ uW TC at0 at1 at2 iC fQ PP yD Option.getD_some jX lD lJ sz3")
section
variable {T:Tb}
noncomputable def lC:CS:=(.seq (.iff (.tsb (.cmp .Lt (.var 1) (.blt .len (.cons (.var 0) .nil)))) (.ret (.idx (.var 0) (.var 1))) .nil)
 (.seq (.asg (.gn 2) (.bin .Mod (.bin .Mult (.int 60013) (.bin .Add (.bin .Add (.bin .Mult (.var 1) (.var 1)) (.bin .Mult (.int 7) (.var 1))) (.int 3))) (.int 999999937)))
 (.seq (.fr (.gn 3) (.isq (.sli (.var 0) .nil (.tst (.int 4)))) (.asg (.gn 2) (.bin .Mod (.bin .Add (.bin .Mult (.var 2) (.int 30103)) (.var 3)) (.int 999999937))))
 (.ret (.var 2)))))
theorem uB {g:PTG} {tb:PTS} {D:dY} (I:PSt→Gh→Prop):∀ {xs:List PV} {σ:PSt} {G:Gh},I σ G→(∀ x∈xs,∀ σ G R,I σ G→(∀ σ' G',I σ' G'→R σ' G')→g x σ G fun σ2 G2=>tb { D with nx:=R,ct:=R,bk:=D.nx } σ2 G2)→(∀ σ G,I σ G→D.nx σ G)→nS (fun _=>True) g tb D xs σ G
 | [],σ,G,h,_,hd=>⟨trivial,hd σ G h⟩
 | x :: r,σ,G,h,hs,hd=>⟨trivial,hs x (wDq ..) σ G _ h fun σ' G' h'=>uB I h' (fun y hy=>hs y (wCq _ hy)) hd⟩
theorem SR {ns:List Int} {lo hi:Option Int} {G:Gh} {Q:PK1}:UH (.scr ns) lo hi G Q=Q (.lst (rM (ns.map .int) lo hi)) G:=rfl
theorem PY:∀ xs G Q,uF xs G Q→wpS T lC (aQ Q) (aF 4 xs) G:=by
 rintro xs G Q ⟨ns,k,rfl,h0,h1,hq⟩;unfold lC;have:=@SR;walk_at "rd"
 split
 · rename_i hk;obtain ⟨j,rfl⟩:=Int.eq_ofNat_of_zero_le h0;have hj:j < ns.length:=by omega
   exact ⟨ns[j],dE (by simp [hj])⟩
 · have sk:Sm 64 k:=FR h0 (by omega);refine ⟨UF sk,aGr sk,UF (FR (by decide) (by decide)),by show (0:Int) < 999999937; decide, ?_⟩;refine uB (fun σ G'=>G'=G∧∃ st u,σ=[some (.scr ns),some (.int k),some (.int st),u]∧0≤st∧st < 999999937) ⟨rfl,_,_,rfl,Int.emod_nonneg _ (by decide),Int.emod_lt_of_pos _ (by decide)⟩ ?_ ?_
   · rintro x hx σ G' R ⟨rfl,st,u,rfl,a1,a2⟩ hR;have hx':x∈ns.map PV.int:=by
       unfold rM at hx;exact List.mem_of_mem_drop (List.mem_of_mem_take hx)
     obtain ⟨c,_,rfl⟩:=List.mem_map.mp hx';walk_at "rd"
     exact ⟨UF (FR a1 (by omega)),by show (0:Int) < 999999937; decide,hR _ _ ⟨rfl,_,_,rfl,Int.emod_nonneg _ (by decide),Int.emod_lt_of_pos _ (by decide)⟩⟩
   · rintro σ G' ⟨rfl,st,u,rfl,a1,a2⟩;walk_at "rd"
theorem aEg {r k:Int} (a:0≤r) (b:r < 10) (c:0≤k) (d:k < 997):∃ v,atI [PV.int 1,PV.int 2,PV.int 3,PV.int 4,PV.int 6,PV.int 12,PV.int 60,PV.int 255,PV.int 510,PV.int (1 + k)] r=some (.int v)∧1≤v∧v≤997:=by
 have e:r=0∨r=1∨r=2∨r=3∨r=4∨r=5∨r=6∨r=7∨r=8∨r=9:=by omega
 rcases e with rfl | rfl | rfl | rfl | rfl | rfl | rfl | rfl | rfl | rfl
 · exact ⟨_,at0,by omega,by omega⟩
 · exact ⟨_,at1,by omega,by omega⟩
 · exact ⟨_,at2,by omega,by omega⟩
 · exact ⟨_,at3,by omega,by omega⟩
 · exact ⟨_,at4,by omega,by omega⟩
 · exact ⟨_,dE (j:=5) rfl,by omega,by omega⟩
 · exact ⟨_,dE (j:=6) rfl,by omega,by omega⟩
 · exact ⟨_,dE (j:=7) rfl,by omega,by omega⟩
 · exact ⟨_,dE (j:=8) rfl,by omega,by omega⟩
 · exact ⟨_,dE (j:=9) rfl,by omega,by omega⟩
noncomputable def iR:CS:=(.seq (.asg (.gn 1) (.cal "_law_pick" (.cons (.var 0) (.cons (.int 10) .nil))))
 (.seq (.asg (.gn 2) (.idx (.lst false (.cons (.int 1) (.cons (.int 2) (.cons (.int 3) (.cons (.int 4) (.cons (.int 6) (.cons (.int 12) (.cons (.int 60) (.cons (.int 255) (.cons (.int 510) (.cons (.bin .Add (.int 1) (.cal "_law_pick" (.cons (.var 0) (.cons (.int 997) .nil)))) .nil))))))))))) (.var 1)))
 (.ret (.cal "_law_low" (.cons (.cal "_law_pick" (.cons (.var 0) (.cons (.bin .Add (.var 2) (.int 1)) .nil))) (.cons (.var 2) .nil))))))
theorem smP {x:Int} (a:0≤x) (b:x < 1000000000000):Sm 8000 x:=smK (by omega) b (by decide)
theorem sR {t b:Int} (h0:0≤t) (h1:t≤b) (hb:0 < b):In1 (Rat.divInt t b):=by
 constructor
 · exact Rat.divInt_nonneg h0 (by omega)
 · rw [Rat.divInt_eq_div];have hb':(0:Rat) < (b:Rat):=Rat.intCast_pos.mpr hb;have h2:(t:Rat)≤(b:Rat):=Rat.intCast_le_intCast.mpr h1;have h3:(t:Rat) / (b:Rat) * (b:Rat)=(t:Rat):=Rat.div_mul_cancel (by grind);refine Rat.le_of_mul_le_mul_right (c:=(b:Rat)) ?_ hb'
   grind
theorem pP {t b:Int} {n:Nat} (ht:Sm n t) (hb:Sm n b) (h0:b≠0):Bd n (Rat.divInt t b):=Bd.divInt ht hb h0
theorem MH (h:LT T):∀ xs G Q,lD xs G Q→wpS T iR (aQ Q) (aF 3 xs) G:=by
 rintro xs G Q ⟨p,rfl,hp,hq⟩;unfold iR;have:=h.pick;have:=h.low;walk_at "rd"
 refine ⟨by decide,smP (by decide) (by decide),fun r1 G1 a1 b1 n1=>⟨n1.pu,by decide,smP (by decide) (by decide),fun r2 G2 a2 b2 n2=>?_⟩⟩;obtain ⟨v,e,c1,c2⟩:=aEg a1 b1 a2 b2;refine ⟨by decide,_,e, ?_⟩;walk_at "rd"
 refine ⟨n2.pu,by omega,smP (by omega) (by omega),fun r3 G3 a3 b3 n3=>?_⟩;refine ⟨by omega,smK (by omega) (by omega) (by decide),Wk.here (hq _ _ (sR a3 (by omega) (by omega)) (pP ?_ ?_ (by omega)) ((n1.trans n2).trans n3))⟩
 · unfold Sm; omega
 · unfold Sm; omega
def Pk (p:Addr) (G K:Gh):Prop:= ∃ G',Pn p G G'∧∀ a u,G' a=some u→K a=some u
theorem Pk.of {p:Addr} {G G':Gh} (h:Pn p G G'):Pk p G G':=⟨G',h,fun _ _ z=>z⟩
theorem Pk.new {p l:Addr} {G K:Gh} {o:GO} (h:Pk p G K) (n:K l=none):Pk p G (gup K l o):=by
 obtain ⟨G',a,b⟩:=h;refine ⟨G',a,fun x u q=>?_⟩;have:=b x u q;rw [eZ (fun e=>by rw [e,n] at this; cases this)]; exact this
theorem Pk.set {p l:Addr} {G K:Gh} {o:GO} (h:Pk p G K) (n:G l=none) (ne:l≠p):Pk p G (gup K l o):=by
 obtain ⟨G',a,b⟩:=h;refine ⟨G',a,fun x u q=>?_⟩;have e:x≠l:=fun e=>by rw [e,a.ne ne,n] at q; cases q
 rw [eZ e]; exact b x u q
theorem Pk.pick {p:Addr} {G K K':Gh} (h:Pk p G K) (m:Pn p K K'):Pk p G K':=by
 obtain ⟨G',a,b⟩:=h;obtain ⟨x,y,z,e⟩:=m;refine ⟨gup G' p (PU x y z),a.trans ⟨x,y,z,rfl⟩,fun c u q=>?_⟩;rw [e];by_cases ec:c=p
 · subst ec; rw [aS] at q ⊢; exact q
 · rw [eZ ec] at q ⊢; exact b c u q
theorem Pk.end_ {p:Addr} {G K:Gh} {Q:PK1} {x:PV} (h:Pk p G K) (q:∀ G',Pn p G G'→Q x G'):Wk Q x K:=let ⟨G',a,b⟩:=h; Wk.of (q G' a) b
noncomputable def gW:CS:=(.seq (.asg (.gn 1) (.cal "_law_pick" (.cons (.var 0) (.cons (.int 8) .nil))))
 (.seq (.asg (.gn 2) (.cmpr true (.gn 1) (.irg (.cons (.int 3) .nil)) .nil (.cal "_law_share" (.cons (.var 2) .nil)) [none,none,some 0]))
 (.seq (.iff (.tsb (.cmp .Eq (.var 1) (.int 1))) (.sub (.var 2) (.bin .Add (.int 1) (.cal "_law_pick" (.cons (.var 0) (.cons (.int 2) .nil)))) (.idx (.var 2) (.int 0))) .nil)
 (.seq (.iff (.tsb (.cmp .Eq (.var 1) (.int 3))) (.asg (.gn 2) (.lst true (.cons (.idx (.var 2) (.int 0)) (.cons (.idx (.var 2) (.int 0)) (.cons (.idx (.var 2) (.int 0)) .nil))))) .nil)
 (.ret (.blt .tuple (.cons (.var 2) .nil)))))))
theorem JZ {j:Int} {R:Int→Prop} {A:Int→Int→Prop}:((∃ k,[PV.int j]=[PV.int k]∧R k)∨(∃ i k,[PV.int j]=[PV.int i,PV.int k]∧A i k))=R j:=propext
 ⟨fun h=>h.elim (by rintro ⟨_,e,r⟩;cases e; exact r) (by rintro ⟨_,_,e,_⟩;cases e),fun r=>.inl ⟨_,rfl,r⟩⟩
theorem EI (h:LT T):∀ xs G Q,hZ xs G Q→wpS T gW (aQ Q) (aF 3 xs) G:=by
 rintro xs G Q ⟨p,rfl,hp,hq⟩;unfold gW;have:=h.pick;have:=h.share;walk_at "rd"
 refine ⟨by decide,smP (by decide) (by decide),fun r1 G1 a1 b1 n1=>?_⟩;refine ⟨by decide,by decide,n1.pu,fun q1 G2 i1 d1 m1=>⟨m1.pu,fun q2 G3 i2 d2 m2=>⟨m2.pu,fun q3 G4 i3 d3 m3 l hl=>?_⟩⟩⟩;have nn:=((n1.trans m1).trans m2).trans m3;have lp:l≠p:=m3.pu.ne hl;have gl:G l=none:=by rw [←nn.ne lp]; exact hl
 have k0:Pk p G (gup G4 l (.lst [FQ q1,FQ q2,FQ q3])):=(Pk.of nn).new hl;split
 · rename_i e1;refine ⟨m3.pu.new hl,by decide,smP (by decide) (by decide),fun r G5 a b m4=>?_⟩;have g5:G5 l=some (.lst [FQ q1,FQ q2,FQ q3]):=by rw [m4.ne lp]; exact aS
   have hr:r=0∨r=1:=by omega
   rw [DH g5];have ne3:¬r1=3:=by omega
   have k1:∀ o,Pk p G (gup G5 l o):=fun o=>(k0.pick m4).set gl lp;rcases hr with rfl | rfl
   · refine ⟨1,aBy, ?_⟩;rw [if_neg ne3,tZ];exact (k1 _).end_ fun G' g=>hq _ _ _ G' i1 i1 i3 d1 d1 d3 g
   · refine ⟨2,aBV, ?_⟩;rw [if_neg ne3,tZ];exact (k1 _).end_ fun G' g=>hq _ _ _ G' i1 i2 i1 d1 d2 d1 g
 · split
   · intro l2 hl2;exact (k0.new hl2).end_ fun G' g=>hq _ _ _ G' i1 i1 i1 d1 d1 d1 g
   · exact k0.end_ fun G' g=>hq _ _ _ G' i1 i2 i3 d1 d2 d3 g
end
noncomputable abbrev R3:=Rat×Rat×Rat
noncomputable def shV (r:R3):PV:=SH r.1 r.2.1 r.2.2
def DR:Sp3:=fun xs G Q=>∃ a b c a' b' c',xs=[SH a b c,SH a' b' c']∧Q (.bl (decide (a=a') && (decide (b=b') && decide (c=c')))) G
theorem aFP {a b c:Rat}:shp (.tup [FQ a,FQ b,FQ c])=true:=rfl
theorem RF:nF [] []=true:=by simp only [nF]
theorem MQ {x y:PV} {xs ys:List PV}:nF (x :: xs) (y :: ys)=(peq x y && nF xs ys):=by simp only [nF]
theorem aCZ {G:Gh} {Q:PK1} {a b c a' b' c':Rat}:pEq false (.tup [FQ a,FQ b,FQ c]) (.tup [FQ a',FQ b',FQ c']) G Q=Q (.bl (decide (a=a') && (decide (b=b') && decide (c=c')))) G:=by
 show (shp (.tup [FQ a,FQ b,FQ c])=true∧shp (.tup [FQ a',FQ b',FQ c'])=true∧Q (.bl (peq (.tup [FQ a,FQ b,FQ c]) (.tup [FQ a',FQ b',FQ c']))) G)=_;simp only [aFP,true_and,peq,MQ,RF,aEA,Bool.and_true]
theorem XO {xs:List PV} {G:Gh} {Q:PK1}:pIs false (.tup xs) .non G Q=Q (.bl false) G:=YS (fun z=>by cases z)
theorem av0 {xs:List PV} {x:PV}:Ar.val (x :: xs) (.arg 0)=x:=rfl
theorem av1 {xs:List PV} {x y:PV}:Ar.val (x :: y :: xs) (.arg 1)=y:=rfl
theorem av2 {xs:List PV} {x y z:PV}:Ar.val (x :: y :: z :: xs) (.arg 2)=z:=rfl
theorem avn {xs:List PV}:Ar.val xs .non= .non:=rfl
local macro_rules | `(tactic| walk_at "rd") => wk (wB++" XA zF lJ bV aCZ")
section
variable {T:Tb}
noncomputable def gU:CS:=(.seq (.asg (.gl 3 (.cons (.gn 1) (.cons (.gn 2) (.cons (.gn 3) .nil)))) (.var 0))
 (.ret (.cal "Shade" (.cons (.var 1) (.cons (.var 2) (.cons (.var 3) .nil))))))
theorem GZ (h:PT T):∀ xs G Q,iF xs G Q→wpS T gU (aQ Q) (aF 4 xs) G:=by
 rintro xs G Q ⟨x,a,b,c,rfl,hx,ia,ib,ic,hq⟩;unfold gU;have:=h.shade;walk_at "rd"
noncomputable def dW:CS:=(.ret (.an (.blt .isi (.cons (.var 1) (.cons (.glo "Shade") .nil))) (.cmp .Eq (.cal "shares_of" (.cons (.var 0) .nil)) (.cal "shares_of" (.cons (.var 1) .nil)))))
theorem uG (h:PT T):∀ xs G Q,DR xs G Q→wpS T dW (aQ Q) (aF 2 xs) G:=by
 rintro xs G Q ⟨a,b,c,a',b',c',rfl,hq⟩;unfold dW;have:=h.shares_of;have:=h.gv_Shade;have:=h.cs;walk_at "rd"
end
theorem aEK (x:Int):0≤x * x:=by
 rcases Int.le_total 0 x with h | h
 · exact Int.mul_nonneg h h
 · have:0≤(-x) * (-x):=Int.mul_nonneg (by omega) (by omega)
   rwa [Int.neg_mul_neg] at this
theorem aFA (a b:Int):4 * (a * b)≤(a + b) * (a + b):=by
 have h:=aEK (a - b);have e1:(a - b) * (a - b)=a * a - a * b - a * b + b * b:=by
   rw [Int.sub_mul,Int.mul_sub,Int.mul_sub,Int.mul_comm b a]; omega
 have e2:(a + b) * (a + b)=a * a + a * b + a * b + b * b:=by
   rw [Int.add_mul,Int.mul_add,Int.mul_add,Int.mul_comm b a]; omega
 omega
theorem BH {a b:Int} (ha:0≤a) (h:a≤b):a * a≤b * b:=Int.mul_le_mul h h ha (by omega)
theorem XI {n g:Int} (hg:1≤g):n < g * (n / g + 1):=by
 have:=Int.emod_lt_of_pos n (show 0 < g by omega);have e:=Int.mul_ediv_add_emod n g;rw [Int.mul_add,Int.mul_one]; omega
theorem SC {n g:Int} (hg:1≤g):g * (n / g)≤n:=by
 have:=Int.emod_nonneg n (show g≠0 by omega);have e:=Int.mul_ediv_add_emod n g;omega
theorem OD {n g:Int} (hn:0≤n) (hg:1≤g):n < ((g + n / g) / 2 + 1) * ((g + n / g) / 2 + 1):=by
 have hq:0≤n / g:=Int.ediv_nonneg hn (by omega);have h1:=XI (n:=n) hg;have h2:=aFA g (n / g + 1);generalize hm:(g + n / g) / 2=m at *;have h3:g + (n / g + 1)≤2 * (m + 1):=by omega
 have h4:=BH (by omega) h3;have e:2 * (m + 1) * (2 * (m + 1))=4 * ((m + 1) * (m + 1)):=by
   rw [Int.mul_assoc,Int.mul_left_comm (m + 1) 2 (m + 1),←Int.mul_assoc]; rfl
 omega
theorem FH {n g:Int} (hn:1≤n) (hg:1≤g):1≤(g + n / g) / 2:=by
 rcases Int.lt_or_le g 2 with h | h
 · have e:g=1:=by omega
   subst e;rw [Int.ediv_one]; omega
 · have:0≤n / g:=Int.ediv_nonneg (by omega) (by omega);omega
theorem GE {n g:Int} (hg:1≤g) (h:¬(g + n / g) / 2 < g):g * g≤n:=by
 have h1:g≤n / g:=by omega
 have h2:=SC (n:=n) hg;have h3:g * g≤g * (n / g):=Int.mul_le_mul_of_nonneg_left h1 (by omega);omega
theorem aAl {n:Int} (hn:0≤n) (j:Int) (hj:j=((Builtin.Int.intBits n:Nat):Int) ):n < (1 * 2 ^ ((j + 1) / 2).toNat + 1) * (1 * 2 ^ ((j + 1) / 2).toNat + 1):=by
 subst hj;generalize hb:Builtin.Int.intBits n=b;have hlt:n < 2 ^ b:=by
   rw [←hb]; unfold Builtin.Int.intBits;split
   · rename_i z;have:n=0:=by simpa using z
     rw [this]; decide
   · have:=Nat.lt_log2_self (n:=n.natAbs);have e:((2 ^ (n.natAbs.log2 + 1):Nat):Int)=2 ^ (n.natAbs.log2 + 1):=by rw [Int.natCast_pow]; rfl
     rw [←e]; omega
 have ek:(((b:Int) + 1) / 2).toNat=(b + 1) / 2:=by omega
 rw [ek,Int.one_mul];generalize hk:(b + 1) / 2=k;have h2:(2:Int) ^ b≤2 ^ k * 2 ^ k:=by
   rw [←Int.pow_add];have:(2:Nat) ^ b≤2 ^ (k + k):=Nat.pow_le_pow_right (by decide) (by omega);have e1:((2 ^ b:Nat):Int)=2 ^ b:=by rw [Int.natCast_pow]; rfl
   have e2:((2 ^ (k + k):Nat):Int)=2 ^ (k + k):=by rw [Int.natCast_pow]; rfl
   rw [←e1,←e2]; omega
 have hp:(0:Int) < 2 ^ k:=Int.pow_pos (by decide);have h3:=BH (Int.le_of_lt hp) (show (2:Int) ^ k≤2 ^ k + 1 by omega);omega
theorem aAk {t b r:Int} (hb:1≤b) (ht:1≤t) (h1:r * r≤(t - 1) / b) (h2:(t - 1) / b < (r + 1) * (r + 1)):t≤(r + 1) * (r + 1) * b∧r * r * b < t:=by
 have d1:=XI (n:=t - 1) hb;have d2:=SC (n:=t - 1) hb;generalize (t - 1) / b=u at *;constructor
 · have:(u + 1) * b≤(r + 1) * (r + 1) * b:=Int.mul_le_mul_of_nonneg_right (by omega) (by omega);rw [Int.mul_comm (u + 1) b] at this;omega
 · have:r * r * b≤u * b:=Int.mul_le_mul_of_nonneg_right h1 (by omega);rw [Int.mul_comm u b] at this;omega
noncomputable def cN (a b c a' b' c':Rat) (i j k:Int):Rat:=(i:Rat) * ((a - a') * (a - a')) + (j:Rat) * ((b - b') * (b - b')) + (k:Rat) * ((c - c') * (c - c'))
def Ey (i j k:Int):Prop:=(1≤i∧i≤99)∧(1≤j∧j≤99)∧(1≤k∧k≤99)
def TL (x:PV) (i j k:Int):Prop:=(x= .non∧i=1∧j=1∧k=1)∨x= .tup [.int i,.int j,.int k]
theorem aA1 {a b c a' b' c':Rat} {i j k:Int}:cN a b c a' b' c' i j k=cN a' b' c' a b c i j k:=by unfold cN; grind
theorem OS {a b c:Rat} {i j k:Int}:cN a b c a b c i j k=0:=by unfold cN; grind
theorem mE (x:Rat):0≤x * x:=by
 rcases Rat.le_total (a:=0) (b:=x) with h | h
 · exact Rat.mul_nonneg h h
 · have:0≤(-x) * (-x):=Rat.mul_nonneg (by grind) (by grind)
   grind
theorem fE {i:Int} (h:1≤i):(1:Rat)≤(i:Rat):=Rat.intCast_le_intCast.mpr h
theorem aED {x:Rat} (h:x * x=0):x=0:=by
 rcases Rat.mul_eq_zero.mp h with z | z <;> exact z
theorem RJ {a b c a' b' c':Rat} {i j k:Int} (e:Ey i j k):cN a b c a' b' c' i j k=0↔a=a'∧b=b'∧c=c':=by
 obtain ⟨⟨i1,_⟩,⟨j1,_⟩,⟨k1,_⟩⟩:=e;constructor
 · intro h;have hi:=fE i1;have hj:=fE j1;have hk:=fE k1;have n1:0≤(i:Rat) * ((a - a') * (a - a')):=Rat.mul_nonneg (by grind) (mE _);have n2:0≤(j:Rat) * ((b - b') * (b - b')):=Rat.mul_nonneg (by grind) (mE _);have n3:0≤(k:Rat) * ((c - c') * (c - c')):=Rat.mul_nonneg (by grind) (mE _);unfold cN at h;have z1:(i:Rat) * ((a - a') * (a - a'))=0:=by grind
   have z2:(j:Rat) * ((b - b') * (b - b'))=0:=by grind
   have z3:(k:Rat) * ((c - c') * (c - c'))=0:=by grind
   have nz:∀ {x:Rat},1≤x→x≠0:=fun h z=>by rw [z] at h; exact absurd h (by decide)
   have w1:=aED ((Rat.mul_eq_zero.mp z1).resolve_left (nz hi));have w2:=aED ((Rat.mul_eq_zero.mp z2).resolve_left (nz hj));have w3:=aED ((Rat.mul_eq_zero.mp z3).resolve_left (nz hk));exact ⟨by grind,by grind,by grind⟩
 · rintro ⟨rfl,rfl,rfl⟩;exact OS
theorem sm7 {i:Int} (h1:1≤i) (h2:i≤99):Sm 7 i:=by unfold Sm; omega
theorem tO {a b c a' b' c':Rat} {i j k:Int} (e:Ey i j k) (ha:Bd 100 a) (hb:Bd 100 b) (hc:Bd 100 c) (ha':Bd 100 a') (hb':Bd 100 b') (hc':Bd 100 c'):Bd 1300 (cN a b c a' b' c' i j k):=by
 obtain ⟨⟨i1,i2⟩,⟨j1,j2⟩,⟨k1,k2⟩⟩:=e;have x:=ha.sub ha' (show 100 + 100 + 1≤201 by decide);have y:=hb.sub hb' (show 100 + 100 + 1≤201 by decide);have z:=hc.sub hc' (show 100 + 100 + 1≤201 by decide);have bi:Bd 7 (i:Rat):=Bd.int (sm7 i1 i2) (by decide);have bj:Bd 7 (j:Rat):=Bd.int (sm7 j1 j2) (by decide);have bk:Bd 7 (k:Rat):=Bd.int (sm7 k1 k2) (by decide);have x2:=bi.mul (x.mul x (show 201 + 201≤402 by decide)) (show 7 + 402≤409 by decide);have y2:=bj.mul (y.mul y (show 201 + 201≤402 by decide)) (show 7 + 402≤409 by decide);have z2:=bk.mul (z.mul z (show 201 + 201≤402 by decide)) (show 7 + 402≤409 by decide);exact (x2.add y2 (show 409 + 409 + 1≤819 by decide)).add z2 (by decide)
theorem aES {a b c a' b' c':Rat} {i j k l1 l2 l3 u1 u2 u3:Int} (e1:l1=a.num * (a'.den:Int) - a'.num * (a.den:Int)) (e2:l2=b.num * (b'.den:Int) - b'.num * (b.den:Int)) (e3:l3=c.num * (c'.den:Int) - c'.num * (c.den:Int))
   (f1:u1=(a.den:Int) * (a'.den:Int)) (f2:u2=(b.den:Int) * (b'.den:Int)) (f3:u3=(c.den:Int) * (c'.den:Int)) :
   Rat.divInt (((0 * u1 * u1 + i * l1 * l1 * 1) * u2 * u2 + j * l2 * l2 * (1 * u1 * u1)) * u3 * u3 + k * l3 * l3 * (1 * u1 * u1 * u2 * u2)) (1 * u1 * u1 * u2 * u2 * u3 * u3)=cN a b c a' b' c' i j k:=by
 have g1:Rat.divInt l1 u1=a - a':=by rw [e1,f1]; exact DQ a a'
 have g2:Rat.divInt l2 u2=b - b':=by rw [e2,f2]; exact DQ b b'
 have g3:Rat.divInt l3 u3=c - c':=by rw [e3,f3]; exact DQ c c'
 have p1:u1≠0:=by rw [f1]; exact bQ aY aY
 have p2:u2≠0:=by rw [f2]; exact bQ aY aY
 have p3:u3≠0:=by rw [f3]; exact bQ aY aY
 clear e1 e2 e3 f1 f2 f3;have nz:∀ {u:Int},u≠0→(u:Rat)≠0:=fun h z=>h (Rat.intCast_eq_zero_iff.mp z);have mk:∀ {l u:Int} {x:Rat},u≠0→Rat.divInt l u=x→(l:Rat)=x * (u:Rat):=fun {l u x} h e=>by
   rw [←e,Rat.divInt_eq_div]; exact (Rat.div_mul_cancel (nz h)).symm
 have h1:=mk p1 g1;have h2:=mk p2 g2;have h3:=mk p3 g3;have n1:=nz p1;have n2:=nz p2;have n3:=nz p3;unfold cN;generalize a - a'=x at *;generalize b - b'=y at *;generalize c - c'=z at *;rw [Rat.divInt_eq_div];simp only [Rat.intCast_add,Rat.intCast_mul];have z0:((0:Int):Rat)=0:=rfl;have o1:((1:Int):Rat)=1:=rfl;rw [h1,h2,h3,z0,o1];generalize (u1:Rat)=v1 at *;generalize (u2:Rat)=v2 at *;generalize (u3:Rat)=v3 at *;have hv:1 * v1 * v1 * v2 * v2 * v3 * v3≠0:=by
   intro q;simp only [Rat.one_mul,Rat.mul_eq_zero] at q
   grind
 have key:((0 * v1 * v1 + (i:Rat) * (x * v1) * (x * v1) * 1) * v2 * v2 + (j:Rat) * (y * v2) * (y * v2) * (1 * v1 * v1)) * v3 * v3 + (k:Rat) * (z * v3) * (z * v3) * (1 * v1 * v1 * v2 * v2)
     =((i:Rat) * (x * x) + (j:Rat) * (y * y) + (k:Rat) * (z * z)) * (1 * v1 * v1 * v2 * v2 * v3 * v3):=by grind
 rw [key];exact Rat.mul_div_cancel hv
def nA:Sp3:=fun xs G Q=>∃ i j k,xs=[.tup [.int i,.int j,.int k]]∧Ey i j k∧Q (.bl true) G
def sN:Sp3:=fun xs G Q=>∃ x i j k,xs=[x]∧TL x i j k∧Ey i j k∧Q (.tup [.int i,.int j,.int k]) G
def IU:Sp3:=fun xs G Q=>∃ a b c a' b' c' i j k,xs=[SH a b c,SH a' b' c',.tup [.int i,.int j,.int k]]∧Ey i j k∧Bd 100 a∧Bd 100 b∧Bd 100 c∧Bd 100 a'∧Bd 100 b'∧Bd 100 c'∧
 ∀ t d:Int,d≠0→Sm 9000 d→Rat.divInt t d=cN a b c a' b' c' i j k→Q (.tup [.int t,.int d]) G
def JR:Sp3:=fun xs G Q=>∃ a b c a' b' c' x i j k,xs=[SH a b c,SH a' b' c',x]∧TL x i j k∧Ey i j k∧Bd 100 a∧Bd 100 b∧Bd 100 c∧Bd 100 a'∧Bd 100 b'∧Bd 100 c'∧Q (FQ (cN a b c a' b' c' i j k)) G
def sI:Sp3:=fun xs G Q=>∃ a b c,xs=[.tup [FQ a,FQ b,FQ c]]∧In1 a∧In1 b∧In1 c∧Q (SH a b c) G
def zK:Sp3:=fun xs G Q=>∃ a b c a' b' c' i j k,xs=[.tup [FQ a,FQ b,FQ c],.tup [FQ a',FQ b',FQ c'],.tup [.int i,.int j,.int k]]∧Ey i j k∧Bd 100 a∧Bd 100 b∧Bd 100 c∧Bd 100 a'∧Bd 100 b'∧Bd 100 c'∧Q (FQ (cN a b c a' b' c' i j k)) G
def zZ:Sp3:=fun xs G Q=>∃ p,xs=[.ref p]∧Pu p G∧∀ i j k G',Ey i j k→Pn p G G'→Q (.tup [.int i,.int j,.int k]) G'
def Ra (q:Rat) (r:Int):Prop:=0≤r∧q≤((r * r:Int):Rat)∧(0 < r→(((r - 1) * (r - 1):Int):Rat) < q)
def nD:Sp3:=fun xs G Q=>∃ n:Int,xs=[.int n]∧0≤n∧Sm 4200 n∧∀ r:Int,0≤r→r * r≤n→n < (r + 1) * (r + 1)→Q (.int r) G
def sD:Sp3:=fun xs G Q=>∃ q,xs=[FQ q]∧0≤q∧Bd 4000 q∧∀ r,Ra q r→Q (.int r) G
noncomputable def l1k:Rat:=⟨1,1000,by decide,by decide⟩
def Lim (q:Rat):Prop:=l1k≤q∧q≤1000
def sO:Sp3:=fun xs G Q=>∃ q,xs=[FQ q]∧Lim q∧Bd 2000 q∧Q (.bl true) G
def sM:Sp3:=fun xs G Q=>∃ q,xs=[FQ q]∧Lim q∧Bd 2000 q∧Q .non G
def B3 (a b c:Rat):Prop:=Bd 100 a∧Bd 100 b∧Bd 100 c
def I3 (a b c:Rat):Prop:=In1 a∧In1 b∧In1 c
def sK:Sp3:=fun xs G Q=>∃ a b c a' b' c' x i j k q,xs=[SH a b c,SH a' b' c',FQ q,x]∧TL x i j k∧Ey i j k∧B3 a b c∧B3 a' b' c'∧Lim q∧Bd 2000 q∧∀ r,Ra (cN a b c a' b' c' i j k / q) r→Q (.int r) G
noncomputable def pw (a a':Rat) (p m:Int):Rat:=a + Rat.divInt p m * (a' - a)
def sG:Sp3:=fun xs G Q=>∃ a b c a' b' c' p m,xs=[SH a b c,SH a' b' c',.tup [.int p,.int m]]∧I3 a b c∧I3 a' b' c'∧B3 a b c∧B3 a' b' c'∧0≤p∧p≤m∧1≤m∧m≤1000000∧Q (SH (pw a a' p m) (pw b b' p m) (pw c c' p m)) G
noncomputable def stt (a b c a' b' c':Rat) (m p:Int):PV:=SH (pw a a' p m) (pw b b' p m) (pw c c' p m)
noncomputable def stL (a b c a' b' c':Rat) (n:Nat):List PV:=(List.range (n + 1)).map fun (p:Nat)=>stt a b c a' b' c' (max (n:Int) 1) (p:Int)
noncomputable def RW (a b c a' b' c':Rat) (n:Nat):PV:=.ob "Row" ["stations"] [.tup (stL a b c a' b' c' n)]
def VA:Sp3:=fun xs G Q=>∃ a b c a' b' c' x i j k q,xs=[SH a b c,SH a' b' c',FQ q,x]∧TL x i j k∧Ey i j k∧I3 a b c∧I3 a' b' c'∧B3 a b c∧B3 a' b' c'∧Lim q∧Bd 2000 q∧cN a b c a' b' c' i j k≤1000000 * q∧
 ∀ n:Nat,n≤1000→Ra (cN a b c a' b' c' i j k / q) (n:Int)→Q (RW a b c a' b' c' n) G
def AI:Sp3:=fun xs G Q=>∃ l a b c a' b' c' x i j k q,xs=[.ref l,SH a b c,SH a' b' c',FQ q,x]∧G l=some (.ins "Row" [] [])∧TL x i j k∧Ey i j k∧I3 a b c∧I3 a' b' c'∧B3 a b c∧B3 a' b' c'∧Lim q∧Bd 2000 q∧cN a b c a' b' c' i j k≤1000000 * q∧
 ∀ n:Nat,n≤1000→Ra (cN a b c a' b' c' i j k / q) (n:Int)→Q .non (gup G l (.ins "Row" ["stations"] [.tup (stL a b c a' b' c' n)]))
def oK:Sp3:=fun xs G Q=>∃ ys,xs=[.ob "Row" ["stations"] [.tup ys]]∧Q (.int (ys.length:Int)) G
def sJ:Sp3:=fun xs G Q=>∃ ys,xs=[.ob "Row" ["stations"] [.tup ys]]∧Q (.lst ys) G
structure PF (T:Tb):Prop where
 is_eye:T.S "is_eye"=nA
 eye_of:T.S "eye_of"=sN
 gap:T.S "gap_between"=IU
 far:T.S "far"=JR
 eqS:T.S "Shade.__eq__"=DR
 less:T.S "less"=cQ
 is_limit:T.S "is_limit"=sO
 need_limit:T.S "need_limit"=sM
 under:T.S "root_under"=nD
 above:T.S "root_above"=sD
 steps:T.S "steps_between"=sK
 partw:T.S "part_way"=sG
 row:T.S "Row"=VA
 rowI:T.S "Row.__init__"=AI
 rowLen:T.S "Row.__len__"=oK
 rowSh:T.S "Row.shades"=sJ
 gv_EVEN:T.gv "EVEN_EYE"= .tup [.int 1,.int 1,.int 1]
 gv_MOST:T.gv "MOST_OF_EYE"= .int 99
 gv_LL:T.gv "LEAST_LIMIT"= .tup [.int 1,.int 1000]
 gv_ML:T.gv "MOST_LIMIT"= .tup [.int 1000,.int 1]
 ty_list:T.gv "list"= .ty "list"
 gv_Row:T.gv "Row"= .cl "Row"
 csR: "Row"∈T.cs
 flR:("Row",("stations":Str))∈T.fl
theorem Ey.o:Ey 1 1 1:=⟨⟨by decide,by decide⟩,⟨by decide,by decide⟩,⟨by decide,by decide⟩⟩
theorem aE7 {a b c x y z u v w:PV}:mS 3 [[a,b,c],[x,y,z],[u,v,w]]=[.tup [a,x,u],.tup [b,y,v],.tup [c,z,w]]:=rfl
theorem aBi {a b c x y z:PV}:mS 3 [[a,b,c],[x,y,z]]=[.tup [a,x],.tup [b,y],.tup [c,z]]:=rfl
theorem aEH {a b c:Bool}:FX [.bl a,.bl b,.bl c]=some (a && (b && (c && true))):=rfl
theorem avi {xs:List PV} {i:Int}:Ar.val xs (.int i)= .int i:=rfl
local macro_rules | `(tactic| walk_at "rd") => wk (wB++" List.map_cons List.map_nil exists_false false_and and_false or_false HV sE ZZ kO UT tP BY TW DU FC aGk WI TX dX nX lO iC fQ zF yD jJ bV sz3 nA aEH")
section
variable {T:Tb}
noncomputable def kU:CS:=(.seq (.iff (.oo (.no (.tst (.blt .isi (.cons (.var 0) (.cons (.glo "tuple") .nil))))) (.tsb (.cmp .NotEq (.blt .len (.cons (.var 0) .nil)) (.int 3)))) (.ret (.bl false)) .nil)
 (.ret (.blt .all (.cons (.cmpr false (.gn 1) (.isq (.var 0)) .nil (.an (.cal "is_whole" (.cons (.var 1) .nil)) (.chn .LtE .LtE (.int 1) (.var 1) (.glo "MOST_OF_EYE"))) [none,none]) .nil))))
theorem RY (h:PT T) (k:PF T):∀ xs G Q,nA xs G Q→wpS T kU (aQ Q) (aF 1 xs) G:=by
 rintro xs G Q ⟨i,j,l,rfl,⟨⟨i1,i2⟩,⟨j1,j2⟩,⟨l1,l2⟩⟩,hq⟩;unfold kU;have:=h.ty_tuple;have:=h.is_whole;have:=k.gv_MOST;walk_at "rd"
noncomputable def kF:CS:=(.seq (.iff (.tsb (.cmp .Is (.var 0) .non)) (.ret (.glo "EVEN_EYE")) .nil)
 (.seq (.iff (.no (.tst (.cal "is_eye" (.cons (.var 0) .nil)))) .nev .nil)
 (.ret (.var 0))))
theorem PC (h:PT T) (k:PF T):∀ xs G Q,sN xs G Q→wpS T kF (aQ Q) (aF 1 xs) G:=by
 rintro xs G Q ⟨x,i,j,l,rfl,v,e,hq⟩;unfold kF;have:=k.is_eye;have:=k.gv_EVEN;have:=@XO;rcases v with ⟨rfl,rfl,rfl,rfl⟩ | rfl
 · walk_at "rd"
 · walk_at "rd"
noncomputable def eQ:CS:=(.seq (.asg (.gn 3) (.int 0))
 (.seq (.asg (.gn 4) (.int 1))
 (.seq (.fr (.gt 3 (.cons (.gn 5) (.cons (.gn 6) (.cons (.gn 7) .nil)))) (.izp (.cons (.cal "shares_of" (.cons (.var 0) .nil)) (.cons (.cal "shares_of" (.cons (.var 1) .nil)) (.cons (.var 2) .nil)))) (.seq (.asg (.gn 8) (.bin .Sub (.bin .Mult (.idx (.var 5) (.int 0)) (.idx (.var 6) (.int 1))) (.bin .Mult (.idx (.var 6) (.int 0)) (.idx (.var 5) (.int 1)))))
 (.seq (.asg (.gn 9) (.bin .Mult (.idx (.var 5) (.int 1)) (.idx (.var 6) (.int 1))))
 (.seq (.asg (.gn 3) (.bin .Add (.bin .Mult (.bin .Mult (.var 3) (.var 9)) (.var 9)) (.bin .Mult (.bin .Mult (.bin .Mult (.var 7) (.var 8)) (.var 8)) (.var 4))))
 (.asg (.gn 4) (.bin .Mult (.bin .Mult (.var 4) (.var 9)) (.var 9)))))))
 (.ret (.tup (.cons (.var 3) (.cons (.var 4) .nil)))))))
theorem wD (h:PT T):∀ xs G Q,IU xs G Q→wpS T eQ (aQ Q) (aF 10 xs) G:=by
 rintro xs G Q ⟨a,b,c,a',b',c',i,j,l,rfl,⟨⟨i1,i2⟩,⟨j1,j2⟩,⟨l1,l2⟩⟩,ba,bb,bc,ba',bb',bc',hq⟩;unfold eQ;have:=h.shares_of;simp only [wpS,wpE,wpL,wpI,wpG,aF,aQ,List.map_cons,List.map_nil,List.length_cons,List.length_nil,List.cons_append,List.nil_append,List.replicate,Nat.reduceAdd,Nat.reduceSub,Nat.zero_add,List.getElem?_cons_zero,List.getElem?_cons_succ,List.set_cons_zero,List.set_cons_succ,sH,bV,exists_eq_left,exists_eq_left',Option.some.injEq, *];refine ⟨a,b,c,rfl,a',b',c',rfl,.inr trivial,3,[[FQ a,FQ b,FQ c],[FQ a',FQ b',FQ c'],[.int i,.int j,.int l]],rfl,by simp, ?_⟩;rw [aE7];have la:Sm 201 (a.num * (a'.den:Int) - a'.num * (a.den:Int)):=(ba.1.mul ba'.2).sub (ba'.1.mul ba.2) (by decide);have lb:Sm 201 (b.num * (b'.den:Int) - b'.num * (b.den:Int)):=(bb.1.mul bb'.2).sub (bb'.1.mul bb.2) (by decide);have lc:Sm 201 (c.num * (c'.den:Int) - c'.num * (c.den:Int)):=(bc.1.mul bc'.2).sub (bc'.1.mul bc.2) (by decide);have ua:Sm 200 ((a.den:Int) * (a'.den:Int)):=ba.2.mul ba'.2;have ub:Sm 200 ((b.den:Int) * (b'.den:Int)):=bb.2.mul bb'.2;have uc:Sm 200 ((c.den:Int) * (c'.den:Int)):=bc.2.mul bc'.2;have si:=sm7 i1 i2;have sj:=sm7 j1 j2;have sl:=sm7 l1 l2;have ge:=aES (a:=a) (b:=b) (c:=c) (a':=a') (b':=b') (c':=c') (i:=i) (j:=j) (k:=l) rfl rfl rfl rfl rfl rfl;have na:(a.den:Int) * (a'.den:Int)≠0:=bQ aY aY;have nb:(b.den:Int) * (b'.den:Int)≠0:=bQ aY aY;have nc:(c.den:Int) * (c'.den:Int)≠0:=bQ aY aY;have m1:=bR ba.1 ba'.2;have m2:=bR ba'.1 ba.2;have m3:=bR ba.2 ba'.2;have m4:=bR bb.1 bb'.2;have m5:=bR bb'.1 bb.2;have m6:=bR bb.2 bb'.2;have m7:=bR bc.1 bc'.2;have m8:=bR bc'.1 bc.2;have m9:=bR bc.2 bc'.2;walk_at "rd"
 generalize a.num * (a'.den:Int) - a'.num * (a.den:Int)=x1 at *;generalize b.num * (b'.den:Int) - b'.num * (b.den:Int)=x2 at *;generalize c.num * (c'.den:Int) - c'.num * (c.den:Int)=x3 at *;generalize (a.den:Int) * (a'.den:Int)=v1 at *;generalize (b.den:Int) * (b'.den:Int)=v2 at *;generalize (c.den:Int) * (c'.den:Int)=v3 at *;have s0:Sm 1 0:=by unfold Sm; decide
 have s1:Sm 1 1:=by unfold Sm; decide
 have p1:Sm 402 (0 * v1 * v1):=((s0.mul ua).mul ua).mono (by decide);have p2:Sm 409 (i * x1 * x1):=(si.mul la).mul la;have t1:Sm 411 (0 * v1 * v1 + i * x1 * x1 * 1):=(p1.mono (by decide)).add (p2.mul s1) (by decide);have d1:Sm 401 (1 * v1 * v1):=(s1.mul ua).mul ua;have q1:Sm 811 ((0 * v1 * v1 + i * x1 * x1 * 1) * v2 * v2):=(t1.mul ub).mul ub;have q2:Sm 409 (j * x2 * x2):=(sj.mul lb).mul lb;have t2:Sm 812 ((0 * v1 * v1 + i * x1 * x1 * 1) * v2 * v2 + j * x2 * x2 * (1 * v1 * v1)):=q1.add ((q2.mul d1).mono (by decide)) (by decide);have d2:Sm 801 (1 * v1 * v1 * v2 * v2):=(d1.mul ub).mul ub;have r2:Sm 409 (l * x3 * x3):=(sl.mul lc).mul lc;have d3:Sm 9000 (1 * v1 * v1 * v2 * v2 * v3 * v3):=((d2.mul uc).mul uc).mono (by decide);have n3:1 * v1 * v1 * v2 * v2 * v3 * v3≠0:=bQ (bQ (bQ (bQ (bQ (bQ (by decide) na) na) nb) nb) nc) nc;exact ⟨bR s0 ua,bR (s0.mul ua) ua,bR si la,bR (si.mul la) la,bR p2 s1,bR s1 ua,bR (s1.mul ua) ua,bR t1 ub,bR (t1.mul ub) ub,bR sj lb,bR (sj.mul lb) lb,bR q2 d1,bR d1 ub,bR (d1.mul ub) ub,
   bR t2 uc,bR (t2.mul uc) uc,bR sl lc,bR (sl.mul lc) lc,bR r2 d2,bR d2 uc,bR (d2.mul uc) uc,Wk.here (hq _ _ n3 d3 ge)⟩
noncomputable def uP:CS:=(.seq (.ex (.cal "need_shade" (.cons (.var 0) .nil)))
 (.seq (.ex (.cal "need_shade" (.cons (.var 1) .nil)))
 (.seq (.asg (.gt 2 (.cons (.gn 3) (.cons (.gn 4) .nil))) (.cal "gap_between" (.cons (.var 0) (.cons (.var 1) (.cons (.cal "eye_of" (.cons (.var 2) .nil)) .nil)))))
 (.ret (.cal "lowest" (.cons (.var 3) (.cons (.var 4) .nil)))))))
theorem aHN (h:PT T) (k:PF T):∀ xs G Q,JR xs G Q→wpS T uP (aQ Q) (aF 5 xs) G:=by
 rintro xs G Q ⟨a,b,c,a',b',c',x,i,j,l,rfl,v,e,ba,bb,bc,ba',bb',bc',hq⟩;unfold uP;have:=h.need_shade;have:=h.lowest;have:=k.gap;have:=k.eye_of;walk_at "rd"
 refine ⟨x,i,j,l,rfl,v,e,a,b,c,a',b',c',i,j,l,rfl,e,ba,bb,bc,ba',bb',bc',fun t d n s q=>?_⟩;walk_at "rd"
 exact n
end
theorem VJ {i j:Int} {G:Gh} {Q:PK1}:zM .LShift (.int i) (.int j) G Q=(MM i j∧Q (.int (i * 2 ^ j.toNat)) G):=rfl
theorem Sm.bits {k:Nat} {n:Int} (h:Sm k n):Builtin.Int.intBits n≤k:=by
 unfold Builtin.Int.intBits;split
 · omega
 · rename_i z;have:n.natAbs.log2 < k:=(Nat.log2_lt (by simpa using z)).mpr h;omega
theorem Sm.le {k:Nat} {a b:Int} (h:Sm k b) (h0:0≤a) (h1:a≤b):Sm k a:=by unfold Sm at *; omega
theorem sm2:Sm 2 2:=by unfold Sm; decide
local macro_rules | `(tactic| walk_at "rd") => wk (wB++" List.map_cons List.map_nil or_false nP sL gE kR KL uW at0 at1 WI TX iB exists_eq' nX lO zF kC cQ jJ bV iF sz1 VJ nD Int.reduceEq Int.reduceNe")
section
variable {T:Tb}
noncomputable def xF:CS:=fH
theorem aEy:∀ xs G Q,cQ xs G Q→wpS T xF (aQ Q) (aF 2 xs) G:=xR
noncomputable def eX:CS:=(.seq (.iff (.tsb (.cmp .Eq (.var 0) (.int 0))) (.ret (.int 0)) .nil)
 (.seq (.asg (.gn 1) (.bin .LShift (.int 1) (.bin .FloorDiv (.bin .Add (.bln (.var 0)) (.int 1)) (.int 2))))
 (.seq (.asg (.gn 2) (.bin .FloorDiv (.bin .Add (.var 1) (.bin .FloorDiv (.var 0) (.var 1))) (.int 2)))
 (.seq (.wh (.tsb (.cmp .Lt (.var 2) (.var 1))) (.seq (.asg (.gn 1) (.var 2))
 (.asg (.gn 2) (.bin .FloorDiv (.bin .Add (.var 1) (.bin .FloorDiv (.var 0) (.var 1))) (.int 2)))))
 (.ret (.var 1))))))
theorem yP:∀ xs G Q,nD xs G Q→wpS T eX (aQ Q) (aF 3 xs) G:=by
 rintro xs G Q ⟨n,rfl,h0,hs,q⟩;unfold eX;walk_at "rd"
 split
 · rename_i e; subst e;exact Wk.here (q 0 (by decide) (by decide) (by decide))
 rename_i hn;have hb:=hs.bits;generalize hB:Builtin.Int.intBits n=B at *;have hk:(((B:Int) + 1) / 2).toNat≤2200:=by omega
 have up:=aAl h0 (B:Int) (by rw [hB]);generalize hG:(((B:Int) + 1) / 2).toNat=k at *;have hg:(1:Int)≤1 * 2 ^ k:=by
   have:(0:Int) < 2 ^ k:=Int.pow_pos (by decide);omega
 have hgs:Sm 2202 (1 * 2 ^ k):=by
   unfold Sm;rw [Int.one_mul,Int.natAbs_pow];exact Nat.pow_lt_pow_right (by decide) (by omega)
 generalize (1 * 2 ^ k:Int)=g at *;refine ⟨wG (k:=2) (by decide) sm2,⟨by omega,by omega,by decide⟩,wG (by omega) hgs,wG (k:=2) (by decide) sm2, ?_⟩;refine ⟨fun m σ H'=>∃ c:Int,σ=[some (.int n),some (.int c),some (.int ((c + n / c) / 2))]∧H'=G∧1≤c∧c≤g∧n < (c + 1) * (c + 1)∧m=c.toNat,⟨_,g,rfl,rfl,hg,Int.le_refl _,up,rfl⟩, ?_⟩;rintro m σ H' ⟨c,rfl,rfl,c1,c2,c3,rfl⟩;walk_at "rd"
 split
 · rename_i hlt;have l1:=FH (n:=n) (g:=c) (by omega) c1;have l2:=OD (n:=n) (g:=c) h0 c1;exact ⟨wG (by omega) (hgs.le (by omega) (by omega)),wG (k:=2) (by decide) sm2,_,by omega,l1,by omega,l2,rfl⟩
 · rename_i hlt;exact Wk.here (q c (by omega) (GE c1 hlt) c3)
noncomputable def fF:CS:=(.seq (.ex (.cal "need_fractions" (.cons (.tup (.cons (.var 0) .nil)) .nil)))
 (.seq (.asg (.gt 2 (.cons (.gn 1) (.cons (.gn 2) .nil))) (.var 0))
 (.seq (.iff (.tsb (.cmp .Lt (.var 1) (.int 0))) .nev .nil)
 (.seq (.iff (.tsb (.cmp .Eq (.var 1) (.int 0))) (.ret (.int 0)) .nil)
 (.seq (.asg (.gn 3) (.bin .FloorDiv (.bin .Sub (.var 1) (.int 1)) (.var 2)))
 (.ret (.bin .Add (.cal "root_under" (.cons (.var 3) .nil)) (.int 1))))))))
theorem le_int {q:Rat} {m:Int} (h:q.num≤m * (q.den:Int)):q≤(m:Rat):=by
 rw [Rat.le_iff];show q.num * 1≤m * (q.den:Int);omega
theorem aE3 {q:Rat} {m:Int} (h:m * (q.den:Int) < q.num):(m:Rat) < q:=by
 rw [Rat.lt_iff];show m * (q.den:Int) < q.num * 1;omega
theorem AK (h:PT T) (f:PF T):∀ xs G Q,sD xs G Q→wpS T fF (aQ Q) (aF 4 xs) G:=by
 rintro xs G Q ⟨q,rfl,h0,bq,hq⟩;unfold fF;have:=h.need_fractions;have:=f.under;have e0:FQ q= .tup [.int q.num,.int (q.den:Int)]:=rfl;have n0:=UU h0;have hd:=VQ (q:=q);walk_at "rd"
 refine ⟨[q],rfl,by show 1≤2; decide, ?_⟩;refine (?_:if q.num < 0 then _ else _);rw [if_neg (by omega)];split
 · rename_i e;have e1:q=0:=Rat.num_eq_zero.mp e;exact Wk.here (hq 0 ⟨by decide,by rw [e1]; decide,fun z=>absurd z (by decide)⟩)
 · rename_i e;have u0:0≤(q.num - 1) / (q.den:Int):=Int.ediv_nonneg (by omega) (by omega);have u1:(q.num - 1) / (q.den:Int)≤q.num - 1:=Int.ediv_le_self _ (by omega);refine ⟨wG hd bq.2,u0,(bq.1.le u0 (by omega)).mono (by decide),fun r r0 r1 r2=>?_⟩;obtain ⟨g1,g2⟩:=aAk (by omega) (by omega) r1 r2;refine Wk.here (hq (r + 1) ⟨by omega,le_int g1,fun _=>aE3 ?_⟩);rw [Int.add_sub_cancel]; exact g2
noncomputable def hW:CS:=(.ret (.an (.cal "is_fraction" (.cons (.var 0) .nil)) (.an (.no (.cal "less" (.cons (.var 0) (.cons (.glo "LEAST_LIMIT") .nil)))) (.no (.cal "less" (.cons (.glo "MOST_LIMIT") (.cons (.var 0) .nil)))))))
theorem GY (h:PT T) (f:PF T):∀ xs G Q,sO xs G Q→wpS T hW (aQ Q) (aF 1 xs) G:=by
 rintro xs G Q ⟨q,rfl,⟨h0,h1⟩,bq,hq⟩;unfold hW;have:=h.is_fraction;have:=f.less;have:=f.gv_LL;have:=f.gv_ML;have e1:PV.tup [.int 1,.int 1000]=FQ l1k:=rfl;have e2:PV.tup [.int 1000,.int 1]=FQ 1000:=rfl;have b1:Bd 4000 l1k:=⟨smK (by decide) (by decide) (by decide),smK (by decide) (by decide) (by decide)⟩;have b2:Bd 4000 1000:=⟨smK (by decide) (by decide) (by decide),smK (by decide) (by decide) (by decide)⟩;have b3:=bq.mono (show 2000≤4000 by decide);have d1:decide (q < l1k)=false:=decide_eq_false (Rat.not_lt.mpr h0);have d2:decide (1000 < q)=false:=decide_eq_false (Rat.not_lt.mpr h1);walk_at "rd"
noncomputable def fB:CS:=(.iff (.no (.tst (.cal "is_limit" (.cons (.var 0) .nil)))) .nev .nil)
theorem zR (f:PF T):∀ xs G Q,sM xs G Q→wpS T fB (aQ Q) (aF 1 xs) G:=by
 rintro xs G Q ⟨q,rfl,hl,bq,hq⟩;unfold fB;have e:=f.is_limit;have sp:∀ {G:Gh} {Q:PK1},Q (.bl true) G→T.S "is_limit" [FQ q] G Q:=fun z=>by rw [e]; exact ⟨q,rfl,hl,bq,z⟩
 clear e;walk_at "rd"
 refine sp ?_;walk_at "rd"
noncomputable def dO:CS:=(.seq (.ex (.cal "need_shade" (.cons (.var 0) .nil)))
 (.seq (.ex (.cal "need_shade" (.cons (.var 1) .nil)))
 (.seq (.ex (.cal "need_limit" (.cons (.var 2) .nil)))
 (.ret (.cal "root_above" (.cons (.cal "over" (.cons (.cal "far" (.cons (.var 0) (.cons (.var 1) (.cons (.var 3) .nil)))) (.cons (.var 2) .nil))) .nil))))))
theorem AF {a b c a' b' c':Rat} {i j k:Int} (e:Ey i j k):0≤cN a b c a' b' c' i j k:=by
 obtain ⟨⟨i1,_⟩,⟨j1,_⟩,⟨k1,_⟩⟩:=e;have hi:=fE i1;have hj:=fE j1;have hk:=fE k1;have n1:0≤(i:Rat) * ((a - a') * (a - a')):=Rat.mul_nonneg (by grind) (mE _);have n2:0≤(j:Rat) * ((b - b') * (b - b')):=Rat.mul_nonneg (by grind) (mE _);have n3:0≤(k:Rat) * ((c - c') * (c - c')):=Rat.mul_nonneg (by grind) (mE _);unfold cN
 grind
theorem Lim.pos {q:Rat} (h:Lim q):0 < q:=by
 have:(0:Rat) < l1k:=by decide
 have:=h.1
 grind
theorem sA (h:PT T) (f:PF T):∀ xs G Q,sK xs G Q→wpS T dO (aQ Q) (aF 4 xs) G:=by
 rintro xs G Q ⟨a,b,c,a',b',c',x,i,j,k,q,rfl,hx,he,b3,b3',hl,bq,hq⟩;unfold dO;have:=h.need_shade;have e1:=f.need_limit;have e2:=f.far;have e3:=h.over;have e4:=f.above;walk_at "rd"
 have bf:=tO he b3.1 b3.2.1 b3.2.2 b3'.1 b3'.2.1 b3'.2.2;have q0:=hl.pos;have qn:q≠0:=by grind
 have nn:0≤cN a b c a' b' c' i j k / q:=by
   rw [Rat.div_def];exact Rat.mul_nonneg (AF he) (Rat.le_of_lt (Rat.inv_pos.mpr q0))
 exact ⟨q,rfl,hl,bq,a,b,c,a',b',c',x,i,j,k,rfl,hx,he,b3.1,b3.2.1,b3.2.2,b3'.1,b3'.2.1,b3'.2.2,_,rfl,bf.mono (by decide),bq.mono (by decide),qn,_,rfl,nn,(bf.dv bq qn (by decide)),fun r hr=>Wk.here (hq r hr)⟩
noncomputable def gZ:CS:=(.seq (.asg (.gn 3) (.lst true .nil))
 (.seq (.fr (.gt 2 (.cons (.gn 4) (.cons (.gn 5) .nil))) (.izp (.cons (.cal "shares_of" (.cons (.var 0) .nil)) (.cons (.cal "shares_of" (.cons (.var 1) .nil)) .nil))) (.seq (.asg (.gn 6) (.bin .Add (.bin .Mult (.bin .Mult (.idx (.var 4) (.int 0)) (.idx (.var 5) (.int 1))) (.bin .Sub (.idx (.var 2) (.int 1)) (.idx (.var 2) (.int 0)))) (.bin .Mult (.bin .Mult (.idx (.var 5) (.int 0)) (.idx (.var 4) (.int 1))) (.idx (.var 2) (.int 0)))))
 (.ex (.app (.var 3) (.cal "lowest" (.cons (.var 6) (.cons (.bin .Mult (.bin .Mult (.idx (.var 4) (.int 1)) (.idx (.var 5) (.int 1))) (.idx (.var 2) (.int 1))) .nil)))))))
 (.ret (.cal "shade_of" (.cons (.var 3) .nil)))))
theorem aIe {a a':Rat} {p m:Int} (hm:1≤m):Rat.divInt (a.num * (a'.den:Int) * (m - p) + a'.num * (a.den:Int) * p) ((a.den:Int) * (a'.den:Int) * m)=pw a a' p m:=by
 have nz:∀ {u:Int},u≠0→(u:Rat)≠0:=fun h z=>h (Rat.intCast_eq_zero_iff.mp z);have n1:=nz (aY (q:=a));have n2:=nz (aY (q:=a'));have n3:=nz (show m≠0 by omega);have h1:(a.num:Rat)=a * ((a.den:Int):Rat):=by
   have:=Rat.div_mul_cancel (a:=(a.num:Rat)) n1;rw [←Rat.divInt_eq_div,Rat.num_divInt_den] at this;exact this.symm
 have h2:(a'.num:Rat)=a' * ((a'.den:Int):Rat):=by
   have:=Rat.div_mul_cancel (a:=(a'.num:Rat)) n2;rw [←Rat.divInt_eq_div,Rat.num_divInt_den] at this;exact this.symm
 have h3:(p:Rat)=Rat.divInt p m * (m:Rat):=by
   rw [Rat.divInt_eq_div]; exact (Rat.div_mul_cancel n3).symm
 unfold pw;generalize Rat.divInt p m=t at *;rw [Rat.divInt_eq_div];simp only [Rat.intCast_add,Rat.intCast_mul,Rat.intCast_sub];rw [h1,h2,h3];generalize ((a.den:Int):Rat)=u at *;generalize ((a'.den:Int):Rat)=v at *;generalize (m:Rat)=w at *;have hv:u * v * w≠0:=by
   intro q;simp only [Rat.mul_eq_zero] at q
   grind
 have key:a * u * v * (w - t * w) + a' * v * u * (t * w)=(a + t * (a' - a)) * (u * v * w):=by grind
 rw [key];exact Rat.mul_div_cancel hv
theorem VN {a a':Rat} {p m:Int} (ha:In1 a) (ha':In1 a') (p0:0≤p) (pm:p≤m) (m1:1≤m):In1 (pw a a' p m):=by
 have t0:0≤Rat.divInt p m∧Rat.divInt p m≤1:=by
   have e:Rat.divInt p m * (m:Rat)=(p:Rat):=by
     rw [Rat.divInt_eq_div]; exact Rat.div_mul_cancel (fun z=>by have:=Rat.intCast_eq_zero_iff.mp z; omega)
   have hm:(0:Rat) < (m:Rat):=Rat.intCast_pos.mpr (by omega);have hp:(0:Rat)≤(p:Rat):=Rat.intCast_nonneg.mpr p0;have hpm:(p:Rat)≤(m:Rat):=Rat.intCast_le_intCast.mpr pm;exact ⟨Rat.le_of_mul_le_mul_right (c:=(m:Rat)) (by grind) hm,Rat.le_of_mul_le_mul_right (c:=(m:Rat)) (by grind) hm⟩
 unfold pw;generalize Rat.divInt p m=t at *;obtain ⟨x0,x1⟩:=ha;obtain ⟨y0,y1⟩:=ha';obtain ⟨u0,u1⟩:=t0;have k1:0≤t * a':=Rat.mul_nonneg u0 y0;have k2:0≤(1 - t) * a:=Rat.mul_nonneg (by grind) x0;have k3:0≤t * (1 - a'):=Rat.mul_nonneg u0 (by grind);have k4:0≤(1 - t) * (1 - a):=Rat.mul_nonneg (by grind) (by grind);exact ⟨by grind,by grind⟩
theorem FT (h:PT T):∀ xs G Q,sG xs G Q→wpS T gZ (aQ Q) (aF 7 xs) G:=by
 rintro xs G Q ⟨a,b,c,a',b',c',p,m,rfl,i3,i3',b3,b3',p0,pm,m1,m2,hq⟩;unfold gZ;have:=h.shares_of;have e2:=h.lowest;have e3:=h.shade_of;simp only [wpS,wpE,wpL,wpI,wpG,aF,aQ,List.map_cons,List.map_nil,List.length_cons,List.length_nil,List.cons_append,List.nil_append,List.replicate,Nat.reduceAdd,Nat.reduceSub,Nat.zero_add,List.getElem?_cons_zero,List.getElem?_cons_succ,List.set_cons_zero,List.set_cons_succ,sH,bV,exists_eq_left,exists_eq_left',Option.some.injEq,uW, *];refine ⟨Nat.zero_le _,fun l hl=>⟨a,b,c,rfl,a',b',c',rfl,.inl trivial,3,[[FQ a,FQ b,FQ c],[FQ a',FQ b',FQ c']],rfl,by simp, ?_⟩⟩;rw [aBi];have ag:∀ {ys:List PV} {R:List PV→Prop},(∃ xs,gup G l (.lst ys) l=some (GO.lst xs)∧R xs)=R ys:=fun {ys R}=>propext ⟨by rintro ⟨xs,e,r⟩;rw [aS] at e; cases e; exact r,fun r=>⟨_,aS,r⟩⟩;have gg:∀ {o u:GO},gup (gup G l o) l u=gup G l u:=lK;have sm:Sm 20 m:=by unfold Sm; omega
 have sp:Sm 20 p:=by unfold Sm; omega
 have sd:Sm 20 (m - p):=by unfold Sm; omega
 have MB:∀ {n k:Nat} {x y:Int},Sm n x→Sm k y→n≤400→k≤400→oV x y:=fun hx hy hn hk=>bR (hx.mono hn) (hy.mono hk);have nz:∀ {x y:Rat},(x.den:Int) * (y.den:Int) * m≠0:=fun {x y}=>bQ (bQ aY aY) (by omega);have c1:=MB b3.1.1 b3'.1.2 (by decide) (by decide);have c2:=MB (b3.1.1.mul b3'.1.2) sd (by decide) (by decide);have c3:=MB b3'.1.1 b3.1.2 (by decide) (by decide);have c4:=MB (b3'.1.1.mul b3.1.2) sp (by decide) (by decide);have c5:=MB b3.1.2 b3'.1.2 (by decide) (by decide);have c6:=MB (b3.1.2.mul b3'.1.2) sm (by decide) (by decide);have s1:Sm 9000 ((a.den:Int) * (a'.den:Int) * m):=((b3.1.2.mul b3'.1.2).mul sm).mono (by decide);have d1:=MB b3.2.1.1 b3'.2.1.2 (by decide) (by decide);have d2:=MB (b3.2.1.1.mul b3'.2.1.2) sd (by decide) (by decide);have d3:=MB b3'.2.1.1 b3.2.1.2 (by decide) (by decide);have d4:=MB (b3'.2.1.1.mul b3.2.1.2) sp (by decide) (by decide);have d5:=MB b3.2.1.2 b3'.2.1.2 (by decide) (by decide);have d6:=MB (b3.2.1.2.mul b3'.2.1.2) sm (by decide) (by decide);have s2:Sm 9000 ((b.den:Int) * (b'.den:Int) * m):=((b3.2.1.2.mul b3'.2.1.2).mul sm).mono (by decide);have f1:=MB b3.2.2.1 b3'.2.2.2 (by decide) (by decide);have f2:=MB (b3.2.2.1.mul b3'.2.2.2) sd (by decide) (by decide);have f3:=MB b3'.2.2.1 b3.2.2.2 (by decide) (by decide);have f4:=MB (b3'.2.2.1.mul b3.2.2.2) sp (by decide) (by decide);have f5:=MB b3.2.2.2 b3'.2.2.2 (by decide) (by decide);have f6:=MB (b3.2.2.2.mul b3'.2.2.2) sm (by decide) (by decide);have s3:Sm 9000 ((c.den:Int) * (c'.den:Int) * m):=((b3.2.2.2.mul b3'.2.2.2).mul sm).mono (by decide);have pe:=@aIe;clear MB;walk_at "rd"
 have hz:∀ {n:Nat},n≤100→n < sizeLine:=fun h=>by rw [sizeLine_eq]; omega
 exact ⟨nz,hz (by decide),nz,hz (by decide),nz,hz (by decide),VN i3.1 i3'.1 p0 pm m1,VN i3.2.1 i3'.2.1 p0 pm m1,VN i3.2.2 i3'.2.2 p0 pm m1,Wk.of hq fun z o e=>by rw [eZ (fun w=>by subst w; rw [hl] at e; cases e)]; exact e⟩
end
theorem uX {g:PTG} {te:PTE} {Q:List PV→Gh→Prop} (J:PSt→Prop) (f:PV→PV) {G:Gh}:∀ (xs acc:List PV) (σ:PSt),J σ→(∀ x∈xs,∀ σ (R:PV→PSt→Gh→Prop),J σ→(∀ σ',J σ'→R (f x) σ' G)→g x σ G fun σ2 G2=>te σ2 G2 fun y G3=>R y σ2 G3)→
   Q (acc ++ xs.map f) G→gN (fun _=>True) g (fun _ G Q=>Q true G) te xs acc σ G Q
 | [],acc,σ,_,_,q=>⟨trivial,by simpa using q⟩
 | x :: r,acc,σ,j,h,q=>by
   refine ⟨trivial, ?_⟩;simp only [if_true];refine h x (wDq ..) σ (fun y σ' G'=>gN (fun _=>True) g (fun _ G Q=>Q true G) te r (acc ++ [y]) σ' G' Q) j fun σ' j'=>?_;refine uX J f r _ _ j' (fun x hx=>h x (wCq _ hx)) ?_;rw [List.append_assoc];simpa using q
theorem yC {lo:Int} {n:Nat} {x:PV} (h:x∈oO lo n):∃ k:Nat,x= .int (lo + (k:Int))∧k < n:=by
 unfold oO at h;obtain ⟨k,hk,rfl⟩:=List.mem_map.mp h;exact ⟨k,rfl,List.mem_range.mp hk⟩
theorem sqc {m:Int}:((m * m:Int):Rat)=(m:Rat) * (m:Rat):=Rat.intCast_mul ..
theorem aHq {x y:Int} (hx:0≤x) (hy:0≤y) (h:x * x < y * y):x < y:=by
 rcases Int.lt_or_le x y with z | z
 · exact z
 · have:=Int.mul_le_mul z z hy hx;omega
theorem xH {q:Rat} {r m:Int} (h:Ra q r) (hm:0≤m) (hq:q≤((m * m:Int):Rat)):r≤m:=by
 obtain ⟨h0,h1,h2⟩:=h;rcases Int.lt_or_le 0 r with z | z
 · have:=h2 z;have k:(((r - 1) * (r - 1):Int):Rat) < ((m * m:Int):Rat):=by grind
   have k2:=Rat.intCast_lt_intCast.mp k;have:=aHq (x:=r - 1) (y:=m) (by omega) hm k2;omega
 · omega
theorem FI {q:Rat} {r s:Int} (h:Ra q r) (k:Ra q s):r=s:=by
 have:=xH h k.1 k.2.1;have:=xH k h.1 h.2.1;omega
theorem DL {x y m:Rat} (hy:0 < y) (h:x≤m * y):x / y≤m:=by
 have e:x / y * y=x:=Rat.div_mul_cancel (by grind);exact Rat.le_of_mul_le_mul_right (c:=y) (by grind) hy
noncomputable def fSt (a b c a' b' c':Rat) (m:Int):PV→PV
 | .int p=>stt a b c a' b' c' m p
 | x=>x
theorem aDC {a b c a' b' c':Rat} {n:Nat}:(oO 0 (n + 1)).map (fSt a b c a' b' c' (max (n:Int) 1))=stL a b c a' b' c' n:=by
 unfold oO stL;rw [List.map_map];refine List.map_congr_left fun k _=>?_;show stt a b c a' b' c' (max (n:Int) 1) (0 + (k:Int))=_;rw [Int.zero_add]
local macro_rules | `(tactic| walk_at "rz") => wk (wB++" exists_false false_and and_false or_false gE tP vI nW WI TX WV yD Option.getD_some Int.reduceEq Int.reduceNe")
section
variable {T:Tb}
noncomputable def dS:CS:=(.seq (.asg (.gn 5) (.cal "steps_between" (.cons (.var 1) (.cons (.var 2) (.cons (.var 3) (.cons (.var 4) .nil))))))
 (.seq (.asg (.gn 6) (.blt .max (.cons (.var 5) (.cons (.int 1) .nil))))
 (.fld (.var 0) "stations" (.blt .tuple (.cons (.cmpr false (.gn 1) (.irg (.cons (.bin .Add (.var 5) (.int 1)) .nil)) .nil (.cal "part_way" (.cons (.var 4) (.cons (.var 3) (.cons (.tup (.cons (.var 1) (.cons (.var 2) .nil))) .nil)))) [none,none,some 6,some 2,some 1]) .nil)))))
theorem uC (h:PT T) (f:PF T):∀ xs G Q,AI xs G Q→wpS T dS (aQ Q) (aF 7 xs) G:=by
 rintro xs G Q ⟨l,a,b,c,a',b',c',x,i,j,k,q,rfl,hl,hx,he,i3,i3',b3,b3',hL,bq,hf,hq⟩;unfold dS;have e1:=f.steps;have e2:=f.partw;have sb:∀ {G:Gh} {Q:PK1},(∀ r,Ra (cN a b c a' b' c' i j k / q) r→Q (.int r) G)→T.S "steps_between" [SH a b c,SH a' b' c',FQ q,x] G Q:=fun z=>by rw [e1]; exact ⟨_,_,_,_,_,_,_,_,_,_,_,rfl,hx,he,b3,b3',hL,bq,z⟩
 have pt:∀ {G:Gh} {Q:PK1} {p m:Int},0≤p→p≤m→1≤m→m≤1000000→Q (stt a b c a' b' c' m p) G→T.S "part_way" [SH a b c,SH a' b' c',.tup [.int p,.int m]] G Q:=fun p0 pm m1 m2 z=>by rw [e2]; exact ⟨_,_,_,_,_,_,_,_,rfl,i3,i3',b3,b3',p0,pm,m1,m2,z⟩
 clear e1 e2;have:=@JZ;walk_at "rz"
 refine sb fun r hr=>?_;have r3:r≤1000:=xH hr (by decide) (DL hL.pos hf);have r0:=hr.1;walk_at "rz"
 obtain ⟨n,rfl⟩:∃ n:Nat,r=(n:Int):=⟨r.toNat,by omega⟩;have en:((n:Int) + 1).toNat=n + 1:=by omega
 rw [en];refine ⟨by omega,by omega, ?_,uX (fun σ=>∃ v0 v1,σ=[v0,v1,some (.int (max (n:Int) 1)),some (SH a' b' c'),some (SH a b c)]) (fSt a b c a' b' c' (max (n:Int) 1)) _ [] _ ⟨_,_,rfl⟩ ?_ ?_⟩
 · unfold oO; rw [List.length_map,List.length_range,sizeLine_eq]; omega
 · rintro v hv σ R ⟨v0,v1,rfl⟩ hR;obtain ⟨p,rfl,hp⟩:=yC hv;have h1:(0:Int) + (p:Int)≤max (n:Int) 1:=by omega
   exact ⟨_,rfl,_,rfl,_,rfl,_,rfl,pt (by omega) h1 (by omega) (by omega) (hR _ ⟨_,_,rfl⟩)⟩
 · rw [List.nil_append,aDC];exact ⟨_,_,_,hl,f.flR,by decide,Wk.here (hq n (by omega) hr)⟩
theorem QE (f:PF T):FA T "Row" "Row" "Row.__init__":=by
 intro xs G Q q p hp;rw [f.row] at q;rw [f.rowI];obtain ⟨a,b,c,a',b',c',x,i,j,k,l,rfl,h1,h2,h3,h4,h5,h6,h7,h8,h9,q⟩:=q;refine ⟨p,a,b,c,a',b',c',x,i,j,k,l,rfl,aS,h1,h2,h3,h4,h5,h6,h7,h8,h9,fun n hn hr=>⟨rfl,_,_,aS, ?_⟩⟩;rw [lK,CH hp];exact q n hn hr
noncomputable def eD:CS:=(.ret (.blt .len (.cons (.att (.var 0) "stations") .nil)))
theorem wH (f:PF T):∀ xs G Q,oK xs G Q→wpS T eD (aQ Q) (aF 1 xs) G:=by
 rintro xs G Q ⟨ys,rfl,hq⟩;unfold eD;have e1:∀ G Q,FE T (.ob "Row" ["stations"] [.tup ys]) "stations" G Q=Q (.tup ys) G:=fun G Q=>nH f.flR rfl;walk_at "rz"
noncomputable def fG:CS:=(.ret (.blt .list (.cons (.att (.var 0) "stations") .nil)))
theorem zP (f:PF T):∀ xs G Q,sJ xs G Q→wpS T fG (aQ Q) (aF 1 xs) G:=by
 rintro xs G Q ⟨ys,rfl,hq⟩;unfold fG;have e1:∀ G Q,FE T (.ob "Row" ["stations"] [.tup ys]) "stations" G Q=Q (.tup ys) G:=fun G Q=>nH f.flR rfl;walk_at "rz"
 exact .inl ⟨_,rfl,Wk.here hq⟩
noncomputable def rC:CS:=(.seq (.ex (.cal "need_fractions" (.cons (.tup (.cons (.var 0) (.cons (.var 1) .nil))) .nil)))
 (.seq (.iff (.tsb (.cmp .Eq (.idx (.var 1) (.int 0)) (.int 0))) .nev .nil)
 (.ret (.cal "lowest" (.cons (.bin .Mult (.idx (.var 0) (.int 0)) (.idx (.var 1) (.int 1))) (.cons (.bin .Mult (.idx (.var 0) (.int 1)) (.idx (.var 1) (.int 0))) .nil))))))
theorem aCP (h:PT T):∀ xs G Q,kC xs G Q→wpS T rC (aQ Q) (aF 2 xs) G:=by
 rintro xs G Q ⟨a,b,rfl,ha,hb,h0,hq⟩;unfold rC;have:=h.need_fractions;have:=h.lowest;have n0:¬b.num=0:=fun z=>h0 (Rat.num_eq_zero.mp z);walk_at "rz"
 refine ⟨bR ha.1 hb.2,bR ha.2 hb.1,bQ aY n0,(ha.2.mul hb.1).mono (by decide),Wk.here ?_⟩;rw [aBO]; exact hq
end
noncomputable def aW (r:R3):PV:=.tup [FQ r.1,FQ r.2.1,FQ r.2.2]
def Ok3 (n:Nat) (r:R3):Prop:=I3 r.1 r.2.1 r.2.2∧Bd n r.1∧Bd n r.2.1∧Bd n r.2.2
noncomputable def bG (x y:R3) (i j k:Int):Rat:=cN x.1 x.2.1 x.2.2 y.1 y.2.1 y.2.2 i j k
noncomputable def WL (i j k:Int) (q:Rat):List R3→Prop
 | a :: b :: r=>bG a b i j k≤q∧WL i j k q (b :: r)
 | _=>True
noncomputable def rP:List PV→List PV
 | a :: b :: r=>.tup [a,b] :: rP (b :: r)
 | _=>[]
theorem LU {n:Nat} {x y:PV} {xs ys:List PV}:mS (n + 1) [x :: xs,y :: ys]= .tup [x,y] :: mS n [xs,ys]:=by
 unfold mS;rw [List.range_succ_eq_map,List.map_cons,List.map_map];rfl
theorem zC:∀ {ys:List PV},mS (ys.length - 1) [ys,ys.drop 1]=rP ys
 | []=>rfl
 | [_]=>rfl
 | a :: b :: r=>by
   show mS (r.length + 1) [a :: b :: r,b :: r]= .tup [a,b] :: rP (b :: r);rw [LU];exact congrArg _ (zC (ys:=b :: r))
def sS:Sp3:=fun xs G Q=>∃ p,xs=[.ref p]∧Pu p G∧∀ q G',In1 q→Bd 12 q→Pn p G G'→Q (FQ q) G'
def yO:Sp3:=fun xs G Q=>∃ p,xs=[.ref p]∧Pu p G∧∀ (x:R3) (rs:List R3) (y:R3) G',rs.length≤5→Ok3 12 x→Ok3 12 y→(∀ r∈rs,Ok3 100 r)→Pn p G G'→Q (.lst ((x :: rs ++ [y]).map aW)) G'
structure aI0 (i j k:Int) (rs:List R3) (q:Rat):Prop where
 lo:l1k≤q
 hi:q≤297
 bd:Bd 1300 q
 st:WL i j k q rs
def iQ:Sp3:=fun xs G Q=>∃ rs i j k,xs=[.lst (rs.map aW),.tup [.int i,.int j,.int k]]∧Ey i j k∧2≤rs.length∧rs.length≤7∧(∀ r∈rs,Ok3 100 r)∧∀ q,aI0 i j k rs q→Q (FQ q) G
def iW:Sp3:=fun xs G Q=>∃ (x y:R3) (q:Rat) (i j k:Int),xs=[shV x,shV y,FQ q,.tup [.int i,.int j,.int k]]∧Ey i j k∧Ok3 12 x∧Ok3 12 y∧Lim q∧Bd 2000 q∧bG x y i j k≤36 * q∧Q (.bl true) G
structure L29 (T:Tb):Prop where
 made:T.S "_law_made"=sI
 farL:T.S "_law_far"=zK
 eyeL:T.S "_law_eye"=zZ
 plain:T.S "_law_plain_share"=sS
 bent:T.S "_law_bent"=yO
 greatest:T.S "_law_greatest"=iQ
 straight:T.S "_law_straight_right"=iW
theorem Ok3.mono {n m:Nat} {r:R3} (h:Ok3 n r) (e:n≤m):Ok3 m r:=⟨h.1,h.2.1.mono e,h.2.2.1.mono e,h.2.2.2.mono e⟩
theorem ER {x y:Rat} (hx:In1 x) (hy:In1 y):(x - y) * (x - y)≤1:=by
 obtain ⟨a,b⟩:=hx;obtain ⟨c,d⟩:=hy;have h1:0≤(1 - (x - y)) * (1 + (x - y)):=Rat.mul_nonneg (by grind) (by grind)
 grind
theorem OV {x y:R3} {i j k:Int} (e:Ey i j k) (hx:I3 x.1 x.2.1 x.2.2) (hy:I3 y.1 y.2.1 y.2.2):bG x y i j k≤297:=by
 obtain ⟨⟨i1,i2⟩,⟨j1,j2⟩,⟨k1,k2⟩⟩:=e;have a1:=ER hx.1 hy.1;have a2:=ER hx.2.1 hy.2.1;have a3:=ER hx.2.2 hy.2.2;have c99:((99:Int):Rat)=99:=rfl;have b1:(i:Rat)≤99:=by rw [←c99]; exact Rat.intCast_le_intCast.mpr i2
 have b2:(j:Rat)≤99:=by rw [←c99]; exact Rat.intCast_le_intCast.mpr j2
 have b3:(k:Rat)≤99:=by rw [←c99]; exact Rat.intCast_le_intCast.mpr k2
 have p1:=fE i1;have p2:=fE j1;have p3:=fE k1;have m:∀ {t u:Rat},1≤t→t≤99→0≤u→u≤1→t * u≤99:=fun {t u} h1 h2 h3 h4=>by
   have:0≤t * (1 - u):=Rat.mul_nonneg (by grind) (by grind)
   grind
 have q1:=m p1 b1 (mE (x.1 - y.1)) a1;have q2:=m p2 b2 (mE (x.2.1 - y.2.1)) a2;have q3:=m p3 b3 (mE (x.2.2 - y.2.2)) a3;unfold bG cN
 grind
local macro_rules | `(tactic| walk_at "rd") => wk (wB++" exists_false false_and and_false or_false kR kJ nW at0 at1 at2 nX lO iC fQ PP yD Option.getD_some jI fK cY jX lJ sz3")
section
variable {T:Tb}
noncomputable def gK:CS:=(.ret (.cal "Shade" (.cons (.idx (.var 0) (.int 0)) (.cons (.idx (.var 0) (.int 1)) (.cons (.idx (.var 0) (.int 2)) .nil)))))
theorem DG (h:PT T):∀ xs G Q,sI xs G Q→wpS T gK (aQ Q) (aF 1 xs) G:=by
 rintro xs G Q ⟨a,b,c,rfl,ia,ib,ic,hq⟩;unfold gK;have:=h.shade;walk_at "rd"
noncomputable def mK:CS:=(.seq (.asg (.gn 3) (.tup (.cons (.int 0) (.cons (.int 1) .nil))))
 (.seq (.fr (.gn 4) (.irg (.cons (.int 3) .nil)) (.seq (.asg (.gn 5) (.cal "_law_minus" (.cons (.idx (.var 0) (.var 4)) (.cons (.idx (.var 1) (.var 4)) .nil))))
 (.asg (.gn 3) (.cal "_law_plus" (.cons (.var 3) (.cons (.cal "_law_times" (.cons (.tup (.cons (.idx (.var 2) (.var 4)) (.cons (.int 1) .nil))) (.cons (.cal "_law_times" (.cons (.var 5) (.cons (.var 5) .nil))) .nil))) .nil))))))
 (.ret (.var 3))))
theorem ZC (l:LT T):∀ xs G Q,zK xs G Q→wpS T mK (aQ Q) (aF 6 xs) G:=by
 rintro xs G Q ⟨a,b,c,a',b',c',i,j,k,rfl,⟨⟨i1,i2⟩,⟨j1,j2⟩,⟨k1,k2⟩⟩,ba,bb,bc,ba',bb',bc',hq⟩;unfold mK;have:=l.minus;have:=l.plus;have:=l.times;have:=@JZ;have:=@uA;have x:=ba.sub ba' (show 100 + 100 + 1≤201 by decide);have y:=bb.sub bb' (show 100 + 100 + 1≤201 by decide);have z:=bc.sub bc' (show 100 + 100 + 1≤201 by decide);have bi:Bd 7 (i:Rat):=Bd.int (sm7 i1 i2) (by decide);have bj:Bd 7 (j:Rat):=Bd.int (sm7 j1 j2) (by decide);have bk:Bd 7 (k:Rat):=Bd.int (sm7 k1 k2) (by decide);have xx:=x.mul x (show 201 + 201≤402 by decide);have yy:=y.mul y (show 201 + 201≤402 by decide);have zz:=z.mul z (show 201 + 201≤402 by decide);have x2:=bi.mul xx (show 7 + 402≤409 by decide);have y2:=bj.mul yy (show 7 + 402≤409 by decide);have z2:=bk.mul zz (show 7 + 402≤409 by decide);have b0:Bd 2 ((0:Int):Rat):=⟨by unfold Sm; decide +kernel,by unfold Sm; decide +kernel⟩;have s1:=b0.add x2 (show 2 + 409 + 1≤412 by decide);have s2:=s1.add y2 (show 412 + 409 + 1≤822 by decide);have e:((0:Int):Rat) + (i:Rat) * ((a - a') * (a - a')) + (j:Rat) * ((b - b') * (b - b')) + (k:Rat) * ((c - c') * (c - c'))=cN a b c a' b' c' i j k:=by
   have:((0:Int):Rat)=0:=rfl;rw [this]; unfold cN; grind
 have:=ba.mono (show 100≤4000 by decide);have:=bb.mono (show 100≤4000 by decide);have:=bc.mono (show 100≤4000 by decide);have:=ba'.mono (show 100≤4000 by decide);have:=bb'.mono (show 100≤4000 by decide);have:=bc'.mono (show 100≤4000 by decide);have:=x.mono (show 201≤4000 by decide);have:=y.mono (show 201≤4000 by decide);have:=z.mono (show 201≤4000 by decide);have:=xx.mono (show 402≤4000 by decide);have:=yy.mono (show 402≤4000 by decide);have:=zz.mono (show 402≤4000 by decide);have:=bi.mono (show 7≤4000 by decide);have:=bj.mono (show 7≤4000 by decide);have:=bk.mono (show 7≤4000 by decide);have:=x2.mono (show 409≤4000 by decide);have:=y2.mono (show 409≤4000 by decide);have:=z2.mono (show 409≤4000 by decide);have:=b0.mono (show 2≤4000 by decide);have:=s1.mono (show 412≤4000 by decide);have:=s2.mono (show 822≤4000 by decide);walk_at "rd"
 decide
noncomputable def mL:CS:=(.seq (.asg (.gn 1) (.cal "_law_pick" (.cons (.var 0) (.cons (.int 3) .nil))))
 (.ret (.idx (.lst false (.cons (.tup (.cons (.int 1) (.cons (.int 1) (.cons (.int 1) .nil)))) (.cons (.tup (.cons (.int 3) (.cons (.int 6) (.cons (.int 1) .nil)))) (.cons (.blt .tuple (.cons (.cmpr false (.gn 1) (.irg (.cons (.int 3) .nil)) .nil (.bin .Add (.int 1) (.cal "_law_pick" (.cons (.var 2) (.cons (.int 99) .nil)))) [none,none,some 0]) .nil)) .nil)))) (.var 1))))
theorem aBa (l:LT T):∀ xs G Q,zZ xs G Q→wpS T mL (aQ Q) (aF 2 xs) G:=by
 rintro xs G Q ⟨p,rfl,hp,hq⟩;unfold mL;have:=l.pick;have:=@JZ;walk_at "rd"
 refine ⟨by decide,smP (by decide) (by decide),fun r G1 r1 r2 n1=>⟨by decide,by decide,n1.pu,by decide,smP (by decide) (by decide),fun a G2 a1 a2 n2=>⟨n2.pu,by decide,smP (by decide) (by decide),fun b G3 b1 b2 n3=>⟨n3.pu,by decide,smP (by decide) (by decide),fun c G4 c1 c2 n4=>?_⟩⟩⟩⟩;have nn:=((n1.trans n2).trans n3).trans n4;have e:r=0∨r=1∨r=2:=by omega
 rcases e with rfl | rfl | rfl
 · exact ⟨_,at0,Wk.here (hq 1 1 1 _ Ey.o nn)⟩
 · exact ⟨_,at1,Wk.here (hq 3 6 1 _ ⟨⟨by decide,by decide⟩,⟨by decide,by decide⟩,⟨by decide,by decide⟩⟩ nn)⟩
 · exact ⟨_,at2,Wk.here (hq (1 + a) (1 + b) (1 + c) _ ⟨⟨by omega,by omega⟩,⟨by omega,by omega⟩,⟨by omega,by omega⟩⟩ nn)⟩
noncomputable def dP:CS:=(.ret (.cal "_law_low" (.cons (.cal "_law_pick" (.cons (.var 0) (.cons (.int 61) .nil))) (.cons (.int 60) .nil))))
theorem sC (h:LT T):∀ xs G Q,sS xs G Q→wpS T dP (aQ Q) (aF 1 xs) G:=by
 rintro xs G Q ⟨p,rfl,hp,hq⟩;unfold dP;have:=h.pick;have:=h.low;walk_at "rd"
 refine ⟨by decide,smP (by decide) (by decide),fun r3 G3 a3 b3 n3=>?_⟩;refine ⟨by decide,smK (by omega) (by omega) (by decide),Wk.here (hq _ _ (sR a3 (by omega) (by omega)) (pP ?_ ?_ (by omega)) n3)⟩
 · unfold Sm; omega
 · unfold Sm; omega
end
theorem aGO:∀ {ys:List PV},1≤ys.length→rM ys (some 1) none=ys.drop 1:=fun {ys} h=>by
 unfold rM;have e1:HT.sIx ys.length 0 (some 1)=1:=by unfold HT.sIx; simp; omega
 have e2:HT.sIx ys.length ys.length none=ys.length:=rfl;rw [e1,e2];exact List.take_of_length_le (by rw [List.length_drop]; omega)
theorem ZV {a b:R3} {r:List R3}:rP ((a :: b :: r).map aW)= .tup [aW a,aW b] :: rP ((b :: r).map aW):=rfl
local macro_rules | `(tactic| walk_at "rd") => wk wB
section
variable {T:Tb}
noncomputable def grB:CS:=(.seq (.asg (.gn 5) (.cal "_law_far" (.cons (.var 3) (.cons (.var 4) (.cons (.var 1) .nil)))))
 (.iff (.tst (.cal "_law_below" (.cons (.var 2) (.cons (.var 5) .nil)))) (.asg (.gn 2) (.var 5)) .nil))
noncomputable def fA:CS:=(.seq (.asg (.gn 2) (.tup (.cons (.int 1) (.cons (.int 1000) .nil))))
 (.seq (.fr (.gt 2 (.cons (.gn 3) (.cons (.gn 4) .nil))) (.izp (.cons (.var 0) (.cons (.sli (.var 0) (.tst (.int 1)) .nil) .nil))) grB)
 (.ret (.var 2))))
theorem XG (lt:LT T) (m:L29 T) {D:dY} {x0:Option PV} {i j k:Int} {G:Gh} (e:Ey i j k):∀ (rs:List R3) (q:Rat) (x3 x4 x5:Option PV),l1k≤q→q≤297→Bd 1300 q→(∀ r∈rs,Ok3 100 r)→
   (∀ q' x3 x4 x5,q≤q'→q'≤297→Bd 1300 q'→WL i j k q' rs→D.nx [x0,some (.tup [.int i,.int j,.int k]),some (FQ q'),x3,x4,x5] G)→
   nS (fun _=>True) (wpG T (.gt 2 (.cons (.gn 3) (.cons (.gn 4) .nil)))) (wpS T grB) D (rP (rs.map aW)) [x0,some (.tup [.int i,.int j,.int k]),some (FQ q),x3,x4,x5] G
 | [],q,x3,x4,x5,_,h2,h3,_,hR=>⟨trivial,hR q _ _ _ (by grind) h2 h3 trivial⟩
 | [_],q,x3,x4,x5,_,h2,h3,_,hR=>⟨trivial,hR q _ _ _ (by grind) h2 h3 trivial⟩
 | a :: b :: r,q,x3,x4,x5,h1,h2,h3,ho,hR=>by
   rw [ZV];have oa:=ho a (wDq ..);have ob:=ho b (wCq _ (wDq ..));have f1:bG a b i j k≤297:=OV e oa.1 ob.1;have f2:Bd 1300 (bG a b i j k):=tO e oa.2.1 oa.2.2.1 oa.2.2.2 ob.2.1 ob.2.2.1 ob.2.2.2;refine ⟨trivial,⟨_,rfl,rfl,_,_,rfl,_,_,rfl,rfl, ?_⟩⟩;have e1:=m.farL;have e2:=lt.below;refine ⟨_,rfl,_,rfl,_,rfl, ?_⟩;rw [e1];refine ⟨_,_,_,_,_,_,_,_,_,rfl,e,oa.2.1,oa.2.2.1,oa.2.2.2,ob.2.1,ob.2.2.1,ob.2.2.2, ?_⟩;refine ⟨_,rfl,_,rfl, ?_⟩;rw [e2];refine ⟨q,bG a b i j k,rfl,h3.mono (by decide),f2.mono (by decide), ?_⟩;refine (?_:vU (.bl (decide (q < bG a b i j k))) _ _);rw [eR];by_cases c:q < bG a b i j k
   · rw [decide_eq_true c];refine ⟨_,rfl, ?_⟩;refine XG lt m e (b :: r) (bG a b i j k) _ _ _ (by grind) f1 f2 (fun z hz=>ho z (wCq _ hz)) fun q' x3 x4 x5 g1 g2 g3 g4=>hR q' _ _ _ (by grind) g2 g3 ⟨g1,g4⟩
   · rw [decide_eq_false c];refine XG lt m e (b :: r) q _ _ _ h1 h2 h3 (fun z hz=>ho z (wCq _ hz)) fun q' x3 x4 x5 g1 g2 g3 g4=>hR q' _ _ _ g1 g2 g3 ⟨by grind,g4⟩
theorem yM (lt:LT T) (m:L29 T):∀ xs G Q,iQ xs G Q→wpS T fA (aQ Q) (aF 6 xs) G:=by
 rintro xs G Q ⟨rs,i,j,k,rfl,he,l1,l2,ho,hq⟩;unfold fA;generalize eB:grB=B;walk_at "rd"
 refine ⟨_,rfl,.inl trivial,rs.length - 1,[rs.map aW,(rs.map aW).drop 1], ?_,.inr ⟨_,_,rfl,by rw [List.length_drop,List.length_map],by rw [List.length_map]; omega⟩, ?_⟩
 · rw [aGO (by rw [List.length_map]; omega)]; rfl
 subst eB;have ez:mS (rs.length - 1) [rs.map aW,(rs.map aW).drop 1]=rP (rs.map aW):=by
   rw [←zC,List.length_map]
 rw [ez];exact XG lt m he rs l1k _ _ _ (by grind) (by decide) ⟨smK (by decide) (by decide) (by decide),smK (by decide) (by decide) (by decide)⟩ ho fun q' x3 x4 x5 g1 g2 g3 g4=>⟨_,rfl,Wk.here (hq q' ⟨g1,g2,g3,g4⟩)⟩
end
theorem RL {xs:List PV} {lo hi:Option Int} {G:Gh} {Q:PK1}:UH (.tup xs) lo hi G Q=Q (.tup (rM xs lo hi)) G:=rfl
theorem Pk.pu {p:Addr} {G K:Gh} (h:Pk p G K):Pu p K:=by
 obtain ⟨G',⟨x,y,z,e⟩,b⟩:=h;exact ⟨x,y,z,b p _ (by rw [e]; exact aS)⟩
theorem ZQ {zs:List R3} (h:zs≠ []):∃ r,r∈zs∧atI (zs.map aW) (-1)=some (aW r):=by
 have hl:0 < zs.length:=List.length_pos_iff.mpr h;refine ⟨zs[zs.length - 1]'(by omega),List.getElem_mem _, ?_⟩;have e:ixN (zs.map aW).length (-1)=some (zs.length - 1):=by
   unfold ixN;rw [List.length_map,if_neg (by decide),if_pos (by omega)]
   congr 1; omega
 unfold atI;rw [e];show (zs.map aW)[zs.length - 1]? =_;rw [List.getElem?_map,wHq (by omega)]; rfl
theorem GN {a a' t:Rat} (ha:In1 a) (ha':In1 a') (ht:In1 t):In1 (a + t * (a' - a)):=by
 obtain ⟨x0,x1⟩:=ha;obtain ⟨y0,y1⟩:=ha';obtain ⟨u0,u1⟩:=ht;have k1:0≤t * a':=Rat.mul_nonneg u0 y0;have k2:0≤(1 - t) * a:=Rat.mul_nonneg (by grind) x0;have k3:0≤t * (1 - a'):=Rat.mul_nonneg u0 (by grind);have k4:0≤(1 - t) * (1 - a):=Rat.mul_nonneg (by grind) (by grind);exact ⟨by grind,by grind⟩
section
variable {T:Tb}
noncomputable def bt3:CS:=(.seq (.iff (.an (.tsb (.cmp .Eq (.var 4) (.int 2))) (.tsb (.cmp .Eq (.cal "_law_pick" (.cons (.var 0) (.cons (.int 3) .nil))) (.int 1)))) (.asg (.gn 8) (.idx (.var 5) (.neg (.int 1)))) .nil)
 (.ex (.app (.var 5) (.var 8))))
noncomputable def bt2:CS:=(.seq (.iff (.tsb (.cmp .Eq (.var 4) (.int 1))) (.seq (.asg (.gn 9) (.cal "_law_pick" (.cons (.var 0) (.cons (.int 3) .nil))))
 (.asg (.gn 8) (.bin .Add (.bin .Add (.sli (.var 8) .nil (.tst (.var 9))) (.tup (.cons (.cal "_law_plain_share" (.cons (.var 0) .nil)) .nil))) (.sli (.var 8) (.tst (.bin .Add (.var 9) (.int 1))) .nil)))) .nil) bt3)
noncomputable def bt1:CS:=(.seq (.asg (.gn 7) (.cal "_law_low" (.cons (.var 6) (.cons (.var 3) .nil))))
 (.seq (.asg (.gn 8) (.blt .tuple (.cons (.cmpr false (.gt 2 (.cons (.gn 1) (.cons (.gn 2) .nil))) (.izp (.cons (.var 1) (.cons (.var 2) .nil))) .nil (.cal "_law_plus" (.cons (.var 1) (.cons (.cal "_law_times" (.cons (.var 3) (.cons (.cal "_law_minus" (.cons (.var 2) (.cons (.var 1) .nil))) .nil))) .nil))) [none,none,none,some 7]) .nil))) bt2))
noncomputable def kH:CS:=(.seq (.par 1 2 (.cal "_law_shares" (.cons (.var 0) .nil)) (.cal "_law_shares" (.cons (.var 0) .nil)))
 (.seq (.par 3 4 (.bin .Add (.int 1) (.cal "_law_pick" (.cons (.var 0) (.cons (.int 6) .nil)))) (.cal "_law_pick" (.cons (.var 0) (.cons (.int 3) .nil))))
 (.seq (.asg (.gn 5) (.lst true (.cons (.var 1) .nil)))
 (.seq (.fr (.gn 6) (.irg (.cons (.int 1) (.cons (.var 3) .nil))) bt1)
 (.ret (.bin .Add (.var 5) (.lst false (.cons (.var 2) .nil))))))))
local macro_rules | `(tactic| walk_at "rd") => wk (wB++" List.map_cons exists_false false_and and_false or_false false_or XW gE nC nW uW exists_eq' iC fQ yD Option.getD_some jI fK cY jX hZ sz1 RL Int.reduceNeg")
theorem aBp (lt:LT T) {D:dY} {p l:Addr} {x1 x2 x3 x6 x7 x9:Option PV} {md:Int} {zs:List R3} {r:R3} {G0 G:Gh} (h0:Pk p G0 G) (hl0:G0 l=none) (lp:l≠p) (hl:G l=some (.lst (zs.map aW))) (hz:zs≠ []) (l7:zs.length≤7) (ho:∀ r∈zs,Ok3 100 r) (hr:Ok3 100 r)
   (hR:∀ r x8 G',Ok3 100 r→Pk p G0 G'→G' l=some (.lst ((zs ++ [r]).map aW))→D.nx [some (.ref p),x1,x2,x3,some (.int md),some (.ref l),x6,x7,x8,x9] G') :
   wpS T bt3 D [some (.ref p),x1,x2,x3,some (.int md),some (.ref l),x6,x7,some (aW r),x9] G:=by
 unfold bt3;have e1:=lt.pick;have fin:∀ (r:R3) (x8:Option PV) (G:Gh),Ok3 100 r→Pk p G0 G→G l=some (.lst (zs.map aW))→∃ xs,GO.lst (zs.map aW)=GO.lst xs∧xs.length < sizeLine∧D.nx [some (.ref p),x1,x2,x3,some (.int md),some (.ref l),x6,x7,x8,x9] (gup G l (.lst (xs ++ [aW r]))):=fun r x8 G hr hk hl=>by
   refine ⟨_,rfl,by rw [List.length_map,sizeLine_eq]; omega,hR r x8 _ hr (hk.set hl0 lp) ?_⟩;rw [aS,List.map_append]; rfl
 by_cases c:md=2
 · subst c;walk_at "rd"
   refine ⟨h0.pu,by decide,smP (by decide) (by decide),fun u G1 a b n1=>?_⟩;have k1:=h0.pick n1;have hl1:G1 l=some (.lst (zs.map aW)):=by rw [n1.ne lp]; exact hl
   have ls:bT G1 (.ref l)=some (zs.map aW):=eO hl1;split
   · obtain ⟨r2,m2,a2⟩:=ZQ hz;rw [CW hl1];refine ⟨_,a2, ?_⟩;have f2:=fin r2 (some (aW r2)) G1 (ho r2 m2) k1 hl1;walk_at "rd"
   · have f2:=fin r (some (aW r)) G1 hr k1 hl1;walk_at "rd"
 · have ls:bT G (.ref l)=some (zs.map aW):=eO hl;have f2:=fin r (some (aW r)) G hr h0 hl;walk_at "rd"
theorem aFY (lt:LT T) (m:L29 T) {D:dY} {p l:Addr} {x1 x2 x3 x6 x7 x9:Option PV} {md:Int} {zs:List R3} {r:R3} {G0 G:Gh} (h0:Pk p G0 G) (hl0:G0 l=none) (lp:l≠p) (hl:G l=some (.lst (zs.map aW))) (hz:zs≠ []) (l7:zs.length≤7) (ho:∀ r∈zs,Ok3 100 r) (hr:Ok3 100 r)
   (hR:∀ r x8 x9 G',Ok3 100 r→Pk p G0 G'→G' l=some (.lst ((zs ++ [r]).map aW))→D.nx [some (.ref p),x1,x2,x3,some (.int md),some (.ref l),x6,x7,x8,x9] G') :
   wpS T bt2 D [some (.ref p),x1,x2,x3,some (.int md),some (.ref l),x6,x7,some (aW r),x9] G:=by
 unfold bt2;have e1:=lt.pick;have e2:=m.plain;have pl:∀ {G:Gh} {Q:PK1},Pu p G→(∀ q G',In1 q→Bd 12 q→Pn p G G'→Q (FQ q) G')→T.S "_law_plain_share" [.ref p] G Q:=fun h q=>by rw [e2]; exact ⟨p,rfl,h,q⟩
 clear e2;generalize e3:bt3=B;by_cases c:md=1
 · subst c;obtain ⟨a,b,cc⟩:=r;have er:aW (a,b,cc)= .tup [FQ a,FQ b,FQ cc]:=rfl;rw [er];walk_at "rd"
   refine ⟨h0.pu,by decide,smP (by decide) (by decide),fun u G1 u0 u1 n1=>?_⟩;have k1:=h0.pick n1;refine pl k1.pu fun q G2 iq bq n2=>?_;have k2:=k1.pick n2;have hl2:G2 l=some (.lst (zs.map aW)):=by rw [n2.ne lp,n1.ne lp]; exact hl
   have bq':=bq.mono (show 12≤100 by decide);obtain ⟨⟨ia,ib,ic⟩,ba,bb,bc⟩:=hr;subst e3;have go:∀ (r:R3) (x9:Option PV),Ok3 100 r→wpS T bt3 D [some (.ref p),x1,x2,x3,some (.int 1),some (.ref l),x6,x7,some (aW r),x9] G2:=fun r x9 hr=>aBp lt k2 hl0 lp hl2 hz l7 ho hr fun r x8 G'=>hR r x8 x9 G';have s2:∀ n:Nat,n≤100→n≤sizeLine:=fun n hn=>by rw [sizeLine_eq]; omega
   rcases (show u=0∨u=1∨u=2 by omega) with rfl | rfl | rfl
   · exact ⟨s2 1 (by decide),s2 3 (by decide),go (q,b,cc) _ ⟨⟨iq,ib,ic⟩,bq',bb,bc⟩⟩
   · exact ⟨s2 2 (by decide),s2 3 (by decide),go (a,q,cc) _ ⟨⟨ia,iq,ic⟩,ba,bq',bc⟩⟩
   · exact ⟨s2 3 (by decide),s2 3 (by decide),go (a,b,q) _ ⟨⟨ia,ib,iq⟩,ba,bb,bq'⟩⟩
 · walk_at "rd"
   subst e3;exact aBp lt h0 hl0 lp hl hz l7 ho hr fun r x8 G'=>hR r x8 x9 G'
theorem aHz (lt:LT T) (m:L29 T) {D:dY} {p l:Addr} {x7 x8 x9:Option PV} {md mn k:Int} {zs:List R3} {x y:R3} {G0 G:Gh} (h0:Pk p G0 G) (hl0:G0 l=none) (lp:l≠p) (hl:G l=some (.lst (zs.map aW))) (hz:zs≠ []) (l7:zs.length≤7) (ho:∀ r∈zs,Ok3 100 r) (hx:Ok3 12 x) (hy:Ok3 12 y) (k0:1≤k) (kn:k < mn) (n6:mn≤6)
   (hR:∀ r x7 x8 x9 G',Ok3 100 r→Pk p G0 G'→G' l=some (.lst ((zs ++ [r]).map aW))→D.nx [some (.ref p),some (aW x),some (aW y),some (.int mn),some (.int md),some (.ref l),some (.int k),x7,x8,x9] G') :
   wpS T bt1 D [some (.ref p),some (aW x),some (aW y),some (.int mn),some (.int md),some (.ref l),some (.int k),x7,x8,x9] G:=by
 unfold bt1;have e1:=lt.low;have e2:=lt.plus;have e3:=lt.minus;have e4:=lt.times;generalize eB:bt2=B;obtain ⟨a,b,c⟩:=x;obtain ⟨a',b',c'⟩:=y;have er:aW (a,b,c)= .tup [FQ a,FQ b,FQ c]:=rfl;have er':aW (a',b',c')= .tup [FQ a',FQ b',FQ c']:=rfl;rw [er,er'];walk_at "rd"
 obtain ⟨⟨ia,ib,ic⟩,ba,bb,bc⟩:=hx;obtain ⟨⟨ia',ib',ic'⟩,ba',bb',bc'⟩:=hy;refine ⟨by omega,smK (by omega) (by omega) (by decide),.inl trivial,3,[[FQ a,FQ b,FQ c],[FQ a',FQ b',FQ c']],rfl,.inl (by simp),by rw [sizeLine_eq]; show 3≤16777216; decide, ?_⟩;rw [aBi];have it:In1 (Rat.divInt k mn):=sR (by omega) (by omega) (by omega);have bt:Bd 3 (Rat.divInt k mn):=pP (by unfold Sm; omega) (by unfold Sm; omega) (by omega);generalize Rat.divInt k mn=t at *;have u1:Bd 25 (a' - a):=ba'.sub ba (by decide);have u2:Bd 25 (b' - b):=bb'.sub bb (by decide);have u3:Bd 25 (c' - c):=bc'.sub bc (by decide);have v1:Bd 28 (t * (a' - a)):=bt.mul u1 (by decide);have v2:Bd 28 (t * (b' - b)):=bt.mul u2 (by decide);have v3:Bd 28 (t * (c' - c)):=bt.mul u3 (by decide);have w1:Bd 100 (a + t * (a' - a)):=ba.add v1 (by decide);have w2:Bd 100 (b + t * (b' - b)):=bb.add v2 (by decide);have w3:Bd 100 (c + t * (c' - c)):=bc.add v3 (by decide);have M:∀ {n:Nat} {q:Rat},Bd n q→n≤4000→Bd 4000 q:=fun h e=>h.mono e;have t1:=M ba (by decide);have t2:=M bb (by decide);have t3:=M bc (by decide);have t4:=M ba' (by decide);have t5:=M bb' (by decide);have t6:=M bc' (by decide);have t7:=M bt (by decide);have t8:=M u1 (by decide);have t9:=M u2 (by decide);have t10:=M u3 (by decide);have t11:=M v1 (by decide);have t12:=M v2 (by decide);have t13:=M v3 (by decide);clear M;subst eB;have fin:=aFY (x1:=some (aW (a,b,c))) (x2:=some (aW (a',b',c'))) (x3:=some (.int mn)) (x6:=some (.int k)) (x7:=some (FQ t)) (x9:=x9) lt m h0 hl0 lp hl hz l7 ho (r:=(a + t * (a' - a),b + t * (b' - b),c + t * (c' - c))) ⟨⟨GN ia ia' it,GN ib ib' it,GN ic ic' it⟩,w1,w2,w3⟩ fun r x8 x9 G'=>hR r _ x8 x9 G';generalize bt2=B at *;clear hR;walk_at "rd"
 exact fin
theorem DO {g:PTG} {tb:PTS} {D:dY} (J:List PV→PSt→Gh→Prop) (hs:∀ x r σ G (R:PSt→Gh→Prop),J (x :: r) σ G→(∀ σ' G',J r σ' G'→R σ' G')→g x σ G fun σ2 G2=>tb { D with nx:=R,ct:=R,bk:=D.nx } σ2 G2) (he:∀ σ G,J [] σ G→D.nx σ G):∀ xs σ G,J xs σ G→nS (fun _=>True) g tb D xs σ G
 | [],σ,G,j=>⟨trivial,he σ G j⟩
 | x :: r,σ,G,j=>⟨trivial,hs x r σ G _ j fun σ' G' j'=>DO J hs he r σ' G' j'⟩
theorem aGU {i j:Int} {A:Int→Prop} {R:Int→Int→Prop}:((∃ k,[PV.int i,PV.int j]=[PV.int k]∧A k)∨(∃ i' k,[PV.int i,PV.int j]=[PV.int i',PV.int k]∧R i' k))=R i j:=propext ⟨fun h=>by
 rcases h with ⟨k,e,_⟩ | ⟨a,b,e,r⟩
 · simp at e
 · simp only [List.cons.injEq,PV.int.injEq,and_true] at e;obtain ⟨rfl,rfl⟩:=e;exact r,fun r=>.inr ⟨_,_,rfl,r⟩⟩
theorem QZ (lt:LT T) (m:L29 T):∀ xs G Q,yO xs G Q→wpS T kH (aQ Q) (aF 10 xs) G:=by
 rintro xs G Q ⟨p,rfl,hp,hq⟩;unfold kH;have e1:=lt.pick;have e2:=lt.shares;have:=@aGU;generalize eB:bt1=B;walk_at "rd"
 refine fun a b c G1 ia ib ic ba bb bc n1=>⟨n1.pu,fun a' b' c' G2 ia' ib' ic' ba' bb' bc' n2=>⟨n2.pu,by decide,smP (by decide) (by decide),fun r G3 r0 r1 n3=>⟨n3.pu,by decide,smP (by decide) (by decide),fun md G4 m0 m1 n4 l hl=>⟨by decide,by decide,by omega,by omega, ?_⟩⟩⟩⟩;subst eB;have nn:=((n1.trans n2).trans n3).trans n4;have lp:l≠p:=n4.pu.ne hl;have hl0:G l=none:=by rw [←nn.ne lp]; exact hl
 have hx:Ok3 12 (a,b,c):=⟨⟨ia,ib,ic⟩,ba,bb,bc⟩;have hy:Ok3 12 (a',b',c'):=⟨⟨ia',ib',ic'⟩,ba',bb',bc'⟩;refine DO (fun bA σ K=>∃ (zs:List R3) (x6 x7 x8 x9:Option PV),σ=[some (.ref p),some (aW (a,b,c)),some (aW (a',b',c')),some (.int (1 + r)),some (.int md),some (.ref l),x6,x7,x8,x9]∧Pk p G K∧K l=some (.lst (((a,b,c) :: zs).map aW))∧zs.length + bA.length≤5∧(∀ z∈zs,Ok3 100 z)∧∀ v∈bA,∃ k:Int,v= .int k∧1≤k∧k < 1 + r) ?_ ?_ _ _ _ ⟨[],_,_,_,_,rfl,(Pk.of nn).new hl,aS, ?_,(fun z hz=>nomatch hz),fun v hv=>?_⟩
 · rintro v bA σ K R ⟨zs,x6,x7,x8,x9,rfl,hk,hkl,hlen,ho,hv⟩ hR;obtain ⟨k,rfl,k0,k1⟩:=hv v (wDq ..);rw [List.length_cons] at hlen;refine aHz lt m hk hl0 lp hkl (by simp) (by simp; omega) (fun z hz=>?_) hx hy k0 k1 (by omega) fun r' x7 x8 x9 G' o' k' g'=>hR _ _ ⟨zs ++ [r'],_,_,_,_,rfl,k',g',by simp; omega,fun z hz=>?_,fun v hv'=>hv v (wCq _ hv')⟩
   · rcases List.mem_cons.mp hz with rfl | hz
     · exact hx.mono (by decide)
     · exact ho z hz
   · rcases List.mem_append.mp hz with hz | hz
     · exact ho z hz
     · rw [List.mem_singleton.mp hz]; exact o'
 · rintro σ K ⟨zs,x6,x7,x8,x9,rfl,hk,hkl,hlen,ho,hv⟩;refine ⟨_,rfl,_,rfl, ?_⟩;refine ⟨_,_,eO hkl,rfl, ?_, ?_⟩
   · rw [sizeLine_eq]; simp; omega
   · have q:∀ G',Pn p G G'→Q (.lst (((a,b,c) :: zs).map aW ++ [aW (a',b',c')])) G':=fun G' hn=>by
       have:=hq (a,b,c) zs (a',b',c') G' (by omega) hx hy ho hn;rw [List.map_append] at this;exact this
     exact hk.end_ q
 · unfold oO; rw [List.length_map,List.length_range]; simp; omega
 · obtain ⟨k,rfl,hk⟩:=yC hv;exact ⟨_,rfl,by omega,by omega⟩
end
theorem OH {a a':Rat} {m:Int}:pw a a' 0 m=a:=by
 unfold pw;have:Rat.divInt 0 m=0:=by rw [Rat.divInt_eq_div]; show (0:Rat) / _=0; rw [Rat.div_def]; grind
 rw [this]; grind
theorem aCX {a a':Rat} {n:Int} (h:1≤n):pw a a' n n=a':=by
 unfold pw;have:Rat.divInt n n=1:=by
   rw [Rat.divInt_eq_div];have hn:(n:Rat)≠0:=fun z=>by have:=Rat.intCast_eq_zero_iff.mp z; omega
   have:=Rat.div_mul_cancel (a:=(n:Rat)) hn;rw [Rat.div_def];exact Rat.mul_inv_cancel _ hn
 rw [this]; grind
theorem jV {a b c a' b' c':Rat} {n:Nat}:(stL a b c a' b' c' n).length=n + 1:=by unfold stL; rw [List.length_map,List.length_range]
theorem ED {a b c a' b' c':Rat} {n p:Nat} (h:p≤n):(stL a b c a' b' c' n)[p]? =some (stt a b c a' b' c' (max (n:Int) 1) (p:Int)):=by
 unfold stL;rw [List.getElem?_map,List.getElem?_range (by omega)]; rfl
theorem aDH {a b c a' b' c':Rat} {n:Nat}:atI (stL a b c a' b' c' n) 0=some (SH a b c):=by
 have e:=dE (xs:=stL a b c a' b' c' n) (j:=0) (ED (Nat.zero_le _));rw [show ((0:Nat):Int)=0 from rfl] at e;rw [e];unfold stt;rw [OH,OH,OH]
theorem aCm {a b c a' b' c':Rat} {n:Nat} (h:n=0→a=a'∧b=b'∧c=c'):atI (stL a b c a' b' c' n) (-1)=some (SH a' b' c'):=by
 have e:ixN (stL a b c a' b' c' n).length (-1)=some n:=by
   unfold ixN;rw [jV,if_neg (by decide),if_pos (by omega)]
   congr 1; omega
 unfold atI;rw [e];show (stL a b c a' b' c' n)[n]? =_;rw [ED (Nat.le_refl _)];unfold stt;by_cases hn:n=0
 · obtain ⟨rfl,rfl,rfl⟩:=h hn;subst hn;rw [show ((0:Nat):Int)=0 from rfl,OH,OH,OH]
 · have em:max (n:Int) 1=(n:Int):=by omega
   rw [em,aCX (by omega),aCX (by omega),aCX (by omega)]
theorem HI:∀ {l:List PV} {x:PV},x∈rP l→∃ (i:Nat) (u v:PV),l[i]? =some u∧l[i + 1]? =some v∧x= .tup [u,v]
 | [],x,h=>by cases h
 | [_],x,h=>by cases h
 | a :: b :: r,x,h=>by
   rcases List.mem_cons.mp (show x∈.tup [a,b] :: rP (b :: r) from h) with rfl | h
   · exact ⟨0,a,b,rfl,rfl,rfl⟩
   · obtain ⟨i,u,v,h1,h2,h3⟩:=HI h;exact ⟨i + 1,u,v,h1,h2,h3⟩
theorem VW {a b c a' b' c':Rat} {n p i j k:Int} (hn:1≤n):cN (pw a a' p n) (pw b b' p n) (pw c c' p n) (pw a a' (p + 1) n) (pw b b' (p + 1) n) (pw c c' (p + 1) n) i j k * ((n * n:Int):Rat)=cN a b c a' b' c' i j k:=by
 have nz:(n:Rat)≠0:=fun z=>by have:=Rat.intCast_eq_zero_iff.mp z; omega
 have e:∀ z:Int,Rat.divInt z n * (n:Rat)=(z:Rat):=fun z=>by rw [Rat.divInt_eq_div]; exact Rat.div_mul_cancel nz
 have e1:=e p;have e2:=e (p + 1);rw [Rat.intCast_add] at e2;have c1:((1:Int):Rat)=1:=rfl;rw [c1] at e2;have d:(Rat.divInt (p + 1) n - Rat.divInt p n) * (n:Rat)=1:=by grind
 rw [sqc];unfold cN pw;generalize Rat.divInt p n=s at *;generalize Rat.divInt (p + 1) n=t at *;generalize (n:Rat)=w at *;have k1:(a + s * (a' - a) - (a + t * (a' - a))) * w=a - a':=by grind
 have k2:(b + s * (b' - b) - (b + t * (b' - b))) * w=b - b':=by grind
 have k3:(c + s * (c' - c) - (c + t * (c' - c))) * w=c - c':=by grind
 rw [←k1,←k2,←k3]
 grind
theorem SE {a a':Rat} {p n:Int} (ha:Bd 12 a) (ha':Bd 12 a') (p0:0≤p) (pn:p≤n) (h1:1≤n) (h6:n≤6):Bd 100 (pw a a' p n):=by
 have bt:Bd 3 (Rat.divInt p n):=pP (by unfold Sm; omega) (by unfold Sm; omega) (by omega);exact ha.add (bt.mul (ha'.sub ha (show 12 + 12 + 1≤25 by decide)) (show 3 + 25≤28 by decide)) (by decide)
theorem aBE {T:Tb} {a b c:Rat} {G:Gh} {Q:PK1} (e:T.S "Shade.__eq__"=DR) (q:Q (.bl false) G):TV T [("Shade","Shade.__eq__")] (SH a b c) (SH a b c) G Q:=by
 refine .inl ⟨"Shade","Shade.__eq__",_,_,_,_,List.mem_singleton.mpr rfl,rfl,rfl, ?_⟩;rw [e];refine ⟨_,_,_,_,_,_,rfl, ?_⟩;rw [decide_eq_true rfl,decide_eq_true rfl,decide_eq_true rfl];exact ⟨true,rfl,q⟩
theorem aDZ {T:Tb} {n:Int} {G:Gh} {Q:PK1} {eqs:List (String×Str)} (q:Q (.bl false) G):TV T eqs (.int n) (.int n) G Q:=by
 refine .inr ?_;rw [kO,decide_eq_true rfl]; exact q
theorem IN:∀ n:Nat,EG (List.replicate n (.bl false))=some false
 | 0=>rfl
 | n + 1=>by rw [List.replicate_succ]; unfold EG; rw [IN n]; rfl
theorem aDX {xs:List PV}:xs.map (fun _=>PV.bl false)=List.replicate xs.length (.bl false):=by
 induction xs with
 | nil=>rfl
 | cons a r ih=>rw [List.map_cons,ih]; rfl
structure iJ (a b c a' b' c' q:Rat) (i j k:Int) (n:Nat):Prop where
 e:Ey i j k
 i3:I3 a b c
 i3':I3 a' b' c'
 bx:Bd 12 a∧Bd 12 b∧Bd 12 c
 bz:Bd 12 a'∧Bd 12 b'∧Bd 12 c'
 l:Lim q
 bq:Bd 2000 q
 n6:n≤6
 ra:Ra (cN a b c a' b' c' i j k / q) (n:Int)
theorem iJ.b3 {a b c a' b' c' q:Rat} {i j k:Int} {n:Nat} (h:iJ a b c a' b' c' q i j k n):B3 a b c∧B3 a' b' c':=⟨⟨h.bx.1.mono (by decide),h.bx.2.1.mono (by decide),h.bx.2.2.mono (by decide)⟩,⟨h.bz.1.mono (by decide),h.bz.2.1.mono (by decide),h.bz.2.2.mono (by decide)⟩⟩
theorem UW {x y:Rat} (hy:0 < y):x / y * y=x:=Rat.div_mul_cancel (by grind)
theorem aHJ {x y m:Rat} (hy:0 < y) (h:x / y≤m):x≤m * y:=by
 have e:=UW (x:=x) hy;have:=Rat.mul_le_mul_of_nonneg_right h (Rat.le_of_lt hy)
 grind
theorem aGL {x y m:Rat} (hy:0 < y) (h:m < x / y):m * y < x:=by
 have e:=UW (x:=x) hy;have:=(Rat.mul_lt_mul_right hy).mpr h
 grind
theorem iJ.le {a b c a' b' c' q:Rat} {i j k:Int} {n:Nat} (h:iJ a b c a' b' c' q i j k n):cN a b c a' b' c' i j k≤(((n:Int) * (n:Int):Int):Rat) * q:=aHJ h.l.pos h.ra.2.1
theorem iJ.lt {a b c a' b' c' q:Rat} {i j k:Int} {n:Nat} (h:iJ a b c a' b' c' q i j k n) (n0:0 < (n:Int)):((((n:Int) - 1) * ((n:Int) - 1):Int):Rat) * q < cN a b c a' b' c' i j k:=aGL h.l.pos (h.ra.2.2 n0)
theorem iJ.zero {a b c a' b' c' q:Rat} {i j k:Int} {n:Nat} (h:iJ a b c a' b' c' q i j k n) (n0:n=0):a=a'∧b=b'∧c=c':=by
 have l:=h.le;subst n0;have z:((((0:Nat):Int) * ((0:Nat):Int):Int):Rat)=0:=rfl;rw [z] at l;have:=AF (a:=a) (b:=b) (c:=c) (a':=a') (b':=b') (c':=c') h.e;exact (RJ h.e).mp (by grind)
section
variable {T:Tb}
noncomputable def sr4:CS:=(.ret (.cmp .Eq (.var 6) (.cal "steps_between" (.cons (.var 1) (.cons (.var 0) (.cons (.var 2) (.cons (.var 3) .nil)))))))
noncomputable def sr3:CS:=(.seq (.iff (.tsb (.cmp .Gt (.var 6) (.int 0))) (.seq (.asg (.gn 7) (.cal "_law_times" (.cons (.tup (.cons (.bin .Mult (.bin .Sub (.var 6) (.int 1)) (.bin .Sub (.var 6) (.int 1))) (.cons (.int 1) .nil))) (.cons (.var 2) .nil))))
 (.iff (.no (.tst (.cal "_law_below" (.cons (.var 7) (.cons (.cal "far" (.cons (.var 0) (.cons (.var 1) (.cons (.var 3) .nil)))) .nil))))) (.ret (.bl false)) .nil)) .nil) sr4)
noncomputable def srE:CE:=(.cal "_law_below" (.cons (.var 3) (.cons (.cal "far" (.cons (.var 1) (.cons (.var 2) (.cons (.var 4) .nil)))) .nil)))
noncomputable def sr2:CS:=(.seq (.iff (.tst (.blt .any (.cons (.cmpr false (.gt 2 (.cons (.gn 1) (.cons (.gn 2) .nil))) (.izp (.cons (.var 5) (.cons (.sli (.var 5) (.tst (.int 1)) .nil) .nil))) .nil srE [none,none,none,some 2,some 3]) .nil))) (.ret (.bl false)) .nil) sr3)
noncomputable def sr1:CS:=(.seq (.iff (.oo (.tsb (.cne [("Shade","Shade.__eq__")] (.idx (.var 5) (.int 0)) (.var 0))) (.oo (.tsb (.cne [("Shade","Shade.__eq__")] (.idx (.var 5) (.neg (.int 1))) (.var 1))) (.tsb (.cne [("Shade","Shade.__eq__")] (.var 6) (.cal "steps_between" (.cons (.var 0) (.cons (.var 1) (.cons (.var 2) (.cons (.var 3) .nil))))))))) (.ret (.bl false)) .nil) sr2)
noncomputable def cP:CS:=(.seq (.asg (.gn 4) (.cal "Row" (.cons (.var 0) (.cons (.var 1) (.cons (.var 2) (.cons (.var 3) .nil))))))
 (.seq (.par 5 6 (.met "shades" [("Row","Row.shades",[])] (.var 4) .nil) (.bin .Sub (.bow .len [("Row","Row.__len__")] (.cons (.var 4) .nil)) (.int 1))) sr1))
theorem sQ (f:PF T) {a b c a' b' c' q:Rat} {i j k:Int} {n:Nat} (h:iJ a b c a' b' c' q i j k n) {G:Gh} {Q:PK1} (z:Q (.int (n:Int)) G):T.S "steps_between" [SH a b c,SH a' b' c',FQ q,.tup [.int i,.int j,.int k]] G Q:=by
 rw [f.steps];refine ⟨_,_,_,_,_,_,_,_,_,_,_,rfl,.inr rfl,h.e,h.b3.1,h.b3.2,h.l,h.bq,fun r hr=>?_⟩;rw [FI hr h.ra]; exact z
theorem jW (f:PF T) {a b c a' b' c':Rat} {i j k:Int} (e:Ey i j k) (h:B3 a b c) (h':B3 a' b' c') {G:Gh} {Q:PK1} (z:Q (FQ (cN a b c a' b' c' i j k)) G):T.S "far" [SH a b c,SH a' b' c',.tup [.int i,.int j,.int k]] G Q:=by
 rw [f.far];exact ⟨_,_,_,_,_,_,_,_,_,_,rfl,.inr rfl,e,h.1,h.2.1,h.2.2,h'.1,h'.2.1,h'.2.2,z⟩
theorem iJ.sym {a b c a' b' c' q:Rat} {i j k:Int} {n:Nat} (h:iJ a b c a' b' c' q i j k n):iJ a' b' c' a b c q i j k n:=⟨h.e,h.i3',h.i3,h.bz,h.bx,h.l,h.bq,h.n6,by rw [aA1]; exact h.ra⟩
local macro_rules | `(tactic| walk_at "rd") => wk (wB++" sP cY cQ Int.reduceNeg")
theorem aBh (f:PF T) {a b c a' b' c' q:Rat} {i j k:Int} {n:Nat} (h:iJ a b c a' b' c' q i j k n) {x4 x5 x7:Option PV} {G:Gh} {Q:PK1} (z:Q (.bl true) G) :
   wpS T sr4 (aQ Q) [some (SH a b c),some (SH a' b' c'),some (FQ q),some (.tup [.int i,.int j,.int k]),x4,x5,some (.int (n:Int)),x7] G:=by
 unfold sr4;walk_at "rd"
 refine sQ f h.sym ?_;rw [gE,decide_eq_true rfl];exact Wk.here z
theorem aGm (lt:LT T) (f:PF T) {a b c a' b' c' q:Rat} {i j k:Int} {n:Nat} (h:iJ a b c a' b' c' q i j k n) {x4 x5 x7:Option PV} {G:Gh} {Q:PK1} (z:Q (.bl true) G) :
   wpS T sr3 (aQ Q) [some (SH a b c),some (SH a' b' c'),some (FQ q),some (.tup [.int i,.int j,.int k]),x4,x5,some (.int (n:Int)),x7] G:=by
 unfold sr3;have e1:=lt.times;have e2:=lt.below;have:=@uA;have n6:=h.n6;generalize eB:sr4=B;by_cases n0:0 < (n:Int)
 · have s1:Sm 41 ((n:Int) - 1):=smK (by omega) (by omega) (by decide);have m1:oV ((n:Int) - 1) ((n:Int) - 1):=bR s1 s1;have hlt:=h.lt n0;have bm:Bd 8 ((((n:Int) - 1) * ((n:Int) - 1):Int):Rat):=Bd.int (by
     unfold Sm;have:((n:Int) - 1) * ((n:Int) - 1)≤5 * 5:=Int.mul_le_mul (by omega) (by omega) (by omega) (by omega);have:0≤((n:Int) - 1) * ((n:Int) - 1):=Int.mul_nonneg (by omega) (by omega);omega) (by decide)
   have b1:=bm.mono (show 8≤4000 by decide);have b2:=h.bq.mono (show 2000≤4000 by decide);have b3:=(bm.mul h.bq (show 8 + 2000≤2008 by decide)).mono (show 2008≤4000 by decide);have bf:=(tO h.e h.b3.1.1 h.b3.1.2.1 h.b3.1.2.2 h.b3.2.1 h.b3.2.2.1 h.b3.2.2.2).mono (show 1300≤4000 by decide);walk_at "rd"
   refine jW f h.e h.b3.1 h.b3.2 ?_;walk_at "rd"
   subst eB;exact aBh f h z
 · walk_at "rd"
   subst eB;exact aBh f h z
end
section
variable {T:Tb}
theorem QI {d m q x:Rat} (hm:0 < m) (h1:d * m=x) (h2:x≤m * q):¬q < d:=by
 intro h;have:=(Rat.mul_lt_mul_right hm).mpr h
 grind
theorem YY {a b c a' b' c':Rat} {n:Nat} {x:PV} (hx:x∈rP (stL a b c a' b' c' n)):∃ p:Nat,p < n∧x= .tup [stt a b c a' b' c' (n:Int) (p:Int),stt a b c a' b' c' (n:Int) ((p:Int) + 1)]:=by
 obtain ⟨p,u,v,h1,h2,rfl⟩:=HI hx;have l2:p + 1 < n + 1:=by
   have:=(List.getElem?_eq_some_iff.mp h2).1;rw [jV] at this; exact this
 rw [ED (by omega)] at h1 h2;have em:max (n:Int) 1=(n:Int):=by omega
 rw [em] at h1 h2;cases h1;cases h2;exact ⟨p,by omega,rfl⟩
theorem aFJ (lt:LT T) (f:PF T) {a b c a' b' c' q:Rat} {i j k:Int} {n:Nat} (h:iJ a b c a' b' c' q i j k n) {p:Nat} (hp:p < n) {G:Gh} {x0:Option PV} {R:PV→Gh→Prop} (hR:R (.bl false) G) :
   wpE T srE [x0,some (stt a b c a' b' c' (n:Int) (p:Int)),some (stt a b c a' b' c' (n:Int) ((p:Int) + 1)),some (FQ q),some (.tup [.int i,.int j,.int k])] G R:=by
 have n6:=h.n6;have P:∀ {z:Int},0≤z→z≤(n:Int)→B3 (pw a a' z n) (pw b b' z n) (pw c c' z n):=fun z0 zn=>⟨SE h.bx.1 h.bz.1 z0 zn (by omega) (by omega),SE h.bx.2.1 h.bz.2.1 z0 zn (by omega) (by omega),SE h.bx.2.2 h.bz.2.2 z0 zn (by omega) (by omega)⟩;have Q1:=P (z:=(p:Int)) (by omega) (by omega);have Q2:=P (z:=(p:Int) + 1) (by omega) (by omega);have st:=VW (a:=a) (b:=b) (c:=c) (a':=a') (b':=b') (c':=c') (n:=(n:Int)) (p:=(p:Int)) (i:=i) (j:=j) (k:=k) (by omega);have hm:(0:Rat) < (((n:Int) * (n:Int):Int):Rat):=Rat.intCast_pos.mpr (Int.mul_pos (by omega) (by omega));have nl:=QI hm st h.le;have bf:=tO h.e Q1.1 Q1.2.1 Q1.2.2 Q2.1 Q2.2.1 Q2.2.2;unfold srE;refine ⟨_,rfl,⟨_,rfl,_,rfl,_,rfl, ?_⟩⟩;refine jW f h.e Q1 Q2 ?_;show T.S "_law_below" [FQ q,_] G R;rw [lt.below];refine ⟨_,_,rfl,h.bq.mono (by decide),bf.mono (by decide), ?_⟩;rw [decide_eq_false nl]; exact hR
local macro_rules | `(tactic| walk_at "rz") => wk (wB++" nC kJ yD Option.getD_some Int.reduceNeg")
theorem aH3 (lt:LT T) (f:PF T) {a b c a' b' c' q:Rat} {i j k:Int} {n:Nat} (h:iJ a b c a' b' c' q i j k n) {x4 x7:Option PV} {G:Gh} {Q:PK1} (z:Q (.bl true) G) :
   wpS T sr2 (aQ Q) [some (SH a b c),some (SH a' b' c'),some (FQ q),some (.tup [.int i,.int j,.int k]),x4,some (.lst (stL a b c a' b' c' n)),some (.int (n:Int)),x7] G:=by
 unfold sr2;generalize eB:sr3=B;generalize eE:srE=El;have n6:=h.n6;walk_at "rz"
 refine ⟨_,rfl,.inl trivial,n,[stL a b c a' b' c' n,(stL a b c a' b' c' n).drop 1], ?_,.inr ⟨_,_,rfl,by rw [List.length_drop,jV]; omega,by rw [jV]; omega⟩, ?_⟩
 · rw [aGO (by rw [jV]; omega)]; rfl
 have ez:mS n [stL a b c a' b' c' n,(stL a b c a' b' c' n).drop 1]=rP (stL a b c a' b' c' n):=by
   rw [←zC,jV]; rfl
 have pl:(rP (stL a b c a' b' c' n)).length≤100:=by
   rw [←ez]; unfold mS; rw [List.length_map,List.length_range]; omega
 rw [ez];subst eB eE;refine ⟨by rw [sizeLine_eq]; omega,uX (fun σ=>∃ v0 v1 v2,σ=[v0,v1,v2,some (FQ q),some (.tup [.int i,.int j,.int k])]) (fun _=>.bl false) _ [] _ ⟨_,_,_,rfl⟩ ?_ ?_⟩
 · rintro v hv σ R ⟨v0,v1,v2,rfl⟩ hR;obtain ⟨p,hp,rfl⟩:=YY hv;exact ⟨_,rfl,rfl,_,_,rfl,_,_,rfl,rfl,aFJ lt f h hp (hR _ ⟨_,_,_,rfl⟩)⟩
 · rw [List.nil_append,aDX];refine ⟨_,false,rfl,IN _, ?_⟩;walk_at "rz"
   exact aGm lt f h z
theorem aHM (lt:LT T) (f:PF T) {a b c a' b' c' q:Rat} {i j k:Int} {n:Nat} (h:iJ a b c a' b' c' q i j k n) {x4 x7:Option PV} {G:Gh} {Q:PK1} (z:Q (.bl true) G) :
   wpS T sr1 (aQ Q) [some (SH a b c),some (SH a' b' c'),some (FQ q),some (.tup [.int i,.int j,.int k]),x4,some (.lst (stL a b c a' b' c' n)),some (.int (n:Int)),x7] G:=by
 unfold sr1;generalize eB:sr2=B;have a0:=aDH (a:=a) (b:=b) (c:=c) (a':=a') (b':=b') (c':=c') (n:=n);have a1:=aCm (a:=a) (b:=b) (c:=c) (a':=a') (b':=b') (c':=c') (n:=n) h.zero;walk_at "rz"
 refine aBE f.eqS ⟨false,rfl, ?_⟩;refine (?_:if false=true then _ else _);rw [if_neg (by decide)];refine aBE f.eqS ⟨false,rfl, ?_⟩;refine (?_:if false=true then _ else _);rw [if_neg (by decide)];refine sQ f h (aDZ ⟨false,rfl, ?_⟩);refine (?_:if false=true then _ else _);rw [if_neg (by decide)];subst eB;exact aH3 lt f h z
theorem mW (lt:LT T) (f:PF T):∀ xs G Q,iW xs G Q→wpS T cP (aQ Q) (aF 8 xs) G:=by
 rintro xs G Q ⟨⟨a,b,c⟩,⟨a',b',c'⟩,q,i,j,k,rfl,he,⟨i3,bx⟩,⟨i3',bz⟩,hL,bq,hf,hq⟩;unfold cP;generalize eB:sr1=B;have e1:=f.row;have e2:=f.rowSh;have e3:=f.rowLen;have hf':cN a b c a' b' c' i j k≤36 * q:=hf;have q0:=hL.pos;have B1:B3 a b c:=⟨bx.1.mono (by decide),bx.2.1.mono (by decide),bx.2.2.mono (by decide)⟩;have B2:B3 a' b' c':=⟨bz.1.mono (by decide),bz.2.1.mono (by decide),bz.2.2.mono (by decide)⟩;have rw_:∀ {G:Gh} {Q:PK1},(∀ n:Nat,n≤1000→Ra (cN a b c a' b' c' i j k / q) (n:Int)→Q (RW a b c a' b' c' n) G)→T.S "Row" [SH a b c,SH a' b' c',FQ q,.tup [.int i,.int j,.int k]] G Q:=fun z=>by
   rw [e1]; exact ⟨_,_,_,_,_,_,_,_,_,_,_,rfl,.inr rfl,he,i3,i3',B1,B2,hL,bq,by grind,z⟩
 have rs_:∀ {G:Gh} {Q:PK1} {ys:List PV},Q (.lst ys) G→T.S "Row.shades" [.ob "Row" ["stations"] [.tup ys]] G Q:=fun z=>by rw [e2]; exact ⟨_,rfl,z⟩
 have rl_:∀ {G:Gh} {Q:PK1} {ys:List PV},Q (.int (ys.length:Int)) G→T.S "Row.__len__" [.ob "Row" ["stations"] [.tup ys]] G Q:=fun z=>by rw [e3]; exact ⟨_,rfl,z⟩
 clear e1 e2 e3;simp only [shV];walk_at "rz"
 refine rw_ fun n hn hr=>?_;have n6:n≤6:=by
   have:=xH hr (m:=6) (by decide) (DL q0 hf');omega
 have sr:iJ a b c a' b' c' q i j k n:=⟨he,i3,i3',bx,bz,hL,bq,n6,hr⟩;have l1:(((stL a b c a' b' c' n).length:Nat):Int)=(n:Int) + 1:=by rw [jV]; omega
 have l2:(n:Int) + 1 - 1=(n:Int):=by omega
 refine ⟨"Row","Row.shades",[],List.mem_singleton.mpr rfl,_,_,.inl rfl,by decide +kernel,rs_ ?_⟩;refine .inl ⟨"Row","Row.__len__",_,_,List.mem_singleton.mpr rfl,rfl,rl_ ?_⟩;rw [l1];refine ⟨_,rfl,by omega,by omega,trivial, ?_⟩;subst eB;refine (?_:wpS T sr1 (aQ Q) [some (SH a b c),some (SH a' b' c'),some (FQ q),some (.tup [.int i,.int j,.int k]),_,some (.lst (stL a b c a' b' c' n)),some (.int ((n:Int) + 1 - 1)),_] G);rw [l2];exact aHM lt f sr hq
end
theorem cs1 {w x y m:Rat} (hw:0≤w):m * (w * ((x + y) * (x + y)))≤(m + 1) * (w * (x * x) + m * (w * (y * y))):=by
 have:0≤w * ((x - m * y) * (x - m * y)):=Rat.mul_nonneg hw (mE _)
 grind
theorem cs3 {x w v:R3} {i j k:Int} {m:Rat} (e:Ey i j k):m * bG x v i j k≤(m + 1) * (bG x w i j k + m * bG w v i j k):=by
 obtain ⟨⟨i1,_⟩,⟨j1,_⟩,⟨k1,_⟩⟩:=e;have hi:=fE i1;have hj:=fE j1;have hk:=fE k1;have t1:=cs1 (w:=(i:Rat)) (x:=x.1 - w.1) (y:=w.1 - v.1) (m:=m) (by grind);have t2:=cs1 (w:=(j:Rat)) (x:=x.2.1 - w.2.1) (y:=w.2.1 - v.2.1) (m:=m) (by grind);have t3:=cs1 (w:=(k:Rat)) (x:=x.2.2 - w.2.2) (y:=w.2.2 - v.2.2) (m:=m) (by grind);have e1:x.1 - w.1 + (w.1 - v.1)=x.1 - v.1:=by grind
 have e2:x.2.1 - w.2.1 + (w.2.1 - v.2.1)=x.2.1 - v.2.1:=by grind
 have e3:x.2.2 - w.2.2 + (w.2.2 - v.2.2)=x.2.2 - v.2.2:=by grind
 rw [e1] at t1;rw [e2] at t2;rw [e3] at t3;unfold bG cN
 grind
theorem aB8 {x w v:R3} {i j k:Int} {q:Rat} {m:Nat} (e:Ey i j k) (h1:bG x w i j k≤(m:Rat) * (m:Rat) * q) (h2:bG w v i j k≤q):bG x v i j k≤((m:Rat) + 1) * ((m:Rat) + 1) * q:=by
 cases m with
 | zero =>
   have z:((0:Nat):Rat)=0:=rfl;rw [z] at h1 ⊢;have n0:0≤bG x w i j k:=AF e;have e0:bG x w i j k=0:=by grind
   obtain ⟨a1,a2,a3⟩:=(RJ e).mp e0;have:x=w:=Prod.ext a1 (Prod.ext a2 a3);subst this
   grind
 | succ m =>
   have c:=cs3 (x:=x) (w:=w) (v:=v) (m:=((m + 1:Nat):Rat)) e;have hm:(0:Rat) < ((m + 1:Nat):Rat):=Rat.natCast_pos.mpr (by omega);generalize ((m + 1:Nat):Rat)=M at *;have k1:(M + 1) * (bG x w i j k + M * bG w v i j k)≤(M + 1) * (M * M * q + M * q):=by
     refine Rat.mul_le_mul_of_nonneg_left ?_ (by grind);have:=Rat.mul_le_mul_of_nonneg_left h2 (Rat.le_of_lt hm)
     grind
   have k2:M * bG x v i j k≤M * ((M + 1) * (M + 1) * q):=by grind
   exact Rat.le_of_mul_le_mul_left k2 hm
theorem aCc {x y:R3} {i j k:Int} {q:Rat} (e:Ey i j k):∀ (rs:List R3) (w:R3) (m:Nat),WL i j k q (w :: rs ++ [y])→bG x w i j k≤(m:Rat) * (m:Rat) * q→bG x y i j k≤((m + rs.length + 1:Nat):Rat) * ((m + rs.length + 1:Nat):Rat) * q
 | [],w,m,hs,h=>by
   have:=aB8 e h hs.1;have c:((m + ([]:List R3).length + 1:Nat):Rat)=(m:Rat) + 1:=by
     show ((m + 1:Nat):Rat)=_;exact Rat.natCast_add ..
   rw [c]; exact this
 | v :: r,w,m,hs,h=>by
   have s1:=aB8 e h hs.1;have c:((m + 1:Nat):Rat)=(m:Rat) + 1:=Rat.natCast_add ..;have:=aCc e r v (m + 1) hs.2 (by rw [c]; exact s1);have c2:m + 1 + r.length + 1=m + (v :: r).length + 1:=by simp; omega
   rw [c2] at this;exact this
theorem aHr {n:Int} (h:1≤n):PV.tup [.int 1,.int n]=FQ (Rat.divInt 1 n):=by
 rw [yJ (by omega)];have:Int.gcd 1 n=1:=by simp
 rw [this]; simp
structure Fa (x y:R3) (q:Rat) (i j k:Int) (n N:Nat):Prop where
 e:Ey i j k
 ox:Ok3 12 x
 oy:Ok3 12 y
 lo:l1k≤q
 hi:q≤297
 bd:Bd 1300 q
 le:bG x y i j k≤(N:Rat) * (N:Rat) * q
 n6:N≤6
 ra:Ra (bG x y i j k / q) (n:Int)
theorem Fa.lim {x y:R3} {q:Rat} {i j k:Int} {n N:Nat} (h:Fa x y q i j k n N):Lim q:=⟨h.lo,by have:=h.hi; grind⟩
theorem Fa.nN {x y:R3} {q:Rat} {i j k:Int} {n N:Nat} (h:Fa x y q i j k n N):n≤N:=by
 have c:(((N:Int) * (N:Int):Int):Rat)=(N:Rat) * (N:Rat):=Rat.intCast_mul ..;have:=xH h.ra (m:=(N:Int)) (by omega) (by rw [c]; exact DL h.lim.pos h.le);omega
theorem Fa.sr {x y:R3} {q:Rat} {i j k:Int} {n N:Nat} (h:Fa x y q i j k n N):iJ x.1 x.2.1 x.2.2 y.1 y.2.1 y.2.2 q i j k n:=⟨h.e,h.ox.1,h.oy.1,h.ox.2,h.oy.2,h.lim,h.bd.mono (by decide),by have:=h.nN; have:=h.n6; omega,h.ra⟩
theorem Fa.le36 {x y:R3} {q:Rat} {i j k:Int} {n N:Nat} (h:Fa x y q i j k n N):bG x y i j k≤36 * q:=by
 have n6:(N:Rat)≤6:=by
   have:((N:Int):Rat)≤((6:Int):Rat):=Rat.intCast_le_intCast.mpr (by have:=h.n6; omega);exact this
 have n0:(0:Rat)≤(N:Rat):=Rat.natCast_nonneg;have q0:=h.lim.pos;have k1:(N:Rat) * (N:Rat)≤36:=by
   have:0≤(6 - (N:Rat)) * (6 + (N:Rat)):=Rat.mul_nonneg (by grind) (by grind)
   grind
 have:=Rat.mul_le_mul_of_nonneg_right k1 (Rat.le_of_lt q0);have:=h.le
 grind
theorem Fa.wide {x y:R3} {q t:Rat} {i j k:Int} {n N:Nat} (h:Fa x y q i j k n N) (t1:1≤t) (t2:t≤2) (bt:Bd 6 t):∃ n':Nat,n'≤n∧Lim (q * t)∧Bd 2000 (q * t)∧bG x y i j k≤36 * (q * t)∧(∀ r,Ra (bG x y i j k / (q * t)) r→r≤(n:Int)):=by
 have q0:=h.lim.pos;have ge:q≤q * t:=by
   have:0≤q * (t - 1):=Rat.mul_nonneg (by grind) (by grind)
   grind
 have le:q * t≤594:=by
   have:0≤q * (2 - t):=Rat.mul_nonneg (by grind) (by grind);have:=h.hi
   grind
 have l36:=h.le36;have lo:=h.lo;refine ⟨n,Nat.le_refl _,⟨by grind,by grind⟩,h.bd.mul bt (by decide),by grind,fun r hr=>?_⟩;refine xH hr (by omega) ?_;refine DL (by grind) ?_;have l:=h.sr.le;have hq:bG x y i j k≤(((n:Int) * (n:Int):Int):Rat) * q:=l;have nn:(0:Rat)≤(((n:Int) * (n:Int):Int):Rat):=Rat.intCast_nonneg.mpr (Int.mul_nonneg (by omega) (by omega));have:=Rat.mul_le_mul_of_nonneg_left ge nn
 grind
theorem Fa.even {x y:R3} {q:Rat} {i j k:Int} {n N:Nat} (h:Fa x y q i j k n N) (n0:1≤n) (hs:l1k≤bG x y i j k * Rat.divInt 1 ((n:Int) * (n:Int))):Lim (bG x y i j k * Rat.divInt 1 ((n:Int) * (n:Int)))∧∀ r,Ra (bG x y i j k / (bG x y i j k * Rat.divInt 1 ((n:Int) * (n:Int)))) r→r=(n:Int):=by
 have f0:0≤bG x y i j k:=AF h.e;have f1:bG x y i j k≤297:=OV h.e h.ox.1 h.oy.1;have hn:(0:Int) < (n:Int) * (n:Int):=Int.mul_pos (by omega) (by omega);have hn1:(1:Int)≤(n:Int) * (n:Int):=by omega
 have c:Rat.divInt 1 ((n:Int) * (n:Int)) * (((n:Int) * (n:Int):Int):Rat)=1:=by
   rw [Rat.divInt_eq_div];exact Rat.div_mul_cancel (fun z=>by have:=Rat.intCast_eq_zero_iff.mp z; omega)
 have d:In1 (Rat.divInt 1 ((n:Int) * (n:Int))):=sR (by decide) (by omega) hn;generalize Rat.divInt 1 ((n:Int) * (n:Int))=u at *;have l0:(0:Rat) < l1k:=by decide
 have m1:bG x y i j k * u≤bG x y i j k:=by
   have:0≤bG x y i j k * (1 - u):=Rat.mul_nonneg f0 (by have:=d.2; grind)
   grind
 refine ⟨⟨hs,by grind⟩,fun r hr=>?_⟩;have e:bG x y i j k / (bG x y i j k * u)=(((n:Int) * (n:Int):Int):Rat):=by
   have ne:bG x y i j k * u≠0:=by grind
   have:(((n:Int) * (n:Int):Int):Rat) * (bG x y i j k * u)=bG x y i j k:=by grind
   have k:=Rat.mul_div_cancel (a:=(((n:Int) * (n:Int):Int):Rat)) ne;rw [this] at k;exact k
 rw [e] at hr;refine FI hr ⟨by omega,Rat.le_refl,fun _=>Rat.intCast_lt_intCast.mpr ?_⟩;have:((n:Int) - 1) * ((n:Int) - 1)≤(n:Int) * ((n:Int) - 1):=Int.mul_le_mul_of_nonneg_right (by omega) (by omega);have e2:(n:Int) * ((n:Int) - 1)=(n:Int) * (n:Int) - (n:Int):=by rw [Int.mul_sub,Int.mul_one]
 omega
section
variable {T:Tb}
noncomputable def uO:CS:=(.iff (.tsb (.cmp .Gt (.var 9) (.int 0))) (.seq (.asg (.gn 10) (.cal "_law_times" (.cons (.cal "far" (.cons (.var 6) (.cons (.var 7) (.cons (.var 3) .nil)))) (.cons (.tup (.cons (.int 1) (.cons (.bin .Mult (.var 9) (.var 9)) .nil))) .nil))))
 (.iff (.an (.no (.tst (.cal "_law_below" (.cons (.var 10) (.cons (.tup (.cons (.int 1) (.cons (.int 1000) .nil))) .nil))))) (.tsb (.cmp .NotEq (.cal "steps_between" (.cons (.var 6) (.cons (.var 7) (.cons (.var 10) (.cons (.var 3) .nil))))) (.var 9)))) (.ret (.bl false)) .nil)) .nil)
noncomputable def zU:CS:=(.seq (.asg (.gn 9) (.bin .Sub (.bow .len [("Row","Row.__len__")] (.cons (.cal "Row" (.cons (.var 6) (.cons (.var 7) (.cons (.var 5) (.cons (.var 3) .nil))))) .nil)) (.int 1)))
 uO)
noncomputable def AO:CS:=(.seq (.iff (.tsb (.cmp .Gt (.cal "steps_between" (.cons (.var 6) (.cons (.var 7) (.cons (.var 8) (.cons (.var 3) .nil))))) (.cal "steps_between" (.cons (.var 6) (.cons (.var 7) (.cons (.var 5) (.cons (.var 3) .nil))))))) (.ret (.bl false)) .nil)
 zU)
noncomputable def yW:CS:=(.seq (.asg (.gn 8) (.cal "_law_times" (.cons (.var 5) (.cons (.cal "_law_low" (.cons (.bin .Add (.int 11) (.cal "_law_pick" (.cons (.var 2) (.cons (.int 9) .nil)))) (.cons (.int 10) .nil))) .nil))))
 (.seq (.iff (.no (.tst (.cal "_law_straight_right" (.cons (.var 6) (.cons (.var 7) (.cons (.var 8) (.cons (.var 3) .nil))))))) (.ret (.bl false)) .nil)
 AO))
noncomputable def zT:CS:=(.seq (.iff (.tsb (.cmp .Gt (.cal "steps_between" (.cons (.var 6) (.cons (.var 7) (.cons (.var 5) (.cons (.var 3) .nil))))) (.bin .Sub (.bow .len [("Row","Row.__len__")] (.cons (.var 4) .nil)) (.int 1)))) (.ret (.bl false)) .nil)
 yW)
noncomputable def zS:CS:=(.seq (.iff (.no (.tst (.cal "_law_straight_right" (.cons (.var 6) (.cons (.var 7) (.cons (.var 5) (.cons (.var 3) .nil))))))) (.ret (.bl false)) .nil)
 zT)
noncomputable def sY:CS:=(.seq (.fr (.gn 1) (.irg (.cons (.blt .max (.cons (.int 2) (.cons (.blt .min (.cons (.bow .len [("Row","Row.__len__")] (.cons (.var 0) .nil)) (.cons (.int 3) .nil))) .nil))) .nil)) (.seq (.asg (.gn 2) (.cal "_law_purse" (.cons (.cal "_law_cell" (.cons (.var 0) (.cons (.var 1) .nil))) .nil)))
 (.seq (.asg (.gn 3) (.cal "_law_eye" (.cons (.var 2) .nil)))
 (.seq (.asg (.gn 4) (.cal "_law_bent" (.cons (.var 2) .nil)))
 (.seq (.asg (.gn 5) (.cal "_law_greatest" (.cons (.var 4) (.cons (.var 3) .nil))))
 (.seq (.par 6 7 (.cal "_law_made" (.cons (.idx (.var 4) (.int 0)) .nil)) (.cal "_law_made" (.cons (.idx (.var 4) (.neg (.int 1))) .nil)))
 zS))))))
 (.ret (.bl true)))
local macro_rules | `(tactic| walk_at "rd") => wk (wB++" sP sE cY cQ Int.reduceNeg shV")
theorem aDY (lt:LT T) (f:PF T) {D:dY} {x y:R3} {q:Rat} {i j k:Int} {n N:Nat} (h:Fa x y q i j k n N) {s0 x1 x2 x4 x5 x8 x10:Option PV} {G:Gh}
   (hR:∀ x10,D.nx [s0,x1,x2,some (.tup [.int i,.int j,.int k]),x4,x5,some (shV x),some (shV y),x8,some (.int (n:Int)),x10] G) :
   wpS T uO D [s0,x1,x2,some (.tup [.int i,.int j,.int k]),x4,x5,some (shV x),some (shV y),x8,some (.int (n:Int)),x10] G:=by
 unfold uO;have e1:=lt.times;have e2:=lt.below;have e3:=f.steps;have b3:=h.sr.b3;have n6:n≤6:=by have:=h.nN; have:=h.n6; omega
 have eL:PV.tup [.int 1,.int 1000]=FQ l1k:=rfl;by_cases n0:0 < (n:Int)
 · have s1:Sm 41 (n:Int):=smK (by omega) (by omega) (by decide);have m1:oV (n:Int) (n:Int):=bR s1 s1;have hn1:(1:Int)≤(n:Int) * (n:Int):=by have:(0:Int) < (n:Int) * (n:Int):=Int.mul_pos n0 n0; omega
   have hn36:(n:Int) * (n:Int)≤6 * 6:=Int.mul_le_mul (by omega) (by omega) (by omega) (by omega);have eF:=aHr hn1;have bf:Bd 1300 (bG x y i j k):=tO h.e b3.1.1 b3.1.2.1 b3.1.2.2 b3.2.1 b3.2.2.1 b3.2.2.2;have bu:Bd 6 (Rat.divInt 1 ((n:Int) * (n:Int))):=pP (by unfold Sm; decide) (by unfold Sm; omega) (by omega);have bs:=bf.mul bu (show 1300 + 6≤1306 by decide);have b1:=bf.mono (show 1300≤4000 by decide);have b2:=bu.mono (show 6≤4000 by decide);have b4:=bs.mono (show 1306≤4000 by decide);have b5:Bd 4000 l1k:=⟨smK (by decide) (by decide) (by decide),smK (by decide) (by decide) (by decide)⟩;walk_at "rd"
   refine jW f h.e b3.1 b3.2 ?_;refine ⟨bG x y i j k,rfl,b1,b4, ?_⟩;by_cases c:bG x y i j k * Rat.divInt 1 ((n:Int) * (n:Int)) < l1k
   · rw [decide_eq_true c,if_neg (by decide)];exact hR _
   · rw [decide_eq_false c,if_pos (by decide)];obtain ⟨lm,ru⟩:=h.even (by omega) (Rat.not_lt.mp c);refine ⟨_,_,_,_,_,_,_,_,_,_,_,rfl,.inr rfl,h.e,b3.1,b3.2,lm,bs.mono (by decide),fun r hr=>?_⟩;rw [ru r hr];show pEq true (.int (n:Int)) (.int (n:Int)) _ _;rw [kO,decide_eq_true rfl];exact ⟨false,rfl,hR _⟩
 · walk_at "rd"
   exact hR _
theorem aFL (f:PF T) {a b c a' b' c' q:Rat} {i j k:Int} {n:Nat} (h:iJ a b c a' b' c' q i j k n) (hf:cN a b c a' b' c' i j k≤36 * q) {G:Gh} {Q:PK1} (z:Q (RW a b c a' b' c' n) G):T.S "Row" [SH a b c,SH a' b' c',FQ q,.tup [.int i,.int j,.int k]] G Q:=by
 rw [f.row];have q0:=h.l.pos;refine ⟨_,_,_,_,_,_,_,_,_,_,_,rfl,.inr rfl,h.e,h.i3,h.i3',h.b3.1,h.b3.2,h.l,h.bq,by grind,fun m hm hr=>?_⟩;have:(m:Int)=(n:Int):=FI hr h.ra;have:m=n:=by omega
 subst this;exact z
theorem aEf (lt:LT T) (f:PF T) {D:dY} {x y:R3} {q:Rat} {i j k:Int} {n N:Nat} (h:Fa x y q i j k n N) {s0 x1 x2 x4 x8 x9 x10:Option PV} {G:Gh}
   (hR:∀ x9 x10,D.nx [s0,x1,x2,some (.tup [.int i,.int j,.int k]),x4,some (FQ q),some (shV x),some (shV y),x8,x9,x10] G) :
   wpS T zU D [s0,x1,x2,some (.tup [.int i,.int j,.int k]),x4,some (FQ q),some (shV x),some (shV y),x8,x9,x10] G:=by
 unfold zU;generalize eB:uO=B;have sr:=h.sr;have n6:n≤6:=by have:=h.nN; have:=h.n6; omega
 have e3:=f.rowLen;have l2:(((n + 1:Nat):Int)) - 1=(n:Int):=by omega
 walk_at "rd"
 refine aFL f sr h.le36 ?_;refine .inl ⟨"Row","Row.__len__",_,_,List.mem_singleton.mpr rfl,rfl, ?_⟩;rw [e3];refine ⟨_,rfl, ?_⟩;rw [jV];refine ⟨_,rfl,by omega,by omega,trivial, ?_⟩;subst eB;refine (?_:wpS T uO D [s0,x1,x2,some (.tup [.int i,.int j,.int k]),x4,some (FQ q),some (shV x),some (shV y),x8,some (.int (((n + 1:Nat):Int) - 1)),x10] G);rw [l2];exact aDY lt f h fun x10=>hR _ _
theorem aDh (lt:LT T) (f:PF T) {D:dY} {x y:R3} {q w:Rat} {i j k:Int} {n N:Nat} (h:Fa x y q i j k n N) (hw:Lim w) (bw:Bd 2000 w) (hr:∀ r,Ra (bG x y i j k / w) r→r≤(n:Int)) {s0 x1 x2 x4 x9 x10:Option PV} {G:Gh}
   (hR:∀ x9 x10,D.nx [s0,x1,x2,some (.tup [.int i,.int j,.int k]),x4,some (FQ q),some (shV x),some (shV y),some (FQ w),x9,x10] G) :
   wpS T AO D [s0,x1,x2,some (.tup [.int i,.int j,.int k]),x4,some (FQ q),some (shV x),some (shV y),some (FQ w),x9,x10] G:=by
 unfold AO;generalize eB:zU=B;have sr:=h.sr;have e3:=f.steps;have sw:∀ {G:Gh} {Q:PK1},(∀ r:Int,r≤(n:Int)→Q (.int r) G)→T.S "steps_between" [SH x.1 x.2.1 x.2.2,SH y.1 y.2.1 y.2.2,FQ w,.tup [.int i,.int j,.int k]] G Q:=fun z=>by
   rw [e3];exact ⟨_,_,_,_,_,_,_,_,_,_,_,rfl,.inr rfl,h.e,sr.b3.1,sr.b3.2,hw,bw,fun r h1=>z r (hr r h1)⟩
 clear e3;walk_at "rd"
 refine sw fun r hrn=>sQ f sr ?_;have c:¬(n:Int) < r:=by omega
 subst eB;refine ⟨trivial,false,by show PV.bl (decide ((n:Int) < r))= .bl false; rw [decide_eq_false c], ?_⟩;refine (?_:if false=true then _ else _);rw [if_neg (by decide)];exact aEf lt f h hR
end
theorem aBr {q:Rat}:∀ m:Nat,q≤(((m:Int) * (m:Int):Int):Rat)→∃ n:Nat,Ra q (n:Int)
 | 0,h=>⟨0,by decide,h,fun z=>absurd z (by decide)⟩
 | m + 1,h=>by
   by_cases c:q≤(((m:Int) * (m:Int):Int):Rat)
   · exact aBr m c
   · refine ⟨m + 1,by omega,h,fun _=>?_⟩;have e:(((m + 1:Nat):Int) - 1)=(m:Int):=by omega
     rw [e]; exact Rat.not_le.mp c
theorem aEw {zs:List R3} {y:R3}:atI ((zs ++ [y]).map aW) (-1)=some (aW y):=by
 have e:ixN ((zs ++ [y]).map aW).length (-1)=some zs.length:=by
   unfold ixN;rw [List.length_map,List.length_append,List.length_singleton,if_neg (by decide),if_pos (by omega)]
   congr 1; omega
 unfold atI;rw [e];show ((zs ++ [y]).map aW)[zs.length]? =_;rw [List.getElem?_map,List.getElem?_append_right (Nat.le_refl _),Nat.sub_self]; rfl
section
variable {T:Tb}
local macro_rules | `(tactic| walk_at "rd") => wk (wB++" exists_false false_and and_false or_false sP nC kJ vI TM cY jX uF nY Int.reduceNeg shV")
theorem aDo (lt:LT T) (f:PF T) (m:L29 T) {D:dY} {x y:R3} {q:Rat} {i j k:Int} {n N:Nat} (h:Fa x y q i j k n N) {s0 x1 x4 x8 x9 x10:Option PV} {p:Addr} {G:Gh} (hp:Pu p G)
   (hR:∀ x8 x9 x10 G,D.nx [s0,x1,some (.ref p),some (.tup [.int i,.int j,.int k]),x4,some (FQ q),some (shV x),some (shV y),x8,x9,x10] G) :
   wpS T yW D [s0,x1,some (.ref p),some (.tup [.int i,.int j,.int k]),x4,some (FQ q),some (shV x),some (shV y),x8,x9,x10] G:=by
 unfold yW;generalize eB:AO=B;have e1:=lt.times;have e2:=lt.low;have e3:=lt.pick;have sg:∀ {w:Rat} {G:Gh} {Q:PK1},Lim w→Bd 2000 w→bG x y i j k≤36 * w→Q (.bl true) G→T.S "_law_straight_right" [SH x.1 x.2.1 x.2.2,SH y.1 y.2.1 y.2.2,FQ w,.tup [.int i,.int j,.int k]] G Q:=fun a1 a2 a3 z=>by
   rw [m.straight];exact ⟨x,y,_,_,_,_,rfl,h.e,h.ox,h.oy,a1,a2,a3,z⟩
 walk_at "rd"
 refine ⟨by decide,smP (by decide) (by decide),fun r G1 r0 r1 n1=>?_⟩;have c10:((10:Int):Rat)=10:=rfl;have bt:Bd 6 (Rat.divInt (11 + r) 10):=pP (by unfold Sm; omega) (by unfold Sm; decide) (by decide);have t1:1≤Rat.divInt (11 + r) 10:=by
   have:(((10:Int)):Rat)≤((11 + r:Int):Rat):=Rat.intCast_le_intCast.mpr (by omega);have e:Rat.divInt (11 + r) 10 * 10=((11 + r:Int):Rat):=by
     rw [Rat.divInt_eq_div,←c10]; exact Rat.div_mul_cancel (by decide)
   rw [c10] at this; grind
 have t2:Rat.divInt (11 + r) 10≤2:=by
   have:((11 + r:Int):Rat)≤(((20:Int)):Rat):=Rat.intCast_le_intCast.mpr (by omega);have c20:((20:Int):Rat)=20:=rfl;have e:Rat.divInt (11 + r) 10 * 10=((11 + r:Int):Rat):=by
     rw [Rat.divInt_eq_div,←c10]; exact Rat.div_mul_cancel (by decide)
   rw [c20] at this; grind
 obtain ⟨n',_,lm,bw,hf,hr⟩:=h.wide t1 t2 bt;refine ⟨by decide,smK (by decide) (by decide) (by decide),h.bd.mono (by decide),bt.mono (by decide),sg lm bw hf ?_⟩;subst eB;exact aDh lt f h lm bw hr fun x9 x10=>hR _ _ _ _
theorem aC8 (lt:LT T) (f:PF T) (m:L29 T) {D:dY} {x y:R3} {rs:List R3} {q:Rat} {i j k:Int} {n:Nat} (h:Fa x y q i j k n (rs.length + 1)) (hl:rs.length≤5) {s0 x1 x8 x9 x10:Option PV} {p:Addr} {G:Gh} (hp:Pu p G)
   (hR:∀ x8 x9 x10 G,D.nx [s0,x1,some (.ref p),some (.tup [.int i,.int j,.int k]),some (.lst ((x :: rs ++ [y]).map aW)),some (FQ q),some (shV x),some (shV y),x8,x9,x10] G) :
   wpS T zT D [s0,x1,some (.ref p),some (.tup [.int i,.int j,.int k]),some (.lst ((x :: rs ++ [y]).map aW)),some (FQ q),some (shV x),some (shV y),x8,x9,x10] G:=by
 unfold zT;generalize eB:yW=B;generalize eL:((x :: rs ++ [y]).map aW)=L at *;have lL:(L.length:Int)=(rs.length:Int) + 2:=by
   subst eL; rw [List.length_map,List.length_append,List.length_cons,List.length_singleton]; omega
 have sr:=h.sr;have hn:=h.nN;walk_at "rd"
 refine sQ f sr (.inr (.inr (.inr (.inr ⟨L,rfl, ?_⟩))));walk_at "rd"
 rw [if_neg (by omega)];subst eB eL;exact aDo lt f m h hp hR
theorem aEP (lt:LT T) (f:PF T) (m:L29 T) {D:dY} {x y:R3} {rs:List R3} {q:Rat} {i j k:Int} {n:Nat} (h:Fa x y q i j k n (rs.length + 1)) (hl:rs.length≤5) {s0 x1 x8 x9 x10:Option PV} {p:Addr} {G:Gh} (hp:Pu p G)
   (hR:∀ x8 x9 x10 G,D.nx [s0,x1,some (.ref p),some (.tup [.int i,.int j,.int k]),some (.lst ((x :: rs ++ [y]).map aW)),some (FQ q),some (shV x),some (shV y),x8,x9,x10] G) :
   wpS T zS D [s0,x1,some (.ref p),some (.tup [.int i,.int j,.int k]),some (.lst ((x :: rs ++ [y]).map aW)),some (FQ q),some (shV x),some (shV y),x8,x9,x10] G:=by
 unfold zS;generalize eB:zT=B;generalize eL:((x :: rs ++ [y]).map aW)=L at *;have sg:∀ {G:Gh} {Q:PK1},Q (.bl true) G→T.S "_law_straight_right" [SH x.1 x.2.1 x.2.2,SH y.1 y.2.1 y.2.2,FQ q,.tup [.int i,.int j,.int k]] G Q:=fun z=>by
   rw [m.straight];exact ⟨x,y,_,_,_,_,rfl,h.e,h.ox,h.oy,h.lim,h.bd.mono (by decide),h.le36,z⟩
 walk_at "rd"
 refine sg ?_;subst eB eL;exact aC8 lt f m h hl hp hR
def I29 (ns:List Int) (σ:PSt):Prop:= ∃ x1 x2 x3 x4 x5 x6 x7 x8 x9 x10,σ=[some (.scr ns),x1,x2,x3,x4,x5,x6,x7,x8,x9,x10]
theorem aHK (lt:LT T) (f:PF T) (m:L29 T):∀ xs G Q,AG xs G Q→wpS T sY (aQ Q) (aF 11 xs) G:=by
 rintro xs G Q ⟨ns,rfl,hl,hq⟩;have:=@JZ;unfold sY;have e1:=lt.cell;have e2:=lt.purse;generalize eB:zS=B;walk_at "rd"
 refine .inr (.inr (.inl ⟨ns,rfl, ?_⟩));walk_at "rd"
 refine ⟨by omega,by omega, ?_⟩;refine uB (fun σ _=>I29 ns σ) ⟨_,_,_,_,_,_,_,_,_,_,rfl⟩ ?_ ?_
 · rintro v hv σ G' R ⟨x1,x2,x3,x4,x5,x6,x7,x8,x9,x10,rfl⟩ hR;obtain ⟨jj,rfl,hj⟩:=yC hv;have hj64:(jj:Int) < 64:=by
     have h5:min (ns.length:Int) 3≤3:=Int.min_le_right _ _;have h6:max 2 (min (ns.length:Int) 3)≤3:=by omega
     omega
   walk_at "rd"
   refine ⟨ns,rfl,by omega,by omega,fun cc p u1 u2 u3 hp=>?_⟩;rw [m.eyeL];refine ⟨p,rfl,⟨_,_,_,aS⟩,fun i j k G1 he n1=>?_⟩;walk_at "rd"
   rw [m.bent];refine ⟨p,rfl,n1.pu,fun x rs y G2 hl ox oy ors n2=>?_⟩;have ol:∀ r∈x :: rs ++ [y],Ok3 100 r:=by
     intro r hr;rcases List.mem_append.mp hr with hr | hr
     · rcases List.mem_cons.mp hr with rfl | hr
       · exact ox.mono (by decide)
       · exact ors r hr
     · rw [List.mem_singleton.mp hr]; exact oy.mono (by decide)
   have ll:(x :: rs ++ [y]).length=rs.length + 2:=by rw [List.length_append,List.length_cons,List.length_singleton]
   have aL:atI ((x :: rs ++ [y]).map aW) (-1)=some (aW y):=aEw (zs:=x :: rs);have a0:atI ((x :: rs ++ [y]).map aW) 0=some (aW x):=by rw [List.cons_append,List.map_cons,at0]
   have gr:=m.greatest;have hy0:=@aEP T lt f m;generalize eL:(x :: rs ++ [y])=L at *;walk_at "rd"
   refine ⟨L,i,j,k,rfl,he,by omega,by omega,ol,fun q g=>?_⟩;rw [m.made];refine ⟨_,_,_,rfl,ox.1.1,ox.1.2.1,ox.1.2.2, ?_⟩;refine ⟨_,_,_,rfl,oy.1.1,oy.1.2.1,oy.1.2.2, ?_⟩;subst eB eL;have st:WL i j k q (x :: rs ++ [y]):=g.st;have xx:bG x x i j k=0:=(RJ he).mpr ⟨rfl,rfl,rfl⟩;have ch:=aCc (x:=x) he rs x 0 st (by rw [xx]; have z:((0:Nat):Rat)=0:=rfl; rw [z]; grind);rw [Nat.zero_add] at ch;have lm:Lim q:=⟨g.lo,by have:=g.hi; grind⟩;have c:(((rs.length + 1:Nat):Int) * ((rs.length + 1:Nat):Int):Int)=((rs.length + 1:Nat):Rat) * ((rs.length + 1:Nat):Rat):=Rat.intCast_mul ..;obtain ⟨n,hra⟩:=aBr (q:=bG x y i j k / q) (rs.length + 1) (by rw [c]; exact DL lm.pos ch);exact hy0 (n:=n) ⟨he,ox,oy,g.lo,g.hi,g.bd,ch,by omega,hra⟩ hl (n1.trans n2).pu fun x8 x9 x10 G=>hR _ _ ⟨_,_,_,_,_,_,_,_,_,_,rfl⟩
 · rintro σ G' ⟨x1,x2,x3,x4,x5,x6,x7,x8,x9,x10,rfl⟩;have:=hq G';walk_at "rd"
end
end L3
namespace My
open PySem L2 L3 PyProof.Rows
noncomputable def top (i:Nat):Stmt:=PySem.Challenge.pw_lightshares_k29_whole_no_row_of_fewer.main.body.getD i (.Pass ⟨0,0,0,0⟩)
noncomputable abbrev fV:Stmt:=top 11
noncomputable abbrev C_common:Cfg:={ N:=["one","other"],names:=(aB fV).names }
local macro_rules | `(tactic| walk_at "dk") => `(tactic| exact ⟨⟨rfl,rfl,rfl,by decide +kernel,rfl,by decide +kernel,by decide +kernel⟩,rfl,rfl⟩)
theorem MP:aR fV ["one","other"] C_common:=by walk_at "dk"
theorem KP:cSs 80 C_common (aD fV)=some lF:=by kernel_rfl
noncomputable abbrev gJ:Stmt:=top 13
noncomputable abbrev C_lowest:Cfg:={ N:=["top","bottom","shared"],names:=(aB gJ).names,fns:=["common"],blt:=["abs"] }
theorem KM:aR gJ ["top","bottom"] C_lowest:=by walk_at "dk"
theorem NG:cSs 80 C_lowest (aD gJ)=some kZ:=by kernel_rfl
noncomputable abbrev dQ:Stmt:=top 10
noncomputable abbrev C_is_whole:Cfg:={ N:=["thing"],names:=(aB dQ).names,tys:=["bool","int"],blt:=["isinstance"] }
theorem BB:aR dQ ["thing"] C_is_whole:=by walk_at "dk"
theorem AZ:cSs 80 C_is_whole (aD dQ)=some hV:=by kernel_rfl
noncomputable abbrev bX:Stmt:=top 12
noncomputable abbrev C_is_fraction:Cfg:={ N:=["thing","top","bottom"],names:=(aB bX).names,fns:=["common","is_whole"],tys:=["tuple"],blt:=["abs","isinstance","len"] }
theorem sV:aR bX ["thing"] C_is_fraction:=by walk_at "dk"
theorem uV:cSs 80 C_is_fraction (aD bX)=some eJ:=by kernel_rfl
noncomputable abbrev dN:Stmt:=top 22
noncomputable abbrev C_is_share:Cfg:={ N:=["thing"],names:=(aB dN).names,fns:=["is_fraction"] }
theorem DD:aR dN ["thing"] C_is_share:=by walk_at "dk"
theorem BF:cSs 80 C_is_share (aD dN)=some hX:=by kernel_rfl
noncomputable abbrev bD:Stmt:=aO (top 23) 0
noncomputable abbrev C_Shade___init__:Cfg:={ N:=["self","ember","leaf","sky","light","share"],names:=(aB bD).names,fns:=["is_share"],blt:=["enumerate"] }
theorem nE:aR bD ["self","ember","leaf","sky"] C_Shade___init__:=by walk_at "dk"
theorem nJ:cSs 80 C_Shade___init__ (aD bD)=some dB:=by kernel_rfl
noncomputable abbrev dR:Stmt:=top 27
noncomputable abbrev C_shade_of:Cfg:={ N:=["shares","ember","leaf","sky"],names:=(aB dR).names,mks:=["Shade"],gls:=["Shade"],ls:=["shares"] }
theorem DI:aR dR ["shares"] C_shade_of:=by walk_at "dk"
theorem BU:cSs 80 C_shade_of (aD dR)=some gU:=by kernel_rfl
noncomputable abbrev dG:Stmt:=top 24
noncomputable abbrev C_is_shade:Cfg:={ N:=["thing"],names:=(aB dG).names,gls:=["Shade"],blt:=["isinstance"] }
theorem BK:aR dG ["thing"] C_is_shade:=by walk_at "dk"
theorem CU:cSs 80 C_is_shade (aD dG)=some gR:=by kernel_rfl
noncomputable abbrev cA:Stmt:=top 25
noncomputable abbrev C_need_shade:Cfg:={ N:=["thing"],names:=(aB cA).names,fns:=["is_shade"] }
theorem wO:aR cA ["thing"] C_need_shade:=by walk_at "dk"
theorem wN:cSs 80 C_need_shade (aD cA)=some eW:=by kernel_rfl
noncomputable abbrev cX:Stmt:=top 26
noncomputable abbrev C_shares_of:Cfg:={ N:=["shade"],names:=(aB cX).names,fns:=["need_shade"] }
theorem zX:aR cX ["shade"] C_shares_of:=by walk_at "dk"
theorem zO:cSs 80 C_shares_of (aD cX)=some fY:=by kernel_rfl
noncomputable abbrev dJ:Stmt:=top 40
noncomputable abbrev C_part_way:Cfg:={ N:=["shade","other","part","shares","one","two","top"],names:=(aB dJ).names,fns:=["lowest","shade_of","shares_of"],blt:=["zip"],M:=["shares"] }
theorem CT:aR dJ ["shade","other","part"] C_part_way:=by walk_at "dk"
theorem BL:cSs 80 C_part_way (aD dJ)=some gZ:=by kernel_rfl
noncomputable abbrev fO:Stmt:=top 33
noncomputable abbrev C_is_eye:Cfg:={ N:=["thing"],names:=(aB fO).names,fns:=["is_whole"],gls:=["MOST_OF_EYE"],tys:=["tuple"],blt:=["all","isinstance","len"] }
theorem KR:aR fO ["thing"] C_is_eye:=by walk_at "dk"
theorem KZ:cSs 80 C_is_eye (aD fO)=some kU:=by kernel_rfl
noncomputable abbrev fW:Stmt:=top 34
noncomputable abbrev C_eye_of:Cfg:={ N:=["eye"],names:=(aB fW).names,fns:=["is_eye"],gls:=["EVEN_EYE"] }
theorem LH:aR fW ["eye"] C_eye_of:=by walk_at "dk"
theorem KC:cSs 80 C_eye_of (aD fW)=some kF:=by kernel_rfl
noncomputable abbrev bW:Stmt:=top 35
noncomputable abbrev C_gap_between:Cfg:={ N:=["shade","other","eye","top","bottom","one","two","many","lack","under"],names:=(aB bW).names,fns:=["shares_of"],blt:=["zip"] }
theorem tR:aR bW ["shade","other","eye"] C_gap_between:=by walk_at "dk"
theorem sW:cSs 80 C_gap_between (aD bW)=some eQ:=by kernel_rfl
noncomputable abbrev jW:Stmt:=top 36
noncomputable abbrev C_far:Cfg:={ N:=["shade","other","eye","top","bottom"],names:=(aB jW).names,fns:=["eye_of","gap_between","lowest","need_shade"] }
theorem aDP:aR jW ["shade","other","eye"] C_far:=by walk_at "dk"
theorem aCk:cSs 80 C_far (aD jW)=some uP:=by kernel_rfl
noncomputable abbrev mO:Stmt:=top 16
noncomputable abbrev C_less:Cfg:={ N:=["one","other"],names:=(aB mO).names }
theorem ZH:aR mO ["one","other"] C_less:=by walk_at "dk"
theorem aAh:cSs 80 C_less (aD mO)=some xF:=by kernel_rfl
noncomputable abbrev dI:Stmt:=top 37
noncomputable abbrev C_is_limit:Cfg:={ N:=["thing"],names:=(aB dI).names,fns:=["is_fraction","less"],gls:=["LEAST_LIMIT","MOST_LIMIT"] }
theorem DN:aR dI ["thing"] C_is_limit:=by walk_at "dk"
theorem BS:cSs 80 C_is_limit (aD dI)=some hW:=by kernel_rfl
noncomputable abbrev cD:Stmt:=top 38
noncomputable abbrev C_need_limit:Cfg:={ N:=["thing"],names:=(aB cD).names,fns:=["is_limit"] }
theorem wF:aR cD ["thing"] C_need_limit:=by walk_at "dk"
theorem vP:cSs 80 C_need_limit (aD cD)=some fB:=by kernel_rfl
noncomputable abbrev bC:Stmt:=top 14
noncomputable abbrev C_need_fractions:Cfg:={ N:=["things","place","thing"],names:=(aB bC).names,fns:=["is_fraction"],blt:=["enumerate"] }
theorem oQ:aR bC ["things"] C_need_fractions:=by walk_at "dk"
theorem nG:cSs 80 C_need_fractions (aD bC)=some cZ:=by kernel_rfl
noncomputable abbrev mU:Stmt:=top 15
noncomputable abbrev C_over:Cfg:={ N:=["one","other"],names:=(aB mU).names,fns:=["lowest","need_fractions"] }
theorem aAO:aR mU ["one","other"] C_over:=by walk_at "dk"
theorem ZF:cSs 80 C_over (aD mU)=some rC:=by kernel_rfl
noncomputable abbrev cF:Stmt:=top 17
noncomputable abbrev C_root_under:Cfg:={ N:=["number","guess","nearer"],names:=(aB cF).names }
theorem wK:aR cF ["number"] C_root_under:=by walk_at "dk"
theorem vQ:cSs 80 C_root_under (aD cF)=some eX:=by kernel_rfl
noncomputable abbrev cJ:Stmt:=top 18
noncomputable abbrev C_root_above:Cfg:={ N:=["one","top","bottom","under"],names:=(aB cJ).names,fns:=["need_fractions","root_under"] }
theorem vZ:aR cJ ["one"] C_root_above:=by walk_at "dk"
theorem vY:cSs 80 C_root_above (aD cJ)=some fF:=by kernel_rfl
noncomputable abbrev bH:Stmt:=top 41
noncomputable abbrev C_steps_between:Cfg:={ N:=["shade","other","limit","eye"],names:=(aB bH).names,fns:=["far","need_limit","need_shade","over","root_above"] }
theorem pD:aR bH ["shade","other","limit","eye"] C_steps_between:=by walk_at "dk"
theorem pF:cSs 80 C_steps_between (aD bH)=some dO:=by kernel_rfl
noncomputable abbrev bN:Stmt:=aO (top 42) 0
noncomputable abbrev C_Row___init__:Cfg:={ N:=["self","shade","other","limit","eye","steps","bottom"],names:=(aB bN).names,fns:=["part_way","steps_between"],tys:=["tuple"],blt:=["max","range","tuple"] }
theorem rX:aR bN ["self","shade","other","limit","eye"] C_Row___init__:=by walk_at "dk"
theorem rO:cSs 80 C_Row___init__ (aD bN)=some dS:=by kernel_rfl
noncomputable abbrev eI:Stmt:=top 51
noncomputable abbrev C_l_below:Cfg:={ N:=["_law_a","_law_b"],names:=(aB eI).names }
theorem FS:aR eI ["_law_a","_law_b"] C_l_below:=by walk_at "dk"
theorem GM:cSs 80 C_l_below (aD eI)=some fH:=by kernel_rfl
noncomputable abbrev jH:Stmt:=top 47
noncomputable abbrev C_l_low:Cfg:={ N:=["_law_top","_law_bottom","_law_one","_law_mate"],names:=(aB jH).names,blt:=["abs"] }
theorem XE:aR jH ["_law_top","_law_bottom"] C_l_low:=by walk_at "dk"
theorem TD:cSs 80 C_l_low (aD jH)=some mV:=by kernel_rfl
noncomputable abbrev eN:Stmt:=top 49
noncomputable abbrev C_l_minus:Cfg:={ N:=["_law_a","_law_b"],names:=(aB eN).names,fns:=["_law_low"] }
theorem FN:aR eN ["_law_a","_law_b"] C_l_minus:=by walk_at "dk"
theorem HA:cSs 80 C_l_minus (aD eN)=some iS:=by kernel_rfl
noncomputable abbrev fZ:Stmt:=top 46
noncomputable abbrev C_l_pick:Cfg:={ N:=["_law_purse_here","_law_many","_law_state","_law_taken"],names:=(aB fZ).names }
theorem MO:aR fZ ["_law_purse_here","_law_many"] C_l_pick:=by walk_at "dk"
theorem LK:cSs 80 C_l_pick (aD fZ)=some kA:=by kernel_rfl
noncomputable abbrev bI:Stmt:=top 53
noncomputable abbrev C_l_plain_share:Cfg:={ N:=["_law_purse_here"],names:=(aB bI).names,fns:=["_law_low","_law_pick"] }
theorem pE:aR bI ["_law_purse_here"] C_l_plain_share:=by walk_at "dk"
theorem pU:cSs 80 C_l_plain_share (aD bI)=some dP:=by kernel_rfl
noncomputable abbrev gD:Stmt:=top 48
noncomputable abbrev C_l_plus:Cfg:={ N:=["_law_a","_law_b"],names:=(aB gD).names,fns:=["_law_low"] }
theorem NY:aR gD ["_law_a","_law_b"] C_l_plus:=by walk_at "dk"
theorem MJ:cSs 80 C_l_plus (aD gD)=some lG:=by kernel_rfl
noncomputable abbrev eK:Stmt:=top 52
noncomputable abbrev C_l_share:Cfg:={ N:=["_law_purse_here","_law_mode","_law_bottom"],names:=(aB eK).names,fns:=["_law_low","_law_pick"] }
theorem HC:aR eK ["_law_purse_here"] C_l_share:=by walk_at "dk"
theorem GG:cSs 80 C_l_share (aD eK)=some iR:=by kernel_rfl
noncomputable abbrev dH:Stmt:=top 54
noncomputable abbrev C_l_shares:Cfg:={ N:=["_law_purse_here","_law_alike","_law_row"],names:=(aB dH).names,fns:=["_law_pick","_law_share"],tys:=["tuple"],blt:=["range","tuple"],M:=["_law_row"] }
theorem BO:aR dH ["_law_purse_here"] C_l_shares:=by walk_at "dk"
theorem BI:cSs 80 C_l_shares (aD dH)=some gW:=by kernel_rfl
noncomputable abbrev eC:Stmt:=top 50
noncomputable abbrev C_l_times:Cfg:={ N:=["_law_a","_law_b"],names:=(aB eC).names,fns:=["_law_low"] }
theorem FY:aR eC ["_law_a","_law_b"] C_l_times:=by walk_at "dk"
theorem GW:cSs 80 C_l_times (aD eC)=some jE:=by kernel_rfl
noncomputable abbrev fS:Stmt:=top 58
noncomputable abbrev C_l_bent:Cfg:={ N:=["_law_purse_here","_law_first","_law_last","_law_many","_law_mode","_law_rows","_law_k","_law_part","_law_row","_law_at"],names:=(aB fS).names,fns:=["_law_low","_law_minus","_law_pick","_law_plain_share","_law_plus","_law_shares","_law_times"],tys:=["tuple"],blt:=["range","tuple","zip"],M:=["_law_rows"] }
theorem OL:aR fS ["_law_purse_here"] C_l_bent:=by walk_at "dk"
theorem MX:cSs 80 C_l_bent (aD fS)=some kH:=by kernel_rfl
noncomputable abbrev fU:Stmt:=top 44
noncomputable abbrev C_l_cell:Cfg:={ N:=["_law_script","_law_k","_law_state","_law_cell_here"],names:=(aB fU).names,blt:=["len"] }
theorem NW:aR fU ["_law_script","_law_k"] C_l_cell:=by walk_at "dk"
theorem NZ:cSs 80 C_l_cell (aD fU)=some lC:=by kernel_rfl
noncomputable abbrev iP:Stmt:=top 55
noncomputable abbrev C_l_eye:Cfg:={ N:=["_law_purse_here","_law_mode"],names:=(aB iP).names,fns:=["_law_pick"],tys:=["tuple"],blt:=["range","tuple"] }
theorem WM:aR iP ["_law_purse_here"] C_l_eye:=by walk_at "dk"
theorem PZ:cSs 80 C_l_eye (aD iP)=some mL:=by kernel_rfl
noncomputable abbrev iU:Stmt:=top 56
noncomputable abbrev C_l_far:Cfg:={ N:=["_law_one","_law_mate","_law_seer","_law_found","_law_light","_law_apart"],names:=(aB iU).names,fns:=["_law_minus","_law_plus","_law_times"],blt:=["range"] }
theorem WJ:aR iU ["_law_one","_law_mate","_law_seer"] C_l_far:=by walk_at "dk"
theorem VE:cSs 80 C_l_far (aD iU)=some mK:=by kernel_rfl
noncomputable abbrev cH:Stmt:=top 59
noncomputable abbrev C_l_greatest:Cfg:={ N:=["_law_rows","_law_seer","_law_found","_law_one","_law_mate","_law_apart"],names:=(aB cH).names,fns:=["_law_below","_law_far"],blt:=["zip"] }
theorem wA:aR cH ["_law_rows","_law_seer"] C_l_greatest:=by walk_at "dk"
theorem wL:cSs 80 C_l_greatest (aD cH)=some fA:=by kernel_rfl
noncomputable abbrev gC:Stmt:=top 57
noncomputable abbrev C_l_made:Cfg:={ N:=["_law_row"],names:=(aB gC).names,mks:=["Shade"],gls:=["Shade"] }
theorem LO:aR gC ["_law_row"] C_l_made:=by walk_at "dk"
theorem NL:cSs 80 C_l_made (aD gC)=some gK:=by kernel_rfl
noncomputable abbrev eP:Stmt:=top 45
noncomputable abbrev C_l_purse:Cfg:={ N:=["_law_cell_here"],names:=(aB eP).names,tys:=["int"],blt:=["int"],rm:=true }
theorem GP:aR eP ["_law_cell_here"] C_l_purse:=by walk_at "dk"
theorem FJ:cSs 80 C_l_purse (aD eP)=some jO:=by kernel_rfl
noncomputable abbrev bM:Stmt:=aO (top 23) 1
noncomputable abbrev C_Shade___eq__:Cfg:={ N:=["self","other"],names:=(aB bM).names,fns:=["shares_of"],gls:=["Shade"],blt:=["isinstance"] }
theorem sB:aR bM ["self","other"] C_Shade___eq__:=by walk_at "dk"
theorem rZ:cSs 80 C_Shade___eq__ (aD bM)=some dW:=by kernel_rfl
noncomputable abbrev bU:Stmt:=aO (top 42) 4
noncomputable abbrev C_Row___len__:Cfg:={ N:=["self"],names:=(aB bU).names,blt:=["len"] }
theorem tN:aR bU ["self"] C_Row___len__:=by walk_at "dk"
theorem vK:cSs 80 C_Row___len__ (aD bU)=some eD:=by kernel_rfl
noncomputable abbrev cC:Stmt:=aO (top 42) 2
noncomputable abbrev C_Row_shades:Cfg:={ N:=["self"],names:=(aB cC).names,tys:=["list"],blt:=["list"] }
theorem vR:aR cC ["self"] C_Row_shades:=by walk_at "dk"
theorem wR:cSs 80 C_Row_shades (aD cC)=some fG:=by kernel_rfl
noncomputable abbrev aV:Stmt:=top 60
noncomputable abbrev C_l_straight_right:Cfg:={ N:=["_law_one","_law_mate","_law_reach","_law_seer","_law_row","_law_shades","_law_many","_law_fewer"],names:=(aB aV).names,fns:=["_law_below","_law_times","far","steps_between"],mks:=["Row"],gls:=["Row"],blt:=["any","len","zip"],nes:=[("Shade","Shade.__eq__")],ows:=[("len",[("Row","Row.__len__")])],mts:=[("shades",0,[("Row","Row.shades",[])])],bmts:=[("shades",0,[("Row","Row.shades",[])])] }
theorem lS:aR aV ["_law_one","_law_mate","_law_reach","_law_seer"] C_l_straight_right:=by walk_at "dk"
theorem lX:cSs 80 C_l_straight_right (aD aV)=some cP:=by kernel_rfl
noncomputable abbrev rK:Stmt:=top 61
noncomputable abbrev C_law:Cfg:={ N:=["_law_script","_law_k","_law_purse_here","_law_seer","_law_rows","_law_reach","_law_one","_law_mate","_law_wider","_law_many","_law_step"],names:=(aB rK).names,fns:=["_law_below","_law_bent","_law_cell","_law_eye","_law_greatest","_law_low","_law_made","_law_pick","_law_purse","_law_straight_right","_law_times","far","steps_between"],mks:=["Row"],gls:=["Row"],blt:=["len","max","min","range"],ows:=[("len",[("Row","Row.__len__")])] }
theorem aCK:aR rK ["_law_script"] C_law:=by walk_at "dk"
theorem aCL:cSs 80 C_law (aD rK)=some sY:=by kernel_rfl
noncomputable abbrev zS0:Value:=.str "law_lightshares_k29_whole_no_row_of_fewer" 700
noncomputable abbrev zS1:Value:=.str "lightshares.errors" 187
noncomputable abbrev zS2:Value:=.str "lightshares.shades" 433
noncomputable abbrev zS3:Value:=.str "lightshares.fractions" 332
noncomputable abbrev zS4:Value:=.str "lightshares.rows" 604
noncomputable abbrev zS5:Value:=.str "lightshares.nearness" 536
noncomputable abbrev fX (a b:Str) (s:Stmt) (d m c:Value):FuncData:=W.fnOf a b (gM s) (aD s) (aB s) d .none .none m none c .none
noncomputable abbrev oC (l:List Value):Obj:=⟨.type "code",none,.fields l.toArray, #[]⟩
noncomputable abbrev oT (l:List Value):Obj:=⟨.type "tuple",none,.seq l.toArray 0, #[]⟩
noncomputable abbrev oL (l:List Value):Obj:=⟨.none,none,.fields l.toArray, #[]⟩
noncomputable abbrev oN (a b:Str) (s:Stmt):Obj:=⟨.none,none,.func { W.fnOf a b (gM s) (aD s) (aB s) .none .none .none .none none .none .none with globals:=0,builtins:=0 }, #[]⟩
noncomputable abbrev oF (a b:Str) (s:Stmt) (d m:Value) (c:Addr):Obj:=⟨.type "function",none,.func (W.fnOf a b (gM s) (aD s) (aB s) d .none .none m none (.ref c) .none), #[]⟩
noncomputable abbrev oR (c l:Addr) (m:Value):Obj:=⟨.type "frame",none,.plain, #[some (.ref c),some (.ref 3),some (.ref l),none,some m,none,some (.ref 0)]⟩
noncomputable abbrev oS (c:Addr):Obj:=⟨.type "super",none,.fields #[.ref c,.ref c,.ref c], #[]⟩
noncomputable abbrev oB (n:String) (c:Value):Obj:=⟨.type "builtin_function_or_method",none,.fields #[.builtin n,c], #[]⟩
noncomputable abbrev fC (n:Tok):Value:=.str "/claim/cut.py" n
noncomputable abbrev iV (n:Int):Value:=.int n 0
noncomputable abbrev oD (l:List DictEntry):Obj:=⟨.type "dict",none,.dict l.toArray 0, #[]⟩
noncomputable def kE (P:Params) (x:Str) (t:Tok) (v:Value):DictEntry:=⟨PyData.keyHash P x,.str x t,v⟩
noncomputable abbrev zV (n:Nat):Value:=if n=0 then .none else .ref n
noncomputable abbrev zXt (a b:Str) (i l n c x y u v w q:Nat):Obj:=oC [.str a i,.str b (i + 1),fC (i + 2),iV l,iV n,iV 0,iV 0,iV c,.ref x,.bool true,iV 181,.ref y,.none,zV u,zV v,zV w,iV q,iV l,fC (q + 1)]
noncomputable abbrev zOt (a:Str):=zXt a a
noncomputable abbrev zXf (a b:Str) (i l n c x y u v w q:Nat):Obj:=oC [.str a i,.str b (i + 1),fC (i + 2),iV l,iV n,iV 0,iV 0,iV c,.ref x,.bool false,iV 181,.ref y,.none,zV u,zV v,zV w,iV q,iV l,fC (q + 1)]
noncomputable abbrev zOf (a:Str):=zXf a a
noncomputable abbrev zY (n:Str) (e w:String) (b c d x i j:Nat):Obj:=⟨.type "type",none,.cls ⟨n,[.ref b],[.ref c,.ref b,.type e,.type "Exception",.type "BaseException",.type "object"],d,n,true,[],[],false,none,false⟩, #[some (.ref x),none,some (.str n i),some (.str n j),some (.builtin w),some (.bool true)]⟩
noncomputable abbrev kL (P:Params) (n l:Nat):DictEntry:=kE P "__firstlineno__" n (.int l (n - 1))
noncomputable abbrev kT (P:Params) (n l:Nat):DictEntry:=kE P "__static_attributes__" n (.ref l)
noncomputable abbrev kI (P:Params) (n l:Nat):DictEntry:=kE P "__init__" n (.ref l)
noncomputable abbrev kD (P:Params) (n:Nat):DictEntry:=kE P "__doc__" n .none
noncomputable abbrev kQ (P:Params) (n:Nat) (x:Str):DictEntry:=kE P "__qualname__" n (.str x (n - 1))
noncomputable abbrev kM (P:Params) (n:Nat):DictEntry:=kE P "__module__" n zS1
noncomputable abbrev oDn (l:List DictEntry) (n:Nat):Obj:=⟨.type "dict",none,.dict l.toArray n, #[]⟩
noncomputable def ko3 (P:Params):Obj:=⟨(.type "dict"),none,.dict #[kE P "__name__" 165 zS0,kD P 166,kE P "__package__" 167 .none,kE P "__loader__" 168 (.builtin "__main__.__loader__#opaque"),kE P "__spec__" 169 .none,kE P "__annotations__" 170 (.ref 6),kE P "__builtins__" 171 (.ref 4),kE P "__file__" 173 (.str "/claim/cut.py" 172),kE P "__cached__" 174 .none,kE P "ShadeError" 206 (.ref 24),kE P "NoNumber" 231 (.ref 44),kE P "NoShade" 256 (.ref 63),kE P "NoEye" 281 (.ref 82),kE P "NoLimit" 306 (.ref 101),kE P "NoPlace" 331 (.ref 120),kE P "PIECE_FIGURES" 335 (.int 64 334),kE P "PIECE" 339 (.int 10000000000000000000000000000000000000000000000000000000000000000 338),kE P "is_whole" 346 (.ref 129),kE P "common" 354 (.ref 136),kE P "is_fraction" 363 (.ref 143),kE P "lowest" 372 (.ref 150),kE P "need_fractions" 381 (.ref 157),kE P "over" 389 (.ref 164),kE P "less" 397 (.ref 171),kE P "root_under" 406 (.ref 178),kE P "root_above" 416 (.ref 185),kE P "figures" 425 (.ref 192),kE P "written" 432 (.ref 199),kE P "is_share" 441 (.ref 206),kE P "Shade" 504 (.ref 247),kE P "is_shade" 511 (.ref 258),kE P "need_shade" 518 (.ref 265),kE P "shares_of" 525 (.ref 272),kE P "shade_of" 535 (.ref 279),kE P "EVEN_EYE" 541 (.ref 280),kE P "MOST_OF_EYE" 543 (.int 99 542),kE P "LEAST_LIMIT" 546 (.ref 281),kE P "MOST_LIMIT" 549 (.ref 282),kE P "is_eye" 555 (.ref 287),kE P "eye_of" 562 (.ref 294),kE P "gap_between" 578 (.ref 301),kE P "far" 589 (.ref 309),kE P "is_limit" 596 (.ref 316),kE P "need_limit" 603 (.ref 323),kE P "part_way" 618 (.ref 330),kE P "steps_between" 628 (.ref 338),kE P "Row" 699 (.ref 394),kE P "_law_cell" 711 (.ref 405),kE P "_law_purse" 718 (.ref 412),kE P "_law_pick" 728 (.ref 419),kE P "_law_low" 738 (.ref 426),kE P "_law_plus" 746 (.ref 433),kE P "_law_minus" 754 (.ref 440),kE P "_law_times" 762 (.ref 447),kE P "_law_below" 770 (.ref 454),kE P "_law_share" 779 (.ref 461),kE P "_law_plain_share" 786 (.ref 468),kE P "_law_shares" 792 (.ref 473),kE P "_law_eye" 798 (.ref 478),kE P "_law_far" 810 (.ref 485),kE P "_law_made" 817 (.ref 492),kE P "_law_bent" 823 (.ref 497),kE P "_law_greatest" 835 (.ref 504),kE P "_law_straight_right" 841 (.ref 509),kE P "law" 858 (.ref 516)] 65, #[]⟩
def OO (P:Params):=oDn [kM P 196,kL P 200 2,kT P 201 22,kE P "__weakref__" 203 (.ref 25),kD P 204] 3
noncomputable def YN:Obj:=⟨(.type "type"),none,.cls ⟨"ShadeError",[(.type "ValueError")],[(.ref 24),(.type "ValueError"),(.type "Exception"),(.type "BaseException"),(.type "object")],23,"ShadeError",true,[],[(.ref 44),(.ref 63),(.ref 82),(.ref 101),(.ref 120)],false,none,false⟩, #[(some (.ref 15)),none,(some (.str "ShadeError" 189)),(some (.str "ShadeError" 197)),(some (.builtin "ValueError.__new__")),(some (.bool true))]⟩
def XY (P:Params):=oDn [kM P 214,kL P 218 4,kI P 226 41,kT P 228 42,kD P 229] 2
def TY:=zY "NoNumber" "ValueError" "ValueError.__new__" 24 44 43 28 207 215
def VV (P:Params):=oDn [kM P 239,kL P 243 9,kI P 251 60,kT P 253 61,kD P 254] 2
def XM:=zY "NoShade" "ValueError" "ValueError.__new__" 24 63 62 47 232 240
def RB (P:Params):=oDn [kM P 264,kL P 268 14,kI P 276 79,kT P 278 80,kD P 279] 2
def SU:=zY "NoEye" "ValueError" "ValueError.__new__" 24 82 81 66 257 265
def JB (P:Params):=oDn [kM P 289,kL P 293 19,kI P 301 98,kT P 303 99,kD P 304] 2
def HM:=zY "NoLimit" "ValueError" "ValueError.__new__" 24 101 100 85 282 290
def JC (P:Params):=oDn [kM P 314,kL P 318 24,kI P 326 117,kT P 328 118,kD P 329] 2
def HN:=zY "NoPlace" "ValueError" "ValueError.__new__" 24 120 119 104 307 315
def HS:=zOt "is_whole" 340 32 1 3 123 124 125 126 127 344
def IH:=oF "is_whole" "is_whole" dQ .none zS3 128
def IB:=zOt "common" 347 34 2 3 130 131 132 133 134 352
def HP:=oF "common" "common" fV .none zS3 135
def JL:=zOt "is_fraction" 355 38 1 3 137 138 139 140 141 361
def IW:=oF "is_fraction" "is_fraction" bX .none zS3 142
def IE:=zOt "lowest" 364 43 2 3 144 145 146 147 148 370
def IF:=oF "lowest" "lowest" gJ .none zS3 149
def IT:=zOt "need_fractions" 373 48 1 3 151 152 153 154 155 379
def JH:=oF "need_fractions" "need_fractions" bC .none zS3 156
def IM:=zOt "over" 382 52 2 3 158 159 160 161 162 387
def IP:=oF "over" "over" mU .none zS3 163
def HQ:=zOt "less" 390 57 2 3 165 166 167 168 169 395
def HH:=oF "less" "less" mO .none zS3 170
def JY:=zOt "root_under" 398 59 1 3 172 173 174 175 176 404
def HK:=oF "root_under" "root_under" cF .none zS3 177
def JX:=zOt "root_above" 407 68 1 3 179 180 181 182 183 414
def IV:=oF "root_above" "root_above" cJ .none zS3 184
def UD:=zOt "is_share" 435 89 1 3 200 201 202 203 204 439
def TN:=oF "is_share" "is_share" dN .none zS2 205
def TQ:=zXt "__init__" "Shade.__init__" 454 93 4 3 214 215 216 217 218 463
def VI:=oF "__init__" "Shade.__init__" bD .none zS2 219
def VP:=zXt "__eq__" "Shade.__eq__" 466 101 2 3 221 222 223 224 225 471
def UQ:=oF "__eq__" "Shade.__eq__" bM .none zS2 226
def UI (P:Params):=oDn [kE P "__module__" 449 zS2,kL P 453 91,kI P 465 220,kE P "__eq__" 473 (.ref 227),kE P "__len__" 479 (.ref 232),kE P "__str__" 485 (.ref 237),kE P "__repr__" 492 (.ref 244),kT P 496 245,kE P "__dict__" 498 (.ref 248),kE P "__weakref__" 500 (.ref 249),kD P 501,kE P "__hash__" 502 .none] 5
noncomputable def VR:Obj:=⟨(.type "type"),none,.cls ⟨"Shade",[(.type "object")],[(.ref 247),(.type "object")],246,"Shade",true,[],[],false,none,false⟩, #[none,none,(some (.str "Shade" 442)),(some (.str "Shade" 450)),(some (.builtin "object.__new__")),(some (.bool true))]⟩
def PD:=zOt "is_shade" 505 112 1 3 252 253 254 255 256 509
def WP:=oF "is_shade" "is_shade" dG .none zS2 257
def UE:=zOt "need_shade" 512 114 1 3 259 260 261 262 263 516
def QU:=oF "need_shade" "need_shade" cA .none zS2 264
def WC:=zOt "shares_of" 519 117 1 3 266 267 268 269 270 523
def QY:=oF "shares_of" "shares_of" cX .none zS2 271
def RZ:=zOt "shade_of" 526 120 1 3 273 274 275 276 277 533
def TU:=oF "shade_of" "shade_of" dR .none zS2 278
def SX:=oT [.int 1 538,.int 1 539,.int 1 540]
def TF:=oT [.int 1 544,.int 1000 545]
def WA:=oT [.int 1000 547,.int 1 548]
def UX:=zOt "is_eye" 550 128 1 3 283 284 0 0 285 553
def QM:=oF "is_eye" "is_eye" fO .none zS5 286
def OZ:=zOt "eye_of" 556 132 1 3 288 289 290 291 292 560
def XX:=oF "eye_of" "eye_of" fW .none zS5 293
def RT:=zOt "gap_between" 563 138 3 3 295 296 297 298 299 576
def OR:=oF "gap_between" "gap_between" bW .none zS5 300
def aG1:=oT [.none]
def VX:=zOt "far" 579 147 3 3 303 304 305 306 307 587
def TK:=oF "far" "far" jW (.ref 302) zS5 308
def VG:=zOt "is_limit" 590 152 1 3 310 311 312 313 314 594
def VZ:=oF "is_limit" "is_limit" dI .none zS5 315
def QQ:=zOt "need_limit" 597 154 1 3 317 318 319 320 321 601
def UY:=oF "need_limit" "need_limit" cD .none zS5 322
def QO:=zOt "part_way" 606 158 3 3 324 325 326 327 328 616
def WE:=oF "part_way" "part_way" dJ .none zS4 329
def aGF:=oT [.none]
def OQ:=zOt "steps_between" 619 164 4 3 332 333 334 335 336 626
def WB:=oF "steps_between" "steps_between" bH (.ref 331) zS4 337
def tH:=oT [.none]
def RH:=zXt "__init__" "Row.__init__" 641 171 5 3 347 348 0 0 349 644
def PL:=oF "__init__" "Row.__init__" bN (.ref 346) zS4 350
def VL:=zXt "shades" "Row.shades" 655 181 1 3 359 360 361 362 363 659
def QH:=oF "shades" "Row.shades" cC .none zS4 364
def UK:=zXt "__len__" "Row.__len__" 670 187 1 3 373 374 375 376 377 674
def QT:=oF "__len__" "Row.__len__" bU .none zS4 378
def RM (P:Params):=oDn [kE P "__module__" 636 zS4,kL P 640 169,kI P 646 351,kE P "at" 654 (.ref 358),kE P "shades" 661 (.ref 365),kE P "__eq__" 669 (.ref 372),kE P "__len__" 676 (.ref 379),kE P "__str__" 682 (.ref 384),kE P "__repr__" 689 (.ref 391),kT P 691 392,kE P "__dict__" 693 (.ref 395),kE P "__weakref__" 695 (.ref 396),kD P 696,kE P "__hash__" 697 .none] 5
noncomputable def WD:Obj:=⟨(.type "type"),none,.cls ⟨"Row",[(.type "object")],[(.ref 394),(.type "object")],393,"Row",true,[],[],false,none,false⟩, #[none,none,(some (.str "Row" 629)),(some (.str "Row" 637)),(some (.builtin "object.__new__")),(some (.bool true))]⟩
def aBw:=zOt "_law_cell" 702 196 2 3 399 400 401 402 403 709
def aBo:=oF "_law_cell" "_law_cell" fU .none zS0 404
def aB5:=zOt "_law_purse" 712 203 1 3 406 407 408 409 410 716
def aCb:=oF "_law_purse" "_law_purse" eP .none zS0 411
def aBm:=zOt "_law_pick" 719 205 2 3 413 414 415 416 417 726
def aB0:=oF "_law_pick" "_law_pick" fZ .none zS0 418
def aB9:=zOt "_law_low" 729 214 2 3 420 421 422 423 424 736
def aBA:=oF "_law_low" "_law_low" jH .none zS0 425
def aBq:=zOt "_law_plus" 739 221 2 3 427 428 429 430 431 744
def aBx:=oF "_law_plus" "_law_plus" gD .none zS0 432
def aBX:=zOt "_law_minus" 747 223 2 3 434 435 436 437 438 752
def aBM:=oF "_law_minus" "_law_minus" eN .none zS0 439
def aBB:=zOt "_law_times" 755 225 2 3 441 442 443 444 445 760
def aBQ:=oF "_law_times" "_law_times" eC .none zS0 446
def aBn:=zOt "_law_below" 763 227 2 3 448 449 450 451 452 768
def aBW:=oF "_law_below" "_law_below" eI .none zS0 453
def aBU:=zOt "_law_share" 771 229 1 3 455 456 457 458 459 777
def aBC:=oF "_law_share" "_law_share" eK .none zS0 460
def aBF:=zOt "_law_plain_share" 780 233 1 3 462 463 464 465 466 784
def aBt:=oF "_law_plain_share" "_law_plain_share" bI .none zS0 467
def aB1:=zOt "_law_shares" 787 235 1 3 469 470 0 0 471 790
def aB2:=oF "_law_shares" "_law_shares" dH .none zS0 472
def aBP:=zOt "_law_eye" 793 243 1 3 474 475 0 0 476 796
def aBc:=oF "_law_eye" "_law_eye" iP .none zS0 477
def aCf:=zOt "_law_far" 799 246 3 3 479 480 481 482 483 808
def aBZ:=oF "_law_far" "_law_far" iU .none zS0 484
def aBJ:=zOt "_law_made" 811 252 1 3 486 487 488 489 490 815
def aBT:=oF "_law_made" "_law_made" gC .none zS0 491
def aBe:=zOt "_law_bent" 818 254 1 3 493 494 0 0 495 821
def aBS:=oF "_law_bent" "_law_bent" fS .none zS0 496
def aBI:=zOt "_law_greatest" 824 268 2 3 498 499 500 501 502 833
def aBR:=oF "_law_greatest" "_law_greatest" cH .none zS0 503
def aBf:=zOt "_law_straight_right" 836 275 4 3 505 506 0 0 507 839
def aBu:=oF "_law_straight_right" "_law_straight_right" aV .none zS0 508
def aCh:=zOt "law" 842 287 1 3 510 511 512 513 514 856
def aCg:=oF "law" "law" rK .none zS0 515
noncomputable def K0:Params→W.Frag:=fun P=>[(3,ko3 P),(23,OO P),(24,YN),(43,XY P),(44,TY),(62,VV P),(63,XM),(81,RB P),(82,SU),(100,JB P),(101,HM),(119,JC P),(120,HN),(128,HS),(129,IH),(135,IB),(136,HP),(142,JL),(143,IW),(149,IE),(150,IF),(156,IT),(157,JH),(163,IM),(164,IP),(170,HQ),(171,HH),(177,JY),(178,HK),(184,JX),(185,IV),(205,UD),(206,TN),(219,TQ),(220,VI),(226,VP),(227,UQ),(246,UI P),(247,VR),(257,PD),(258,WP),(264,UE),(265,QU),(271,WC),(272,QY),(278,RZ),(279,TU),(280,SX),(281,TF),(282,WA),(286,UX),(287,QM),(293,OZ),(294,XX),(300,RT),(301,OR),(302,aG1),(308,VX),(309,TK),(315,VG),(316,VZ),(322,QQ),(323,UY),(329,QO),(330,WE),(331,aGF),(337,OQ),(338,WB),(346,tH),(350,RH),(351,PL),(364,VL),(365,QH),(378,UK),(379,QT),(393,RM P),(394,WD),(404,aBw),(405,aBo),(411,aB5),(412,aCb),(418,aBm),(419,aB0),(425,aB9),(426,aBA),(432,aBq),(433,aBx),(439,aBX),(440,aBM),(446,aBB),(447,aBQ),(453,aBn),(454,aBW),(460,aBU),(461,aBC),(467,aBF),(468,aBt),(472,aB1),(473,aB2),(477,aBP),(478,aBc),(484,aCf),(485,aBZ),(491,aBJ),(492,aBT),(496,aBe),(497,aBS),(503,aBI),(504,aBR),(508,aBf),(509,aBu),(515,aCh),(516,aCg)]
noncomputable def aK:List Addr:=[3,23,24,43,44,62,63,81,82,100,101,119,120,128,129,135,136,142,143,149,150,156,157,163,164,170,171,177,178,184,185,205,206,219,220,226,227,246,247,257,258,264,265,271,272,278,279,280,281,282,286,287,293,294,300,301,302,308,309,315,316,322,323,329,330,331,337,338,346,350,351,364,365,378,379,393,394,404,405,411,412,418,419,425,426,432,433,439,440,446,447,453,454,460,461,467,468,472,473,477,478,484,485,491,492,496,497,503,504,508,509,515,516]
noncomputable def qv:Program:={ PySem.Challenge.pw_lightshares_k29_whole_no_row_of_fewer with main:={ PySem.Challenge.pw_lightshares_k29_whole_no_row_of_fewer.main with body:=[top 61] } }
noncomputable def lo:List Str:=(["ShadeError","NoNumber","NoShade","NoEye","NoLimit","NoPlace","PIECE_FIGURES","PIECE","is_whole","common","is_fraction","lowest","need_fractions","over","less","root_under","root_above","figures","written","is_share","Shade","is_shade","need_shade","shares_of","shade_of","EVEN_EYE","MOST_OF_EYE","LEAST_LIMIT","MOST_LIMIT","is_eye","eye_of","gap_between","far","is_limit","need_limit","part_way","steps_between","Row","_law_cell","_law_purse","_law_pick","_law_low","_law_plus","_law_minus","_law_times","_law_below","_law_share","_law_plain_share","_law_shares","_law_eye","_law_far","_law_made","_law_bent","_law_greatest","_law_straight_right"]:List String).map Str.ofString
noncomputable def nmS:List Str:=(["is_whole","common","is_fraction","lowest","need_fractions","plus","minus","times","over","below","nearest_whole","is_share","Shade","Shade.__init__","is_shade","need_shade","shares_of","shade_of","is_grade","need_grade","is_step","need_step","printed","span_of","_law_cell","_law_purse","_law_pick","_law_whole","_law_low","_law_plus","_law_minus","_law_times","_law_over","_law_below","_law_is_fraction","_law_share","_law_shares","is_eye","eye_of","gap_between","far","Shade.__eq__","less","is_limit","need_limit","root_under","root_above","steps_between","part_way","Row","Row.__init__","Row.__len__","Row.shades","_law_made","_law_far","_law_eye","_law_plain_share","_law_bent","_law_greatest","_law_straight_right","law"]:List String).map Str.ofString
noncomputable def pkS (y:PX):Nat→Sp3
 | 0=>dX
 | 1=>lA
 | 2=>iB
 | 3=>bF
 | 4=>nB
 | 5=>jI
 | 6=>fK
 | 7=>cY
 | 8=>kC
 | 9=>cQ
 | 10=>yU
 | 11=>iI
 | 12=>lJ
 | 13=>oW
 | 14=>iM
 | 15=>jJ
 | 16=>bV
 | 17=>iF
 | 18=>zL
 | 19=>nO
 | 20=>oG
 | 21=>jM
 | 22=>pL
 | 23=>FL
 | 24=>uF
 | 25=>nY
 | 26=>jX
 | 27=>dX
 | 28=>bF
 | 29=>jI
 | 30=>fK
 | 31=>cY
 | 32=>kC
 | 33=>cQ
 | 34=>pR
 | 35=>lD
 | 36=>hZ
 | 37=>nA
 | 38=>sN
 | 39=>IU
 | 40=>JR
 | 41=>DR
 | 42=>cQ
 | 43=>sO
 | 44=>sM
 | 45=>nD
 | 46=>sD
 | 47=>sK
 | 48=>sG
 | 49=>VA
 | 50=>AI
 | 51=>oK
 | 52=>sJ
 | 53=>sI
 | 54=>zK
 | 55=>zZ
 | 56=>sS
 | 57=>yO
 | 58=>iQ
 | 59=>iW
 | 60=>AG
 | _=>fun _ _ _=>False
noncomputable def nmG:List Str:=(["ONE","ZERO","MOST_GRADE","Shade","int","bool","tuple","EVEN_EYE","MOST_OF_EYE","LEAST_LIMIT","MOST_LIMIT","list","Row"]:List String).map Str.ofString
noncomputable def pkG:Nat→PV
 | 0=>FQ 1
 | 1=>FQ 0
 | 2=>.int 1000
 | 3=>.cl "Shade"
 | 4=>.ty "int"
 | 5=>.ty "bool"
 | 6=>.ty "tuple"
 | 7=>.tup [.int 1,.int 1,.int 1]
 | 8=>.int 99
 | 9=>.tup [.int 1,.int 1000]
 | 10=>.tup [.int 1000,.int 1]
 | 11=>.ty "list"
 | 12=>.cl "Row"
 | _=>.non
noncomputable abbrev tcs:List String:=["Row","Shade"]
noncomputable abbrev tfl:List (String×Str):=[("Row","stations"),("Shade","ember"),("Shade","leaf"),("Shade","sky")]
noncomputable def T (y:PX):Tb:={ S:=fun f=>pkS y (nmS.idxOf f),gv:=fun f=>pkG (nmG.idxOf f),cs:=tcs,fl:=tfl,fam:=fun x f=>pkS x (nmS.idxOf f),xp:=y,xi:=[],fx:=[] }
theorem vJ {y:PX}:(T y).S "is_whole"=dX:=by kernel_rfl
theorem DX {y:PX}:(T y).S "common"=lA:=by kernel_rfl
theorem mI {y:PX}:(T y).S "is_fraction"=iB:=by kernel_rfl
theorem DV {y:PX}:(T y).S "lowest"=bF:=by kernel_rfl
theorem iK {y:PX}:(T y).S "need_fractions"=nB:=by kernel_rfl
theorem aDG {y:PX}:(T y).S "plus"=jI:=by kernel_rfl
theorem YT {y:PX}:(T y).S "minus"=fK:=by kernel_rfl
theorem YI {y:PX}:(T y).S "times"=cY:=by kernel_rfl
theorem QF {y:PX}:(T y).S "over"=kC:=by kernel_rfl
theorem aA7 {y:PX}:(T y).S "below"=cQ:=by kernel_rfl
theorem rT {y:PX}:(T y).S "nearest_whole"=yU:=by kernel_rfl
theorem tD {y:PX}:(T y).S "is_share"=iI:=by kernel_rfl
theorem aAq {y:PX}:(T y).S "Shade"=lJ:=by kernel_rfl
theorem iO {y:PX}:(T y).S "Shade.__init__"=oW:=by kernel_rfl
theorem tL {y:PX}:(T y).S "is_shade"=iM:=by kernel_rfl
theorem nQ {y:PX}:(T y).S "need_shade"=jJ:=by kernel_rfl
theorem rH {y:PX}:(T y).S "shares_of"=bV:=by kernel_rfl
theorem tM {y:PX}:(T y).S "shade_of"=iF:=by kernel_rfl
theorem FZ {y:PX}:(T y).S "is_grade"=zL:=by kernel_rfl
theorem AL {y:PX}:(T y).S "need_grade"=nO:=by kernel_rfl
theorem LD {y:PX}:(T y).S "is_step"=oG:=by kernel_rfl
theorem CG {y:PX}:(T y).S "need_step"=jM:=by kernel_rfl
theorem MC {y:PX}:(T y).S "printed"=pL:=by kernel_rfl
theorem KS {y:PX}:(T y).S "span_of"=FL:=by kernel_rfl
theorem DK {y:PX}:(T y).S "_law_cell"=uF:=by kernel_rfl
theorem xI {y:PX}:(T y).S "_law_purse"=nY:=by kernel_rfl
theorem DP {y:PX}:(T y).S "_law_pick"=jX:=by kernel_rfl
theorem KI {y:PX}:(T y).S "_law_whole"=dX:=by kernel_rfl
theorem HZ {y:PX}:(T y).S "_law_low"=bF:=by kernel_rfl
theorem AV {y:PX}:(T y).S "_law_plus"=jI:=by kernel_rfl
theorem wX {y:PX}:(T y).S "_law_minus"=fK:=by kernel_rfl
theorem wW {y:PX}:(T y).S "_law_times"=cY:=by kernel_rfl
theorem UL {y:PX}:(T y).S "_law_over"=kC:=by kernel_rfl
theorem xP {y:PX}:(T y).S "_law_below"=cQ:=by kernel_rfl
theorem rY {y:PX}:(T y).S "_law_is_fraction"=pR:=by kernel_rfl
theorem wV {y:PX}:(T y).S "_law_share"=lD:=by kernel_rfl
theorem uI {y:PX}:(T y).S "_law_shares"=hZ:=by kernel_rfl
theorem AW {y:PX}:(T y).S "is_eye"=nA:=by kernel_rfl
theorem DY {y:PX}:(T y).S "eye_of"=sN:=by kernel_rfl
theorem lZ {y:PX}:(T y).S "gap_between"=IU:=by kernel_rfl
theorem aBk {y:PX}:(T y).S "far"=JR:=by kernel_rfl
theorem kG {y:PX}:(T y).S "Shade.__eq__"=DR:=by kernel_rfl
theorem WX {y:PX}:(T y).S "less"=cQ:=by kernel_rfl
theorem uK {y:PX}:(T y).S "is_limit"=sO:=by kernel_rfl
theorem oY {y:PX}:(T y).S "need_limit"=sM:=by kernel_rfl
theorem nR {y:PX}:(T y).S "root_under"=nD:=by kernel_rfl
theorem oE {y:PX}:(T y).S "root_above"=sD:=by kernel_rfl
theorem jP {y:PX}:(T y).S "steps_between"=sK:=by kernel_rfl
theorem sU {y:PX}:(T y).S "part_way"=sG:=by kernel_rfl
theorem aF4 {y:PX}:(T y).S "Row"=VA:=by kernel_rfl
theorem kS {y:PX}:(T y).S "Row.__init__"=AI:=by kernel_rfl
theorem mH {y:PX}:(T y).S "Row.__len__"=oK:=by kernel_rfl
theorem oH {y:PX}:(T y).S "Row.shades"=sJ:=by kernel_rfl
theorem CQ {y:PX}:(T y).S "_law_made"=sI:=by kernel_rfl
theorem JP {y:PX}:(T y).S "_law_far"=zK:=by kernel_rfl
theorem JU {y:PX}:(T y).S "_law_eye"=zZ:=by kernel_rfl
theorem jQ {y:PX}:(T y).S "_law_plain_share"=sS:=by kernel_rfl
theorem CO {y:PX}:(T y).S "_law_bent"=yO:=by kernel_rfl
theorem nL {y:PX}:(T y).S "_law_greatest"=iQ:=by kernel_rfl
theorem gB {y:PX}:(T y).S "_law_straight_right"=iW:=by kernel_rfl
theorem aBg {y:PX}:(T y).S "law"=AG:=by kernel_rfl
theorem aIi {y:PX}:(T y).gv "ONE"=FQ 1:=by kernel_rfl
theorem aD8 {y:PX}:(T y).gv "ZERO"=FQ 0:=by kernel_rfl
theorem zG {y:PX}:(T y).gv "MOST_GRADE"= .int 1000:=by kernel_rfl
theorem oJ {y:PX}:(T y).gv "Shade"= .cl "Shade":=by kernel_rfl
theorem XF {y:PX}:(T y).gv "int"= .ty "int":=by kernel_rfl
theorem RV {y:PX}:(T y).gv "bool"= .ty "bool":=by kernel_rfl
theorem jB {y:PX}:(T y).gv "tuple"= .ty "tuple":=by kernel_rfl
theorem vB {y:PX}:(T y).gv "EVEN_EYE"= .tup [.int 1,.int 1,.int 1]:=by kernel_rfl
theorem mB {y:PX}:(T y).gv "MOST_OF_EYE"= .int 99:=by kernel_rfl
theorem mD {y:PX}:(T y).gv "LEAST_LIMIT"= .tup [.int 1,.int 1000]:=by kernel_rfl
theorem nU {y:PX}:(T y).gv "MOST_LIMIT"= .tup [.int 1000,.int 1]:=by kernel_rfl
theorem QV {y:PX}:(T y).gv "list"= .ty "list":=by kernel_rfl
theorem OW {y:PX}:(T y).gv "Row"= .cl "Row":=by kernel_rfl
theorem hPT {y:PX}:PT (T y):={ is_whole:=vJ,common:=DX,is_fraction:=mI,lowest:=DV,need_fractions:=iK,plus:=aDG,minus:=YT,times:=YI,over:=QF,below:=aA7,nearest_whole:=rT,is_share:=tD,shade:=aAq,shadeI:=iO,is_shade:=tL,need_shade:=nQ,shares_of:=rH,shade_of:=tM,is_grade:=FZ,need_grade:=AL,is_step:=LD,need_step:=CG,printed:=MC,span_of:=KS,gv_ONE:=aIi,gv_ZERO:=aD8,gv_MOST_GRADE:=zG,gv_Shade:=oJ,cs:=(by decide +kernel: "Shade"∈tcs),fl_e:=(by decide +kernel:("Shade",("ember":Str))∈tfl),fl_l:=(by decide +kernel:("Shade",("leaf":Str))∈tfl),fl_s:=(by decide +kernel:("Shade",("sky":Str))∈tfl),ty_int:=XF,ty_bool:=RV,ty_tuple:=jB }
theorem hLT {y:PX}:LT (T y):={ cell:=DK,purse:=xI,pick:=DP,whole:=KI,low:=HZ,plus:=AV,minus:=wX,times:=wW,over:=UL,below:=xP,is_fraction:=rY,share:=wV,shares:=uI }
theorem hPF {y:PX}:PF (T y):={ is_eye:=AW,eye_of:=DY,gap:=lZ,far:=aBk,eqS:=kG,less:=WX,is_limit:=uK,need_limit:=oY,under:=nR,above:=oE,steps:=jP,partw:=sU,row:=aF4,rowI:=kS,rowLen:=mH,rowSh:=oH,gv_EVEN:=vB,gv_MOST:=mB,gv_LL:=mD,gv_ML:=nU,ty_list:=QV,gv_Row:=OW,csR:=(by decide +kernel: "Row"∈tcs),flR:=(by decide +kernel:("Row",("stations":Str))∈tfl) }
theorem aEp {y:PX}:L29 (T y):={ made:=CQ,farL:=JP,eyeL:=JU,plain:=jQ,bent:=CO,greatest:=nL,straight:=gB }
noncomputable def BT (a:Nat→Addr) (c:String):Addr:=if c="Row" then a 45 else if c="Shade" then a 46 else 0
theorem bO {a:Nat→Addr}:BT a "Row"=a 45:=by unfold BT; simp
theorem aU {a:Nat→Addr}:BT a "Shade"=a 46:=by unfold BT; simp
structure Tx (K:W.Frag) (mg:Str→Option Value) (a:Nat→Addr) (d:Nat→FuncData) (v:Nat→Value):Prop where
 qa:bJ K "common" "common" fV (.none) (a 0) (d 0)
 qb:mg "common"=some (.ref (a 0))
 qc:bJ K "lowest" "lowest" gJ (.none) (a 1) (d 1)
 qd:mg "lowest"=some (.ref (a 1))
 qe:bJ K "is_whole" "is_whole" dQ (.none) (a 2) (d 2)
 qf:mg "is_whole"=some (.ref (a 2))
 qg:bJ K "is_fraction" "is_fraction" bX (.none) (a 3) (d 3)
 qh:mg "is_fraction"=some (.ref (a 3))
 qi:bJ K "is_share" "is_share" dN (.none) (a 4) (d 4)
 qj:mg "is_share"=some (.ref (a 4))
 qk:bJ K "__init__" "Shade.__init__" bD (.none) (a 5) (d 5)
 ql:bJ K "shade_of" "shade_of" dR (.none) (a 6) (d 6)
 qm:mg "shade_of"=some (.ref (a 6))
 qo:bJ K "is_shade" "is_shade" dG (.none) (a 7) (d 7)
 qp:mg "is_shade"=some (.ref (a 7))
 qq:bJ K "need_shade" "need_shade" cA (.none) (a 8) (d 8)
 qr:mg "need_shade"=some (.ref (a 8))
 qt:bJ K "shares_of" "shares_of" cX (.none) (a 9) (d 9)
 qu:mg "shares_of"=some (.ref (a 9))
 qw:bJ K "part_way" "part_way" dJ (.none) (a 10) (d 10)
 qx:mg "part_way"=some (.ref (a 10))
 qy:bJ K "is_eye" "is_eye" fO (.none) (a 11) (d 11)
 qz:mg "is_eye"=some (.ref (a 11))
 qA:bJ K "eye_of" "eye_of" fW (.none) (a 12) (d 12)
 qB:mg "eye_of"=some (.ref (a 12))
 qC:bJ K "gap_between" "gap_between" bW (.none) (a 13) (d 13)
 qD:mg "gap_between"=some (.ref (a 13))
 qE:bJ K "far" "far" jW (v 14) (a 14) (d 14)
 qF:∃ (b:Addr) (oc:Value) (od:Option Addr) (n:Nat) (sl:Array (Option Value)) ,v 14= .ref b∧K.lookup b=some ⟨oc,od,.seq #[.none] n,sl⟩
 qG:mg "far"=some (.ref (a 14))
 qH:bJ K "less" "less" mO (.none) (a 15) (d 15)
 qI:mg "less"=some (.ref (a 15))
 qJ:bJ K "is_limit" "is_limit" dI (.none) (a 16) (d 16)
 qK:mg "is_limit"=some (.ref (a 16))
 qL:bJ K "need_limit" "need_limit" cD (.none) (a 17) (d 17)
 qM:mg "need_limit"=some (.ref (a 17))
 qN:bJ K "need_fractions" "need_fractions" bC (.none) (a 18) (d 18)
 qO:mg "need_fractions"=some (.ref (a 18))
 qP:bJ K "over" "over" mU (.none) (a 19) (d 19)
 qQ:mg "over"=some (.ref (a 19))
 qR:bJ K "root_under" "root_under" cF (.none) (a 20) (d 20)
 qS:mg "root_under"=some (.ref (a 20))
 qT:bJ K "root_above" "root_above" cJ (.none) (a 21) (d 21)
 qU:mg "root_above"=some (.ref (a 21))
 qV:bJ K "steps_between" "steps_between" bH (v 22) (a 22) (d 22)
 qW:∃ (b:Addr) (oc:Value) (od:Option Addr) (n:Nat) (sl:Array (Option Value)) ,v 22= .ref b∧K.lookup b=some ⟨oc,od,.seq #[.none] n,sl⟩
 qX:mg "steps_between"=some (.ref (a 22))
 qY:bJ K "__init__" "Row.__init__" bN (v 23) (a 23) (d 23)
 qZ:∃ (b:Addr) (oc:Value) (od:Option Addr) (n:Nat) (sl:Array (Option Value)) ,v 23= .ref b∧K.lookup b=some ⟨oc,od,.seq #[.none] n,sl⟩
 qz1:bJ K "_law_below" "_law_below" eI (.none) (a 24) (d 24)
 qz2:mg "_law_below"=some (.ref (a 24))
 qz3:bJ K "_law_low" "_law_low" jH (.none) (a 25) (d 25)
 qz4:mg "_law_low"=some (.ref (a 25))
 qz5:bJ K "_law_minus" "_law_minus" eN (.none) (a 26) (d 26)
 qz6:mg "_law_minus"=some (.ref (a 26))
 qz7:bJ K "_law_pick" "_law_pick" fZ (.none) (a 27) (d 27)
 qz8:mg "_law_pick"=some (.ref (a 27))
 qz9:bJ K "_law_plain_share" "_law_plain_share" bI (.none) (a 28) (d 28)
 qz10:mg "_law_plain_share"=some (.ref (a 28))
 qz11:bJ K "_law_plus" "_law_plus" gD (.none) (a 29) (d 29)
 qz12:mg "_law_plus"=some (.ref (a 29))
 qz13:bJ K "_law_share" "_law_share" eK (.none) (a 30) (d 30)
 qz14:mg "_law_share"=some (.ref (a 30))
 qz15:bJ K "_law_shares" "_law_shares" dH (.none) (a 31) (d 31)
 qz16:mg "_law_shares"=some (.ref (a 31))
 qz17:bJ K "_law_times" "_law_times" eC (.none) (a 32) (d 32)
 qz18:mg "_law_times"=some (.ref (a 32))
 qz19:bJ K "_law_bent" "_law_bent" fS (.none) (a 33) (d 33)
 qz20:mg "_law_bent"=some (.ref (a 33))
 qz21:bJ K "_law_cell" "_law_cell" fU (.none) (a 34) (d 34)
 qz22:mg "_law_cell"=some (.ref (a 34))
 qz23:bJ K "_law_eye" "_law_eye" iP (.none) (a 35) (d 35)
 qz24:mg "_law_eye"=some (.ref (a 35))
 qz25:bJ K "_law_far" "_law_far" iU (.none) (a 36) (d 36)
 qz26:mg "_law_far"=some (.ref (a 36))
 qz27:bJ K "_law_greatest" "_law_greatest" cH (.none) (a 37) (d 37)
 qz28:mg "_law_greatest"=some (.ref (a 37))
 qz29:bJ K "_law_made" "_law_made" gC (.none) (a 38) (d 38)
 qz30:mg "_law_made"=some (.ref (a 38))
 qz31:bJ K "_law_purse" "_law_purse" eP (.none) (a 39) (d 39)
 qz32:mg "_law_purse"=some (.ref (a 39))
 qz33:bJ K "__eq__" "Shade.__eq__" bM (.none) (a 40) (d 40)
 qz34:iN K (a 46) "__eq__" (a 40)
 qz35:bJ K "__len__" "Row.__len__" bU (.none) (a 41) (d 41)
 qz36:iN K (a 45) "__len__" (a 41)
 qz37:bJ K "shades" "Row.shades" cC (.none) (a 42) (d 42)
 qz38:iN K (a 45) "shades" (a 42)
 qz39:bJ K "_law_straight_right" "_law_straight_right" aV (.none) (a 43) (d 43)
 qz40:mg "_law_straight_right"=some (.ref (a 43))
 qz41:bJ K "law" "law" rK (.none) (a 44) (d 44)
 m_law:mg "law"=some (.ref (a 44))
 qz42:VY K (a 45)
 qz43:mg "Row"=some (.ref (a 45))
 qz44:Mk K (a 45) (a 23)
 qz45:NeC K (a 45)
 qz46:∀ n∈NM,W.kitOne K (.type n) (.ref (a 45))=some false
 qz47:∀ n∈oM,W.kitOne K (.ref (a 45)) (.type n)=some false
 qz48:W.kitOne K (.ref (a 45)) (.ref (a 46))=some false
 qz49:eA K (a 45) "stations"
 qz50:VY K (a 46)
 qz51:mg "Shade"=some (.ref (a 46))
 qz52:Mk K (a 46) (a 5)
 qz53:NeC K (a 46)
 qz54:∀ n∈NM,W.kitOne K (.type n) (.ref (a 46))=some false
 qz55:∀ n∈oM,W.kitOne K (.ref (a 46)) (.type n)=some false
 qz56:W.kitOne K (.ref (a 46)) (.ref (a 45))=some false
 qz57:eA K (a 46) "ember"
 qz58:eA K (a 46) "leaf"
 qz59:eA K (a 46) "sky"
 qz60:∃ a t0 t1 t2 n sl,mg "EVEN_EYE"=some (.ref a)∧K.lookup a=some ⟨.type "tuple",none,.seq #[.int 1 t0,.int 1 t1,.int 1 t2] n,sl⟩
 qz61:∃ a t0 t1 n sl,mg "LEAST_LIMIT"=some (.ref a)∧K.lookup a=some ⟨.type "tuple",none,.seq #[.int 1 t0,.int 1000 t1] n,sl⟩
 qz62:∃ a t0 t1 n sl,mg "MOST_LIMIT"=some (.ref a)∧K.lookup a=some ⟨.type "tuple",none,.seq #[.int 1000 t0,.int 1 t1] n,sl⟩
 qz63:∃ t,mg "MOST_OF_EYE"=some (.int 99 t)
 qz64:mg "abs"=none
 qz65:mg "all"=none
 qz66:mg "any"=none
 qz67:mg "bool"=none
 qz68:mg "enumerate"=none
 qz69:mg "int"=none
 qz70:mg "isinstance"=none
 qz71:mg "len"=none
 qz72:mg "list"=none
 qz73:mg "max"=none
 qz74:mg "min"=none
 qz75:mg "range"=none
 qz76:mg "tuple"=none
 qz77:mg "zip"=none
variable {P:Program} {w:World} {K:W.Frag} {mg:Str→Option Value} {base:Heap} {a:Nat→Addr} {d:Nat→FuncData} {v:Nat→Value} {f0 z0:Hp} {y:PX}
theorem lnS {n:Nat} {l:List Value} (h:l.length=n + 1):∃ a t,l=a :: t∧t.length=n:=by
 cases l with
 | nil=>cases h
 | cons a t=>exact ⟨a,t,rfl,Nat.succ.inj h⟩
theorem ln0 {l:List Value} (h:l.length=0):l=[]:=List.eq_nil_of_length_eq_zero h
theorem ln1 {l:List Value} (h:l.length=1):∃ a,l=[a]:=by
 obtain ⟨a,t,rfl,h2⟩:=lnS h;exact ⟨a,by rw [ln0 h2]⟩
theorem ln2 {l:List Value} (h:l.length=2):∃ a b,l=[a,b]:=by
 obtain ⟨a,t,rfl,h2⟩:=lnS h;obtain ⟨b,rfl⟩:=ln1 h2;exact ⟨a,b,rfl⟩
theorem ln3 {l:List Value} (h:l.length=3):∃ a b c,l=[a,b,c]:=by
 obtain ⟨a,t,rfl,h2⟩:=lnS h;obtain ⟨b,c,rfl⟩:=ln2 h2;exact ⟨a,b,c,rfl⟩
theorem ln4 {l:List Value} (h:l.length=4):∃ a b c d,l=[a,b,c,d]:=by
 obtain ⟨a,t,rfl,h2⟩:=lnS h;obtain ⟨b,c,d,rfl⟩:=ln3 h2;exact ⟨a,b,c,d,rfl⟩
theorem ln5 {l:List Value} (h:l.length=5):∃ a b c d e,l=[a,b,c,d,e]:=by
 obtain ⟨a,t,rfl,h2⟩:=lnS h;obtain ⟨b,c,d,e,rfl⟩:=ln4 h2;exact ⟨a,b,c,d,e,rfl⟩
noncomputable abbrev Ew (K:W.Frag) (a:Nat→Addr) (f0 z0:Hp):Ev:={ K:=K,cls:=BT a,f0:=f0,z0:=z0 }
theorem DC (X:Tx K mg a d v):L2.aG K (d 0) ["one","other"] []:=X.qa.binds fun _ _ _ _ _ _ _ us _ hl=>by obtain ⟨_,_,rfl⟩:=ln2 hl; exact .of_eq rfl
theorem tV (X:Tx K mg a d v):L2.aG K (d 1) ["top","bottom"] []:=X.qc.binds fun _ _ _ _ _ _ _ us _ hl=>by obtain ⟨_,_,rfl⟩:=ln2 hl; exact .of_eq rfl
theorem tK (X:Tx K mg a d v):L2.aG K (d 2) ["thing"] []:=X.qe.binds fun _ _ _ _ _ _ _ us _ hl=>by obtain ⟨_,rfl⟩:=ln1 hl; exact .of_eq rfl
theorem hU (X:Tx K mg a d v):L2.aG K (d 3) ["thing"] []:=X.qg.binds fun _ _ _ _ _ _ _ us _ hl=>by obtain ⟨_,rfl⟩:=ln1 hl; exact .of_eq rfl
theorem EC (X:Tx K mg a d v):L2.aG K (d 4) ["thing"] []:=X.qi.binds fun _ _ _ _ _ _ _ us _ hl=>by obtain ⟨_,rfl⟩:=ln1 hl; exact .of_eq rfl
theorem iL (X:Tx K mg a d v):L2.aG K (d 5) ["self","ember","leaf","sky"] []:=X.qk.binds fun _ _ _ _ _ _ _ us _ hl=>by obtain ⟨_,_,_,_,rfl⟩:=ln4 hl; exact .of_eq rfl
theorem GV (X:Tx K mg a d v):L2.aG K (d 6) ["shares"] []:=X.ql.binds fun _ _ _ _ _ _ _ us _ hl=>by obtain ⟨_,rfl⟩:=ln1 hl; exact .of_eq rfl
theorem EJ (X:Tx K mg a d v):L2.aG K (d 7) ["thing"] []:=X.qo.binds fun _ _ _ _ _ _ _ us _ hl=>by obtain ⟨_,rfl⟩:=ln1 hl; exact .of_eq rfl
theorem jA (X:Tx K mg a d v):L2.aG K (d 8) ["thing"] []:=X.qq.binds fun _ _ _ _ _ _ _ us _ hl=>by obtain ⟨_,rfl⟩:=ln1 hl; exact .of_eq rfl
theorem kY (X:Tx K mg a d v):L2.aG K (d 9) ["shade"] []:=X.qt.binds fun _ _ _ _ _ _ _ us _ hl=>by obtain ⟨_,rfl⟩:=ln1 hl; exact .of_eq rfl
theorem GK (X:Tx K mg a d v):L2.aG K (d 10) ["shade","other","part"] []:=X.qw.binds fun _ _ _ _ _ _ _ us _ hl=>by obtain ⟨_,_,_,rfl⟩:=ln3 hl; exact .of_eq rfl
theorem QX (X:Tx K mg a d v):L2.aG K (d 11) ["thing"] []:=X.qy.binds fun _ _ _ _ _ _ _ us _ hl=>by obtain ⟨_,rfl⟩:=ln1 hl; exact .of_eq rfl
theorem UM (X:Tx K mg a d v):L2.aG K (d 12) ["eye"] []:=X.qA.binds fun _ _ _ _ _ _ _ us _ hl=>by obtain ⟨_,rfl⟩:=ln1 hl; exact .of_eq rfl
theorem wU (X:Tx K mg a d v):L2.aG K (d 13) ["shade","other","eye"] []:=X.qC.binds fun _ _ _ _ _ _ _ us _ hl=>by obtain ⟨_,_,_,rfl⟩:=ln3 hl; exact .of_eq rfl
theorem VD (X:Tx K mg a d v):L2.aG K (d 14) ["shade","other","eye"] []:=by
 obtain ⟨b,oc,od,n,sl,e,hb⟩:=X.qF;exact X.qE.binds fun _ _ _ _ _ _ _ us hK hl=>by obtain ⟨_,_,_,rfl⟩:=ln3 hl; exact W.binds_K hK e hb rfl rfl rfl
theorem aCJ (X:Tx K mg a d v):L2.aG K (d 15) ["one","other"] []:=X.qH.binds fun _ _ _ _ _ _ _ us _ hl=>by obtain ⟨_,_,rfl⟩:=ln2 hl; exact .of_eq rfl
theorem EE (X:Tx K mg a d v):L2.aG K (d 16) ["thing"] []:=X.qJ.binds fun _ _ _ _ _ _ _ us _ hl=>by obtain ⟨_,rfl⟩:=ln1 hl; exact .of_eq rfl
theorem AD (X:Tx K mg a d v):L2.aG K (d 17) ["thing"] []:=X.qL.binds fun _ _ _ _ _ _ _ us _ hl=>by obtain ⟨_,rfl⟩:=ln1 hl; exact .of_eq rfl
theorem iE (X:Tx K mg a d v):L2.aG K (d 18) ["things"] []:=X.qN.binds fun _ _ _ _ _ _ _ us _ hl=>by obtain ⟨_,rfl⟩:=ln1 hl; exact .of_eq rfl
theorem aCr (X:Tx K mg a d v):L2.aG K (d 19) ["one","other"] []:=X.qP.binds fun _ _ _ _ _ _ _ us _ hl=>by obtain ⟨_,_,rfl⟩:=ln2 hl; exact .of_eq rfl
theorem yG (X:Tx K mg a d v):L2.aG K (d 20) ["number"] []:=X.qR.binds fun _ _ _ _ _ _ _ us _ hl=>by obtain ⟨_,rfl⟩:=ln1 hl; exact .of_eq rfl
theorem yV (X:Tx K mg a d v):L2.aG K (d 21) ["one"] []:=X.qT.binds fun _ _ _ _ _ _ _ us _ hl=>by obtain ⟨_,rfl⟩:=ln1 hl; exact .of_eq rfl
theorem eY (X:Tx K mg a d v):L2.aG K (d 22) ["shade","other","limit","eye"] []:=by
 obtain ⟨b,oc,od,n,sl,e,hb⟩:=X.qW;exact X.qV.binds fun _ _ _ _ _ _ _ us hK hl=>by obtain ⟨_,_,_,_,rfl⟩:=ln4 hl; exact W.binds_K hK e hb rfl rfl rfl
theorem jT (X:Tx K mg a d v):L2.aG K (d 23) ["self","shade","other","limit","eye"] []:=by
 obtain ⟨b,oc,od,n,sl,e,hb⟩:=X.qZ;exact X.qY.binds fun _ _ _ _ _ _ _ us hK hl=>by obtain ⟨_,_,_,_,_,rfl⟩:=ln5 hl; exact W.binds_K hK e hb rfl rfl rfl
theorem pO (X:Tx K mg a d v):L2.aG K (d 24) ["_law_a","_law_b"] []:=X.qz1.binds fun _ _ _ _ _ _ _ us _ hl=>by obtain ⟨_,_,rfl⟩:=ln2 hl; exact .of_eq rfl
theorem aAS (X:Tx K mg a d v):L2.aG K (d 25) ["_law_top","_law_bottom"] []:=X.qz3.binds fun _ _ _ _ _ _ _ us _ hl=>by obtain ⟨_,_,rfl⟩:=ln2 hl; exact .of_eq rfl
theorem xG (X:Tx K mg a d v):L2.aG K (d 26) ["_law_a","_law_b"] []:=X.qz5.binds fun _ _ _ _ _ _ _ us _ hl=>by obtain ⟨_,_,rfl⟩:=ln2 hl; exact .of_eq rfl
theorem WZ (X:Tx K mg a d v):L2.aG K (d 27) ["_law_purse_here","_law_many"] []:=X.qz7.binds fun _ _ _ _ _ _ _ us _ hl=>by obtain ⟨_,_,rfl⟩:=ln2 hl; exact .of_eq rfl
theorem rS (X:Tx K mg a d v):L2.aG K (d 28) ["_law_purse_here"] []:=X.qz9.binds fun _ _ _ _ _ _ _ us _ hl=>by obtain ⟨_,rfl⟩:=ln1 hl; exact .of_eq rfl
theorem BV (X:Tx K mg a d v):L2.aG K (d 29) ["_law_a","_law_b"] []:=X.qz11.binds fun _ _ _ _ _ _ _ us _ hl=>by obtain ⟨_,_,rfl⟩:=ln2 hl; exact .of_eq rfl
theorem KF (X:Tx K mg a d v):L2.aG K (d 30) ["_law_purse_here"] []:=X.qz13.binds fun _ _ _ _ _ _ _ us _ hl=>by obtain ⟨_,rfl⟩:=ln1 hl; exact .of_eq rfl
theorem FP (X:Tx K mg a d v):L2.aG K (d 31) ["_law_purse_here"] []:=X.qz15.binds fun _ _ _ _ _ _ _ us _ hl=>by obtain ⟨_,rfl⟩:=ln1 hl; exact .of_eq rfl
theorem ME (X:Tx K mg a d v):L2.aG K (d 32) ["_law_a","_law_b"] []:=X.qz17.binds fun _ _ _ _ _ _ _ us _ hl=>by obtain ⟨_,_,rfl⟩:=ln2 hl; exact .of_eq rfl
theorem SS (X:Tx K mg a d v):L2.aG K (d 33) ["_law_purse_here"] []:=X.qz19.binds fun _ _ _ _ _ _ _ us _ hl=>by obtain ⟨_,rfl⟩:=ln1 hl; exact .of_eq rfl
theorem XS (X:Tx K mg a d v):L2.aG K (d 34) ["_law_script","_law_k"] []:=X.qz21.binds fun _ _ _ _ _ _ _ us _ hl=>by obtain ⟨_,_,rfl⟩:=ln2 hl; exact .of_eq rfl
theorem aA5 (X:Tx K mg a d v):L2.aG K (d 35) ["_law_purse_here"] []:=X.qz23.binds fun _ _ _ _ _ _ _ us _ hl=>by obtain ⟨_,rfl⟩:=ln1 hl; exact .of_eq rfl
theorem ZT (X:Tx K mg a d v):L2.aG K (d 36) ["_law_one","_law_mate","_law_seer"] []:=X.qz25.binds fun _ _ _ _ _ _ _ us _ hl=>by obtain ⟨_,_,_,rfl⟩:=ln3 hl; exact .of_eq rfl
theorem AB (X:Tx K mg a d v):L2.aG K (d 37) ["_law_rows","_law_seer"] []:=X.qz27.binds fun _ _ _ _ _ _ _ us _ hl=>by obtain ⟨_,_,rfl⟩:=ln2 hl; exact .of_eq rfl
theorem WK (X:Tx K mg a d v):L2.aG K (d 38) ["_law_row"] []:=X.qz29.binds fun _ _ _ _ _ _ _ us _ hl=>by obtain ⟨_,rfl⟩:=ln1 hl; exact .of_eq rfl
theorem NT (X:Tx K mg a d v):L2.aG K (d 39) ["_law_cell_here"] []:=X.qz31.binds fun _ _ _ _ _ _ _ us _ hl=>by obtain ⟨_,rfl⟩:=ln1 hl; exact .of_eq rfl
theorem tX (X:Tx K mg a d v):L2.aG K (d 40) ["self","other"] []:=X.qz33.binds fun _ _ _ _ _ _ _ us _ hl=>by obtain ⟨_,_,rfl⟩:=ln2 hl; exact .of_eq rfl
theorem lY (X:Tx K mg a d v):L2.aG K (d 41) ["self"] []:=X.qz35.binds fun _ _ _ _ _ _ _ us _ hl=>by obtain ⟨_,rfl⟩:=ln1 hl; exact .of_eq rfl
theorem mM (X:Tx K mg a d v):L2.aG K (d 43) ["_law_one","_law_mate","_law_reach","_law_seer"] []:=X.qz39.binds fun _ _ _ _ _ _ _ us _ hl=>by obtain ⟨_,_,_,_,rfl⟩:=ln4 hl; exact .of_eq rfl
theorem iG (X:Tx K mg a d v):lW K (d 42) ["self"] 1 [] [.arg 0]:=by
 refine X.qz37.sh rfl fun _ _ _ _ _ _ _ us ws hK hl hl2=>?_;obtain ⟨u0,rfl⟩:=ln1 hl;obtain rfl:=ln0 hl2;refine ⟨[u0],.of_eq rfl,fun vs zs r rz=>?_⟩;obtain _ | ⟨r_u0,r⟩:=r;cases r;cases rz;exact (.cons r_u0 .nil)
abbrev FO (P:Program) (w:World) (K:W.Frag) (mg:Str→Option Value) (base:Heap) (a:Nat→Addr) (d:Nat→FuncData) (n i:Nat) (f0 z0:Hp) (y:PX) (ps:List Str) (x:Str):Prop:=bP P w K mg base CX0 n (a i) (d i) ps (jC (Ew K a f0 z0) ((T y).S x))
theorem ck (X:Tx K mg a d v):Ck K (Ew K a f0 z0) (T y):=by
 refine ⟨rfl,⟨?_, ?_, ?_, ?_⟩, ?_⟩
 · exact ac (by rw [show (Ew K a f0 z0).cls "Row"=a 45 from bO]; exact X.qz42) (ac (by rw [show (Ew K a f0 z0).cls "Shade"=a 46 from aU]; exact X.qz50) (an))
 · exact ac (by rw [show (Ew K a f0 z0).cls "Row"=a 45 from bO]; exact X.qz46) (ac (by rw [show (Ew K a f0 z0).cls "Shade"=a 46 from aU]; exact X.qz54) (an))
 · exact ac (by rw [show (Ew K a f0 z0).cls "Row"=a 45 from bO]; exact X.qz47) (ac (by rw [show (Ew K a f0 z0).cls "Shade"=a 46 from aU]; exact X.qz55) (an))
 · exact ac (ac (fun h=>absurd rfl h) (ac (fun _=>by rw [show (Ew K a f0 z0).cls "Row"=a 45 from bO,show (Ew K a f0 z0).cls "Shade"=a 46 from aU]; exact X.qz48) (an))) (ac (ac (fun _=>by rw [show (Ew K a f0 z0).cls "Shade"=a 46 from aU,show (Ew K a f0 z0).cls "Row"=a 45 from bO]; exact X.qz56) (ac (fun h=>absurd rfl h) (an))) (an))
 · intro c f h;have key:∀ p∈(T y).fl,Cls K ((Ew K a f0 z0).cls p.1)∧eA K ((Ew K a f0 z0).cls p.1) p.2:=ac (by dsimp only; rw [bO]; exact ⟨X.qz42.cl,X.qz49⟩) (ac (by dsimp only; rw [aU]; exact ⟨X.qz50.cl,X.qz57⟩) (ac (by dsimp only; rw [aU]; exact ⟨X.qz50.cl,X.qz58⟩) (ac (by dsimp only; rw [aU]; exact ⟨X.qz50.cl,X.qz59⟩) (an))));exact key (c,f) h
local macro_rules | `(tactic| walk_at "sl") => `(tactic| (intro xs G Q h; repeat (first | exact (congrArg List.length h.1).trans rfl | (obtain ⟨_, h⟩ := h))))
theorem xo (X:Tx K mg a d v):Xo K mg (Ew K a f0 z0) (T y):=by
 exact Xo.no rfl rfl
theorem NP (X:Tx K mg a d v):Gf P w K mg base (Ew K a f0 z0) (T y) 40 C_common :=
 ⟨an,an,an,an,an,an,an,an,an,an,an,an,an,an,an,an,an,an,an,an,an,an,an⟩
theorem xC (X:Tx K mg a d v):FO P w K mg base a d 42 0 f0 z0 y ["one","other"] "common":=by
 rw [FO,DX]; exact aT (T:=T y) X.qa MP (ck X) (NP X) KP (xo X) (Tf.no rfl) rfl (fun _=>by decide) (fun z=>by cases z) (by walk_at "sl") (XZ hPT)
theorem NR (X:Tx K mg a d v):Gf P w K mg base (Ew K a f0 z0) (T y) 42 C_lowest :=
 ⟨ac (⟨_,_,_,⟨(xC X).mono (by decide),X.qb,X.qa.kp,by decide +kernel⟩,DC X⟩) (an),an,an,an,an,an,ac (X.qz64) (an),an,an,an,an,an,an,an,an,an,an,an,an,an,an,an,an⟩
theorem pJ (X:Tx K mg a d v):FO P w K mg base a d 44 1 f0 z0 y ["top","bottom"] "lowest":=by
 rw [FO,DV]; exact aT (T:=T y) X.qc KM (ck X) (NR X) NG (xo X) (Tf.no rfl) rfl (fun _=>by decide) (fun z=>by cases z) (by walk_at "sl") (TH hPT)
theorem DE (X:Tx K mg a d v):Gf P w K mg base (Ew K a f0 z0) (T y) 40 C_is_whole :=
 ⟨an,an,an,an,an,ac (⟨X.qz67,⟨"bool",PyProof.Rows.boot_bool,RV⟩,by decide +kernel⟩) (ac (⟨X.qz69,⟨"int",PyProof.Rows.boot_int,XF⟩,by decide +kernel⟩) (an)),ac (X.qz70) (an),an,an,an,an,an,an,an,an,an,an,an,an,an,an,an,an⟩
theorem rD (X:Tx K mg a d v):FO P w K mg base a d 42 2 f0 z0 y ["thing"] "is_whole":=by
 rw [FO,vJ]; exact aT (T:=T y) X.qe BB (ck X) (DE X) AZ (xo X) (Tf.no rfl) rfl (fun _=>by decide) (fun z=>by cases z) (by walk_at "sl") (FK hPT)
theorem tW (X:Tx K mg a d v):Gf P w K mg base (Ew K a f0 z0) (T y) 42 C_is_fraction :=
 ⟨ac (⟨_,_,_,⟨(xC X).mono (by decide),X.qb,X.qa.kp,by decide +kernel⟩,DC X⟩) (ac (⟨_,_,_,⟨(rD X).mono (by decide),X.qf,X.qe.kp,by decide +kernel⟩,tK X⟩) (an)),an,an,an,an,ac (⟨X.qz76,⟨"tuple",PyProof.Rows.boot_tuple,jB⟩,by decide +kernel⟩) (an),ac (X.qz64) (ac (X.qz70) (ac (X.qz71) (an))),an,an,an,an,an,an,an,an,an,an,an,an,an,an,an,an⟩
theorem gA (X:Tx K mg a d v):FO P w K mg base a d 44 3 f0 z0 y ["thing"] "is_fraction":=by
 rw [FO,mI]; exact aT (T:=T y) X.qg sV (ck X) (tW X) uV (xo X) (Tf.no rfl) rfl (fun _=>by decide) (fun z=>by cases z) (by walk_at "sl") (vM hPT)
theorem DB (X:Tx K mg a d v):Gf P w K mg base (Ew K a f0 z0) (T y) 44 C_is_share :=
 ⟨ac (⟨_,_,_,⟨(gA X).mono (by decide),X.qh,X.qg.kp,by decide +kernel⟩,hU X⟩) (an),an,an,an,an,an,an,an,an,an,an,an,an,an,an,an,an,an,an,an,an,an,an⟩
theorem BA (X:Tx K mg a d v):FO P w K mg base a d 46 4 f0 z0 y ["thing"] "is_share":=by
 rw [FO,tD]; exact aT (T:=T y) X.qi DD (ck X) (DB X) BF (xo X) (Tf.no rfl) rfl (fun _=>by decide) (fun z=>by cases z) (by walk_at "sl") (EN hPT)
theorem oZ (X:Tx K mg a d v):Gf P w K mg base (Ew K a f0 z0) (T y) 46 C_Shade___init__ :=
 ⟨ac (⟨_,_,_,⟨(BA X).mono (by decide),X.qj,X.qi.kp,by decide +kernel⟩,EC X⟩) (an),an,an,an,an,an,ac (X.qz68) (an),an,an,an,an,an,an,an,an,an,an,an,an,an,an,an,an⟩
theorem gL (X:Tx K mg a d v):FO P w K mg base a d 48 5 f0 z0 y ["self","ember","leaf","sky"] "Shade.__init__":=by
 rw [FO,iO]; exact aT (T:=T y) X.qk nE (ck X) (oZ X) nJ (xo X) (Tf.no rfl) rfl (fun _=>by decide) (fun z=>by cases z) (by walk_at "sl") (pY hPT)
theorem EB (X:Tx K mg a d v):Gf P w K mg base (Ew K a f0 z0) (T y) 48 C_shade_of :=
 ⟨an,ac (⟨"Shade","Shade.__init__",_,_,_,⟨by rw [show (Ew K a f0 z0).cls "Shade"=a 46 from aU]; exact X.qz52,(gL X).mono (by decide),by rw [show (Ew K a f0 z0).cls "Shade"=a 46 from aU]; exact X.qz51,BX hPT,by decide +kernel⟩,iL X⟩) (an),an,an,ac (by rw [oJ]; exact pA X.qz51 aU) (an),an,an,an,an,an,an,an,an,an,an,an,an,an,an,an,an,an,an⟩
theorem DS (X:Tx K mg a d v):FO P w K mg base a d 50 6 f0 z0 y ["shares"] "shade_of":=by
 rw [FO,tM]; exact aT (T:=T y) X.ql DI (ck X) (EB X) BU (xo X) (Tf.no rfl) rfl (fun _=>by decide) (fun z=>by cases z) (by walk_at "sl") (GZ hPT)
theorem CV (X:Tx K mg a d v):Gf P w K mg base (Ew K a f0 z0) (T y) 40 C_is_shade :=
 ⟨an,an,an,an,ac (by rw [oJ]; exact pA X.qz51 aU) (an),an,ac (X.qz70) (an),an,an,an,an,an,an,an,an,an,an,an,an,an,an,an,an⟩
theorem AX (X:Tx K mg a d v):FO P w K mg base a d 42 7 f0 z0 y ["thing"] "is_shade":=by
 rw [FO,tL]; exact aT (T:=T y) X.qo BK (ck X) (CV X) CU (xo X) (Tf.no rfl) rfl (fun _=>by decide) (fun z=>by cases z) (by walk_at "sl") (EO hPT)
theorem wM (X:Tx K mg a d v):Gf P w K mg base (Ew K a f0 z0) (T y) 42 C_need_shade :=
 ⟨ac (⟨_,_,_,⟨(AX X).mono (by decide),X.qp,X.qo.kp,by decide +kernel⟩,EJ X⟩) (an),an,an,an,an,an,an,an,an,an,an,an,an,an,an,an,an,an,an,an,an,an,an⟩
theorem gS (X:Tx K mg a d v):FO P w K mg base a d 44 8 f0 z0 y ["thing"] "need_shade":=by
 rw [FO,nQ]; exact aT (T:=T y) X.qq wO (ck X) (wM X) wN (xo X) (Tf.no rfl) rfl (fun _=>by decide) (fun z=>by cases z) (by walk_at "sl") (yF hPT)
theorem AC (X:Tx K mg a d v):Gf P w K mg base (Ew K a f0 z0) (T y) 44 C_shares_of :=
 ⟨ac (⟨_,_,_,⟨(gS X).mono (by decide),X.qr,X.qq.kp,by decide +kernel⟩,jA X⟩) (an),an,an,an,an,an,an,an,an,an,an,an,an,an,an,an,an,an,an,an,an,an,an⟩
theorem jL (X:Tx K mg a d v):FO P w K mg base a d 46 9 f0 z0 y ["shade"] "shares_of":=by
 rw [FO,rH]; exact aT (T:=T y) X.qt zX (ck X) (AC X) zO (xo X) (Tf.no rfl) rfl (fun _=>by decide) (fun z=>by cases z) (by walk_at "sl") (CZ hPT)
theorem DZ (X:Tx K mg a d v):Gf P w K mg base (Ew K a f0 z0) (T y) 50 C_part_way :=
 ⟨ac (⟨_,_,_,⟨(pJ X).mono (by decide),X.qd,X.qc.kp,by decide +kernel⟩,tV X⟩) (ac (⟨_,_,_,⟨(DS X).mono (by decide),X.qm,X.ql.kp,by decide +kernel⟩,GV X⟩) (ac (⟨_,_,_,⟨(jL X).mono (by decide),X.qu,X.qt.kp,by decide +kernel⟩,kY X⟩) (an))),an,an,an,an,an,ac (X.qz77) (an),an,an,an,an,an,an,an,an,an,an,an,an,an,an,an,an⟩
theorem AY (X:Tx K mg a d v):FO P w K mg base a d 52 10 f0 z0 y ["shade","other","part"] "part_way":=by
 rw [FO,sU]; exact aT (T:=T y) X.qw CT (ck X) (DZ X) BL (xo X) (Tf.no rfl) rfl (fun _=>by decide) (fun z=>by cases z) (by walk_at "sl") (FT hPT)
theorem LL (X:Tx K mg a d v):Gf P w K mg base (Ew K a f0 z0) (T y) 42 C_is_eye :=
 ⟨ac (⟨_,_,_,⟨(rD X).mono (by decide),X.qf,X.qe.kp,by decide +kernel⟩,tK X⟩) (an),an,an,an,ac (by obtain ⟨t,h⟩:=X.qz63; rw [mB]; exact aDB h) (an),ac (⟨X.qz76,⟨"tuple",PyProof.Rows.boot_tuple,jB⟩,by decide +kernel⟩) (an),ac (X.qz65) (ac (X.qz70) (ac (X.qz71) (an))),an,an,an,an,an,an,an,an,an,an,an,an,an,an,an,an⟩
theorem NU (X:Tx K mg a d v):FO P w K mg base a d 44 11 f0 z0 y ["thing"] "is_eye":=by
 rw [FO,AW]; exact aT (T:=T y) X.qy KR (ck X) (LL X) KZ (xo X) (Tf.no rfl) rfl (fun _=>by decide) (fun z=>by cases z) (by walk_at "sl") (RY hPT hPF)
theorem KQ (X:Tx K mg a d v):Gf P w K mg base (Ew K a f0 z0) (T y) 44 C_eye_of :=
 ⟨ac (⟨_,_,_,⟨(NU X).mono (by decide),X.qz,X.qy.kp,by decide +kernel⟩,QX X⟩) (an),an,an,an,ac (by obtain ⟨b,t0,t1,t2,n,sl,h,l⟩:=X.qz60; rw [vB]; exact yT (YO rfl h l) (by first | rfl | exact uA.symm)) (an),an,an,an,an,an,an,an,an,an,an,an,an,an,an,an,an,an,an⟩
theorem ON (X:Tx K mg a d v):FO P w K mg base a d 46 12 f0 z0 y ["eye"] "eye_of":=by
 rw [FO,DY]; exact aT (T:=T y) X.qA LH (ck X) (KQ X) KC (xo X) (Tf.no rfl) rfl (fun _=>by decide) (fun z=>by cases z) (by walk_at "sl") (PC hPT hPF)
theorem uZ (X:Tx K mg a d v):Gf P w K mg base (Ew K a f0 z0) (T y) 46 C_gap_between :=
 ⟨ac (⟨_,_,_,⟨(jL X).mono (by decide),X.qu,X.qt.kp,by decide +kernel⟩,kY X⟩) (an),an,an,an,an,an,ac (X.qz77) (an),an,an,an,an,an,an,an,an,an,an,an,an,an,an,an,an⟩
theorem tF (X:Tx K mg a d v):FO P w K mg base a d 48 13 f0 z0 y ["shade","other","eye"] "gap_between":=by
 rw [FO,lZ]; exact aT (T:=T y) X.qC tR (ck X) (uZ X) sW (xo X) (Tf.no rfl) rfl (fun _=>by decide) (fun z=>by cases z) (by walk_at "sl") (wD hPT)
theorem aDf (X:Tx K mg a d v):Gf P w K mg base (Ew K a f0 z0) (T y) 48 C_far :=
 ⟨ac (⟨_,_,_,⟨(ON X).mono (by decide),X.qB,X.qA.kp,by decide +kernel⟩,UM X⟩) (ac (⟨_,_,_,⟨(tF X).mono (by decide),X.qD,X.qC.kp,by decide +kernel⟩,wU X⟩) (ac (⟨_,_,_,⟨(pJ X).mono (by decide),X.qd,X.qc.kp,by decide +kernel⟩,tV X⟩) (ac (⟨_,_,_,⟨(gS X).mono (by decide),X.qr,X.qq.kp,by decide +kernel⟩,jA X⟩) (an)))),an,an,an,an,an,an,an,an,an,an,an,an,an,an,an,an,an,an,an,an,an,an⟩
theorem EH (X:Tx K mg a d v):FO P w K mg base a d 50 14 f0 z0 y ["shade","other","eye"] "far":=by
 rw [FO,aBk]; exact aT (T:=T y) X.qE aDP (ck X) (aDf X) aCk (xo X) (Tf.no rfl) rfl (fun _=>by decide) (fun z=>by cases z) (by walk_at "sl") (aHN hPT hPF)
theorem YV (X:Tx K mg a d v):Gf P w K mg base (Ew K a f0 z0) (T y) 40 C_less :=
 ⟨an,an,an,an,an,an,an,an,an,an,an,an,an,an,an,an,an,an,an,an,an,an,an⟩
theorem YD (X:Tx K mg a d v):FO P w K mg base a d 42 15 f0 z0 y ["one","other"] "less":=by
 rw [FO,WX]; exact aT (T:=T y) X.qH ZH (ck X) (YV X) aAh (xo X) (Tf.no rfl) rfl (fun _=>by decide) (fun z=>by cases z) (by walk_at "sl") (aEy )
theorem CY (X:Tx K mg a d v):Gf P w K mg base (Ew K a f0 z0) (T y) 44 C_is_limit :=
 ⟨ac (⟨_,_,_,⟨(gA X).mono (by decide),X.qh,X.qg.kp,by decide +kernel⟩,hU X⟩) (ac (⟨_,_,_,⟨(YD X).mono (by decide),X.qI,X.qH.kp,by decide +kernel⟩,aCJ X⟩) (an)),an,an,an,ac (by obtain ⟨b,t0,t1,n,sl,h,l⟩:=X.qz61; rw [mD]; exact yT (IY rfl h l) (by first | rfl | exact uA.symm)) (ac (by obtain ⟨b,t0,t1,n,sl,h,l⟩:=X.qz62; rw [nU]; exact yT (IY rfl h l) (by first | rfl | exact uA.symm)) (an)),an,an,an,an,an,an,an,an,an,an,an,an,an,an,an,an,an,an⟩
theorem CD (X:Tx K mg a d v):FO P w K mg base a d 46 16 f0 z0 y ["thing"] "is_limit":=by
 rw [FO,uK]; exact aT (T:=T y) X.qJ DN (ck X) (CY X) BS (xo X) (Tf.no rfl) rfl (fun _=>by decide) (fun z=>by cases z) (by walk_at "sl") (GY hPT hPF)
theorem wP (X:Tx K mg a d v):Gf P w K mg base (Ew K a f0 z0) (T y) 46 C_need_limit :=
 ⟨ac (⟨_,_,_,⟨(CD X).mono (by decide),X.qK,X.qJ.kp,by decide +kernel⟩,EE X⟩) (an),an,an,an,an,an,an,an,an,an,an,an,an,an,an,an,an,an,an,an,an,an,an⟩
theorem vS (X:Tx K mg a d v):FO P w K mg base a d 48 17 f0 z0 y ["thing"] "need_limit":=by
 rw [FO,oY]; exact aT (T:=T y) X.qL wF (ck X) (wP X) vP (xo X) (Tf.no rfl) rfl (fun _=>by decide) (fun z=>by cases z) (by walk_at "sl") (zR hPF)
theorem oA (X:Tx K mg a d v):Gf P w K mg base (Ew K a f0 z0) (T y) 44 C_need_fractions :=
 ⟨ac (⟨_,_,_,⟨(gA X).mono (by decide),X.qh,X.qg.kp,by decide +kernel⟩,hU X⟩) (an),an,an,an,an,an,ac (X.qz68) (an),an,an,an,an,an,an,an,an,an,an,an,an,an,an,an,an⟩
theorem gP (X:Tx K mg a d v):FO P w K mg base a d 46 18 f0 z0 y ["things"] "need_fractions":=by
 rw [FO,iK]; exact aT (T:=T y) X.qN oQ (ck X) (oA X) nG (xo X) (Tf.no rfl) rfl (fun _=>by decide) (fun z=>by cases z) (by walk_at "sl") (pG hPT)
theorem ZW (X:Tx K mg a d v):Gf P w K mg base (Ew K a f0 z0) (T y) 46 C_over :=
 ⟨ac (⟨_,_,_,⟨(pJ X).mono (by decide),X.qd,X.qc.kp,by decide +kernel⟩,tV X⟩) (ac (⟨_,_,_,⟨(gP X).mono (by decide),X.qO,X.qN.kp,by decide +kernel⟩,iE X⟩) (an)),an,an,an,an,an,an,an,an,an,an,an,an,an,an,an,an,an,an,an,an,an,an⟩
theorem ZE (X:Tx K mg a d v):FO P w K mg base a d 48 19 f0 z0 y ["one","other"] "over":=by
 rw [FO,QF]; exact aT (T:=T y) X.qP aAO (ck X) (ZW X) ZF (xo X) (Tf.no rfl) rfl (fun _=>by decide) (fun z=>by cases z) (by walk_at "sl") (aCP hPT)
theorem wJ (X:Tx K mg a d v):Gf P w K mg base (Ew K a f0 z0) (T y) 40 C_root_under :=
 ⟨an,an,an,an,an,an,an,an,an,an,an,an,an,an,an,an,an,an,an,an,an,an,an⟩
theorem vN (X:Tx K mg a d v):FO P w K mg base a d 42 20 f0 z0 y ["number"] "root_under":=by
 rw [FO,nR]; exact aT (T:=T y) X.qR wK (ck X) (wJ X) vQ (xo X) (Tf.no rfl) rfl (fun _=>by decide) (fun z=>by cases z) (by walk_at "sl") (yP )
theorem wB (X:Tx K mg a d v):Gf P w K mg base (Ew K a f0 z0) (T y) 46 C_root_above :=
 ⟨ac (⟨_,_,_,⟨(gP X).mono (by decide),X.qO,X.qN.kp,by decide +kernel⟩,iE X⟩) (ac (⟨_,_,_,⟨(vN X).mono (by decide),X.qS,X.qR.kp,by decide +kernel⟩,yG X⟩) (an)),an,an,an,an,an,an,an,an,an,an,an,an,an,an,an,an,an,an,an,an,an,an⟩
theorem wQ (X:Tx K mg a d v):FO P w K mg base a d 48 21 f0 z0 y ["one"] "root_above":=by
 rw [FO,oE]; exact aT (T:=T y) X.qT vZ (ck X) (wB X) vY (xo X) (Tf.no rfl) rfl (fun _=>by decide) (fun z=>by cases z) (by walk_at "sl") (AK hPT hPF)
theorem pB (X:Tx K mg a d v):Gf P w K mg base (Ew K a f0 z0) (T y) 50 C_steps_between :=
 ⟨ac (⟨_,_,_,⟨(EH X).mono (by decide),X.qG,X.qE.kp,by decide +kernel⟩,VD X⟩) (ac (⟨_,_,_,⟨(vS X).mono (by decide),X.qM,X.qL.kp,by decide +kernel⟩,AD X⟩) (ac (⟨_,_,_,⟨(gS X).mono (by decide),X.qr,X.qq.kp,by decide +kernel⟩,jA X⟩) (ac (⟨_,_,_,⟨(ZE X).mono (by decide),X.qQ,X.qP.kp,by decide +kernel⟩,aCr X⟩) (ac (⟨_,_,_,⟨(wQ X).mono (by decide),X.qU,X.qT.kp,by decide +kernel⟩,yV X⟩) (an))))),an,an,an,an,an,an,an,an,an,an,an,an,an,an,an,an,an,an,an,an,an,an⟩
theorem eM (X:Tx K mg a d v):FO P w K mg base a d 52 22 f0 z0 y ["shade","other","limit","eye"] "steps_between":=by
 rw [FO,jP]; exact aT (T:=T y) X.qV pD (ck X) (pB X) pF (xo X) (Tf.no rfl) rfl (fun _=>by decide) (fun z=>by cases z) (by walk_at "sl") (sA hPT hPF)
theorem rQ (X:Tx K mg a d v):Gf P w K mg base (Ew K a f0 z0) (T y) 52 C_Row___init__ :=
 ⟨ac (⟨_,_,_,⟨(AY X).mono (by decide),X.qx,X.qw.kp,by decide +kernel⟩,GK X⟩) (ac (⟨_,_,_,⟨(eM X).mono (by decide),X.qX,X.qV.kp,by decide +kernel⟩,eY X⟩) (an)),an,an,an,an,ac (⟨X.qz76,⟨"tuple",PyProof.Rows.boot_tuple,jB⟩,by decide +kernel⟩) (an),ac (X.qz73) (ac (X.qz75) (ac (X.qz76) (an))),an,an,an,an,an,an,an,an,an,an,an,an,an,an,an,an⟩
theorem jR (X:Tx K mg a d v):FO P w K mg base a d 54 23 f0 z0 y ["self","shade","other","limit","eye"] "Row.__init__":=by
 rw [FO,kS]; exact aT (T:=T y) X.qY rX (ck X) (rQ X) rO (xo X) (Tf.no rfl) rfl (fun _=>by decide) (fun z=>by cases z) (by walk_at "sl") (uC hPT hPF)
theorem EZ (X:Tx K mg a d v):Gf P w K mg base (Ew K a f0 z0) (T y) 40 C_l_below :=
 ⟨an,an,an,an,an,an,an,an,an,an,an,an,an,an,an,an,an,an,an,an,an,an,an⟩
theorem mZ (X:Tx K mg a d v):FO P w K mg base a d 42 24 f0 z0 y ["_law_a","_law_b"] "_law_below":=by
 rw [FO,xP]; exact aT (T:=T y) X.qz1 FS (ck X) (EZ X) GM (xo X) (Tf.no rfl) rfl (fun _=>by decide) (fun z=>by cases z) (by walk_at "sl") (xR )
theorem SF (X:Tx K mg a d v):Gf P w K mg base (Ew K a f0 z0) (T y) 40 C_l_low :=
 ⟨an,an,an,an,an,an,ac (X.qz64) (an),an,an,an,an,an,an,an,an,an,an,an,an,an,an,an,an⟩
theorem QA (X:Tx K mg a d v):FO P w K mg base a d 42 25 f0 z0 y ["_law_top","_law_bottom"] "_law_low":=by
 rw [FO,HZ]; exact aT (T:=T y) X.qz3 XE (ck X) (SF X) TD (xo X) (Tf.no rfl) rfl (fun _=>by decide) (fun z=>by cases z) (by walk_at "sl") (aAK )
theorem gI (X:Tx K mg a d v) {k:Nat} (h:42≤k):∃ ad fd ps,Fk P w K mg base (Ew K a f0 z0) (T y) k "_law_low" ad fd ps∧L2.aG K fd ps []:=⟨_,_,_,⟨(QA X).mono h,X.qz4,X.qz3.kp,by decide +kernel⟩,aAS X⟩
theorem GC (X:Tx K mg a d v):Gf P w K mg base (Ew K a f0 z0) (T y) 42 C_l_minus :=
 ⟨ac (gI X (by decide)) (an),an,an,an,an,an,an,an,an,an,an,an,an,an,an,an,an,an,an,an,an,an,an⟩
theorem vL (X:Tx K mg a d v):FO P w K mg base a d 44 26 f0 z0 y ["_law_a","_law_b"] "_law_minus":=by
 rw [FO,wX]; exact aT (T:=T y) X.qz5 FN (ck X) (GC X) HA (xo X) (Tf.no rfl) rfl (fun _=>by decide) (fun z=>by cases z) (by walk_at "sl") (LQ hLT)
theorem NI (X:Tx K mg a d v):Gf P w K mg base (Ew K a f0 z0) (T y) 40 C_l_pick :=
 ⟨an,an,an,an,an,an,an,an,an,an,an,an,an,an,an,an,an,an,an,an,an,an,an⟩
theorem MG (X:Tx K mg a d v):FO P w K mg base a d 42 27 f0 z0 y ["_law_purse_here","_law_many"] "_law_pick":=by
 rw [FO,DP]; exact aT (T:=T y) X.qz7 MO (ck X) (NI X) LK (xo X) (Tf.no rfl) rfl (fun _=>by decide) (fun z=>by cases z) (by walk_at "sl") (SZ )
theorem fM (X:Tx K mg a d v) {k:Nat} (h:42≤k):∃ ad fd ps,Fk P w K mg base (Ew K a f0 z0) (T y) k "_law_pick" ad fd ps∧L2.aG K fd ps []:=⟨_,_,_,⟨(MG X).mono h,X.qz8,X.qz7.kp,by decide +kernel⟩,WZ X⟩
theorem pZ (X:Tx K mg a d v):Gf P w K mg base (Ew K a f0 z0) (T y) 42 C_l_plain_share :=
 ⟨ac (gI X (by decide)) (ac (fM X (by decide)) (an)),an,an,an,an,an,an,an,an,an,an,an,an,an,an,an,an,an,an,an,an,an,an⟩
theorem pC (X:Tx K mg a d v):FO P w K mg base a d 44 28 f0 z0 y ["_law_purse_here"] "_law_plain_share":=by
 rw [FO,jQ]; exact aT (T:=T y) X.qz9 pE (ck X) (pZ X) pU (xo X) (Tf.no rfl) rfl (fun _=>by decide) (fun z=>by cases z) (by walk_at "sl") (sC hLT)
theorem NB (X:Tx K mg a d v):Gf P w K mg base (Ew K a f0 z0) (T y) 42 C_l_plus :=
 ⟨ac (gI X (by decide)) (an),an,an,an,an,an,an,an,an,an,an,an,an,an,an,an,an,an,an,an,an,an,an⟩
theorem xM (X:Tx K mg a d v):FO P w K mg base a d 44 29 f0 z0 y ["_law_a","_law_b"] "_law_plus":=by
 rw [FO,AV]; exact aT (T:=T y) X.qz11 NY (ck X) (NB X) MJ (xo X) (Tf.no rfl) rfl (fun _=>by decide) (fun z=>by cases z) (by walk_at "sl") (PJ hLT)
theorem EV (X:Tx K mg a d v):Gf P w K mg base (Ew K a f0 z0) (T y) 42 C_l_share :=
 ⟨ac (gI X (by decide)) (ac (fM X (by decide)) (an)),an,an,an,an,an,an,an,an,an,an,an,an,an,an,an,an,an,an,an,an,an,an⟩
theorem GS (X:Tx K mg a d v):FO P w K mg base a d 44 30 f0 z0 y ["_law_purse_here"] "_law_share":=by
 rw [FO,wV]; exact aT (T:=T y) X.qz13 HC (ck X) (EV X) GG (xo X) (Tf.no rfl) rfl (fun _=>by decide) (fun z=>by cases z) (by walk_at "sl") (MH hLT)
theorem DF (X:Tx K mg a d v):Gf P w K mg base (Ew K a f0 z0) (T y) 44 C_l_shares :=
 ⟨ac (fM X (by decide)) (ac (⟨_,_,_,⟨(GS X).mono (by decide),X.qz14,X.qz13.kp,by decide +kernel⟩,KF X⟩) (an)),an,an,an,an,ac (⟨X.qz76,⟨"tuple",PyProof.Rows.boot_tuple,jB⟩,by decide +kernel⟩) (an),ac (X.qz75) (ac (X.qz76) (an)),an,an,an,an,an,an,an,an,an,an,an,an,an,an,an,an⟩
theorem AU (X:Tx K mg a d v):FO P w K mg base a d 46 31 f0 z0 y ["_law_purse_here"] "_law_shares":=by
 rw [FO,uI]; exact aT (T:=T y) X.qz15 BO (ck X) (DF X) BI (xo X) (Tf.no rfl) rfl (fun _=>by decide) (fun z=>by cases z) (by walk_at "sl") (EI hLT)
theorem GI (X:Tx K mg a d v):Gf P w K mg base (Ew K a f0 z0) (T y) 42 C_l_times :=
 ⟨ac (gI X (by decide)) (an),an,an,an,an,an,an,an,an,an,an,an,an,an,an,an,an,an,an,an,an,an,an⟩
theorem GB (X:Tx K mg a d v):FO P w K mg base a d 44 32 f0 z0 y ["_law_a","_law_b"] "_law_times":=by
 rw [FO,wW]; exact aT (T:=T y) X.qz17 FY (ck X) (GI X) GW (xo X) (Tf.no rfl) rfl (fun _=>by decide) (fun z=>by cases z) (by walk_at "sl") (MN hLT)
theorem iT (X:Tx K mg a d v) {k:Nat} (h:44≤k):∃ ad fd ps,Fk P w K mg base (Ew K a f0 z0) (T y) k "_law_times" ad fd ps∧L2.aG K fd ps []:=⟨_,_,_,⟨(GB X).mono h,X.qz18,X.qz17.kp,by decide +kernel⟩,ME X⟩
theorem KU (X:Tx K mg a d v):Gf P w K mg base (Ew K a f0 z0) (T y) 46 C_l_bent :=
 ⟨ac (gI X (by decide)) (ac (⟨_,_,_,⟨(vL X).mono (by decide),X.qz6,X.qz5.kp,by decide +kernel⟩,xG X⟩) (ac (fM X (by decide)) (ac (⟨_,_,_,⟨(pC X).mono (by decide),X.qz10,X.qz9.kp,by decide +kernel⟩,rS X⟩) (ac (⟨_,_,_,⟨(xM X).mono (by decide),X.qz12,X.qz11.kp,by decide +kernel⟩,BV X⟩) (ac (⟨_,_,_,⟨(AU X).mono (by decide),X.qz16,X.qz15.kp,by decide +kernel⟩,FP X⟩) (ac (iT X (by decide)) (an))))))),an,an,an,an,ac (⟨X.qz76,⟨"tuple",PyProof.Rows.boot_tuple,jB⟩,by decide +kernel⟩) (an),ac (X.qz75) (ac (X.qz76) (ac (X.qz77) (an))),an,an,an,an,an,an,an,an,an,an,an,an,an,an,an,an⟩
theorem OC (X:Tx K mg a d v):FO P w K mg base a d 48 33 f0 z0 y ["_law_purse_here"] "_law_bent":=by
 rw [FO,CO]; exact aT (T:=T y) X.qz19 OL (ck X) (KU X) MX (xo X) (Tf.no rfl) rfl (fun _=>by decide) (fun z=>by cases z) (by walk_at "sl") (QZ hLT aEp)
theorem LG (X:Tx K mg a d v):Gf P w K mg base (Ew K a f0 z0) (T y) 40 C_l_cell :=
 ⟨an,an,an,an,an,an,ac (X.qz71) (an),an,an,an,an,an,an,an,an,an,an,an,an,an,an,an,an⟩
theorem LS (X:Tx K mg a d v):FO P w K mg base a d 42 34 f0 z0 y ["_law_script","_law_k"] "_law_cell":=by
 rw [FO,DK]; exact aT (T:=T y) X.qz21 NW (ck X) (LG X) NZ (xo X) (Tf.no rfl) rfl (fun _=>by decide) (fun z=>by cases z) (by walk_at "sl") (PY )
theorem WR (X:Tx K mg a d v):Gf P w K mg base (Ew K a f0 z0) (T y) 42 C_l_eye :=
 ⟨ac (fM X (by decide)) (an),an,an,an,an,ac (⟨X.qz76,⟨"tuple",PyProof.Rows.boot_tuple,jB⟩,by decide +kernel⟩) (an),ac (X.qz75) (ac (X.qz76) (an)),an,an,an,an,an,an,an,an,an,an,an,an,an,an,an,an⟩
theorem SM (X:Tx K mg a d v):FO P w K mg base a d 44 35 f0 z0 y ["_law_purse_here"] "_law_eye":=by
 rw [FO,JU]; exact aT (T:=T y) X.qz23 WM (ck X) (WR X) PZ (xo X) (Tf.no rfl) rfl (fun _=>by decide) (fun z=>by cases z) (by walk_at "sl") (aBa hLT)
theorem WG (X:Tx K mg a d v):Gf P w K mg base (Ew K a f0 z0) (T y) 44 C_l_far :=
 ⟨ac (⟨_,_,_,⟨(vL X).mono (by decide),X.qz6,X.qz5.kp,by decide +kernel⟩,xG X⟩) (ac (⟨_,_,_,⟨(xM X).mono (by decide),X.qz12,X.qz11.kp,by decide +kernel⟩,BV X⟩) (ac (iT X (by decide)) (an))),an,an,an,an,an,ac (X.qz75) (an),an,an,an,an,an,an,an,an,an,an,an,an,an,an,an,an⟩
theorem VC (X:Tx K mg a d v):FO P w K mg base a d 46 36 f0 z0 y ["_law_one","_law_mate","_law_seer"] "_law_far":=by
 rw [FO,JP]; exact aT (T:=T y) X.qz25 WJ (ck X) (WG X) VE (xo X) (Tf.no rfl) rfl (fun _=>by decide) (fun z=>by cases z) (by walk_at "sl") (ZC hLT)
theorem wC (X:Tx K mg a d v):Gf P w K mg base (Ew K a f0 z0) (T y) 46 C_l_greatest :=
 ⟨ac (⟨_,_,_,⟨(mZ X).mono (by decide),X.qz2,X.qz1.kp,by decide +kernel⟩,pO X⟩) (ac (⟨_,_,_,⟨(VC X).mono (by decide),X.qz26,X.qz25.kp,by decide +kernel⟩,ZT X⟩) (an)),an,an,an,an,an,ac (X.qz77) (an),an,an,an,an,an,an,an,an,an,an,an,an,an,an,an,an⟩
theorem wI (X:Tx K mg a d v):FO P w K mg base a d 48 37 f0 z0 y ["_law_rows","_law_seer"] "_law_greatest":=by
 rw [FO,nL]; exact aT (T:=T y) X.qz27 wA (ck X) (wC X) wL (xo X) (Tf.no rfl) rfl (fun _=>by decide) (fun z=>by cases z) (by walk_at "sl") (yM hLT aEp)
theorem OB (X:Tx K mg a d v):Gf P w K mg base (Ew K a f0 z0) (T y) 48 C_l_made :=
 ⟨an,ac (⟨"Shade","Shade.__init__",_,_,_,⟨by rw [show (Ew K a f0 z0).cls "Shade"=a 46 from aU]; exact X.qz52,(gL X).mono (by decide),by rw [show (Ew K a f0 z0).cls "Shade"=a 46 from aU]; exact X.qz51,BX hPT,by decide +kernel⟩,iL X⟩) (an),an,an,ac (by rw [oJ]; exact pA X.qz51 aU) (an),an,an,an,an,an,an,an,an,an,an,an,an,an,an,an,an,an,an⟩
theorem OJ (X:Tx K mg a d v):FO P w K mg base a d 50 38 f0 z0 y ["_law_row"] "_law_made":=by
 rw [FO,CQ]; exact aT (T:=T y) X.qz29 LO (ck X) (OB X) NL (xo X) (Tf.no rfl) rfl (fun _=>by decide) (fun z=>by cases z) (by walk_at "sl") (DG hPT)
theorem GF (X:Tx K mg a d v):Gf P w K mg base (Ew K a f0 z0) (T y) 40 C_l_purse :=
 ⟨an,an,an,an,an,ac (⟨X.qz69,⟨"int",PyProof.Rows.boot_int,XF⟩,by decide +kernel⟩) (an),ac (X.qz69) (an),an,an,an,an,an,an,an,an,an,an,an,an,an,an,an,an⟩
theorem EU (X:Tx K mg a d v):FO P w K mg base a d 42 39 f0 z0 y ["_law_cell_here"] "_law_purse":=by
 rw [FO,xI]; exact aT (T:=T y) X.qz31 GP (ck X) (GF X) FJ (xo X) (Tf.no rfl) rfl (fun _=>by decide) (fun z=>by cases z) (by walk_at "sl") (LW )
theorem rV (X:Tx K mg a d v):Gf P w K mg base (Ew K a f0 z0) (T y) 46 C_Shade___eq__ :=
 ⟨ac (⟨_,_,_,⟨(jL X).mono (by decide),X.qu,X.qt.kp,by decide +kernel⟩,kY X⟩) (an),an,an,an,ac (by rw [oJ]; exact pA X.qz51 aU) (an),an,ac (X.qz70) (an),an,an,an,an,an,an,an,an,an,an,an,an,an,an,an,an⟩
theorem rR (X:Tx K mg a d v):FO P w K mg base a d 48 40 f0 z0 y ["self","other"] "Shade.__eq__":=by
 rw [FO,kG]; exact aT (T:=T y) X.qz33 sB (ck X) (rV X) rZ (xo X) (Tf.no rfl) rfl (fun _=>by decide) (fun z=>by cases z) (by walk_at "sl") (uG hPT)
theorem uY (X:Tx K mg a d v):Gf P w K mg base (Ew K a f0 z0) (T y) 40 C_Row___len__ :=
 ⟨an,an,an,an,an,an,ac (X.qz71) (an),an,an,an,an,an,an,an,an,an,an,an,an,an,an,an,an⟩
theorem kB (X:Tx K mg a d v):FO P w K mg base a d 42 41 f0 z0 y ["self"] "Row.__len__":=by
 rw [FO,mH]; exact aT (T:=T y) X.qz35 tN (ck X) (uY X) vK (xo X) (Tf.no rfl) rfl (fun _=>by decide) (fun z=>by cases z) (by walk_at "sl") (wH hPF)
theorem wT (X:Tx K mg a d v):Gf P w K mg base (Ew K a f0 z0) (T y) 40 C_Row_shades :=
 ⟨an,an,an,an,an,ac (⟨X.qz72,⟨"list",PyProof.Rows.boot_list,QV⟩,by decide +kernel⟩) (an),ac (X.qz72) (an),an,an,an,an,an,an,an,an,an,an,an,an,an,an,an,an⟩
theorem mG (X:Tx K mg a d v):FO P w K mg base a d 42 42 f0 z0 y ["self"] "Row.shades":=by
 rw [FO,oH]; exact aT (T:=T y) X.qz37 vR (ck X) (wT X) wR (xo X) (Tf.no rfl) rfl (fun _=>by decide) (fun z=>by cases z) (by walk_at "sl") (zP hPF)
theorem lP (X:Tx K mg a d v):Gf P w K mg base (Ew K a f0 z0) (T y) 54 C_l_straight_right :=
 ⟨ac (⟨_,_,_,⟨(mZ X).mono (by decide),X.qz2,X.qz1.kp,by decide +kernel⟩,pO X⟩) (ac (iT X (by decide)) (ac (⟨_,_,_,⟨(EH X).mono (by decide),X.qG,X.qE.kp,by decide +kernel⟩,VD X⟩) (ac (⟨_,_,_,⟨(eM X).mono (by decide),X.qX,X.qV.kp,by decide +kernel⟩,eY X⟩) (an)))),ac (⟨"Row","Row.__init__",_,_,_,⟨by rw [show (Ew K a f0 z0).cls "Row"=a 45 from bO]; exact X.qz44,(jR X).mono (by decide),by rw [show (Ew K a f0 z0).cls "Row"=a 45 from bO]; exact X.qz43,QE hPF,by decide +kernel⟩,jT X⟩) (an),an,an,ac (by rw [OW]; exact pA X.qz43 bO) (an),an,ac (X.qz66) (ac (X.qz71) (ac (X.qz77) (an))),an,ac (⟨_,_,by rw [show (Ew K a f0 z0).cls "Shade"=a 46 from aU]; exact X.qz53,by rw [show (Ew K a f0 z0).cls "Shade"=a 46 from aU]; exact X.qz34,(rR X).mono (by decide),tX X⟩) (an),an,ac (fun b hb=>by rw [show KG.lookup ("len":Str)=some .len from by decide +kernel] at hb; cases hb; exact ac (⟨_,_,42,"__len__",by decide,rfl,by rw [show (Ew K a f0 z0).cls "Row"=a 45 from bO]; exact X.qz45,by rw [show (Ew K a f0 z0).cls "Row"=a 45 from bO]; exact X.qz36,kB X,lY X⟩) (an)) (an),an,an,an,an,an,an,an,an,an,an,ac (ac (by refine ⟨_,_,_, ?_, ?_,iG X,.inl ((mG X).mono (by decide))⟩ <;> rw [show (Ew K a f0 z0).cls "Row"=a 45 from bO] <;> first | exact X.qz42.cl | exact X.qz38) (an)) (an),ac (ac (by refine ⟨_,_,_, ?_, ?_,iG X,(mG X).mono (by decide)⟩ <;> rw [show (Ew K a f0 z0).cls "Row"=a 45 from bO] <;> first | exact X.qz42.cl | exact X.qz38) (an)) (an)⟩
theorem lU (X:Tx K mg a d v):FO P w K mg base a d 56 43 f0 z0 y ["_law_one","_law_mate","_law_reach","_law_seer"] "_law_straight_right":=by
 rw [FO,gB]; exact aT (T:=T y) X.qz39 lS (ck X) (lP X) lX (xo X) (Tf.no rfl) rfl (fun _=>by decide) (fun z=>by cases z) (by walk_at "sl") (mW hLT hPF)
theorem aCV (X:Tx K mg a d v):Gf P w K mg base (Ew K a f0 z0) (T y) 56 C_law :=
 ⟨ac (⟨_,_,_,⟨(mZ X).mono (by decide),X.qz2,X.qz1.kp,by decide +kernel⟩,pO X⟩) (ac (⟨_,_,_,⟨(OC X).mono (by decide),X.qz20,X.qz19.kp,by decide +kernel⟩,SS X⟩) (ac (⟨_,_,_,⟨(LS X).mono (by decide),X.qz22,X.qz21.kp,by decide +kernel⟩,XS X⟩) (ac (⟨_,_,_,⟨(SM X).mono (by decide),X.qz24,X.qz23.kp,by decide +kernel⟩,aA5 X⟩) (ac (⟨_,_,_,⟨(wI X).mono (by decide),X.qz28,X.qz27.kp,by decide +kernel⟩,AB X⟩) (ac (gI X (by decide)) (ac (⟨_,_,_,⟨(OJ X).mono (by decide),X.qz30,X.qz29.kp,by decide +kernel⟩,WK X⟩) (ac (fM X (by decide)) (ac (⟨_,_,_,⟨(EU X).mono (by decide),X.qz32,X.qz31.kp,by decide +kernel⟩,NT X⟩) (ac (⟨_,_,_,⟨(lU X).mono (by decide),X.qz40,X.qz39.kp,by decide +kernel⟩,mM X⟩) (ac (iT X (by decide)) (ac (⟨_,_,_,⟨(EH X).mono (by decide),X.qG,X.qE.kp,by decide +kernel⟩,VD X⟩) (ac (⟨_,_,_,⟨(eM X).mono (by decide),X.qX,X.qV.kp,by decide +kernel⟩,eY X⟩) (an))))))))))))),ac (⟨"Row","Row.__init__",_,_,_,⟨by rw [show (Ew K a f0 z0).cls "Row"=a 45 from bO]; exact X.qz44,(jR X).mono (by decide),by rw [show (Ew K a f0 z0).cls "Row"=a 45 from bO]; exact X.qz43,QE hPF,by decide +kernel⟩,jT X⟩) (an),an,an,ac (by rw [OW]; exact pA X.qz43 bO) (an),an,ac (X.qz71) (ac (X.qz73) (ac (X.qz74) (ac (X.qz75) (an)))),an,an,an,ac (fun b hb=>by rw [show KG.lookup ("len":Str)=some .len from by decide +kernel] at hb; cases hb; exact ac (⟨_,_,42,"__len__",by decide,rfl,by rw [show (Ew K a f0 z0).cls "Row"=a 45 from bO]; exact X.qz45,by rw [show (Ew K a f0 z0).cls "Row"=a 45 from bO]; exact X.qz36,kB X,lY X⟩) (an)) (an),an,an,an,an,an,an,an,an,an,an,an,an⟩
theorem aEs (X:Tx K mg a d v):FO P w K mg base a d 58 44 f0 z0 y ["_law_script"] "law":=by
 rw [FO,aBg]; exact aT (T:=T y) X.qz41 aCK (ck X) (aCV X) aCL (xo X) (Tf.no rfl) rfl (fun _=>by decide) (fun z=>by cases z) (by walk_at "sl") (aHK hLT hPF aEp)
local macro_rules | `(tactic| walk_at "fm") => `(tactic| (refine ZU (oc := .type "function") (od := none) (osl := #[]) ?_ ?_ ?_ <;> kernel_rfl))
noncomputable def aA (i:Nat):Addr:=([136,150,129,143,206,220,279,258,265,272,330,287,294,301,309,171,316,323,157,164,178,185,338,351,454,426,440,419,468,433,461,473,447,497,405,478,485,504,492,412,227,379,365,509,516,394,247]:List Addr).getD i 0
noncomputable def dA (i:Nat):FuncData:=([fX "common" "common" fV .none zS3 (.ref 135),fX "lowest" "lowest" gJ .none zS3 (.ref 149),fX "is_whole" "is_whole" dQ .none zS3 (.ref 128),fX "is_fraction" "is_fraction" bX .none zS3 (.ref 142),fX "is_share" "is_share" dN .none zS2 (.ref 205),fX "__init__" "Shade.__init__" bD .none zS2 (.ref 219),fX "shade_of" "shade_of" dR .none zS2 (.ref 278),fX "is_shade" "is_shade" dG .none zS2 (.ref 257),fX "need_shade" "need_shade" cA .none zS2 (.ref 264),fX "shares_of" "shares_of" cX .none zS2 (.ref 271),fX "part_way" "part_way" dJ .none zS4 (.ref 329),fX "is_eye" "is_eye" fO .none zS5 (.ref 286),fX "eye_of" "eye_of" fW .none zS5 (.ref 293),fX "gap_between" "gap_between" bW .none zS5 (.ref 300),fX "far" "far" jW (.ref 302) zS5 (.ref 308),fX "less" "less" mO .none zS3 (.ref 170),fX "is_limit" "is_limit" dI .none zS5 (.ref 315),fX "need_limit" "need_limit" cD .none zS5 (.ref 322),fX "need_fractions" "need_fractions" bC .none zS3 (.ref 156),fX "over" "over" mU .none zS3 (.ref 163),fX "root_under" "root_under" cF .none zS3 (.ref 177),fX "root_above" "root_above" cJ .none zS3 (.ref 184),fX "steps_between" "steps_between" bH (.ref 331) zS4 (.ref 337),fX "__init__" "Row.__init__" bN (.ref 346) zS4 (.ref 350),fX "_law_below" "_law_below" eI .none zS0 (.ref 453),fX "_law_low" "_law_low" jH .none zS0 (.ref 425),fX "_law_minus" "_law_minus" eN .none zS0 (.ref 439),fX "_law_pick" "_law_pick" fZ .none zS0 (.ref 418),fX "_law_plain_share" "_law_plain_share" bI .none zS0 (.ref 467),fX "_law_plus" "_law_plus" gD .none zS0 (.ref 432),fX "_law_share" "_law_share" eK .none zS0 (.ref 460),fX "_law_shares" "_law_shares" dH .none zS0 (.ref 472),fX "_law_times" "_law_times" eC .none zS0 (.ref 446),fX "_law_bent" "_law_bent" fS .none zS0 (.ref 496),fX "_law_cell" "_law_cell" fU .none zS0 (.ref 404),fX "_law_eye" "_law_eye" iP .none zS0 (.ref 477),fX "_law_far" "_law_far" iU .none zS0 (.ref 484),fX "_law_greatest" "_law_greatest" cH .none zS0 (.ref 503),fX "_law_made" "_law_made" gC .none zS0 (.ref 491),fX "_law_purse" "_law_purse" eP .none zS0 (.ref 411),fX "__eq__" "Shade.__eq__" bM .none zS2 (.ref 226),fX "__len__" "Row.__len__" bU .none zS4 (.ref 378),fX "shades" "Row.shades" cC .none zS4 (.ref 364),fX "_law_straight_right" "_law_straight_right" aV .none zS0 (.ref 508),fX "law" "law" rK .none zS0 (.ref 515)]:List FuncData).getD i (fX "law" "law" rK .none zS0 (.ref 515))
noncomputable def vA (i:Nat):Value:=([.none,.none,.none,.none,.none,.none,.none,.none,.none,.none,.none,.none,.none,.none,(.ref 302),.none,.none,.none,.none,.none,.none,.none,(.ref 331),(.ref 346),.none,.none,.none,.none,.none,.none,.none,.none,.none,.none,.none,.none,.none,.none,.none,.none,.none,.none,.none,.none,.none]:List Value).getD i .none
theorem tx {w:World} {h:Heap} {mg:Str→Option Value} (X:(K0 w.params).In h) (G:h.Ns mainGlobals mg):Tx (K0 w.params) mg aA dA vA:=by
 refine ⟨by walk_at "fm",
    W.mg_of X G ?_,
    by walk_at "fm",
    W.mg_of X G ?_,
    by walk_at "fm",
    W.mg_of X G ?_,
    by walk_at "fm",
    W.mg_of X G ?_,
    by walk_at "fm",
    W.mg_of X G ?_,
    by walk_at "fm",
    by walk_at "fm",
    W.mg_of X G ?_,
    by walk_at "fm",
    W.mg_of X G ?_,
    by walk_at "fm",
    W.mg_of X G ?_,
    by walk_at "fm",
    W.mg_of X G ?_,
    by walk_at "fm",
    W.mg_of X G ?_,
    by walk_at "fm",
    W.mg_of X G ?_,
    by walk_at "fm",
    W.mg_of X G ?_,
    by walk_at "fm",
    W.mg_of X G ?_,
    by walk_at "fm",
    ⟨302,(.type "tuple"),none,0, #[],rfl, ?_⟩,
    W.mg_of X G ?_,
    by walk_at "fm",
    W.mg_of X G ?_,
    by walk_at "fm",
    W.mg_of X G ?_,
    by walk_at "fm",
    W.mg_of X G ?_,
    by walk_at "fm",
    W.mg_of X G ?_,
    by walk_at "fm",
    W.mg_of X G ?_,
    by walk_at "fm",
    W.mg_of X G ?_,
    by walk_at "fm",
    W.mg_of X G ?_,
    by walk_at "fm",
    ⟨331,(.type "tuple"),none,0, #[],rfl, ?_⟩,
    W.mg_of X G ?_,
    by walk_at "fm",
    ⟨346,(.type "tuple"),none,0, #[],rfl, ?_⟩,
    by walk_at "fm",
    W.mg_of X G ?_,
    by walk_at "fm",
    W.mg_of X G ?_,
    by walk_at "fm",
    W.mg_of X G ?_,
    by walk_at "fm",
    W.mg_of X G ?_,
    by walk_at "fm",
    W.mg_of X G ?_,
    by walk_at "fm",
    W.mg_of X G ?_,
    by walk_at "fm",
    W.mg_of X G ?_,
    by walk_at "fm",
    W.mg_of X G ?_,
    by walk_at "fm",
    W.mg_of X G ?_,
    by walk_at "fm",
    W.mg_of X G ?_,
    by walk_at "fm",
    W.mg_of X G ?_,
    by walk_at "fm",
    W.mg_of X G ?_,
    by walk_at "fm",
    W.mg_of X G ?_,
    by walk_at "fm",
    W.mg_of X G ?_,
    by walk_at "fm",
    W.mg_of X G ?_,
    by walk_at "fm",
    W.mg_of X G ?_,
    by walk_at "fm",
    ⟨?_, ?_, ?_⟩,
    by walk_at "fm",
    ⟨?_, ?_, ?_⟩,
    by walk_at "fm",
    ⟨?_, ?_, ?_⟩,
    by walk_at "fm",
    W.mg_of X G ?_,
    by walk_at "fm",
    W.mg_of X G ?_,
    ⟨⟨?_, ?_, ?_, ?_⟩, ?_, ?_, ?_, ?_⟩,
    W.mg_of X G ?_,
    ⟨?_, ?_, ?_, ?_⟩,
    ⟨?_, ?_, ?_⟩,
    ac (?_) (ac (?_) (ac (?_) (ac (?_) (ac (?_) (ac (?_) (ac (?_) (an))))))),
    ac (?_) (ac (?_) (ac (?_) (ac (?_) (ac (?_) (ac (?_) (an)))))),
    ?_,
    ?_,
    ⟨⟨?_, ?_, ?_, ?_⟩, ?_, ?_, ?_, ?_⟩,
    W.mg_of X G ?_,
    ⟨?_, ?_, ?_, ?_⟩,
    ⟨?_, ?_, ?_⟩,
    ac (?_) (ac (?_) (ac (?_) (ac (?_) (ac (?_) (ac (?_) (ac (?_) (an))))))),
    ac (?_) (ac (?_) (ac (?_) (ac (?_) (ac (?_) (ac (?_) (an)))))),
    ?_,
    ?_,
    ?_,
    ?_,
    ⟨280,538,539,540,0, #[],W.mg_of X G ?_, ?_⟩,
    ⟨281,544,545,0, #[],W.mg_of X G ?_, ?_⟩,
    ⟨282,547,548,0, #[],W.mg_of X G ?_, ?_⟩,
    ⟨542,W.mg_of X G ?_⟩,
    W.mg_none_of X G ?_,
    W.mg_none_of X G ?_,
    W.mg_none_of X G ?_,
    W.mg_none_of X G ?_,
    W.mg_none_of X G ?_,
    W.mg_none_of X G ?_,
    W.mg_none_of X G ?_,
    W.mg_none_of X G ?_,
    W.mg_none_of X G ?_,
    W.mg_none_of X G ?_,
    W.mg_none_of X G ?_,
    W.mg_none_of X G ?_,
    W.mg_none_of X G ?_,
    W.mg_none_of X G ?_⟩
 all_goals first | kernel_rfl | (unfold eA; kernel_rfl)
theorem fin {l:W.OpenLaw} {w:World} {h:Heap} {mg:Str→Option Value} {fa:Addr} (X:(K0 w.params).In h) (G:h.Ns mainGlobals mg) (hfa:mg "law"=some (.ref fa)):∃ fd:FuncData,(∀ (s:Shared) (v:Value),BindsTo s fd ⟨[v],[]⟩ [("_law_script",v)])∧∀ base:Heap,(K0 w.params).In base→base.Ns mainGlobals mg→bP l.prog w (K0 w.params) mg base CX0 58 fa fd ["_law_script"] (II (K0 w.params)):=by
 have T:=tx X G;have e:=hfa.symm.trans T.m_law;obtain rfl:fa=aA 44:=by injection e with e; injection e
 refine ⟨dA 44,fun s v=>.of_eq rfl,fun base _ _=>?_⟩;have ok:=aEs (P:=l.prog) (w:=w) (base:=base) (f0:=fun _=>none) (z0:=fun _=>none) (y:=fun _ _ _ _=>False) T;unfold FO at ok;rw [aBg] at ok;exact ok.imp fun vs H Q E h=>aEN (fun _ _ z=>nomatch z) (fun _ _ z=>z) h
theorem wsd:W.OpenLaw.wellSaid PySem.Challenge.rw_lightshares_k29_whole_no_row_of_fewer=true:=by kernel_rfl
noncomputable abbrev hk0:W.Hook:=W.kHook K0 aK fun _=>rfl
noncomputable def mo0 (P:Params):Obj:=⟨(.type "dict"),none,.dict #[kE P "__name__" 165 zS1,kD P 166,kE P "__package__" 167 .none,kE P "__loader__" 168 (.builtin "__main__.__loader__#opaque"),kE P "__spec__" 169 .none,kE P "__annotations__" 170 (.ref 6),kE P "__builtins__" 171 (.ref 4),kE P "__file__" 173 (.str "/claim/cut.py" 172),kE P "__cached__" 174 .none,kE P "ShadeError" 206 (.ref 24),kE P "NoNumber" 231 (.ref 44),kE P "NoShade" 256 (.ref 63),kE P "NoEye" 281 (.ref 82)] 13, #[]⟩
def M1:=oT []
def M2:=oL [iV 2,iV 0,.ref 20,iV 4,iV 0,.ref 33,iV 9,iV 0,.ref 52,iV 14,iV 0,.ref 71]
def M3:=zOf "<module>" 182 1 0 0 11 12 0 0 0 185
def M4:=oR 13 3 (.str "__main__" 164)
def M5:=oT [.type "ValueError"]
def M6:=oB "type.__prepare__" (.type "type")
def mo7 (P:Params):=oDn [kM P 196,kQ P 198 "ShadeError",kL P 200 2,kT P 201 22] 4
def M8:=oL []
def M9:=zOf "ShadeError" 191 2 0 0 18 19 0 0 0 194
def M10:=oR 20 17 zS1
noncomputable def M11:Obj:=⟨(.type "type"),none,.cls ⟨"ShadeError",[(.type "ValueError")],[(.ref 24),(.type "ValueError"),(.type "Exception"),(.type "BaseException"),(.type "object")],23,"ShadeError",true,[],[(.ref 44),(.ref 63),(.ref 82)],false,none,false⟩, #[(some (.ref 15)),none,(some (.str "ShadeError" 189)),(some (.str "ShadeError" 197)),(some (.builtin "ValueError.__new__")),(some (.bool true))]⟩
noncomputable def M12:Obj:=⟨(.type "getset_descriptor"),none,.fields #[(.str "__weakref__" 202),(.ref 24),(.builtin "ExceptionGroup.__weakref__"),.none], #[]⟩
def M13:=oS 24
def M14:=oB "object.__init_subclass__" (.ref 24)
def M15:=oT [.ref 24]
def aAH (P:Params):=oDn [kM P 214,kQ P 216 "NoNumber",kL P 218 4,kI P 226 41,kT P 228 42] 5
def M17:=oL [iV 6,iV 4,.ref 40]
def M18:=zOf "NoNumber" 209 4 0 0 31 32 0 0 0 212
def M19:=oR 33 30 zS1
def M20:=oT [.str "self" 222,.str "place" 223]
def M21:=oN "__init__" "NoNumber.__init__" (aO (top 2) 0)
def M22:=zXt "__init__" "NoNumber.__init__" 219 6 2 3 35 36 37 38 39 224
def M23:=oF "__init__" "NoNumber.__init__" (aO (top 2) 0) .none zS1 40
def M24:=oT [.str "place" 227]
def M25:=oS 44
def M26:=oB "object.__init_subclass__" (.ref 44)
def aAL (P:Params):=oDn [kM P 239,kQ P 241 "NoShade",kL P 243 9,kI P 251 60,kT P 253 61] 5
def M28:=oL [iV 11,iV 4,.ref 59]
def M29:=zOf "NoShade" 234 9 0 0 50 51 0 0 0 237
def M30:=oR 52 49 zS1
def M31:=oT [.str "self" 247,.str "light" 248]
def M32:=oN "__init__" "NoShade.__init__" (aO (top 3) 0)
def M33:=zXt "__init__" "NoShade.__init__" 244 11 2 3 54 55 56 57 58 249
def M34:=oF "__init__" "NoShade.__init__" (aO (top 3) 0) .none zS1 59
def M35:=oT [.str "light" 252]
def M36:=oS 63
def M37:=oB "object.__init_subclass__" (.ref 63)
def aAd (P:Params):=oDn [kM P 264,kQ P 266 "NoEye",kL P 268 14,kI P 276 79,kT P 278 80] 5
def M39:=oL [iV 16,iV 4,.ref 78]
def M40:=zOf "NoEye" 259 14 0 0 69 70 0 0 0 262
def M41:=oR 71 68 zS1
def M42:=oT [.str "self" 272,.str "eye" 273]
def M43:=oN "__init__" "NoEye.__init__" (aO (top 4) 0)
def M44:=zXt "__init__" "NoEye.__init__" 269 16 2 3 73 74 75 76 77 274
def M45:=oF "__init__" "NoEye.__init__" (aO (top 4) 0) .none zS1 78
def M46:=oT [.str "eye" 277]
def M47:=oS 82
def M48:=oB "object.__init_subclass__" (.ref 82)
noncomputable def aIZ (P:Params):Obj:=⟨(.type "dict"),none,.dict #[kE P "__name__" 165 zS2,kD P 166,kE P "__package__" 167 .none,kE P "__loader__" 168 (.builtin "__main__.__loader__#opaque"),kE P "__spec__" 169 .none,kE P "__annotations__" 170 (.ref 6),kE P "__builtins__" 171 (.ref 4),kE P "__file__" 173 (.str "/claim/cut.py" 172),kE P "__cached__" 174 .none,kE P "ShadeError" 206 (.ref 24),kE P "NoNumber" 231 (.ref 44),kE P "NoShade" 256 (.ref 63),kE P "NoEye" 281 (.ref 82),kE P "NoLimit" 306 (.ref 101),kE P "NoPlace" 331 (.ref 120),kE P "PIECE_FIGURES" 335 (.int 64 334),kE P "PIECE" 339 (.int 10000000000000000000000000000000000000000000000000000000000000000 338),kE P "is_whole" 346 (.ref 129),kE P "common" 354 (.ref 136),kE P "is_fraction" 363 (.ref 143),kE P "lowest" 372 (.ref 150),kE P "need_fractions" 381 (.ref 157),kE P "over" 389 (.ref 164),kE P "less" 397 (.ref 171),kE P "root_under" 406 (.ref 178),kE P "root_above" 416 (.ref 185),kE P "figures" 425 (.ref 192),kE P "written" 432 (.ref 199)] 28, #[]⟩
def M50:=oL [iV 2,iV 0,.ref 20,iV 4,iV 0,.ref 33,iV 9,iV 0,.ref 52,iV 14,iV 0,.ref 71,iV 19,iV 0,.ref 90,iV 24,iV 0,.ref 109,iV 32,iV 0,.ref 128,iV 34,iV 0,.ref 135,iV 38,iV 0,.ref 142,iV 43,iV 0,.ref 149,iV 48,iV 0,.ref 156,iV 52,iV 0,.ref 163,iV 57,iV 0,.ref 170,iV 59,iV 0,.ref 177,iV 68,iV 0,.ref 184,iV 77,iV 0,.ref 191,iV 84,iV 0,.ref 198]
def aDJ (P:Params):=oDn [kM P 289,kQ P 291 "NoLimit",kL P 293 19,kI P 301 98,kT P 303 99] 5
def M52:=oL [iV 21,iV 4,.ref 97]
def M53:=zOf "NoLimit" 284 19 0 0 88 89 0 0 0 287
def M54:=oR 90 87 zS1
def M55:=oT [.str "self" 297,.str "limit" 298]
def M56:=oN "__init__" "NoLimit.__init__" (aO (top 5) 0)
def M57:=zXt "__init__" "NoLimit.__init__" 294 21 2 3 92 93 94 95 96 299
def M58:=oF "__init__" "NoLimit.__init__" (aO (top 5) 0) .none zS1 97
def M59:=oT [.str "limit" 302]
def M60:=oS 101
def M61:=oB "object.__init_subclass__" (.ref 101)
def aE5 (P:Params):=oDn [kM P 314,kQ P 316 "NoPlace",kL P 318 24,kI P 326 117,kT P 328 118] 5
def M63:=oL [iV 26,iV 4,.ref 116]
def M64:=zOf "NoPlace" 309 24 0 0 107 108 0 0 0 312
def M65:=oR 109 106 zS1
def M66:=oT [.str "self" 322,.str "place" 323]
def M67:=oN "__init__" "NoPlace.__init__" (aO (top 6) 0)
def M68:=zXt "__init__" "NoPlace.__init__" 319 26 2 3 111 112 113 114 115 324
def M69:=oF "__init__" "NoPlace.__init__" (aO (top 6) 0) .none zS1 116
def M70:=oT [.str "place" 327]
def M71:=oS 120
def M72:=oB "object.__init_subclass__" (.ref 120)
def M73:=oT [.str "thing" 343]
def M74:=oN "is_whole" "is_whole" dQ
def M75:=oT [.str "one" 350,.str "other" 351]
def M76:=oN "common" "common" fV
def M77:=oT [.str "thing" 358,.str "top" 359,.str "bottom" 360]
def M78:=oN "is_fraction" "is_fraction" bX
def M79:=oT [.str "top" 367,.str "bottom" 368,.str "shared" 369]
def M80:=oN "lowest" "lowest" gJ
def M81:=oT [.str "things" 376,.str "place" 377,.str "thing" 378]
def M82:=oN "need_fractions" "need_fractions" bC
def M83:=oT [.str "one" 385,.str "other" 386]
def M84:=oN "over" "over" mU
def M85:=oT [.str "one" 393,.str "other" 394]
def M86:=oN "less" "less" mO
def M87:=oT [.str "number" 401,.str "guess" 402,.str "nearer" 403]
def M88:=oN "root_under" "root_under" cF
def M89:=oT [.str "one" 410,.str "top" 411,.str "bottom" 412,.str "under" 413]
def M90:=oN "root_above" "root_above" cJ
def M91:=oT [.str "number" 420,.str "pieces" 421,.str "piece" 422]
def M92:=oN "figures" "figures" (top 19)
def M93:=zOt "figures" 417 77 1 3 186 187 188 189 190 423
def M94:=oF "figures" "figures" (top 19) .none zS3 191
def M95:=oT [.str "one" 429]
def M96:=oN "written" "written" (top 20)
def M97:=zOt "written" 426 84 1 3 193 194 195 196 197 430
def M98:=oF "written" "written" (top 20) .none zS3 198
noncomputable def aIw (P:Params):Obj:=⟨(.type "dict"),none,.dict #[kE P "__name__" 165 zS4,kD P 166,kE P "__package__" 167 .none,kE P "__loader__" 168 (.builtin "__main__.__loader__#opaque"),kE P "__spec__" 169 .none,kE P "__annotations__" 170 (.ref 6),kE P "__builtins__" 171 (.ref 4),kE P "__file__" 173 (.str "/claim/cut.py" 172),kE P "__cached__" 174 .none,kE P "ShadeError" 206 (.ref 24),kE P "NoNumber" 231 (.ref 44),kE P "NoShade" 256 (.ref 63),kE P "NoEye" 281 (.ref 82),kE P "NoLimit" 306 (.ref 101),kE P "NoPlace" 331 (.ref 120),kE P "PIECE_FIGURES" 335 (.int 64 334),kE P "PIECE" 339 (.int 10000000000000000000000000000000000000000000000000000000000000000 338),kE P "is_whole" 346 (.ref 129),kE P "common" 354 (.ref 136),kE P "is_fraction" 363 (.ref 143),kE P "lowest" 372 (.ref 150),kE P "need_fractions" 381 (.ref 157),kE P "over" 389 (.ref 164),kE P "less" 397 (.ref 171),kE P "root_under" 406 (.ref 178),kE P "root_above" 416 (.ref 185),kE P "figures" 425 (.ref 192),kE P "written" 432 (.ref 199),kE P "is_share" 441 (.ref 206),kE P "Shade" 504 (.ref 247),kE P "is_shade" 511 (.ref 258),kE P "need_shade" 518 (.ref 265),kE P "shares_of" 525 (.ref 272),kE P "shade_of" 535 (.ref 279),kE P "EVEN_EYE" 541 (.ref 280),kE P "MOST_OF_EYE" 543 (.int 99 542),kE P "LEAST_LIMIT" 546 (.ref 281),kE P "MOST_LIMIT" 549 (.ref 282),kE P "is_eye" 555 (.ref 287),kE P "eye_of" 562 (.ref 294),kE P "gap_between" 578 (.ref 301),kE P "far" 589 (.ref 309),kE P "is_limit" 596 (.ref 316),kE P "need_limit" 603 (.ref 323),kE P "part_way" 618 (.ref 330),kE P "steps_between" 628 (.ref 338),kE P "Row" 699 (.ref 394)] 47, #[]⟩
def aIH:=oL [iV 2,iV 0,.ref 20,iV 4,iV 0,.ref 33,iV 9,iV 0,.ref 52,iV 14,iV 0,.ref 71,iV 19,iV 0,.ref 90,iV 24,iV 0,.ref 109,iV 32,iV 0,.ref 128,iV 34,iV 0,.ref 135,iV 38,iV 0,.ref 142,iV 43,iV 0,.ref 149,iV 48,iV 0,.ref 156,iV 52,iV 0,.ref 163,iV 57,iV 0,.ref 170,iV 59,iV 0,.ref 177,iV 68,iV 0,.ref 184,iV 77,iV 0,.ref 191,iV 84,iV 0,.ref 198,iV 89,iV 0,.ref 205,iV 91,iV 0,.ref 212,iV 112,iV 0,.ref 257,iV 114,iV 0,.ref 264,iV 117,iV 0,.ref 271,iV 120,iV 0,.ref 278,iV 128,iV 0,.ref 286,iV 132,iV 0,.ref 293,iV 138,iV 0,.ref 300,iV 147,iV 0,.ref 308,iV 152,iV 0,.ref 315,iV 154,iV 0,.ref 322,iV 158,iV 0,.ref 329,iV 164,iV 0,.ref 337,iV 169,iV 0,.ref 344]
def aH7:=oT [.str "thing" 438]
def aFG:=oN "is_share" "is_share" dN
def aBv (P:Params):=oDn [kE P "__module__" 449 zS2,kQ P 451 "Shade",kL P 453 91,kI P 465 220,kE P "__eq__" 473 (.ref 227),kE P "__len__" 479 (.ref 232),kE P "__str__" 485 (.ref 237),kE P "__repr__" 492 (.ref 244),kT P 496 245] 9
def aFd:=oL [iV 93,iV 4,.ref 219,iV 101,iV 4,.ref 226,iV 104,iV 4,.ref 231,iV 107,iV 4,.ref 236,iV 110,iV 4,.ref 243]
def aFB:=zOf "Shade" 444 91 0 0 210 211 0 0 0 447
def aFf:=oR 212 209 zS2
def aFF:=oT [.str "self" 457,.str "ember" 458,.str "leaf" 459,.str "sky" 460,.str "light" 461,.str "share" 462]
def aGq:=oN "__init__" "Shade.__init__" bD
def aFk:=oT [.str "self" 469,.str "other" 470]
def aG9:=oN "__eq__" "Shade.__eq__" bM
def aIm:=oN "__len__" "Shade.__len__" (aO (top 23) 2)
def aF0:=zXt "__len__" "Shade.__len__" 474 104 1 3 228 229 0 0 230 477
def aH9:=oF "__len__" "Shade.__len__" (aO (top 23) 2) .none zS2 231
def aGQ:=oN "__str__" "Shade.__str__" (aO (top 23) 3)
def aHo:=zXt "__str__" "Shade.__str__" 480 107 1 3 233 234 0 0 235 483
def aFt:=oF "__str__" "Shade.__str__" (aO (top 23) 3) .none zS2 236
def aGw:=oT [.str "self" 489]
def aIh:=oN "__repr__" "Shade.__repr__" (aO (top 23) 4)
def aHh:=zXt "__repr__" "Shade.__repr__" 486 110 1 3 238 239 240 241 242 490
def aHi:=oF "__repr__" "Shade.__repr__" (aO (top 23) 4) .none zS2 243
def aHw:=oT [.str "ember" 493,.str "leaf" 494,.str "sky" 495]
noncomputable def aGo:Obj:=⟨(.type "getset_descriptor"),none,.fields #[(.str "__dict__" 497),(.ref 247),(.builtin "function.__dict__"),(.builtin "function.__dict__#set")], #[]⟩
noncomputable def aIl:Obj:=⟨(.type "getset_descriptor"),none,.fields #[(.str "__weakref__" 499),(.ref 247),(.builtin "ExceptionGroup.__weakref__"),.none], #[]⟩
def aFp:=oS 247
def aFy:=oB "object.__init_subclass__" (.ref 247)
def aIb:=oT [.str "thing" 508]
def aGR:=oN "is_shade" "is_shade" dG
def aFn:=oT [.str "thing" 515]
def aHH:=oN "need_shade" "need_shade" cA
def aGH:=oT [.str "shade" 522]
def aFv:=oN "shares_of" "shares_of" cX
def aGI:=oT [.str "shares" 529,.str "ember" 530,.str "leaf" 531,.str "sky" 532]
def aG5:=oN "shade_of" "shade_of" dR
def aHd:=oN "is_eye" "is_eye" fO
def aHP:=oT [.str "eye" 559]
def aFI:=oN "eye_of" "eye_of" fW
def aF8:=oT [.str "shade" 566,.str "other" 567,.str "eye" 568,.str "top" 569,.str "bottom" 570,.str "one" 571,.str "two" 572,.str "many" 573,.str "lack" 574,.str "under" 575]
def aGs:=oN "gap_between" "gap_between" bW
def aFs:=oT [.str "shade" 582,.str "other" 583,.str "eye" 584,.str "top" 585,.str "bottom" 586]
def aGV:=oN "far" "far" jW
def aHT:=oT [.str "thing" 593]
def aHg:=oN "is_limit" "is_limit" dI
def aG3:=oT [.str "thing" 600]
def aHF:=oN "need_limit" "need_limit" cD
def aH8:=oT [.str "shade" 609,.str "other" 610,.str "part" 611,.str "shares" 612,.str "one" 613,.str "two" 614,.str "top" 615]
def aIn:=oN "part_way" "part_way" dJ
def aGv:=oT [.str "shade" 622,.str "other" 623,.str "limit" 624,.str "eye" 625]
def aFw:=oN "steps_between" "steps_between" bH
def aBK (P:Params):=oDn [kE P "__module__" 636 zS4,kQ P 638 "Row",kL P 640 169,kI P 646 351,kE P "at" 654 (.ref 358),kE P "shades" 661 (.ref 365),kE P "__eq__" 669 (.ref 372),kE P "__len__" 676 (.ref 379),kE P "__str__" 682 (.ref 384),kE P "__repr__" 689 (.ref 391),kT P 691 392] 11
def aFX:=oL [iV 171,iV 4,.ref 350,iV 176,iV 4,.ref 357,iV 181,iV 4,.ref 364,iV 184,iV 4,.ref 371,iV 187,iV 4,.ref 378,iV 190,iV 4,.ref 383,iV 193,iV 4,.ref 390]
def aHe:=zOf "Row" 631 169 0 0 342 343 0 0 0 634
def aH6:=oR 344 341 zS4
def aHl:=oN "__init__" "Row.__init__" bN
def aFQ:=oT [.str "self" 650,.str "place" 651]
def aFi:=oN "at" "Row.at" (aO (top 42) 1)
def aHE:=zXt "at" "Row.at" 647 176 2 3 352 353 354 355 356 652
def aFe:=oF "at" "Row.at" (aO (top 42) 1) .none zS4 357
def aGM:=oT [.str "self" 658]
def aF2:=oN "shades" "Row.shades" cC
def aHZ:=oT [.str "self" 665,.str "other" 666]
def aH0:=oN "__eq__" "Row.__eq__" (aO (top 42) 3)
def aHO:=zXt "__eq__" "Row.__eq__" 662 184 2 3 366 367 368 369 370 667
def aHm:=oF "__eq__" "Row.__eq__" (aO (top 42) 3) .none zS4 371
def aFO:=oT [.str "self" 673]
def aFE:=oN "__len__" "Row.__len__" bU
def aG7:=oN "__str__" "Row.__str__" (aO (top 42) 5)
def aF5:=zXt "__str__" "Row.__str__" 677 190 1 3 380 381 0 0 382 680
def aHU:=oF "__str__" "Row.__str__" (aO (top 42) 5) .none zS4 383
def aGB:=oT [.str "self" 686]
def aHW:=oN "__repr__" "Row.__repr__" (aO (top 42) 6)
def aHb:=zXt "__repr__" "Row.__repr__" 683 193 1 3 385 386 387 388 389 687
def aHS:=oF "__repr__" "Row.__repr__" (aO (top 42) 6) .none zS4 390
def aGd:=oT [.str "stations" 690]
noncomputable def aFN:Obj:=⟨(.type "getset_descriptor"),none,.fields #[(.str "__dict__" 692),(.ref 394),(.builtin "function.__dict__"),(.builtin "function.__dict__#set")], #[]⟩
noncomputable def aGt:Obj:=⟨(.type "getset_descriptor"),none,.fields #[(.str "__weakref__" 694),(.ref 394),(.builtin "ExceptionGroup.__weakref__"),.none], #[]⟩
def aHk:=oS 394
def aIo:=oB "object.__init_subclass__" (.ref 394)
def aJJ:=oL [iV 2,iV 0,.ref 20,iV 4,iV 0,.ref 33,iV 9,iV 0,.ref 52,iV 14,iV 0,.ref 71,iV 19,iV 0,.ref 90,iV 24,iV 0,.ref 109,iV 32,iV 0,.ref 128,iV 34,iV 0,.ref 135,iV 38,iV 0,.ref 142,iV 43,iV 0,.ref 149,iV 48,iV 0,.ref 156,iV 52,iV 0,.ref 163,iV 57,iV 0,.ref 170,iV 59,iV 0,.ref 177,iV 68,iV 0,.ref 184,iV 77,iV 0,.ref 191,iV 84,iV 0,.ref 198,iV 89,iV 0,.ref 205,iV 91,iV 0,.ref 212,iV 112,iV 0,.ref 257,iV 114,iV 0,.ref 264,iV 117,iV 0,.ref 271,iV 120,iV 0,.ref 278,iV 128,iV 0,.ref 286,iV 132,iV 0,.ref 293,iV 138,iV 0,.ref 300,iV 147,iV 0,.ref 308,iV 152,iV 0,.ref 315,iV 154,iV 0,.ref 322,iV 158,iV 0,.ref 329,iV 164,iV 0,.ref 337,iV 169,iV 0,.ref 344,iV 196,iV 0,.ref 404,iV 203,iV 0,.ref 411,iV 205,iV 0,.ref 418,iV 214,iV 0,.ref 425,iV 221,iV 0,.ref 432,iV 223,iV 0,.ref 439,iV 225,iV 0,.ref 446,iV 227,iV 0,.ref 453,iV 229,iV 0,.ref 460,iV 233,iV 0,.ref 467,iV 235,iV 0,.ref 472,iV 243,iV 0,.ref 477,iV 246,iV 0,.ref 484,iV 252,iV 0,.ref 491,iV 254,iV 0,.ref 496,iV 268,iV 0,.ref 503,iV 275,iV 0,.ref 508,iV 287,iV 0,.ref 515]
def aI7:=oT [.str "_law_script" 705,.str "_law_k" 706,.str "_law_state" 707,.str "_law_cell_here" 708]
def aJv:=oN "_law_cell" "_law_cell" fU
def aJx:=oT [.str "_law_cell_here" 715]
def aIU:=oN "_law_purse" "_law_purse" eP
def aJl:=oT [.str "_law_purse_here" 722,.str "_law_many" 723,.str "_law_state" 724,.str "_law_taken" 725]
def aJe:=oN "_law_pick" "_law_pick" fZ
def aIt:=oT [.str "_law_top" 732,.str "_law_bottom" 733,.str "_law_one" 734,.str "_law_mate" 735]
def aIN:=oN "_law_low" "_law_low" jH
def aIG:=oT [.str "_law_a" 742,.str "_law_b" 743]
def aJN:=oN "_law_plus" "_law_plus" gD
def aJm:=oT [.str "_law_a" 750,.str "_law_b" 751]
def aJa:=oN "_law_minus" "_law_minus" eN
def aJd:=oT [.str "_law_a" 758,.str "_law_b" 759]
def aI1:=oN "_law_times" "_law_times" eC
def aJE:=oT [.str "_law_a" 766,.str "_law_b" 767]
def aJi:=oN "_law_below" "_law_below" eI
def aI4:=oT [.str "_law_purse_here" 774,.str "_law_mode" 775,.str "_law_bottom" 776]
def aJC:=oN "_law_share" "_law_share" eK
def aI9:=oT [.str "_law_purse_here" 783]
def aIu:=oN "_law_plain_share" "_law_plain_share" bI
def aJf:=oN "_law_shares" "_law_shares" dH
def aJr:=oN "_law_eye" "_law_eye" iP
def aI3:=oT [.str "_law_one" 802,.str "_law_mate" 803,.str "_law_seer" 804,.str "_law_found" 805,.str "_law_light" 806,.str "_law_apart" 807]
def aI2:=oN "_law_far" "_law_far" iU
def aJs:=oT [.str "_law_row" 814]
def aJR:=oN "_law_made" "_law_made" gC
def aIW:=oN "_law_bent" "_law_bent" fS
def aJy:=oT [.str "_law_rows" 827,.str "_law_seer" 828,.str "_law_found" 829,.str "_law_one" 830,.str "_law_mate" 831,.str "_law_apart" 832]
def aIy:=oN "_law_greatest" "_law_greatest" cH
def aJc:=oN "_law_straight_right" "_law_straight_right" aV
def aIO:=oT [.str "_law_script" 845,.str "_law_k" 846,.str "_law_purse_here" 847,.str "_law_seer" 848,.str "_law_rows" 849,.str "_law_reach" 850,.str "_law_one" 851,.str "_law_mate" 852,.str "_law_wider" 853,.str "_law_many" 854,.str "_law_step" 855]
def aJI:=oN "law" "law" rK
noncomputable abbrev pW:Program:=PySem.Challenge.pw_lightshares_k29_whole_no_row_of_fewer
noncomputable abbrev bdy:List Stmt:=W.behindTheImports pW
noncomputable abbrev env0:Env:={ scope:=pW.main.scope,locals:=mainNs,globals:=mainNs,cells:=[],code:=(.ref 13),frame:=some 14 }
noncomputable abbrev cE0:Code:=.body bdy env0
noncomputable abbrev B0:List Frame:=[W.topFrame ⟨0,0,0,0⟩]
noncomputable abbrev S0 (w:World) (os:OsState):Shared:=⟨W.boot_heap w.params,Array.mk [],W.boot_drawn,W.boot_toks,os⟩
theorem aI6:∀ w:World,(W.fencedOpening treeTable pW w 7284).map (fun s=>(s.heap,s.gens,s.drawn,s.toks))=some (W.boot_heap w.params,Array.mk [],W.boot_drawn,W.boot_toks):=W.boot_open (by rfl) (by decide) (fun _=>by rfl)
theorem aIF:∀ w:World,((W.boot_heap w.params).isNs mainGlobals && (Array.mk []:Array GenState).size == 0,(W.boot_heap w.params).objs.size,(W.boot_heap w.params).nsMap mainGlobals "__annotations__")=(true,11,(some (.ref 6))):=by
 intro w;kernel_rfl
noncomputable def Sa (w:World) (os:OsState):Shared:=aGT (W.topGo treeTable pW w 11 (some (.ref 6)) 12 (S0 w os) (W.topStub pW)) (S0 w os)
theorem aIf:∀ (w:World) (os:OsState),W.topGo treeTable pW w 11 (some (.ref 6)) 12 (S0 w os) (W.topStub pW)=some (Sa w os,⟨denote treeTable cE0,cE0,⟨0,0,0,0⟩,B0⟩):=by
 intro w os;kernel_rfl
noncomputable def Sb (w:World) (os:OsState):Shared:=aGb (W.segRun treeTable pW w 11 (some (.ref 6)) 1 1 (Sa w os) (W.blockOf bdy env0 cE0 ⟨0,0,0,0⟩ B0)) (S0 w os)
theorem aGZ:∀ (w:World) (os:OsState),W.segRun treeTable pW w 11 (some (.ref 6)) 1 1 (Sa w os) (W.blockOf bdy env0 cE0 ⟨0,0,0,0⟩ B0)=some (.next,Sb w os,cE0,⟨0,0,0,0⟩):=by
 intro w os;kernel_rfl
def hm0 (P:Params):Heap:=⟨#[W.boot_o_0 P,W.boot_o_1 P,W.boot_o_2 P,mo0 P,W.boot_o_4 P,W.boot_o_5 P,W.boot_o_6 P,W.boot_o_7 P,W.boot_o_8 P,W.boot_o_9 P,W.boot_o_10 P,M1,M2,M3,M4,M5,M6,mo7 P,M1,M8,M9,M10,M1,OO P,M11,M12,M13,M14,M15,M6,aAH P,M1,M17,M18,M19,M1,M8,M20,M1,M21,M22,M23,M24,XY P,TY,M25,M26,M15,M6,aAL P,M1,M28,M29,M30,M1,M8,M31,M1,M32,M33,M34,M35,VV P,XM,M36,M37,M15,M6,aAd P,M1,M39,M40,M41,M1,M8,M42,M1,M43,M44,M45,M46,RB P,SU,M47,M48],(W.boot_heap P).life⟩
noncomputable abbrev Sm0 (w:World) (os:OsState):Shared:=⟨hm0 w.params,Array.mk [],W.boot_drawn,282,os⟩
noncomputable abbrev l0:List Stmt:=bdy.take 5
noncomputable abbrev r0:List Stmt:=bdy.drop 5
theorem aIv:∀ (w:World),∀ os:OsState,W.segRun treeTable pW w 11 (some (.ref 6)) 1 931 (Sb w os) (W.piecesOf l0 env0 cE0 ⟨0,0,0,0⟩ B0)=some (.next,Sm0 w os,cE0,⟨14,0,18,22⟩):=by
 intro w os;kernel_rfl
def hm1 (P:Params):Heap:=⟨#[W.boot_o_0 P,W.boot_o_1 P,W.boot_o_2 P,aIZ P,W.boot_o_4 P,W.boot_o_5 P,W.boot_o_6 P,W.boot_o_7 P,W.boot_o_8 P,W.boot_o_9 P,W.boot_o_10 P,M1,M50,M3,M4,M5,M6,mo7 P,M1,M8,M9,M10,M1,OO P,YN,M12,M13,M14,M15,M6,aAH P,M1,M17,M18,M19,M1,M8,M20,M1,M21,M22,M23,M24,XY P,TY,M25,M26,M15,M6,aAL P,M1,M28,M29,M30,M1,M8,M31,M1,M32,M33,M34,M35,VV P,XM,M36,M37,M15,M6,aAd P,M1,M39,M40,M41,M1,M8,M42,M1,M43,M44,M45,M46,RB P,SU,M47,M48,M15,M6,aDJ P,M1,M52,M53,M54,M1,M8,M55,M1,M56,M57,M58,M59,JB P,HM,M60,M61,M15,M6,aE5 P,M1,M63,M64,M65,M1,M8,M66,M1,M67,M68,M69,M70,JC P,HN,M71,M72,M1,M8,M73,M1,M74,HS,IH,M1,M8,M75,M1,M76,IB,HP,M1,M8,M77,M1,M78,JL,IW,M1,M8,M79,M1,M80,IE,IF,M1,M8,M81,M1,M82,IT,JH,M1,M8,M83,M1,M84,IM,IP,M1,M8,M85,M1,M86,HQ,HH,M1,M8,M87,M1,M88,JY,HK,M1,M8,M89,M1,M90,JX,IV,M1,M8,M91,M1,M92,M93,M94,M1,M8,M95,M1,M96,M97,M98],(W.boot_heap P).life⟩
noncomputable abbrev Sm1 (w:World) (os:OsState):Shared:=⟨hm1 w.params,Array.mk [],W.boot_drawn,435,os⟩
noncomputable abbrev l1:List Stmt:=r0.take 17
noncomputable abbrev r1:List Stmt:=r0.drop 17
theorem aJQ:∀ (w:World),∀ os:OsState,W.segRun treeTable pW w 11 (some (.ref 6)) 1 868 (Sm0 w os) (W.piecesOf l1 env0 cE0 ⟨14,0,18,22⟩ B0)=some (.next,Sm1 w os,cE0,⟨88,0,88,8⟩):=by
 intro w os;kernel_rfl
def hm2 (P:Params):Heap:=⟨#[W.boot_o_0 P,W.boot_o_1 P,W.boot_o_2 P,aIw P,W.boot_o_4 P,W.boot_o_5 P,W.boot_o_6 P,W.boot_o_7 P,W.boot_o_8 P,W.boot_o_9 P,W.boot_o_10 P,M1,aIH,M3,M4,M5,M6,mo7 P,M1,M8,M9,M10,M1,OO P,YN,M12,M13,M14,M15,M6,aAH P,M1,M17,M18,M19,M1,M8,M20,M1,M21,M22,M23,M24,XY P,TY,M25,M26,M15,M6,aAL P,M1,M28,M29,M30,M1,M8,M31,M1,M32,M33,M34,M35,VV P,XM,M36,M37,M15,M6,aAd P,M1,M39,M40,M41,M1,M8,M42,M1,M43,M44,M45,M46,RB P,SU,M47,M48,M15,M6,aDJ P,M1,M52,M53,M54,M1,M8,M55,M1,M56,M57,M58,M59,JB P,HM,M60,M61,M15,M6,aE5 P,M1,M63,M64,M65,M1,M8,M66,M1,M67,M68,M69,M70,JC P,HN,M71,M72,M1,M8,M73,M1,M74,HS,IH,M1,M8,M75,M1,M76,IB,HP,M1,M8,M77,M1,M78,JL,IW,M1,M8,M79,M1,M80,IE,IF,M1,M8,M81,M1,M82,IT,JH,M1,M8,M83,M1,M84,IM,IP,M1,M8,M85,M1,M86,HQ,HH,M1,M8,M87,M1,M88,JY,HK,M1,M8,M89,M1,M90,JX,IV,M1,M8,M91,M1,M92,M93,M94,M1,M8,M95,M1,M96,M97,M98,M1,M8,aH7,M1,aFG,UD,TN,M1,M6,aBv P,M1,aFd,aFB,aFf,M1,M8,aFF,M1,aGq,TQ,VI,M1,M8,aFk,M1,aG9,VP,UQ,M1,M8,aIm,aF0,aH9,M1,M8,aGQ,aHo,aFt,M1,M8,aGw,M1,aIh,aHh,aHi,aHw,UI P,VR,aGo,aIl,aFp,aFy,M1,M8,aIb,M1,aGR,PD,WP,M1,M8,aFn,M1,aHH,UE,QU,M1,M8,aGH,M1,aFv,WC,QY,M1,M8,aGI,M1,aG5,RZ,TU,SX,TF,WA,M1,M8,aHd,UX,QM,M1,M8,aHP,M1,aFI,OZ,XX,M1,M8,aF8,M1,aGs,RT,OR,tH,M1,M8,aFs,M1,aGV,VX,TK,M1,M8,aHT,M1,aHg,VG,VZ,M1,M8,aG3,M1,aHF,QQ,UY,M1,M8,aH8,M1,aIn,QO,WE,tH,M1,M8,aGv,M1,aFw,OQ,WB,M1,M6,aBK P,M1,aFX,aHe,aH6,tH,M1,M8,aHl,RH,PL,M1,M8,aFQ,M1,aFi,aHE,aFe,M1,M8,aGM,M1,aF2,VL,QH,M1,M8,aHZ,M1,aH0,aHO,aHm,M1,M8,aFO,M1,aFE,UK,QT,M1,M8,aG7,aF5,aHU,M1,M8,aGB,M1,aHW,aHb,aHS,aGd,RM P,WD,aFN,aGt,aHk,aIo],(W.boot_heap P).life⟩
noncomputable abbrev Sm2 (w:World) (os:OsState):Shared:=⟨hm2 w.params,Array.mk [],W.boot_drawn,700,os⟩
noncomputable abbrev l2:List Stmt:=r1.take 21
noncomputable abbrev r2:List Stmt:=r1.drop 21
theorem aJz:∀ (w:World),∀ os:OsState,W.segRun treeTable pW w 11 (some (.ref 6)) 1 1229 (Sm1 w os) (W.piecesOf l2 env0 cE0 ⟨88,0,88,8⟩ B0)=some (.next,Sm2 w os,cE0,⟨169,0,194,34⟩):=by
 intro w os;kernel_rfl
def hm3 (P:Params):Heap:=⟨#[W.boot_o_0 P,W.boot_o_1 P,W.boot_o_2 P,ko3 P,W.boot_o_4 P,W.boot_o_5 P,W.boot_o_6 P,W.boot_o_7 P,W.boot_o_8 P,W.boot_o_9 P,W.boot_o_10 P,M1,aJJ,M3,M4,M5,M6,mo7 P,M1,M8,M9,M10,M1,OO P,YN,M12,M13,M14,M15,M6,aAH P,M1,M17,M18,M19,M1,M8,M20,M1,M21,M22,M23,M24,XY P,TY,M25,M26,M15,M6,aAL P,M1,M28,M29,M30,M1,M8,M31,M1,M32,M33,M34,M35,VV P,XM,M36,M37,M15,M6,aAd P,M1,M39,M40,M41,M1,M8,M42,M1,M43,M44,M45,M46,RB P,SU,M47,M48,M15,M6,aDJ P,M1,M52,M53,M54,M1,M8,M55,M1,M56,M57,M58,M59,JB P,HM,M60,M61,M15,M6,aE5 P,M1,M63,M64,M65,M1,M8,M66,M1,M67,M68,M69,M70,JC P,HN,M71,M72,M1,M8,M73,M1,M74,HS,IH,M1,M8,M75,M1,M76,IB,HP,M1,M8,M77,M1,M78,JL,IW,M1,M8,M79,M1,M80,IE,IF,M1,M8,M81,M1,M82,IT,JH,M1,M8,M83,M1,M84,IM,IP,M1,M8,M85,M1,M86,HQ,HH,M1,M8,M87,M1,M88,JY,HK,M1,M8,M89,M1,M90,JX,IV,M1,M8,M91,M1,M92,M93,M94,M1,M8,M95,M1,M96,M97,M98,M1,M8,aH7,M1,aFG,UD,TN,M1,M6,aBv P,M1,aFd,aFB,aFf,M1,M8,aFF,M1,aGq,TQ,VI,M1,M8,aFk,M1,aG9,VP,UQ,M1,M8,aIm,aF0,aH9,M1,M8,aGQ,aHo,aFt,M1,M8,aGw,M1,aIh,aHh,aHi,aHw,UI P,VR,aGo,aIl,aFp,aFy,M1,M8,aIb,M1,aGR,PD,WP,M1,M8,aFn,M1,aHH,UE,QU,M1,M8,aGH,M1,aFv,WC,QY,M1,M8,aGI,M1,aG5,RZ,TU,SX,TF,WA,M1,M8,aHd,UX,QM,M1,M8,aHP,M1,aFI,OZ,XX,M1,M8,aF8,M1,aGs,RT,OR,tH,M1,M8,aFs,M1,aGV,VX,TK,M1,M8,aHT,M1,aHg,VG,VZ,M1,M8,aG3,M1,aHF,QQ,UY,M1,M8,aH8,M1,aIn,QO,WE,tH,M1,M8,aGv,M1,aFw,OQ,WB,M1,M6,aBK P,M1,aFX,aHe,aH6,tH,M1,M8,aHl,RH,PL,M1,M8,aFQ,M1,aFi,aHE,aFe,M1,M8,aGM,M1,aF2,VL,QH,M1,M8,aHZ,M1,aH0,aHO,aHm,M1,M8,aFO,M1,aFE,UK,QT,M1,M8,aG7,aF5,aHU,M1,M8,aGB,M1,aHW,aHb,aHS,aGd,RM P,WD,aFN,aGt,aHk,aIo,M1,M8,aI7,M1,aJv,aBw,aBo,M1,M8,aJx,M1,aIU,aB5,aCb,M1,M8,aJl,M1,aJe,aBm,aB0,M1,M8,aIt,M1,aIN,aB9,aBA,M1,M8,aIG,M1,aJN,aBq,aBx,M1,M8,aJm,M1,aJa,aBX,aBM,M1,M8,aJd,M1,aI1,aBB,aBQ,M1,M8,aJE,M1,aJi,aBn,aBW,M1,M8,aI4,M1,aJC,aBU,aBC,M1,M8,aI9,M1,aIu,aBF,aBt,M1,M8,aJf,aB1,aB2,M1,M8,aJr,aBP,aBc,M1,M8,aI3,M1,aI2,aCf,aBZ,M1,M8,aJs,M1,aJR,aBJ,aBT,M1,M8,aIW,aBe,aBS,M1,M8,aJy,M1,aIy,aBI,aBR,M1,M8,aJc,aBf,aBu,M1,M8,aIO,M1,aJI,aCh,aCg],(W.boot_heap P).life⟩
noncomputable abbrev Sm3 (w:World) (os:OsState):Shared:=⟨hm3 w.params,Array.mk [],W.boot_drawn,859,os⟩
noncomputable abbrev l3:List Stmt:=r2.take 19
noncomputable abbrev r3:List Stmt:=r2.drop 19
theorem aJD:∀ (w:World),∀ os:OsState,W.segRun treeTable pW w 11 (some (.ref 6)) 1 555 (Sm2 w os) (W.piecesOf l3 env0 cE0 ⟨169,0,194,34⟩ B0)=some (.next,Sm3 w os,cE0,⟨287,0,308,15⟩):=by
 intro w os;kernel_rfl
theorem aHs:∀ (w:World) (os:OsState),(W.topRun treeTable pW w 11 (some (.ref 6)) 21 (Sm3 w os) (W.restOf r3 env0 cE0 ⟨287,0,308,15⟩ B0)).map (fun s₁=>(W.staticsOk (importedModules pW.main.body) (W.boot_heap w.params) s₁.heap && W.namesBound pW s₁.heap && W.gensDone s₁ && W.laidKept (W.boot_heap w.params) s₁.heap,W.openSeen qv lo (importedModules pW.main.body) (fun s=>W.recOk [] s) true s₁,hk0.obs s₁))=some (true,W.openGood qv lo,hk0.val w):=by
 intro w os;kernel_rfl
theorem hlt:W.LeftO PySem.Challenge.pw_lightshares_k29_whole_no_row_of_fewer qv lo (fun s=>W.recOk [] s) hk0.obs hk0.val 7284:=by
 refine L3.aG6 (M:=12 + (1 + (931 + (868 + (1229 + (555 + 21)))))) aI6 aIF (by decide) fun w os=>?_;obtain ⟨s₁,e,h⟩:=Option.map_eq_some_iff.mp (aHs w os);refine ⟨s₁,W.go_top (aIf w os) (W.piece_block (aGZ w os) ?_),h⟩;rw [show bdy=l0 ++ r0 from (List.take_append_drop _ _).symm];refine W.piece_app (aIv w os) ?_;rw [show r0=l1 ++ r1 from (List.take_append_drop _ _).symm];refine W.piece_app (aJQ w os) ?_;rw [show r1=l2 ++ r2 from (List.take_append_drop _ _).symm];refine W.piece_app (aJz w os) ?_;rw [show r2=l3 ++ r3 from (List.take_append_drop _ _).symm];refine W.piece_app (aJD w os) ?_;exact e
end My
open PySem PySem.W PyProof.Rows
set_option maxRecDepth 100000 in
set_option maxHeartbeats 0 in
theorem PySem.Challenge.cw_lightshares_k29_whole_no_row_of_fewer_holds : PySem.Challenge.rw_lightshares_k29_whole_no_row_of_fewer.Holds := by
 w_on
 refine W.holds_law My.wsd fun said=>?_
 refine W.holds_open (q:=My.qv) (loose:=My.lo) (N:=7284) (XP:=fun _ _=>True)
   (Xt:=fun s=>W.recOk [] s)
   (Yf:=My.hk0.obs) (Ya:=My.hk0.val) (YP:=My.hk0.says)
   My.hlt My.hk0.of My.hk0.keeps
   (fun _ _=>trivial) (fun _ _ _ _ _=>trivial) (by rfl) (by rfl) (by rfl)
   (fun s e=>W.recFacts_of e) (by rfl) (by assumption) (by decide +kernel)
   ⟨rfl,rfl,rfl,rfl,rfl,by decide +kernel⟩ ?hw ?hc
 case hw=>w_witness2
 refine L2.RU (K:=My.K0) (l:=PySem.Challenge.rw_lightshares_k29_whole_no_row_of_fewer) (n:=63) (k:=58) (x:="_law_script") (CX:=L2.CX0) (sp:=L3.II)
   rfl (by decide) rfl ⟨fun _=>rfl,by decide,by decide,fun _=>rfl⟩ (fun w h Y=>W.kIn_of Y) ?F (fun K H a ns hl hO hS=>L3.NE hl hO hS) (fun _ _ _ _ z=>z)
 case F =>
   intro w mg fa h KX G hmg
   exact My.fin KX G hmg
