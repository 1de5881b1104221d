import PyProof.Rows.All
import Wide.All
import OpenK.AllK
import Wide.FinOn
import Lean
import PyProof.EqAt
import PyProof.EqKinds
import PyProof.TupleCall
import PySem.Challenge.RW_lightshares_k06_shades_refused
set_option Elab.async false
set_option linter.all false
set_option maxRecDepth 100000
namespace L2
open PySem PySem.Spec PyProof.Rows
noncomputable abbrev Key:=Sum Int Str
noncomputable def pJ:Key→Value→Bool
  | .inl k,v=>Value.isInt k v
  | .inr x,v=>Value.isStrOf x v
noncomputable def aHx (w:World):Key→Int
  | .inl k=>hashInt k
  | .inr x=>hashStr w x
theorem bM:∀ {k:Key} {v:Value},pJ k v=true→(∃ i t,k=Sum.inl i∧v=Value.int i t)∨(∃ x t,k=Sum.inr x∧v=Value.str x t)
  | .inl i,v,h=>by
    obtain ⟨t,e⟩:=Value.isInt_shape (k:=i) (v:=v) h
    exact .inl ⟨i,t,rfl,e⟩
  | .inr x,v,h=>by
    obtain ⟨t,e⟩:=Value.isStrOf_shape (x:=x) (v:=v) h
    exact .inr ⟨x,t,rfl,e⟩
theorem GK (i:Int) (t:Tok):pJ (.inl i) (.int i t)=true:=by simp [pJ,Value.isInt]
theorem GT (x:Str) (t:Tok):pJ (.inr x) (.str x t)=true:=by simp [pJ,Value.isStrOf]
theorem aBF (a b:Int):decide ((Sum.inl a:Key)=Sum.inl b)=(a == b):=by
  by_cases e:a=b
  · subst e; simp
  · have h:¬(Sum.inl a:Key)=Sum.inl b:=fun q=>e (Sum.inl.inj q)
    rw [decide_eq_false h]
    exact (beq_eq_false_iff_ne.mpr e).symm
theorem aB5 (a b:Str):decide ((Sum.inr a:Key)=Sum.inr b)=decide (a=b):=by
  by_cases e:a=b
  · subst e; simp
  · have h:¬(Sum.inr a:Key)=Sum.inr b:=fun q=>e (Sum.inr.inj q)
    rw [decide_eq_false h,decide_eq_false e]
theorem ZL (a:Int) (b:Str):decide ((Sum.inl a:Key)=Sum.inr b)=false:=decide_eq_false (fun q=>nomatch q)
theorem aBo (a:Str) (b:Int):decide ((Sum.inr a:Key)=Sum.inl b)=false:=decide_eq_false (fun q=>nomatch q)
noncomputable def dJ (prog:Program) (w:World):PySem.KeyKind prog w Key where
  is:=pJ
  hash:=aHx w
  inj :=fun v a b ha hb=>by
    rcases bM ha with ⟨i,t,rfl,rfl⟩ | ⟨x,t,rfl,rfl⟩
    · rcases bM hb with ⟨j,u,rfl,e⟩ | ⟨y,u,rfl,e⟩
      · injection e with e1 _; rw [e1]
      · exact nomatch e
    · rcases bM hb with ⟨j,u,rfl,e⟩ | ⟨y,u,rfl,e⟩
      · exact nomatch e
      · injection e with e1 _; rw [e1]
  byValue:=fun k v h=>by
    rcases bM h with ⟨i,t,rfl,rfl⟩ | ⟨x,t,rfl,rfl⟩ <;> rfl
  pyHash:=fun hv h=>by
    rcases bM hv with ⟨i,t,rfl,rfl⟩ | ⟨x,t,rfl,rfl⟩
    · exact wpAny_pyHash_int h
    · exact wpAny_pyHash_str h
  eqBool:=fun hu hv h=>by
    rcases bM hu with ⟨i,t,rfl,rfl⟩ | ⟨x,t,rfl,rfl⟩
    · rcases bM hv with ⟨j,u,rfl,rfl⟩ | ⟨y,u,rfl,rfl⟩
      · rw [aBF] at h; exact wpAny_eqBool_int h
      · rw [ZL] at h; exact SeqAt.EqAt.int_str i t y u _ _ _ _ h
    · rcases bM hv with ⟨j,u,rfl,rfl⟩ | ⟨y,u,rfl,rfl⟩
      · rw [aBo] at h; exact SeqAt.EqAt.str_int x t j u _ _ _ _ h
      · rw [aB5] at h; exact wpAny_eqBool_str h
  «strs» :=fun k x t v h=>by
    rcases bM h with ⟨i,u,rfl,e⟩ | ⟨y,u,rfl,e⟩
    · exact nomatch e
    · injection e with e1 _
      subst e1
      cases v <;> rfl
theorem aA7 (prog:Program) (w:World) (k:Key) (v:Value):(dJ prog w).is k v=pJ k v:=rfl
theorem vP (prog:Program) (w:World) (i:Int) (t:Tok):(dJ prog w).is (.inl i) (.int i t)=true:=GK i t
theorem wK (prog:Program) (w:World) (x:Str) (t:Tok):(dJ prog w).is (.inr x) (.str x t)=true:=GT x t
inductive V where
  | non | bl (b:Bool) | int (i:Int) | str (x:Str) | byt (b:Array UInt8) | flt (b:UInt64) | ref (a:Addr) | ty (n:String)
  deriving DecidableEq
noncomputable def aQ:V→Value→Prop
  | .non,u=>u=Value.none
  | .bl b,u=>u=Value.bool b
  | .int i,u=>∃ t,u=Value.int i t
  | .str x,u=>∃ t,u=Value.str x t
  | .byt b,u=>∃ t,u=Value.bytes b t
  | .flt b,u=>∃ t,u=Value.float b t
  | .ref a,u=>u=Value.ref a
  | .ty n,u=>u=Value.type n
noncomputable abbrev aJ:List V→List Value→Prop:=Paired aQ
theorem aJ.length {xs:List V} {us:List Value} (r:aJ xs us):xs.length=us.length:=Paired.length r
theorem aJ.get:∀ {xs:List V} {us:List Value} {i:Nat} {x:V},aJ xs us→xs[i]? =some x→∃ u,us[i]? =some u∧aQ x u
  | _,_,_,_,.nil,e=>by simp at e
  | _,_,0,_,.cons r _,e=>by simp at e; subst e; exact ⟨_,rfl,r⟩
  | _,_,i + 1,x,.cons _ t,e=>by
    obtain ⟨u,h1,h2⟩:=aJ.get (i:=i) (x:=x) t (by simpa using e)
    exact ⟨u,by simpa using h1,h2⟩
theorem aJ.set {x:V} {u:Value} (r:aQ x u):∀ {xs:List V} {us:List Value} (i:Nat),aJ xs us→aJ (xs.set i x) (us.set i u)
  | _,_,_,.nil=>.nil
  | _,_,0,.cons _ t=>.cons r t
  | _,_,i + 1,.cons q t=>.cons q (aJ.set r i t)
theorem aJ.append:∀ {xs ys:List V} {us ws:List Value},aJ xs us→aJ ys ws→aJ (xs ++ ys) (us ++ ws)
  | _,_,_,_,.nil,s=>s
  | _,_,_,_,.cons r t,s=>.cons r (aJ.append t s)
theorem aJ.take:∀ {xs:List V} {us:List Value} (n:Nat),aJ xs us→aJ (xs.take n) (us.take n)
  | _,_,0,_=>.nil
  | _,_,_ + 1,.nil=>.nil
  | _,_,n + 1,.cons r t=>.cons r (aJ.take n t)
theorem aJ.drop:∀ {xs:List V} {us:List Value} (n:Nat),aJ xs us→aJ (xs.drop n) (us.drop n)
  | _,_,0,r=>r
  | _,_,_ + 1,.nil=>.nil
  | _,_,n + 1,.cons _ t=>aJ.drop n t
noncomputable def lJ:Option V→Option Value→Prop
  | some v,some u=>aQ v u
  | none,none=>True
  | _,_=>False
noncomputable def KV {κ:Type}:List (κ×V)→List (κ×Value)→Prop:=Paired fun (p:κ×V) (q:κ×Value)=>p.1=q.1∧aQ p.2 q.2
noncomputable def kV:Key→V
  | .inl i=>.int i
  | .inr x=>.str x
inductive HO where
  | lst (xs:List V)
  | tup (xs:List V)
  | dK (kvs:List (Key×V)) | dT (kvs:List (List Key×V))
  | set (S:Int→Bool) (n:Nat)
  | ins (C dx:Addr) (fs:List (Str×V))
  | own (x:Addr)
  | xd (fs:List (Str×V))
  | met (f x:Addr)
  | rng (lo hi:Int)
  | frz (o:Obj) (u:HO)
  | tbl (ps:Array Value)
  | ext (φ:Heap→Prop)
noncomputable abbrev Hp:=Addr→Option HO
noncomputable def upd (H:Hp) (a:Addr) (o:HO):Hp:=fun b=>if b=a then some o else H b
theorem aH {H:Hp} {a:Addr} {o:HO}:upd H a o a=some o:=by unfold upd; rw [if_pos rfl]
theorem aB {H:Hp} {a b:Addr} {o:HO} (h:b≠a):upd H a o b=H b:=by unfold upd; rw [if_neg h]
theorem JU {H:Hp} {a b:Addr} {o u:HO} (h:H a=some o) (h':H b=some u) (d:o≠u):a≠b:=by
  intro e; subst e; rw [h] at h'; exact d (Option.some.inj h')
theorem aG {H:Hp} {a b:Addr} {o:HO} (h:H a=some o) (h':H b=none):a≠b:=by
  intro e; subst e; rw [h] at h'; cases h'
noncomputable def eL (h:Heap) (a:Addr) (items:Array Value):Prop:=IsTup h a items∧∀ o,h.get? a=some o→o.dict=none
theorem eL.new (h:Heap) (items:Array Value):eL (h.push { cls:=.type "tuple",data:=.seq items }) h.objs.size items:=⟨IsTup.new h items,fun o e=>by rw [Heap.get?_push_size _ rfl] at e; cases e; rfl⟩
section
variable (P:Program) (w:World)
noncomputable def bJ (H:Hp) (h:Heap) (a:Addr):HO→Prop
  | .lst xs=>xs.length≤sizeLine∧∃ (its:List Value) (n:Nat),aJ xs its∧h.get? a=some { cls:=.type "list",data:=.seq its.toArray n }
  | .tup xs=>xs.length≤sizeLine∧∃ its:List Value,aJ xs its∧eL h a its.toArray
  | .dK kvs=>kvs.length≤sizeLine∧(a == sysModules)=false∧∃ vs,KV kvs vs∧h.DictOf (dJ P w) a vs
  | .dT kvs=>kvs.length≤sizeLine∧(a == sysModules)=false∧∃ xs:List (List Key×Addr×Value),
      Paired (fun (p:List Key×V) (q:List Key×Addr×Value)=>p.1=q.1∧H q.2.1=some (.tup (p.1.map kV))∧aQ p.2 q.2.2) kvs xs∧
      ∃ o es ep,h.get? a=some o∧o.ExactDict∧o.data= .dict es ep∧es.toList=xs.map (entryOfKey (tupleKind (dJ P w)))∧(xs.map (·.1)).Nodup
  | .set S n=>h.SetOf (intKind P w) a S n
  | .ins C dx fs=>H dx=some (.own a)∧fs.length≤1000∧dx≠a∧h.get? a=some (W.instObj C dx)∧
      ∃ mA,h.Ns1 dx mA∧(∀ f,lJ (fs.lookup f) (mA f))∧PySem.Within mA (fs.map (·.1))
  | .own _=>∃ o,h.get? a=some o
  | .xd fs=>∃ mA,h.Ns1 a mA∧∀ f,lJ (fs.lookup f) (mA f)
  | .rng lo hi=>∃ t u v,h.get? a=some { cls:=.type "range",data:=.fields #[.int lo t,.int hi u,.int 1 v] }
  | .frz o u=>h.get? a=some o∧bJ H h a u
  | .tbl ps=>h.get? a=some { cls:=.none,data:=.fields ps }
  | .met f x=>h.get? a=some (W.methodObj (.ref f) (.ref x))
  | .ext φ=>φ h∧(∃ o,h.get? a=some o)∧∀ h1 h2:Heap,φ h1→(∀ o,h1.get? a=some o→h2.get? a=some o)→φ h2
noncomputable def HOk (H:Hp) (h:Heap):Prop:= ∀ a o,H a=some o→bJ P w H h a o
end
section
variable {P:Program} {w:World} {H H':Hp} {h h':Heap} {a:Addr} {o:HO}
theorem bJ.lt (x:bJ P w H h a o):a < h.objs.size:=by
  cases o with
  | lst xs=>obtain ⟨_,_,_,_,e⟩:=x; exact Heap.lt_size e
  | tup xs=>obtain ⟨_,_,_,p⟩:=x; exact p.1.lt
  | dK kvs=>obtain ⟨_,_,_,_,o,_,_,e,_⟩:=x; exact Heap.lt_size e
  | dT kvs=>obtain ⟨_,_,_,_,o,_,_,e,_⟩:=x; exact Heap.lt_size e
  | set S n=>obtain ⟨o,_,_,_,e,_⟩:=x; exact Heap.lt_size e
  | ins C dx fs=>obtain ⟨_,_,_,e,_⟩:=x; exact Heap.lt_size e
  | own y=>obtain ⟨_,e⟩:=x; exact Heap.lt_size e
  | xd fs=>obtain ⟨_,⟨_,_,_,e,_⟩,_⟩:=x; exact Heap.lt_size e
  | rng lo hi=>obtain ⟨_,_,_,e⟩:=x; exact Heap.lt_size e
  | frz ob u=>obtain ⟨e,_⟩:=x; exact Heap.lt_size e
  | tbl ps=>exact Heap.lt_size (show h.get? a=some _ from x)
  | met f y=>exact Heap.lt_size (show h.get? a=some _ from x)
  | ext φ=>obtain ⟨_,⟨_,e⟩,_⟩:=x; exact Heap.lt_size e
theorem Paired.mapP {α β:Type} {F G:α→β→Prop}:∀ {l₁:List α} {l₂:List β},Paired F l₁ l₂→(∀ a b,F a b→G a b)→Paired G l₁ l₂
  | _,_,.nil,_=>.nil
  | _,_,.cons r t,f=>.cons (f _ _ r) (Paired.mapP t f)
theorem bJ.stay (x:bJ P w H h a o) (k:∀ b u,(b=a∨H b=some (.own a))→h.get? b=some u→h'.get? b=some u)
    (ho:∀ b,H b=some (.own a)→H' b=some (.own a)) (ht:∀ b xs,H b=some (.tup xs)→H' b=some (.tup xs)):bJ P w H' h' a o:=by
  induction o with
  | lst xs=>obtain ⟨z,its,n,r,e⟩:=x; exact ⟨z,its,n,r,k _ _ (.inl rfl) e⟩
  | tup xs=>obtain ⟨z,its,r,⟨ob,e,c⟩,dn⟩:=x; exact ⟨z,its,r,⟨ob,k _ _ (.inl rfl) e,c⟩,fun o q=>by rw [k _ _ (.inl rfl) e] at q; cases q; exact dn _ e⟩
  | dK kvs=>obtain ⟨z,y,vs,r,ob,es,ep,e,c⟩:=x; exact ⟨z,y,vs,r,ob,es,ep,k _ _ (.inl rfl) e,c⟩
  | dT kvs =>
    obtain ⟨z,y,xs,r,ob,es,ep,e,c⟩:=x
    exact ⟨z,y,xs,Paired.mapP r fun p q z=>⟨z.1,ht _ _ z.2.1,z.2.2⟩,ob,es,ep,k _ _ (.inl rfl) e,c⟩
  | set S n=>obtain ⟨ob,es,ep,t,e,c⟩:=x; exact ⟨ob,es,ep,t,k _ _ (.inl rfl) e,c⟩
  | ins C dx fs =>
    obtain ⟨d,z,ne,e,mA,⟨od,es,ep,e2,c⟩,r⟩:=x
    exact ⟨ho _ d,z,ne,k _ _ (.inl rfl) e,mA,⟨od,es,ep,k _ _ (.inr d) e2,c⟩,r⟩
  | own y=>obtain ⟨ob,e⟩:=x; exact ⟨ob,k _ _ (.inl rfl) e⟩
  | xd fs=>obtain ⟨mA,⟨od,es,ep,e,c⟩,r⟩:=x; exact ⟨mA,⟨od,es,ep,k _ _ (.inl rfl) e,c⟩,r⟩
  | rng lo hi=>obtain ⟨t,u,v,e⟩:=x; exact ⟨t,u,v,k _ _ (.inl rfl) e⟩
  | frz ob u ih=>obtain ⟨e,q⟩:=x; exact ⟨k _ _ (.inl rfl) e,ih q⟩
  | tbl ps =>
    have e:h.get? a=some { cls:=.none,data:=.fields ps }:=x
    show h'.get? a=some { cls:=.none,data:=.fields ps }
    exact k a _ (.inl rfl) e
  | met f y =>
    have e:h.get? a=some (W.methodObj (.ref f) (.ref y)):=x
    show h'.get? a=some (W.methodObj (.ref f) (.ref y))
    exact k a _ (.inl rfl) e
  | ext φ=>obtain ⟨p,⟨o,e⟩,st⟩:=x; exact ⟨st _ _ p fun o q=>k _ _ (.inl rfl) q,⟨o,k _ _ (.inl rfl) e⟩,st⟩
theorem HOk.lt (x:HOk P w H h) (e:H a=some o):a < h.objs.size:=(x a o e).lt
theorem HOk.fresh (x:HOk P w H h) (e:h.objs.size≤a):H a=none:=by
  cases q:H a with
  | none=>rfl
  | some u=>exact absurd (Nat.lt_of_lt_of_le (x.lt q) e) (Nat.lt_irrefl _)
theorem HOk.kept (x:HOk P w H h) (k:∀ b u,h.get? b=some u→h'.get? b=some u):HOk P w H h':=fun a o e =>
  (x a o e).stay (fun b u _ q=>k b u q) (fun _ q=>q) fun _ _ q=>q
theorem HOk.laid (x:HOk P w H h) (k:∀ b u,h.get? b=some u→h'.get? b=some u) (hp:h.objs.size≤a) (new:bJ P w (upd H a o) h' a o):HOk P w (upd H a o) h':=fun b u e=>by
  have hn:=x.fresh hp
  by_cases hb:b=a
  · subst hb; rw [aH] at e; cases e; exact new
  · rw [aB hb] at e
    exact (x b u e).stay (fun c v _ q=>k c v q) (fun c q=>by rw [aB (aG q hn)]; exact q) fun c xs q=>by rw [aB (aG q hn)]; exact q
end
noncomputable def Rd (H:Hp) (a:Addr) (u:HO):Prop:=H a=some u∨∃ o,H a=some (.frz o u)
theorem Rd.ok {P:Program} {w:World} {H:Hp} {h:Heap} {a:Addr} {u:HO} (r:Rd H a u) (x:HOk P w H h):bJ P w H h a u:=by
  rcases r with r | ⟨o,r⟩
  · exact x a u r
  · obtain ⟨_,q⟩:=x a _ r
    exact q
noncomputable def Mut:Option HO→Prop
  | some (.lst _)=>True
  | some (.dK _)=>True
  | some (.dT _)=>True
  | some (.set _ _)=>True
  | some (.ins _ _ _)=>True
  | some (.ext _)=>True
  | _=>False
section
variable {P:Program} {w:World} {H:Hp} {h h':Heap} {x e:Addr} {o':HO}
theorem HOk.write (ok:HOk P w H h) (mu:Mut (H x)) (he:e=x∨H e=some (.own x)) (k:∀ b u,b≠e→h.get? b=some u→h'.get? b=some u) (heo:∃ u,h'.get? e=some u)
    (new:bJ P w (upd H x o') h' x o'):HOk P w (upd H x o') h':=fun b u q=>by
  have nown:∀ c y,H c=some (.own y)→c≠x:=fun c y r z=>by subst z; rw [r] at mu; exact mu
  have ntup:∀ c xs,H c=some (.tup xs)→c≠x:=fun c xs r z=>by subst z; rw [r] at mu; exact mu
  by_cases hb:b=x
  · subst hb; rw [aH] at q; cases q; exact new
  · rw [aB hb] at q
    by_cases hbe:b=e
    · have q':H b=some (.own x):=by
        rcases he with z | z
        · exact absurd (hbe.trans z) hb
        · rw [hbe]; exact z
      rw [q] at q'; cases q'
      obtain ⟨v,hv⟩:=heo
      exact ⟨v,by rw [hbe]; exact hv⟩
    · refine (ok b u q).stay (fun c v hc r=>k c v ?_ r) (fun c r=>by rw [aB (nown c b r)]; exact r) fun c xs r=>by rw [aB (ntup c xs r)]; exact r
      rcases hc with rfl | hc
      · exact hbe
      · rintro rfl
        rcases he with z | z
        · exact nown c b hc z
        · rw [hc] at z; cases z; exact hb rfl
end
structure Un (fs ex:List Addr) (H H':Hp) (h h':Heap):Prop where
  keep:∀ b o,h.get? b=some o→H b=none→b∉ fs→b∉ ex→h'.get? b=some o
  slot:∀ b o,h.get? b=some o→H b=none→b∈fs→b∉ ex→∃ sl,h'.get? b=some { o with slots:=sl }
  free:∀ b o,h.get? b=some o→H b=none→b∉ ex→H' b=none
  there:∀ b o,h.get? b=some o→b∉ ex→∃ o',h'.get? b=some o'
  tups:∀ b xs,H b=some (.tup xs)→H' b=some (.tup xs)
  frzs:∀ b o u,H b=some (.frz o u)→H' b=some (.frz o u)
  tbls:∀ b ps,H b=some (.tbl ps)→∃ more,H' b=some (.tbl (ps ++ more))
section
variable {fs fs' ex ex':List Addr} {H H1 H2:Hp} {h h1 h2 h':Heap} {a x e:Addr} {o:HO}
theorem Un.any (u:Un fs ex H H1 h h1) {b:Addr} {ob:Obj} (q:h.get? b=some ob) (n:H b=none) (hx:b∉ ex):∃ sl,h1.get? b=some { ob with slots:=sl }:=by
  by_cases hb:b∈fs
  · exact u.slot b ob q n hb hx
  · exact ⟨ob.slots,u.keep b ob q n hb hx⟩
theorem Un.kept (k:∀ b u,h.get? b=some u→h'.get? b=some u):Un fs ex H H h h' :=
  ⟨fun b ob q _ _ _=>k b ob q,fun b ob q _ _ _=>⟨ob.slots,k b ob q⟩,fun _ _ _ n _=>n,fun b ob q _=>⟨ob,k b ob q⟩,fun _ _ q=>q,fun _ _ _ q=>q,fun _ ps q=>⟨#[],by rw [q]; simp⟩⟩
theorem Un.refl:Un fs ex H H h h:=Un.kept fun _ _ q=>q
theorem Un.laid (k:∀ b u,h.get? b=some u→h'.get? b=some u) (hp:h.objs.size≤a) (hn:H a=none):Un fs ex H (upd H a o) h h' where
  keep:=fun b u q _ _ _=>k b u q
  slot:=fun b u q _ _ _=>⟨u.slots,k b u q⟩
  free:=fun b u q n _=>by rw [aB (Nat.ne_of_lt (Nat.lt_of_lt_of_le (Heap.lt_size q) hp))]; exact n
  there:=fun b u q _=>⟨u,k b u q⟩
  tups:=fun b xs q=>by rw [aB (aG q hn)]; exact q
  frzs:=fun b u xs q=>by rw [aB (aG q hn)]; exact q
  tbls:=fun b ps q=>⟨#[],by rw [aB (aG q hn),q]; simp⟩
theorem Un.write (mu:Mut (H x)) (he:e=x∨H e=some (.own x)) (k:∀ b u,b≠e→h.get? b=some u→h'.get? b=some u) (heo:∃ u,h'.get? e=some u):Un fs ex H (upd H x o) h h':=by
  have hx:∀ b,H b=none→b≠x:=fun b n z=>by subst z; rw [n] at mu; exact mu
  have hb:∀ b,H b=none→b≠e:=fun b n z=>by
    subst z
    rcases he with r | r
    · exact hx b n r
    · rw [n] at r; cases r
  have hm:∀ b u,H b=some u→¬Mut (some u)→b≠x:=fun b u q nm z=>by subst z; rw [q] at mu; exact nm mu
  refine ⟨fun b u q n _ _=>k b u (hb b n) q,fun b u q n _ _=>⟨u.slots,k b u (hb b n) q⟩,fun b u q n _=>by rw [aB (hx b n)]; exact n,fun b u q _=>?_,
    fun b xs q=>by rw [aB (hm b _ q fun z=>z)]; exact q,fun b u xs q=>by rw [aB (hm b _ q fun z=>z)]; exact q,fun b ps q=>⟨#[],by rw [aB (hm b _ q fun z=>z),q]; simp⟩⟩
  by_cases hbe:b=e
  · subst hbe; exact heo
  · exact ⟨u,k b u hbe q⟩
end
noncomputable def trk (h:Heap) (H:Hp):List Addr:=(List.range h.objs.size).filter fun a=>(H a).isSome
noncomputable def vD (h:Heap) (H:Hp):Heap:=W.hideAll h (trk h H)
theorem EB (h:Heap) (H:Hp):(vD h H).objs.size=h.objs.size:=W.hideAll_size _ _
theorem MK {h:Heap} {H:Hp} {b:Addr} {o:Obj} (e:h.get? b=some o) (n:H b=none):(vD h H).get? b=some o :=
  W.hideAll_get _ e fun hm=>by
    have q:(H b).isSome=true:=(List.mem_filter.mp hm).2
    rw [n] at q; simp at q
theorem RS {h:Heap} {H:Hp} {b:Addr} {o:Obj} (e:(vD h H).get? b=some o):h.get? b=some o∧H b=none:=by
  have e':h.get? b=some o:=W.of_hideAll (trk h H) e
  refine ⟨e', ?_⟩
  cases q:H b with
  | none=>rfl
  | some x =>
    have hm:b∈trk h H:=List.mem_filter.mpr ⟨List.mem_range.mpr (Heap.lt_size e'),by simp [q]⟩
    have z:(vD h H).get? b=none:=W.hideAll_none (trk h H) hm
    rw [z] at e; cases e
noncomputable def RN (g h:Heap) (L:Addr):List (Addr×Obj):=(List.range h.objs.size).filterMap fun a=>if a=L∨(g.get? a).isSome=true then none else (h.get? a).map fun o=>(a,o)
noncomputable def aY (g h:Heap) (L d:Addr):List (Addr×Obj):=(RN g h L).filter fun p=>decide (p.1≠d)
structure Mod (K:W.Frag) (mg:Str→Option Value) (base:Heap):Prop where
  kin:K.In base
  glob:base.Ns mainGlobals mg
  blt:∃ mb,base.Ns builtinsNs mb∧∀ x:Str,x≠"__name__"→mb x=bootBuiltins x
  nolimit:base.NoLimit
structure Cx where
  prog:Program
  w:World
  K:W.Frag
  mg:Str→Option Value
  base:Heap
  A:Around
  N:List Str
  s₀:Shared
  H₀:Hp
  env:Env
  outer:List Env
  stack:List Env
  ex:List Addr
  fn:Str→Bool
  calm:Bool
  pn:List (Addr×Obj)
  xe:Value→Shared→Prop
noncomputable def frs (l:List Env):List Addr:=l.filterMap (·.frame)
noncomputable abbrev Cx.fs (X:Cx):List Addr:=frs X.outer
noncomputable def Vis (sc:Scope) (x:Str):Prop:=sc.names.lookup x=some .local∨sc.names.lookup x=some .cell∨sc.names.lookup x=some .free
noncomputable def Loc (sc:Scope) (x:Str):Prop:=sc.names.lookup x=some .local∨sc.names.lookup x=some .cell
noncomputable def aHJ (env:Env) (h:Heap) (m:Str→Option Value) (x:Str) (u:Value):Prop :=
  (env.kindOf x=some .local∧m x=some u)∨((env.kindOf x=some .cell∨env.kindOf x=some .free)∧∃ c,env.cells.lookup x=some c∧h.IsCell c (some u))
structure Cx.Ok (X:Cx):Prop where
  mod:Mod X.K X.mg X.base
  kind:X.env.scope.kind= .function
  glob:X.env.globals=mainGlobals
  blt:X.env.builtins=builtinsNs
  above:X.s₀.heap.objs.size≤X.env.locals
  inj:∀ x y c,X.env.cells.lookup x=some c→X.env.cells.lookup y=some c→x=y
  has:∀ x,(X.env.kindOf x=some .cell∨X.env.kindOf x=some .free)→∃ c,X.env.cells.lookup x=some c
  cab:∀ x c,X.fn x=true→X.env.cells.lookup x=some c→X.s₀.heap.objs.size≤c
  hd:X.calm=true→X.A.handled=none
  frames:X.A.frames=some X.stack
  stk:X.stack=X.outer∨(X.stack=X.env :: X.outer∧X.env.frame=some X.env.locals)
  exf:∀ b∈X.ex,b≠X.env.locals∧∀ x c,X.env.cells.lookup x=some c→c≠b
  bs:∀ b o,X.base.get? b=some o→X.s₀.heap.get? b=some o∧X.H₀ b=none
  bsz:X.base.objs.size≤X.s₀.heap.objs.size
  noex:∀ b o,X.base.get? b=some o→b∉ X.ex
  exfs:∀ b∈X.ex,b∉ X.fs
  funs:X.s₀.heap.FunFrames X.base X.outer
  frf:∀ b∈X.fs,X.H₀ b=none
structure Inv (X:Cx) (pins:List (Addr×Obj)) (σ:List (Option V)) (H:Hp) (s:Shared):Prop where
  ok:X.Ok
  os:s.os=X.s₀.os
  bare:AllBare s.gens
  base:Un X.fs X.ex X.H₀ H X.s₀.heap s.heap
  loc:∃ m,s.heap.Ns X.env.locals m∧∀ (i:Nat) (x:Str) (v:V),X.N[i]? =some x→σ[i]? =some (some v)→Vis X.env.scope x→∃ u,aQ v u∧aHJ X.env s.heap m x u
  cell:∀ x c,X.env.cells.lookup x=some c→∃ v,s.heap.IsCell c v
  free:H X.env.locals=none
  freeC:∀ x c,X.env.cells.lookup x=some c→H c=none
  pin:∀ p∈X.pn ++ pins,s.heap.get? p.1=some p.2∧H p.1=none∧p.1≠X.env.locals∧p.1∉ X.fs∧∀ v,p.2.data≠.cell v
  hok:HOk X.prog X.w H s.heap
  len:σ.length=X.N.length
section
variable {X:Cx} {pins:List (Addr×Obj)} {σ:List (Option V)} {H H':Hp} {s:Shared} {h':Heap}
theorem Cx.Ok.nofr (ok:X.Ok) {b:Addr} {o:Obj} (e:X.base.get? b=some o):b∉ X.fs:=fun hb=>by
  have:=(ok.funs.mem hb).1
  rw [e] at this; cases this
theorem Inv.bs (I:Inv X pins σ H s):∀ b o,X.base.get? b=some o→s.heap.get? b=some o∧H b=none:=fun b o e =>
  ⟨I.base.keep b o (I.ok.bs b o e).1 (I.ok.bs b o e).2 (I.ok.nofr e) (I.ok.noex b o e),I.base.free b o (I.ok.bs b o e).1 (I.ok.bs b o e).2 (I.ok.noex b o e)⟩
theorem Inv.bk (I:Inv X pins σ H s):∀ b o,X.base.get? b=some o→s.heap.get? b=some o:=fun b o e=>(I.bs b o e).1
theorem Inv.mod (I:Inv X pins σ H s):Mod X.K X.mg X.base:=I.ok.mod
theorem Inv.kIn (I:Inv X pins σ H s):X.K.In s.heap:=I.ok.mod.kin.keeps I.bk
theorem Inv.lt (I:Inv X pins σ H s):X.env.locals < s.heap.objs.size:=let ⟨_,hn,_⟩:=I.loc; hn.lt
theorem Inv.sz (I:Inv X pins σ H s):X.s₀.heap.objs.size≤s.heap.objs.size:=Nat.le_trans I.ok.above (Nat.le_of_lt I.lt)
theorem Inv.nofs (I:Inv X pins σ H s) {a:Addr} (h:s.heap.objs.size≤a):a∉ X.fs:=fun hb=>by
  obtain ⟨_,o,ho,_⟩:=I.ok.funs.mem hb
  exact absurd (Nat.lt_of_lt_of_le (Heap.lt_size ho) (Nat.le_trans I.sz h)) (Nat.lt_irrefl _)
theorem Inv.cne (I:Inv X pins σ H s):∀ x c,X.env.cells.lookup x=some c→c≠X.env.locals:=fun x c e z=>by
  obtain ⟨v,o,ho,hd⟩:=I.cell x c e
  obtain ⟨m,⟨o',es,ep,ho',hd',_⟩,_⟩:=I.loc
  rw [z,ho'] at ho; cases ho; rw [hd'] at hd; cases hd
theorem Inv.funs (I:Inv X pins σ H s):s.heap.FunFrames X.base X.outer:=by
  have all:∀ (l:List Env),(∀ b∈frs l,b∈X.fs)→X.s₀.heap.FunFrames X.base l→s.heap.FunFrames X.base l:=by
    intro l
    induction l with
    | nil=>intro _ _; trivial
    | cons env r ih =>
      intro hs hl
      obtain ⟨hk,⟨L,o,hf,hn,ho,hd⟩,hr⟩:=hl
      have hL:L∈X.fs:=hs L (by unfold frs; rw [List.filterMap_cons,hf]; exact List.mem_cons_self)
      obtain ⟨sl,e⟩:=I.base.slot L o ho (I.ok.frf L hL) hL fun z=>I.ok.exfs L z hL
      exact ⟨hk,⟨L,_,hf,hn,e,hd⟩,ih (fun b hb=>hs b (by unfold frs; rw [List.filterMap_cons,hf]; exact List.mem_cons_of_mem _ hb)) hr⟩
  exact all X.outer (fun _ hb=>hb) I.ok.funs
theorem Inv.stack (I:Inv X pins σ H s):s.heap.FunFrames X.base X.stack:=by
  rcases I.ok.stk with e | ⟨e,hf⟩
  · rw [e]; exact I.funs
  · rw [e]
    obtain ⟨m,hn,_⟩:=I.loc
    refine .cons (by rw [I.ok.kind]; decide) hf hn ?_ I.funs
    exact Heap.get?_none_of_le (Nat.le_trans I.ok.bsz I.ok.above)
theorem Inv.stkSub (I:Inv X pins σ H s):∀ b∈frs X.stack,b∈X.env.locals :: X.fs:=fun b hb=>by
  rcases I.ok.stk with e | ⟨e,hf⟩
  · rw [e] at hb; exact List.mem_cons_of_mem _ hb
  · rw [e] at hb
    unfold frs at hb
    rw [List.filterMap_cons,hf] at hb
    exact hb
theorem Inv.stkFree (I:Inv X pins σ H s):∀ b∈frs X.stack,H b=none:=fun b hb=>by
  rcases List.mem_cons.mp (I.stkSub b hb) with e | hb
  · rw [e]; exact I.free
  · obtain ⟨_,o,ho,_⟩:=I.ok.funs.mem hb
    exact I.base.free b o ho (I.ok.frf b hb) fun z=>I.ok.exfs b z hb
theorem Inv.step {g':Array GenState} {t':Nat} {d':Drawn} {ch:List Addr} (I:Inv X pins σ H s)
    (hch:∀ b∈ch,(b∈X.ex∨X.s₀.heap.objs.size≤b)∧b≠X.env.locals∧(∀ x c,X.env.cells.lookup x=some c→c≠b)∧∀ p∈X.pn ++ pins,p.1≠b)
    (keep:∀ b o,b≠X.env.locals→b∉ X.fs→b∉ ch→s.heap.get? b=some o→H b=none→h'.get? b=some o)
    (slot:∀ b o,b≠X.env.locals→b∈X.fs→b∉ ch→s.heap.get? b=some o→H b=none→∃ sl,h'.get? b=some { o with slots:=sl }) (free:∀ b o,b∉ ch→s.heap.get? b=some o→H b=none→H' b=none)
    (there:∀ b o,b∉ ch→s.heap.get? b=some o→∃ o',h'.get? b=some o')
    (tups:∀ b xs,H b=some (.tup xs)→H' b=some (.tup xs)) (frzs:∀ b o u,H b=some (.frz o u)→H' b=some (.frz o u)) (tbls:∀ b ps,H b=some (.tbl ps)→∃ more,H' b=some (.tbl (ps ++ more)))
    (ns:∀ m,s.heap.Ns X.env.locals m→h'.Ns X.env.locals m) (hok:HOk X.prog X.w H' h') (hg:AllBare g') :
    Inv X pins σ H' { s with heap:=h',gens:=g',drawn:=d',toks:=t' }:=by
  have neL:∀ b o,X.s₀.heap.get? b=some o→b≠X.env.locals:=fun b o e=>Nat.ne_of_lt (Nat.lt_of_lt_of_le (Heap.lt_size e) I.ok.above)
  have neC:∀ b o,X.s₀.heap.get? b=some o→b∉ X.ex→b∉ ch:=fun b o e hx hb=>by
    rcases (hch b hb).1 with z | z
    · exact hx z
    · exact absurd (Nat.lt_of_lt_of_le (Heap.lt_size e) z) (Nat.lt_irrefl _)
  have cellK:∀ x c,X.env.cells.lookup x=some c→∀ v,s.heap.IsCell c v→h'.IsCell c v:=fun x c e v ⟨o,ho,hd⟩=>by
    have nch:c∉ ch:=fun z=>(hch c z).2.2.1 x c e rfl
    by_cases hc:c∈X.fs
    · obtain ⟨sl,q⟩:=slot c o (I.cne x c e) hc nch ho (I.freeC x c e)
      exact ⟨_,q,hd⟩
    · exact ⟨o,keep c o (I.cne x c e) hc nch ho (I.freeC x c e),hd⟩
  refine ⟨I.ok,I.os,hg,⟨fun b o e n hb hx=>?_,fun b o e n hb hx=>?_,fun b o e n hx=>?_,fun b o e hx=>?_,fun b xs e=>tups b xs (I.base.tups b xs e),fun b o xs e=>frzs b o xs (I.base.frzs b o xs e),fun b ps e=>?_⟩, ?_,fun x c e=>?_, ?_,fun x c e=>?_,fun p hp=>?_,hok,I.len⟩
  · exact keep b o (neL b o e) hb (neC b o e hx) (I.base.keep b o e n hb hx) (I.base.free b o e n hx)
  · obtain ⟨sl,e1⟩:=I.base.slot b o e n hb hx
    obtain ⟨sl',e2⟩:=slot b _ (neL b o e) hb (neC b o e hx) e1 (I.base.free b o e n hx)
    exact ⟨sl',e2⟩
  · obtain ⟨o',e1⟩:=I.base.there b o e hx
    exact free b o' (neC b o e hx) e1 (I.base.free b o e n hx)
  · obtain ⟨o',e1⟩:=I.base.there b o e hx
    exact there b o' (neC b o e hx) e1
  · obtain ⟨m1,e1⟩:=I.base.tbls b ps e
    obtain ⟨m2,e2⟩:=tbls b _ e1
    exact ⟨m1 ++ m2,by rw [e2,Array.append_assoc]⟩
  · obtain ⟨m,hn,hl⟩:=I.loc
    refine ⟨m,ns m hn,fun i x v e1 e2 e3=>?_⟩
    obtain ⟨u,r,l⟩:=hl i x v e1 e2 e3
    refine ⟨u,r, ?_⟩
    rcases l with l | ⟨k,c,e,z⟩
    · exact .inl l
    · exact .inr ⟨k,c,e,cellK x c e _ z⟩
  · obtain ⟨v,z⟩:=I.cell x c e
    exact ⟨v,cellK x c e v z⟩
  · obtain ⟨m,⟨o,_,_,ho,_⟩,_⟩:=I.loc
    exact free _ o (fun z=>(hch _ z).2.1 rfl) ho I.free
  · obtain ⟨v,o,ho,hd⟩:=I.cell x c e
    exact free c o (fun z=>(hch c z).2.2.1 x c e rfl) ho (I.freeC x c e)
  · obtain ⟨e,n,ne,nf,d⟩:=I.pin p hp
    have nch:p.1∉ ch:=fun z=>(hch p.1 z).2.2.2 p hp rfl
    exact ⟨keep p.1 p.2 ne nf nch e n,free p.1 p.2 nch e n,ne,nf,d⟩
theorem Inv.un {t':Nat} (I:Inv X pins σ H s) (u:Un X.fs [] H H' s.heap h') (hok:HOk X.prog X.w H' h'):Inv X pins σ H' { s with heap:=h',toks:=t' }:=by
  obtain ⟨m,⟨o,es,ep,ho,r⟩,_⟩:=id I.loc
  obtain ⟨sl,hL⟩:=u.any ho I.free (by simp)
  exact I.step (g':=s.gens) (d':=s.drawn) (ch:=[]) (fun _ z=>nomatch z) (fun b o _ hb _ e n=>u.keep b o e n hb (by simp)) (fun b o _ hb _ e n=>u.slot b o e n hb (by simp)) (fun b o _ e n=>u.free b o e n (by simp)) (fun b o _ e=>u.there b o e (by simp)) u.tups u.frzs u.tbls (fun m' hm=>by
    obtain ⟨o',es',ep',ho',r'⟩:=hm
    rw [ho] at ho'; cases ho'
    exact ⟨_,es',ep',hL,r'⟩) hok I.bare
theorem Inv.call {g':Array GenState} {t':Nat} {d':Drawn} {ch:List Addr} (I:Inv X pins σ H s) (u:Un (frs X.stack) ch H H' s.heap h') (hok:HOk X.prog X.w H' h') (hg:AllBare g')
    (hch:∀ b∈ch,(b∈X.ex∨X.s₀.heap.objs.size≤b)∧b≠X.env.locals∧(∀ x c,X.env.cells.lookup x=some c→c≠b)∧∀ p∈X.pn ++ pins,p.1≠b) :
    Inv X pins σ H' { s with heap:=h',gens:=g',drawn:=d',toks:=t' }:=by
  obtain ⟨m,⟨o,es,ep,ho,r⟩,_⟩:=id I.loc
  obtain ⟨sl,hL⟩:=u.any ho I.free fun z=>(hch _ z).2.1 rfl
  exact I.step (ch:=ch) hch (fun b o hL hb hc e n=>u.keep b o e n (fun z=>(List.mem_cons.mp (I.stkSub b z)).elim hL hb) hc) (fun b o _ _ hc e n=>u.any e n hc) (fun b o hc e n=>u.free b o e n hc) (fun b o hc e=>u.there b o e hc) u.tups u.frzs u.tbls (fun m' hm=>by
    obtain ⟨o',es',ep',ho',r'⟩:=hm
    rw [ho] at ho'; cases ho'
    exact ⟨_,es',ep',hL,r'⟩) hok hg
theorem Inv.turned {t':Nat} {it:Addr} (I:Inv X pins σ H s) (k:∀ b o,b≠it→s.heap.get? b=some o→h'.get? b=some o) (hn:H it=none) (hL:it≠X.env.locals)
    (h1:it∈X.ex∨X.s₀.heap.objs.size≤it) (h2:∀ x c,X.env.cells.lookup x=some c→c≠it) (h3:∀ p∈X.pn ++ pins,p.1≠it):Inv X pins σ H { s with heap:=h',toks:=t' }:=by
  have nit:∀ b u,H b=some u→b≠it:=fun b u e z=>by rw [z,hn] at e; cases e
  refine I.step (g':=s.gens) (d':=s.drawn) (ch:=[it]) (fun b hb=>?_) (fun b o _ _ hc e _=>k b o (fun z=>hc (by simp [z])) e) (fun b o _ _ hc e _=>⟨o.slots,k b o (fun z=>hc (by simp [z])) e⟩) (fun _ _ _ _ n=>n)
    (fun b o hc e=>⟨o,k b o (fun z=>hc (by simp [z])) e⟩) (fun _ _ e=>e) (fun _ _ _ e=>e) (fun b ps e=>⟨#[],by rw [e]; simp⟩) (fun m hm=>?_) (fun b u e=>?_) I.bare
  · have e:b=it:=by simpa using hb
    subst e
    exact ⟨h1,hL,h2,h3⟩
  · obtain ⟨o,es,ep,ho,r⟩:=hm
    exact ⟨o,es,ep,k _ o (Ne.symm hL) ho,r⟩
  · refine (I.hok b u e).stay (fun c v hc q=>k c v ?_ q) (fun _ q=>q) fun _ _ q=>q
    rcases hc with z | z
    · rw [z]; exact nit b u e
    · exact nit c _ z
theorem Inv.tok (I:Inv X pins σ H s) (t:Nat):Inv X pins σ H { s with toks:=t }:=I.un (h':=s.heap) (t':=t) Un.refl I.hok
theorem Inv.kept {t':Nat} (I:Inv X pins σ H s) (k:∀ b u,s.heap.get? b=some u→h'.get? b=some u):Inv X pins σ H { s with heap:=h',toks:=t' }:=I.un (Un.kept k) (I.hok.kept k)
theorem Inv.laid {a:Addr} {o:HO} {t':Nat} (I:Inv X pins σ H s) (k:∀ b u,s.heap.get? b=some u→h'.get? b=some u) (hp:s.heap.objs.size≤a) (new:bJ X.prog X.w (upd H a o) h' a o) :
    Inv X pins σ (upd H a o) { s with heap:=h',toks:=t' }:=I.un (Un.laid k hp (I.hok.fresh hp)) (I.hok.laid k hp new)
theorem Inv.write {x e:Addr} {o:HO} {t':Nat} (I:Inv X pins σ H s) (mu:Mut (H x)) (he:e=x∨H e=some (.own x)) (k:∀ b u,b≠e→s.heap.get? b=some u→h'.get? b=some u) (heo:∃ u,h'.get? e=some u)
    (new:bJ X.prog X.w (upd H x o) h' x o):Inv X pins σ (upd H x o) { s with heap:=h',toks:=t' }:=I.un (Un.write mu he k heo) (I.hok.write mu he k heo new)
theorem Inv.weak {σ':List (Option V)} (I:Inv X pins σ H s) (hl:σ'.length=σ.length) (w:∀ (i:Nat) v,σ'[i]? =some (some v)→σ[i]? =some (some v)):Inv X pins σ' H s :=
  ⟨I.ok,I.os,I.bare,I.base,let ⟨m,hn,hl'⟩:=I.loc; ⟨m,hn,fun i x v e1 e2 e3=>hl' i x v e1 (w i v e2) e3⟩,I.cell,I.free,I.freeC,I.pin,I.hok,hl.trans I.len⟩
theorem Inv.pins_of {pins':List (Addr×Obj)} (I:Inv X pins σ H s) (h:∀ p∈pins',s.heap.get? p.1=some p.2∧H p.1=none∧p.1≠X.env.locals∧p.1∉ X.fs∧∀ v,p.2.data≠.cell v):Inv X pins' σ H s :=
  ⟨I.ok,I.os,I.bare,I.base,I.loc,I.cell,I.free,I.freeC,fun p hp=>(List.mem_append.mp hp).elim (fun z=>I.pin p (List.mem_append_left _ z)) (h p),I.hok,I.len⟩
theorem oK {N:List Str} (hN:N.Nodup) {i j:Nat} {x:Str} (a:N[i]? =some x) (b:N[j]? =some x):i=j:=by
  obtain ⟨h1,e1⟩:=List.getElem?_eq_some_iff.mp a
  obtain ⟨h2,e2⟩:=List.getElem?_eq_some_iff.mp b
  exact (List.getElem_inj hN).mp (e1.trans e2.symm)
theorem EV {M:Model} {A:Around} {E:Value→Shared→Prop} {i:Nat} {x:Str} {v:V} {u:Value} {Q:Unit→Shared→Prop} (I:Inv X pins σ H s) (hN:X.N.Nodup) (hi:X.N[i]? =some x) (hx:Loc X.env.scope x) (r:aQ v u)
    (h:∀ s',Inv X pins (σ.set i (some v)) H s'→(∃ a,Heap.SameBut a s.heap s'.heap∧(a=X.env.locals∨X.env.cells.lookup x=some a))→Q () s') (hf:X.fn x=true∨X.env.scope.names.lookup x=some .local:=by first | exact .inl rfl | exact .inr rfl | assumption):wpAny M A (storeName X.env x u) Q E s:=by
  obtain ⟨m,hn,hl⟩:=id I.loc
  have hcls:(X.env.scope.kind == .class || (X.env.scope.kind == .module && X.env.locals != X.env.globals))=false:=by rw [I.ok.kind]; rfl
  have hiσ:i < σ.length:=by rw [I.len]; exact (List.getElem?_eq_some_iff.mp hi).1
  have cne:=I.cne
  have tracked:∀ {a:Addr} {h':Heap},(∃ o,s.heap.get? a=some o∧H a=none)→Heap.SameBut a s.heap h'→HOk X.prog X.w H h':=fun {a h'} ha hs b ob e=>by
    obtain ⟨_,_,hfree⟩:=ha
    refine (I.hok b ob e).stay (fun c w' hc q=>(hs.2 c ?_).trans q) (fun _ q=>q) fun _ _ q=>q
    rintro rfl
    rcases hc with rfl | hc
    · rw [hfree] at e; cases e
    · rw [hfree] at hc; cases hc
  rcases hx with hk | hk
  · refine wpAny_storeName_local hk hn (fun h' hn' hs=>?_) hcls
    obtain ⟨oL,_,_,hoL,_⟩:=id hn
    refine h _ ⟨I.ok,I.os,I.bare,⟨fun b o e n hb hx=>?_,fun b o e n hb hx=>?_,I.base.free,fun b o e hx=>?_,I.base.tups,I.base.frzs,I.base.tbls⟩,⟨_,hn',fun j y v' e1 e2 e3=>?_⟩,fun y c e=>?_,I.free,I.freeC,fun p hp=>?_,tracked ⟨oL,hoL,I.free⟩ hs,by simpa using I.len⟩ ⟨_,hs,.inl rfl⟩
    · exact (hs.2 b (Nat.ne_of_lt (Nat.lt_of_lt_of_le (Heap.lt_size e) I.ok.above))).trans (I.base.keep b o e n hb hx)
    · obtain ⟨sl,e1⟩:=I.base.slot b o e n hb hx
      exact ⟨sl,(hs.2 b (Nat.ne_of_lt (Nat.lt_of_lt_of_le (Heap.lt_size e) I.ok.above))).trans e1⟩
    · obtain ⟨o',e1⟩:=I.base.there b o e hx
      exact ⟨o',(hs.2 b (Nat.ne_of_lt (Nat.lt_of_lt_of_le (Heap.lt_size e) I.ok.above))).trans e1⟩
    · by_cases hj:j=i
      · subst hj
        rw [hi] at e1; cases e1
        rw [List.getElem?_set_self hiσ] at e2
        cases e2
        exact ⟨u,r,.inl ⟨hk,by simp⟩⟩
      · rw [List.getElem?_set_ne (Ne.symm hj)] at e2
        obtain ⟨u',r',q⟩:=hl j y v' e1 e2 e3
        refine ⟨u',r', ?_⟩
        rcases q with ⟨k,e⟩ | ⟨k,c,e,z⟩
        · refine .inl ⟨k, ?_⟩
          have:y≠x:=fun e=>hj (oK hN e1 (e▸hi))
          simp [this,e]
        · exact .inr ⟨k,c,e,z.sameBut hs (cne y c e)⟩
    · obtain ⟨w',z⟩:=I.cell y c e
      exact ⟨w',z.sameBut hs (cne y c e)⟩
    · obtain ⟨e,n,ne,nf,d⟩:=I.pin p hp
      exact ⟨(hs.2 p.1 ne).trans e,n,ne,nf,d⟩
  · have hfn:X.fn x=true:=by
      rcases hf with z | z
      · exact z
      · rw [z] at hk; cases hk
    obtain ⟨c,hc⟩:=I.ok.has x (.inl hk)
    obtain ⟨w',z⟩:=I.cell x c hc
    refine wpAny_storeName_cell I.ok.kind hk hc z (fun h' hc' hs=>?_)
    obtain ⟨oc,hoc,hocd⟩:=id z
    refine h { s with heap:=h' } ⟨I.ok,I.os,I.bare,⟨fun b o e n hb hx=>?_,fun b o e n hb hx=>?_,I.base.free,fun b o e hx=>?_,I.base.tups,I.base.frzs,I.base.tbls⟩,⟨m,hn.sameBut hs (Ne.symm (cne x c hc)),fun j y v' e1 e2 e3=>?_⟩,fun y c' e=>?_,I.free,I.freeC,fun p hp=>?_,tracked ⟨oc,hoc,I.freeC x c hc⟩ hs,by simpa using I.len⟩ ⟨c,hs,.inr hc⟩
    · exact (hs.2 b (Nat.ne_of_lt (Nat.lt_of_lt_of_le (Heap.lt_size e) (I.ok.cab x c hfn hc)))).trans (I.base.keep b o e n hb hx)
    · obtain ⟨sl,e1⟩:=I.base.slot b o e n hb hx
      exact ⟨sl,(hs.2 b (Nat.ne_of_lt (Nat.lt_of_lt_of_le (Heap.lt_size e) (I.ok.cab x c hfn hc)))).trans e1⟩
    · obtain ⟨o',e1⟩:=I.base.there b o e hx
      exact ⟨o',(hs.2 b (Nat.ne_of_lt (Nat.lt_of_lt_of_le (Heap.lt_size e) (I.ok.cab x c hfn hc)))).trans e1⟩
    · by_cases hj:j=i
      · subst hj
        rw [hi] at e1; cases e1
        rw [List.getElem?_set_self hiσ] at e2
        cases e2
        exact ⟨u,r,.inr ⟨.inl hk,c,hc,hc'⟩⟩
      · rw [List.getElem?_set_ne (Ne.symm hj)] at e2
        obtain ⟨u',r',q⟩:=hl j y v' e1 e2 e3
        refine ⟨u',r', ?_⟩
        rcases q with q | ⟨k,c',e,z'⟩
        · exact .inl q
        · refine .inr ⟨k,c',e,z'.sameBut hs ?_⟩
          rintro rfl
          exact hj (oK hN e1 (I.ok.inj _ _ _ e hc▸hi))
    · by_cases hcc:c'=c
      · subst hcc; exact ⟨_,hc'⟩
      · obtain ⟨w2,z2⟩:=I.cell y c' e
        exact ⟨w2,z2.sameBut hs hcc⟩
    · obtain ⟨e,n,ne,nf,d⟩:=I.pin p hp
      refine ⟨(hs.2 p.1 ?_).trans e,n,ne,nf,d⟩
      intro q
      rw [q,hoc] at e
      have q':oc=p.2:=Option.some.inj e
      exact d w' (by rw [←q']; exact hocd)
theorem iH {M:Model} {A:Around} {E:Value→Shared→Prop} {i:Nat} {x:Str} {v:V} {u:Value} {Q:Unit→Shared→Prop} (I:Inv X pins σ H s) (hN:X.N.Nodup) (hi:X.N[i]? =some x) (hx:Loc X.env.scope x) (r:aQ v u)
    (h:∀ s',Inv X pins (σ.set i (some v)) H s'→Q () s') (hf:X.fn x=true∨X.env.scope.names.lookup x=some .local:=by first | exact .inl rfl | exact .inr rfl | assumption):wpAny M A (storeName X.env x u) Q E s :=
  EV I hN hi hx r (fun s' I' _=>h s' I') hf
theorem Inv.call' {s':Shared} {ch:List Addr} (I:Inv X pins σ H s) (ho:s'.os=s.os) (u:Un (frs X.stack) ch H H' s.heap s'.heap) (hok:HOk X.prog X.w H' s'.heap) (hg:AllBare s'.gens)
    (hch:∀ b∈ch,(b∈X.ex∨X.s₀.heap.objs.size≤b)∧b≠X.env.locals∧(∀ x c,X.env.cells.lookup x=some c→c≠b)∧∀ p∈X.pn ++ pins,p.1≠b):Inv X pins σ H' s':=by
  obtain ⟨h',g',d',t',o'⟩:=s'
  have e:o'=s.os:=ho
  subst e
  exact I.call (g':=g') (t':=t') (d':=d') u hok hg hch
end
noncomputable abbrev XK:=Value→Option Addr→Hp→Prop
noncomputable abbrev St:=List (Option V)
noncomputable abbrev VK:=V→Hp→Prop
noncomputable abbrev TE:=St→Hp→VK→Prop
noncomputable abbrev TT:=St→Hp→(Bool→Hp→Prop)→Prop
noncomputable abbrev TA:=St→Hp→(List V→Hp→Prop)→Prop
structure nL where
  nx:St→Hp→Prop
  rt:VK
  bk:St→Hp→Prop:=fun _ _=>False
  ct:St→Hp→Prop:=fun _ _=>False
noncomputable abbrev TS:=nL→St→Hp→Prop
noncomputable def EP (X:Cx) (pins:List (Addr×Obj)) (σ:St) (Q:VK) (u:Value) (s':Shared):Prop:= ∃ v H',Inv X pins σ H' s'∧aQ v u∧Q v H'
noncomputable def TP (X:Cx) (pins:List (Addr×Obj)) (σ:St) (Q:Bool→Hp→Prop) (b:Bool) (s':Shared):Prop:= ∃ H',Inv X pins σ H' s'∧Q b H'
noncomputable def AP (X:Cx) (pins:List (Addr×Obj)) (σ:St) (Q:List V→Hp→Prop) (us:List Value) (s':Shared):Prop:= ∃ vs H',Inv X pins σ H' s'∧aJ vs us∧Q vs H'
noncomputable def SP (X:Cx) (pins:List (Addr×Obj)) (D:nL) (f:Flow) (s':Shared):Prop :=
  match f with
  | .next=>∃ σ' H',Inv X pins σ' H' s'∧D.nx σ' H'
  | .brk=>∃ σ' H',Inv X pins σ' H' s'∧D.bk σ' H'
  | .cont=>∃ σ' H',Inv X pins σ' H' s'∧D.ct σ' H'
  | .ret u=>∃ v σ' H',Inv X pins σ' H' s'∧aQ v u∧D.rt v H'
noncomputable def PE (X:Cx) (e:Expr) (t:TE):Prop :=
  ∀ (pins:List (Addr×Obj)) (s:Shared) (σ:St) (H:Hp) (Q:VK),Inv X pins σ H s→t σ H Q→wpAny (model X.prog X.w) X.A (eval e X.env) (EP X pins σ Q) X.xe s
noncomputable def PT (X:Cx) (e:Expr) (t:TT):Prop :=
  ∀ (pins:List (Addr×Obj)) (s:Shared) (σ:St) (H:Hp) (Q:Bool→Hp→Prop),Inv X pins σ H s→t σ H Q→wpAny (model X.prog X.w) X.A (isTrue e X.env (eval e X.env)) (TP X pins σ Q) X.xe s
noncomputable def PW (X:Cx) (e:Expr) (t:TT):Prop :=
  ∀ (whole:Sem Value) (pins:List (Addr×Obj)) (s:Shared) (σ:St) (H:Hp) (Q:Bool→Hp→Prop),Inv X pins σ H s→t σ H Q→wpAny (model X.prog X.w) X.A (isTrue e X.env whole) (TP X pins σ Q) X.xe s
theorem PW.pt {X:Cx} {e:Expr} {t:TT} (h:PW X e t):PT X e t:=h _
noncomputable def PA (X:Cx) (es:List Expr) (t:TA):Prop :=
  ∀ (pos:Pos) (pins:List (Addr×Obj)) (s:Shared) (σ:St) (H:Hp) (Q:List V→Hp→Prop),Inv X pins σ H s→t σ H Q→wpAny (model X.prog X.w) X.A (spliced (backTo pos (starEach es X.env))) (AP X pins σ Q) X.xe s
noncomputable def PS (X:Cx) (st:Stmt) (t:TS):Prop :=
  ∀ (pins:List (Addr×Obj)) (s:Shared) (σ:St) (H:Hp) (D:nL),Inv X pins σ H s→t D σ H→wpAny (model X.prog X.w) X.A (exec st X.env) (SP X pins D) X.xe s
noncomputable def PSs (X:Cx) (st:List Stmt) (t:TS):Prop :=
  ∀ (pins:List (Addr×Obj)) (s:Shared) (σ:St) (H:Hp) (D:nL),Inv X pins σ H s→t D σ H→wpAny (model X.prog X.w) X.A (execs st X.env) (SP X pins D) X.xe s
theorem thn {α:Type} {t:Sem α} {Q Q':α→Shared→Prop} {M:Model} {A:Around} {E:Value→Shared→Prop} {s:Shared} (h:wpAny M A t Q E s) (hQ:∀ a s,Q a s→Q' a s):wpAny M A t Q' E s:=wpAny_mono h hQ fun _ _ x=>x
section
variable {X:Cx}
theorem bin {a b:Expr} {ta tb:TE} (ha:PE X a ta) (hb:PE X b tb) {pins:List (Addr×Obj)} {s:Shared} {σ:St} {H:Hp} {R:V→V→Hp→Prop} (I:Inv X pins σ H s) (h:ta σ H fun x H1=>tb σ H1 fun y H2=>R x y H2)
    {α:Type} {Q:α→Shared→Prop} {f:Value→Value→Sem α}
    (hf:∀ v u s2 x y H2,Inv X pins σ H2 s2→aQ x v→aQ y u→R x y H2→wpAny (model X.prog X.w) X.A (f v u) Q X.xe s2) :
    wpAny (model X.prog X.w) X.A (eval a X.env) (fun v s₁=>wpAny (model X.prog X.w) X.A (eval b X.env) (fun u s₂=>wpAny (model X.prog X.w) X.A (f v u) Q X.xe s₂) X.xe s₁) X.xe s:=by
  refine thn (ha pins s σ H _ I h) fun v s1 ⟨x,H1,I1,r1,q1⟩=>?_
  refine thn (hb pins s1 σ H1 _ I1 q1) fun u s2 ⟨y,H2,I2,r2,q2⟩=>?_
  exact hf v u s2 x y H2 I2 r1 r2 q2
noncomputable def aCu (i:Nat):TE:=fun σ H Q=>∃ v,σ[i]? =some (some v)∧Q v H
noncomputable def tC (v:V):TE:=fun _ H Q=>Q v H
theorem pS {i:Nat} {x:Str} {pos:Pos} (hN:X.N[i]? =some x) (hv:Vis X.env.scope x) (hd:(x == ("__debug__":Str))=false:=by decide) (hcd:(x == ("__classdict__":Str))=false:=by decide):PE X (.Name x pos) (aCu i):=by
  intro pins s σ H Q I h
  obtain ⟨v,e,h⟩:=h
  obtain ⟨m,hn,hl⟩:=I.loc
  obtain ⟨u,r,l⟩:=hl i x v hN e hv
  have fin:EP X pins σ Q u s:=⟨v,H,I,r,h⟩
  rcases l with ⟨hk,hm⟩ | ⟨hk,c,hc,hcell⟩
  · exact wpAny_Name (wpAny_loadName_local I.ok.kind hk hn hm fin) hd
  · rcases hk with hk | hk
    · exact wpAny_Name (wpAny_loadName_cell I.ok.kind hk hc hcell fin) hd
    · exact wpAny_Name (wpAny_loadName_free I.ok.kind hk hc hcell fin hcd) hd
theorem KI {i j pos}:PE X (.Constant (.int i) j pos) (tC (.int i)):=fun _ _ _ H _ I h=>wpAny_Constant_int ⟨.int i,H,I.tok _,⟨_,rfl⟩,h⟩
theorem aER {b j pos}:PE X (.Constant (.bool b) j pos) (tC (.bl b)):=fun _ _ _ H _ I h=>Constant_bool ⟨.bl b,H,I,rfl,h⟩
theorem ZZ {j pos}:PE X (.Constant .none j pos) (tC .non):=fun _ _ _ H _ I h=>Constant_none ⟨.non,H,I,rfl,h⟩
theorem LI {x j pos}:PE X (.Constant (.str x) j pos) (tC (.str x)):=fun _ _ _ H _ I h=>Calls.Constant_str ⟨.str x,H,I.tok _,⟨_,rfl⟩,h⟩
noncomputable def Gl (X:Cx) (x:Str):Prop:=X.env.kindOf x=some .globalImplicit
theorem dG {E:Value→Shared→Prop} {pins:List (Addr×Obj)} {s:Shared} {σ:St} {H:Hp} {x:Str} {u:Value} {pos:Pos} {Q:Value→Shared→Prop} (I:Inv X pins σ H s) (hg:Gl X x) (hm:X.mg x=some u) (h:Q u s)
    (hd:(x == ("__debug__":Str))=false:=by decide):wpAny (model X.prog X.w) X.A (eval (.Name x pos) X.env) Q E s :=
  Calls.Name_function_global I.ok.kind hg (Calls.loadGlobal_global (by rw [I.ok.glob]; exact I.mod.glob.keeps I.bk) hm h) hd
theorem iO {E:Value→Shared→Prop} {pins:List (Addr×Obj)} {s:Shared} {σ:St} {H:Hp} {x:Str} {u:Value} {pos:Pos} {Q:Value→Shared→Prop} (I:Inv X pins σ H s) (hg:Gl X x) (hm:X.mg x=none) (hv:bootBuiltins x=some u) (h:Q u s)
    (hn:x≠"__name__":=by decide) (hd:(x == ("__debug__":Str))=false:=by decide):wpAny (model X.prog X.w) X.A (eval (.Name x pos) X.env) Q E s:=by
  obtain ⟨mb,h1,h2⟩:=I.mod.blt
  exact Calls.Name_function_global I.ok.kind hg (Calls.loadGlobal_builtin (by rw [I.ok.glob]; exact I.mod.glob.keeps I.bk) hm (by rw [I.ok.blt]; exact h1.keeps I.bk) ((h2 x hn).trans hv) h) hd
theorem VH {x:Str} {v:V} {u:Value} {pos:Pos} (hg:Gl X x) (hm:X.mg x=some u) (r:aQ v u) (hd:(x == ("__debug__":Str))=false:=by decide):PE X (.Name x pos) (tC v) :=
  fun _ _ _ H _ I h=>dG I hg hm ⟨v,H,I,r,h⟩ hd
theorem UG {x:Str} {v:V} {u:Value} {pos:Pos} (hg:Gl X x) (hm:X.mg x=none) (hv:bootBuiltins x=some u) (r:aQ v u) (hn:x≠"__name__":=by decide) (hd:(x == ("__debug__":Str))=false:=by decide):PE X (.Name x pos) (tC v) :=
  fun _ _ _ H _ I h=>iO I hg hm hv ⟨v,H,I,r,h⟩ hn hd
variable {a b:Expr} {ta tb:TE} {pos:Pos}
variable {tA tB':TT} {aY:List Expr}
noncomputable def aFs (t u:TT):TT:=fun σ H Q=>t σ H fun c H1=>if c=true then u σ H1 Q else Q false H1
noncomputable def tOr (t u:TT):TT:=fun σ H Q=>t σ H fun c H1=>if c=true then Q true H1 else u σ H1 Q
noncomputable def aG3 (t:TT):TT:=fun σ H Q=>t σ H fun c H1=>Q (!c) H1
theorem SE (ha:PT X a tA):PW X (.BoolOp .And [a] pos) tA:=by
  intro wh pins s σ H Q I h
  refine isTrue_and (thn (ha pins s σ H Q I h) fun c s1 e=>?_)
  cases c with
  | true=>exact isTrue_and_nil e
  | false=>exact e
theorem aCC (ha:PT X a tA):PW X (.BoolOp .Or [a] pos) tA:=by
  intro wh pins s σ H Q I h
  refine isTrue_or (thn (ha pins s σ H Q I h) fun c s1 e=>?_)
  cases c with
  | false=>exact isTrue_or_nil e
  | true=>exact e
theorem aAE (ha:PT X a tA) (hb:PW X (.BoolOp .And (b :: aY) pos) tB'):PW X (.BoolOp .And (a :: b :: aY) pos) (aFs tA tB'):=by
  intro wh pins s σ H Q I h
  refine isTrue_and (thn (ha pins s σ H _ I h) fun c s1 ⟨H1,I1,q1⟩=>?_)
  cases c with
  | true=>exact hb wh pins s1 σ H1 Q I1 q1
  | false=>exact ⟨H1,I1,q1⟩
theorem aEg (ha:PT X a tA) (hb:PW X (.BoolOp .Or (b :: aY) pos) tB'):PW X (.BoolOp .Or (a :: b :: aY) pos) (tOr tA tB'):=by
  intro wh pins s σ H Q I h
  refine isTrue_or (thn (ha pins s σ H _ I h) fun c s1 ⟨H1,I1,q1⟩=>?_)
  cases c with
  | true=>exact ⟨H1,I1,q1⟩
  | false=>exact hb wh pins s1 σ H1 Q I1 q1
theorem aAU (ha:PT X a tA):PT X (.UnaryOp .Not a pos) (aG3 tA):=by
  intro pins s σ H Q I h
  exact isTrue_not (ha pins s σ H (fun c H1=>Q (!c) H1) I h)
theorem aAN {op} {t:TE} (h:PE X a t):PE X (.BoolOp op [a] pos) t:=fun pins s σ H Q I hw=>BoolOp_one (h pins s σ H Q I hw)
end
noncomputable def SqL (K:W.Frag) (H:Hp) (a:Addr) (xs:List V):Prop :=
  Rd H a (.lst xs)∨
    ∃ (o:Obj) (its:Array Value) (n:Nat),K.lookup a=some o∧o.cls= .type "list"∧o.dict=none∧o.data= .seq its n∧its.size≤sizeLine∧aJ xs its.toList
noncomputable def SqT (K:W.Frag) (H:Hp) (a:Addr) (xs:List V):Prop :=
  Rd H a (.tup xs)∨
    ∃ (o:Obj) (its:Array Value) (n:Nat),K.lookup a=some o∧o.cls= .type "tuple"∧o.data= .seq its n∧its.size≤sizeLine∧aJ xs its.toList∧o.dict=none
noncomputable def aGh:Value→Option V
  | .none=>some .non
  | .bool b=>some (.bl b)
  | .int i _=>some (.int i)
  | .str x _=>some (.str x)
  | .bytes b _=>some (.byt b)
  | .float b _=>some (.flt b)
  | .ref a=>some (.ref a)
  | .type n=>some (.ty n)
  | _=>none
theorem aQ.abs {x:V} {u:Value} (r:aQ x u):aGh u=some x:=by
  cases x with
  | non=>cases r; rfl
  | bl _=>cases r; rfl
  | int _=>obtain ⟨t,rfl⟩:=r; rfl
  | str _=>obtain ⟨t,rfl⟩:=r; rfl
  | byt _=>obtain ⟨t,rfl⟩:=r; rfl
  | flt _=>obtain ⟨t,rfl⟩:=r; rfl
  | ref _=>cases r; rfl
  | ty _=>cases r; rfl
theorem aQ.inj {x y:V} {u:Value} (r:aQ x u) (q:aQ y u):x=y:=Option.some.inj (r.abs.symm.trans q.abs)
theorem aJ.inj:∀ {xs ys:List V} {us:List Value},aJ xs us→aJ ys us→xs=ys
  | _,_,_,.nil,.nil=>rfl
  | _,_,_,.cons r t,.cons r' t'=>by rw [r.inj r',aJ.inj t t']
section
variable {X:Cx} {pins:List (Addr×Obj)} {σ:St} {H:Hp} {s:Shared} {a:Addr} {xs ys:List V}
theorem SqL.of {K:W.Frag} (h:H a=some (.lst xs)):SqL K H a xs:=.inl (.inl h)
theorem SqT.of {K:W.Frag} (h:H a=some (.tup xs)):SqT K H a xs:=.inl (.inl h)
theorem Inv.list (I:Inv X pins σ H s) (h:SqL X.K H a xs):∃ its:List Value,aJ xs its∧PlainL s.heap a its.toArray∧xs.length≤sizeLine:=by
  rcases h with h | ⟨o,its,n,hk,hc,hd,hs,hz,r⟩
  · obtain ⟨z,its,n,r,e⟩:=h.ok I.hok
    exact ⟨its,r,⟨_,n,e,rfl,rfl,rfl⟩,z⟩
  · refine ⟨its.toList,r,⟨o,n,I.kIn a o hk,hc,hd,by simpa using hs⟩, ?_⟩
    have e:=r.length
    simp only [Array.length_toList] at e
    omega
theorem Inv.tuple (I:Inv X pins σ H s) (h:SqT X.K H a xs):∃ its:List Value,aJ xs its∧IsTup s.heap a its.toArray∧xs.length≤sizeLine:=by
  rcases h with h | ⟨o,its,n,hk,hc,hs,hz,r,_⟩
  · obtain ⟨z,its,r,p⟩:=h.ok I.hok
    exact ⟨its,r,p.1,z⟩
  · refine ⟨its.toList,r,⟨o,I.kIn a o hk,hc,n,by simpa using hs⟩, ?_⟩
    have e:=r.length
    simp only [Array.length_toList] at e
    omega
theorem Inv.list_inj (I:Inv X pins σ H s) (h:SqL X.K H a xs) (h':SqL X.K H a ys):xs=ys:=by
  obtain ⟨its,r,⟨o,n,e,_,_,d⟩,_⟩:=I.list h
  obtain ⟨its',r',⟨o',n',e',_,_,d'⟩,_⟩:=I.list h'
  rw [e] at e'; cases e'
  rw [d] at d'
  injection d' with d1 _
  have:its=its':=by simpa using congrArg Array.toList d1
  subst this
  exact r.inj r'
theorem Inv.tuple_inj (I:Inv X pins σ H s) (h:SqT X.K H a xs) (h':SqT X.K H a ys):xs=ys:=by
  obtain ⟨its,r,⟨o,e,_,n,d⟩,_⟩:=I.tuple h
  obtain ⟨its',r',⟨o',e',_,n',d'⟩,_⟩:=I.tuple h'
  rw [e] at e'; cases e'
  rw [d] at d'
  injection d' with d1 _
  have:its=its':=by simpa using congrArg Array.toList d1
  subst this
  exact r.inj r'
end
noncomputable abbrev Cx.wish (X:Cx) (E:Value→Shared→Prop):Cx:={ X with xe:=E }
noncomputable abbrev Cx.nox (X:Cx):Cx:=X.wish fun _ _=>False
theorem Cx.Ok.wish {X:Cx} (ok:X.Ok) (E:Value→Shared→Prop):(X.wish E).Ok :=
  ⟨ok.mod,ok.kind,ok.glob,ok.blt,ok.above,ok.inj,ok.has,ok.cab,ok.hd,ok.frames,ok.stk,ok.exf,ok.bs,ok.bsz,ok.noex,ok.exfs,ok.funs,ok.frf⟩
theorem Cx.Ok.unwish {X:Cx} {E:Value→Shared→Prop} (ok:(X.wish E).Ok):X.Ok :=
  ⟨ok.mod,ok.kind,ok.glob,ok.blt,ok.above,ok.inj,ok.has,ok.cab,ok.hd,ok.frames,ok.stk,ok.exf,ok.bs,ok.bsz,ok.noex,ok.exfs,ok.funs,ok.frf⟩
section
variable {X:Cx} {pins:List (Addr×Obj)} {σ:St} {H:Hp} {s:Shared} {E:Value→Shared→Prop}
theorem Inv.wish (I:Inv X pins σ H s) (E:Value→Shared→Prop):Inv (X.wish E) pins σ H s:=⟨I.ok.wish E,I.os,I.bare,I.base,I.loc,I.cell,I.free,I.freeC,I.pin,I.hok,I.len⟩
theorem Inv.unwish (I:Inv (X.wish E) pins σ H s):Inv X pins σ H s:=⟨I.ok.unwish,I.os,I.bare,I.base,I.loc,I.cell,I.free,I.freeC,I.pin,I.hok,I.len⟩
theorem SP.unwish {D:nL} {f:Flow} {s':Shared} (h:SP (X.wish E) pins D f s'):SP X pins D f s':=by
  cases f with
  | next=>obtain ⟨σ',H',I,q⟩:=h; exact ⟨σ',H',I.unwish,q⟩
  | brk=>obtain ⟨σ',H',I,q⟩:=h; exact ⟨σ',H',I.unwish,q⟩
  | cont=>obtain ⟨σ',H',I,q⟩:=h; exact ⟨σ',H',I.unwish,q⟩
  | ret u=>obtain ⟨v,σ',H',I,r,q⟩:=h; exact ⟨v,σ',H',I.unwish,r,q⟩
theorem PSs.nox {st:List Stmt} {t:TS} (h:PSs X.nox st t):PSs X st t:=fun pins s σ H D I hw =>
  wpAny_mono (h pins s σ H D (I.wish _) hw) (fun _ _ q=>q.unwish) fun _ _ z=>False.elim z
end
section
variable {X:Cx} {st:Stmt} {aY:List Stmt} {t u:TS} {e:Expr} {te:TE} {pos:Pos}
noncomputable def IN:TS:=fun D σ H=>D.nx σ H
noncomputable def aG2 (t u:TS):TS:=fun D σ H=>t { D with nx:=u D } σ H
theorem VT:PSs X [] IN:=fun _ _ σ H _ I h=>wpAny_execs_nil ⟨σ,H,I,h⟩
theorem vN (h1:PS X st t) (h2:PSs X aY u):PSs X (st :: aY) (aG2 t u):=by
  intro pins s σ H D I h
  refine wpAny_execs_cons (thn (h1 pins s σ H { D with nx:=u D } I h) fun f s1 q=>?_)
  cases f with
  | next =>
    obtain ⟨σ',H',I',q⟩:=q
    exact h2 pins s1 σ' H' D I' q
  | ret v=>exact q
  | brk=>exact q
  | cont=>exact q
theorem BY (h1:PS X st t):PSs X [st] t:=by
  intro pins s σ H D I h
  refine wpAny_execs_cons (thn (h1 pins s σ H D I h) fun f s1 q=>?_)
  cases f with
  | next=>exact wpAny_execs_nil q
  | ret v=>exact q
  | brk=>exact q
  | cont=>exact q
theorem QU:PS X (.Pass pos) IN:=fun _ _ σ H _ I h=>wpAny_Pass ⟨σ,H,I,h⟩
theorem Inv.quiet {pins:List (Addr×Obj)} {σ:St} {H:Hp} {s:Shared} (I:Inv X pins σ H s):interactive X.env=false:=by simp [interactive,I.ok.kind]
theorem ZP {x j pos pos'}:PS X (.Expr (.Constant (.str x) j pos) pos') IN:=fun _ s σ H _ I h=>wpAny_Expr (Calls.Constant_str (show SP X _ _ .next { s with toks:=s.toks + 1 } from ⟨σ,H,I.tok _,h⟩)) I.quiet
noncomputable def aFw (te:TE):TS:=fun D σ H=>te σ H fun _ H1=>D.nx σ H1
theorem CC (he:PE X e te) (hs:swapsWith e none pos.line X.env=pure false:=by rfl):PS X (.Expr e pos) (aFw te):=by
  intro pins s σ H D I h
  exact wpAny_Expr_any (thn (he pins s σ H _ I h) fun v s1 ⟨x,H1,I1,r1,q1⟩=>⟨σ,H1,I1,q1⟩) I.quiet hs
noncomputable def aGw (te:TE):TS:=fun D σ H=>te σ H D.rt
theorem aBV (he:PE X e te):PS X (.Return (some e) pos) (aGw te):=by
  intro pins s σ H D I h
  exact wpAny_Return_some (thn (he pins s σ H _ I h) fun v s1 ⟨x,H1,I1,r1,q1⟩=>⟨x,σ,H1,I1,r1,q1⟩)
noncomputable def aFe:TS:=fun D _ H=>D.rt .non H
theorem UI:PS X (.Return none pos) aFe:=fun _ _ σ H _ I h=>wpAny_Return_none ⟨.non,σ,H,I,rfl,h⟩
noncomputable def aFX (c:TT) (t u:TS):TS:=fun D σ H=>c σ H fun b H1=>if b=true then t D σ H1 else u D σ H1
theorem aDr {c:Expr} {a b:List Stmt} {tc:TT} (hc:PT X c tc) (ha:PSs X a t) (hb:PSs X b u):PS X (.If c a b pos) (aFX tc t u):=by
  intro pins s σ H D I h
  refine wpAny_If (thn (hc pins s σ H _ I h) fun d s1 ⟨H1,I1,q1⟩=>?_)
  cases d with
  | true=>exact ha pins s1 σ H1 D I1 q1
  | false=>exact hb pins s1 σ H1 D I1 q1
noncomputable def MH:TS:=fun _ _ _=>False
theorem JV:PS X st MH:=fun _ _ _ _ _ _ h=>h.elim
theorem FX {sts:List Stmt}:PSs X sts MH:=fun _ _ _ _ _ _ h=>h.elim
end
noncomputable abbrev TG:=V→St→Hp→(St→Hp→Prop)→Prop
noncomputable abbrev TGs:=List V→St→Hp→(St→Hp→Prop)→Prop
noncomputable def PG (X:Cx) (target:Expr) (t:TG):Prop :=
  ∀ (pins:List (Addr×Obj)) (s:Shared) (σ:St) (H:Hp) (v:V) (u:Value) (Q:St→Hp→Prop),Inv X pins σ H s→aQ v u→t v σ H Q→
    wpAny (model X.prog X.w) X.A (assign target X.env u) (fun _ s'=>∃ σ' H',Inv X pins σ' H' s'∧Q σ' H') X.xe s
noncomputable def PGs (X:Cx) (ts:List Expr) (t:TGs):Prop :=
  ∀ (pins:List (Addr×Obj)) (s:Shared) (σ:St) (H:Hp) (vs:List V) (us:List Value) (Q:St→Hp→Prop),Inv X pins σ H s→aJ vs us→t vs σ H Q→
    wpAny (model X.prog X.w) X.A (assignInOrder ((assignEach ts X.env).map (·.2)) us) (fun _ s'=>∃ σ' H',Inv X pins σ' H' s'∧Q σ' H') X.xe s
noncomputable abbrev WE:=V→V→V→Hp→(Hp→Prop)→Prop
noncomputable def aAJ (X:Cx) (t:WE):Prop :=
  ∀ (pins:List (Addr×Obj)) (s:Shared) (σ:St) (H:Hp) (o i v:V) (ov iv u:Value) (Q:Hp→Prop),Inv X pins σ H s→aQ o ov→aQ i iv→aQ v u→t o i v H Q→
    wpAny (model X.prog X.w) X.A (setItem ov iv u) (fun _ s'=>∃ H',Inv X pins σ H' s'∧Q H') X.xe s
section
variable {X:Cx} {pos:Pos}
noncomputable def KL (i:Nat):TG:=fun v σ H Q=>Q (σ.set i (some v)) H
theorem BZ {i:Nat} {x:Str} (hN:X.N.Nodup) (hi:X.N[i]? =some x) (hx:Loc X.env.scope x) (hf:X.fn x=true∨X.env.scope.names.lookup x=some .local:=by first | exact .inl rfl | exact .inr rfl | assumption):PG X (.Name x pos) (KL i):=by
  intro pins s σ H v u Q I r h
  exact wpAny_assign_Name (iH I hN hi hx r (fun s' I'=>⟨_,H,I',h⟩) hf)
noncomputable def aGS:TGs:=fun vs σ H Q=>vs=[]∧Q σ H
noncomputable def aEA (t:TG) (u:TGs):TGs:=fun vs σ H Q=>∃ v r,vs=v :: r∧t v σ H fun σ' H'=>u r σ' H' Q
theorem RB:PGs X [] aGS:=by
  intro pins s σ H vs us Q I r h
  obtain ⟨e,h⟩:=h
  subst e
  cases r
  exact assignInOrder_nil ⟨σ,H,I,h⟩
theorem KU {e:Expr} {es:List Expr} {t:TG} {u:TGs} (h1:PG X e t) (h2:PGs X es u)
    (hs:(assignEach (e :: es) X.env).map (·.2)=assign e X.env :: (assignEach es X.env).map (·.2):=by rfl):PGs X (e :: es) (aEA t u):=by
  intro pins s σ H vs us Q I r h
  obtain ⟨v,vr,e1,h⟩:=h
  subst e1
  cases r with
  | cons r rr =>
    rw [hs]
    refine assignInOrder_cons (thn (h1 pins s σ H _ _ _ I r h) fun _ s1 ⟨σ1,H1,I1,q1⟩=>?_)
    exact h2 pins s1 σ1 H1 _ _ Q I1 rr q1
noncomputable def aGD (K:W.Frag) (n:Nat) (t:TGs):TG:=fun v σ H Q=>∃ a xs,v= .ref a∧SqT K H a xs∧xs.length=n∧t xs σ H Q
theorem aCd {es:List Expr} {k:Nat} {t:TGs} {n:Nat} (hc:X.calm=true) (h:PGs X es t)
    (hn:(assignEach es X.env).length=n:=by rfl) (hst:(assignEach es X.env).findIdx? (·.1)=none:=by rfl):PG X (.Tuple es k pos) (aGD X.K n t):=by
  intro pins s σ H v u Q I r hw
  obtain ⟨a,xs,e1,hq,hl,hw⟩:=hw
  subst e1
  cases r
  obtain ⟨its,rv,ht,hz⟩:=I.tuple hq
  refine assign_Tuple_tuple (I.ok.hd hc) ht (by simp [hn,←hl,rv.length]) hst fun h' hx=>?_
  have I1:Inv X pins σ H { s with heap:=h' }:=I.kept (t':=s.toks) fun b o e=>hx b o (Nat.ne_of_lt (Heap.lt_size e)) e
  exact h pins _ σ H xs _ Q I1 (by simpa using rv) hw
noncomputable def aF2 (to ti:TE) (t:WE):TG:=fun v σ H Q=>to σ H fun o H1=>ti σ H1 fun i H2=>t o i v H2 fun H3=>Q σ H3
theorem aAn {o i:Expr} {to ti:TE} {t:WE} (ho:PE X o to) (hi:PE X i ti) (hs:aAJ X t)
    (ha:∀ v,assign (.Subscript o i pos) X.env v=(do
      let ov ←holding [v] (eval o X.env)
      let iv ←holding [v,ov] (eval i X.env)
      standAt pos
      holding [v,ov,iv] (setItem ov iv v)
      release [v,ov,iv] []):=by intro _; rfl):PG X (.Subscript o i pos) (aF2 to ti t):=by
  intro pins s σ H v u Q I r h
  rw [ha]
  refine wpAny_bind (wpAny_holding (thn (ho pins s σ H _ I h) fun ov s1 ⟨x,H1,I1,r1,q1⟩=>?_))
  refine wpAny_bind (wpAny_holding (thn (hi pins s1 σ H1 _ I1 q1) fun iv s2 ⟨y,H2,I2,r2,q2⟩=>?_))
  refine wpAny_bind (wpAny_standAt (wpAny_bind (wpAny_holding (thn (hs pins s2 σ H2 x y v ov iv u _ I2 r1 r2 r q2) fun _ s3 ⟨H3,I3,q3⟩=>?_))))
  exact wpAny_release ⟨σ,H3,I3,q3⟩
noncomputable def aAI (te:TE) (g:TG):TS:=fun D σ H=>te σ H fun x H1=>g x σ H1 D.nx
theorem LN {tg e:Expr} {te:TE} {g:TG} (he:PE X e te) (hg:PG X tg g) (hs:swapsWithSole [tg] e pos.line X.env=pure false:=by rfl) (hw:swappedStores [tg] e X.env=pure none:=by rfl)
    (h1:(assignEach [tg] X.env).map (·.2)=[assign tg X.env]:=by rfl):PS X (.Assign [tg] e pos) (aAI te g):=by
  intro pins s σ H D I h
  refine wpAny_Assign_stores (thn (he pins s σ H _ I h) fun v s1 ⟨x,H1,I1,r1,q1⟩=>?_) hs hw
  rw [h1]
  exact thn (hg pins s1 σ H1 x v _ I1 r1 q1) fun _ s2 q=>q
noncomputable def aGg (i j:Nat) (ta:TA):TS:=fun D σ H=>ta σ H fun vs H1=>∃ v w,vs=[v,w]∧D.nx ((σ.set i (some v)).set j (some w)) H1
theorem aAH {i j:Nat} {x y:Str} {a b:Expr} {ta:TA} {px py pt:Pos} {kt k2 pt2} (hc:X.calm=true) (hN:X.N.Nodup) (hi:X.N[i]? =some x) (hj:X.N[j]? =some y) (hij:i≠j)
    (hx:X.env.scope.names.lookup x=some .local) (hy:X.env.scope.names.lookup y=some .local) (ha:PA X [a,b] ta)
    (hw:swappedStores [.Tuple [.Name x px,.Name y py] kt pt] (.Tuple [a,b] k2 pt2) X.env=pure (some [x,y]))
    (hs:swapsWithSole [.Tuple [.Name x px,.Name y py] kt pt] (.Tuple [a,b] k2 pt2) pos.line X.env=pure false:=by rfl) :
    PS X (.Assign [.Tuple [.Name x px,.Name y py] kt pt] (.Tuple [a,b] k2 pt2) pos) (aGg i j ta):=by
  intro pins s σ H D I h
  rw [exec_Assign_arm]
  refine wpAny_bind (wpAny_standAt ?_)
  rw [hs]
  refine wpAny_bind (wpAny_pure ?_)
  rw [if_neg (by decide)]
  refine wpAny_bind (Tuple_ (thn (ha _ pins s σ H _ I h) fun us s1 ⟨vs,H1,I1,r1,q1⟩=>?_))
  obtain ⟨v,w,e1,q1⟩:=q1
  subst e1
  obtain ⟨u1,u2,rfl,rv,rw'⟩:∃ u1 u2,us=[u1,u2]∧aQ v u1∧aQ w u2:=by
    cases r1 with
    | cons p q =>
      cases q with
      | cons p' q' =>
        cases q'
        exact ⟨_,_,rfl,p,p'⟩
  refine wpAny_newObj_type ?_ (by show 2≤sizeLine; decide)
  have I2:Inv X pins σ H1 { s1 with heap:=s1.heap.push { cls:=.type "tuple",data:=.seq [u1,u2].toArray } }:=I1.kept (t':=s1.toks) fun b o e=>Heap.get?_push_of_some _ e
  rw [hw]
  refine wpAny_bind (wpAny_pure ?_)
  show wpAny (model X.prog X.w) X.A (do rule "assign.swapped-stores"; let items ←unpackItems (.ref s1.heap.objs.size) 2 none; assignInOrder [fun v=>bindName X.env y v,fun v=>bindName X.env x v] items.reverse; pure Flow.next) _ _ _
  refine wpAny_bind (wpAny_rule (wpAny_bind (unpackItems_tuple (items:= #[u1,u2]) (I.ok.hd hc) (IsTup.new s1.heap _) fun h' hx'=>?_)))
  have I3:=I2.kept (h':=h') (t':=s1.toks) fun b o e=>hx' b o (Nat.ne_of_lt (Heap.lt_size e)) e
  show wpAny _ _ (assignInOrder [fun v=>bindName X.env y v,fun v=>bindName X.env x v] [u2,u1] >>= fun _=>pure Flow.next) _ _ _
  refine wpAny_bind (assignInOrder_cons (wpAny_bindName (iH I3 hN hj (.inl hy) rw' (fun s2 I4=>?_) (.inr hy))))
  refine assignInOrder_cons (wpAny_bindName (iH I4 hN hi (.inl hx) rv (fun s3 I5=>assignInOrder_nil (wpAny_pure ?_)) (.inr hx)))
  rw [List.set_comm _ _ (Ne.symm hij)] at I5
  exact ⟨_,H1,I5,q1⟩
end
section
variable {X:Cx} {pos:Pos}
noncomputable def aCi (c:TT) (tb:TS):TS:=fun D σ H=>∃ W:Nat→St→Hp→Prop,(∃ m,W m σ H)∧∀ m σ H,W m σ H→
  c σ H fun b H1=>if b=true then ∃ N:St→Hp→Prop,(∀ σ' H',N σ' H'→∃ m',m' < m∧W m' σ' H')∧tb { D with nx:=N,ct:=N,bk:=D.nx } σ H1 else D.nx σ H1
theorem KK {c:Expr} {body:List Stmt} {tc:TT} {tb:TS} (hp:PassesOwn (model X.prog X.w) X.A X.env X.xe) (hc:PT X c tc) (hb:PSs X body tb):PS X (.While c body [] pos) (aCi tc tb):=by
  intro pins s σ H D I h
  obtain ⟨W,⟨m0,w0⟩,turn⟩:=h
  refine wpAny_While (codeAny_whileLoop (fun n s'=>∃ σ' H',Inv X pins σ' H' s'∧W n σ' H') ?_ m0 ⟨σ,H,I,w0⟩)
  rintro n s1 ⟨σ1,H1,I1,w1⟩
  refine wpAny_passesOwn hp (thn (hc pins s1 σ1 H1 _ I1 (turn n σ1 H1 w1)) fun b s2 ⟨H2,I2,q2⟩=>?_)
  cases b with
  | true =>
    obtain ⟨N,hN,q2⟩:=q2
    rw [if_pos rfl]
    refine wpAny_passesOwn hp (thn (hb pins s2 σ1 H2 _ I2 q2) fun f s3 q3=>?_)
    cases f with
    | next =>
      obtain ⟨σ3,H3,I3,n3⟩:=q3
      obtain ⟨m',hm,w3⟩:=hN σ3 H3 n3
      exact ⟨m',hm,σ3,H3,I3,w3⟩
    | cont =>
      obtain ⟨σ3,H3,I3,n3⟩:=q3
      obtain ⟨m',hm,w3⟩:=hN σ3 H3 n3
      exact ⟨m',hm,σ3,H3,I3,w3⟩
    | brk=>exact q3
    | ret v=>exact q3
  | false =>
    rw [if_neg Bool.false_ne_true]
    exact wpAny_execs_nil ⟨σ1,H2,I2,q2⟩
end
structure It where
  go:Nat→Hp→Prop
  yld:Nat→Hp→V→Hp→Prop
  stop:Nat→Hp→Prop
noncomputable def rR (X:Cx) (pins:List (Addr×Obj)) (H:Hp) (b:Addr):Prop :=
  H b=none∧b≠X.env.locals∧b∉ X.fs∧(b∈X.ex∨X.s₀.heap.objs.size≤b)∧(∀ x c,X.env.cells.lookup x=some c→c≠b)∧∀ p∈X.pn ++ pins,p.1≠b
theorem Inv.fpOk {X:Cx} {pins:List (Addr×Obj)} {σ:St} {H H':Hp} {s:Shared} {b:Addr} (I:Inv X pins σ H s) (hb:s.heap.objs.size≤b) (hn:H' b=none):rR X pins H' b:=by
  refine ⟨hn,Nat.ne_of_gt (Nat.lt_of_lt_of_le I.lt hb),I.nofs hb,.inr (Nat.le_trans I.sz hb),fun x c e z=>?_,fun p hp z=>?_⟩
  · obtain ⟨v,q⟩:=I.cell x c e
    exact absurd (Nat.lt_of_lt_of_le q.lt (by rw [z]; exact hb)) (Nat.lt_irrefl _)
  · exact absurd (Nat.lt_of_lt_of_le (Heap.lt_size (I.pin p hp).1) (by rw [z]; exact hb)) (Nat.lt_irrefl _)
structure HB (P:Program) (w:World) (K:W.Frag) (tg:Expr) (J:It) (fp:List Addr) (it:Addr) (tn:Nat→Heap→Prop):Prop where
  mem:it∈fp
  obj:∀ i h,tn i h→∀ b∈fp,∃ o,h.get? b=some o∧∀ v,o.data≠.cell v
  keep:∀ i h h',tn i h→(∀ b∈fp,∀ o,h.get? b=some o→h'.get? b=some o)→tn i h'
  item :∀ (X:Cx),X.prog=P→X.w=w→X.K=K→X.calm=true→∀ (i:Nat) (pins:List (Addr×Obj)) (s:Shared) (σ:St) (H:Hp) (E:Value→Shared→Prop),Inv X pins σ H s→(∀ b∈fp,rR X pins H b)→tn i s.heap→J.go i H→
    wpAny (model P w) X.A (pyNext (.ref it)) (fun r s1=>∃ u,r=some u∧
      wpAny (model P w) X.A (letOwnedTupleGo tg (.ref it) u) (fun _ s2=>∃ x H',Inv X pins σ H' s2∧aQ x u∧J.yld i H x H'∧tn (i + 1) s2.heap∧∀ b∈fp,H' b=none) E s1) E s
  done:∀ (X:Cx),X.prog=P→X.w=w→X.K=K→X.calm=true→∀ (i:Nat) (pins:List (Addr×Obj)) (s:Shared) (σ:St) (H:Hp) (E:Value→Shared→Prop),Inv X pins σ H s→(∀ b∈fp,rR X pins H b)→tn i s.heap→J.stop i H→
    wpAny (model P w) X.A (pyNext (.ref it)) (fun r s1=>r=none∧Inv X pins σ H s1) E s
  self:∀ (A:Around) (i:Nat) (s:Shared) (Q:Value→Shared→Prop) (E:Value→Shared→Prop),tn i s.heap→Q (.ref it) s→wpAny (model P w) A (pyIter (.ref it)) Q E s
noncomputable abbrev TI:=St→Hp→(It→Hp→Prop)→Prop
noncomputable def PIE (X:Cx) (pins:List (Addr×Obj)) (σ:St) (tg:Expr) (R:It→Hp→Prop) (itv:Value) (s2:Shared):Prop :=
  ∃ (it:Addr) (fp:List Addr) (tn:Nat→Heap→Prop) (J:It) (H':Hp),itv= .ref it∧Inv X pins σ H' s2∧HB X.prog X.w X.K tg J fp it tn∧tn 0 s2.heap∧(∀ b∈fp,rR X pins H' b)∧R J H'
noncomputable def PI (X:Cx) (tg iter:Expr) (wi:TI):Prop :=
  ∀ (pins:List (Addr×Obj)) (s:Shared) (σ:St) (H:Hp) (R:It→Hp→Prop),Inv X pins σ H s→wi σ H R→
    wpAny (model X.prog X.w) X.A (eval iter X.env) (fun v s1=>wpAny (model X.prog X.w) X.A (pyIter v) (PIE X pins σ tg R) X.xe s1) X.xe s
theorem MG {M:Model} {A:Around} {E:Value→Shared→Prop} {s:Shared} {tg:Expr} {it:Addr} {u:Value} {o:Obj} {n:String} {vs:Array Value} {Q:Unit→Shared→Prop} (ho:s.heap.get? it=some o) (hc:o.cls= .type n) (hd:o.data= .fields vs)
    (hn: ["enumerate","zip","dict_itemiterator","dict_reverseitemiterator","odict_iterator","itertools.zip_longest","itertools.pairwise"].contains n=false) (hQ:Q () s):wpAny M A (letOwnedTupleGo tg (.ref it) u) Q E s:=by
  unfold letOwnedTupleGo
  cases tg <;> first
    | exact wpAny_pure hQ
    | (cases u <;> first
        | exact wpAny_pure hQ
        | (refine wpAny_bind (wpAny_load ho ?_)
           rw [hc,hd]
           show wpAny M A (if (["enumerate","zip","dict_itemiterator","dict_reverseitemiterator","odict_iterator","itertools.zip_longest","itertools.pairwise"].contains n && vs[0]? == some (rawInt _))=true then _ else _) Q E s
           rw [if_neg (by intro h; rw [hn,Bool.false_and] at h; cases h)]
           exact wpAny_pure hQ))
noncomputable def Itl (K:W.Frag) (a:Addr):It :=
  ⟨fun i H=>∃ xs x,SqL K H a xs∧xs[i]? =some x,fun i H x H'=>H'=H∧∀ xs,SqL K H a xs→xs[i]? =some x,fun i H=>∃ xs,SqL K H a xs∧xs.length≤i⟩
noncomputable def Itt (K:W.Frag) (a:Addr):It :=
  ⟨fun i H=>∃ xs x,SqT K H a xs∧xs[i]? =some x,fun i H x H'=>H'=H∧∀ xs,SqT K H a xs→xs[i]? =some x,fun i H=>∃ xs,SqT K H a xs∧xs.length≤i⟩
noncomputable def Itr (lo:Int) (n:Nat):It:=⟨fun i _=>i < n,fun i H x H'=>H'=H∧x= .int (lo + i),fun i _=>n≤i⟩
theorem FZ {P:Program} {w:World} {K:W.Frag} {tg:Expr} (a it:Addr):HB P w K tg (Itl K a) [it] it (fun i h=>h.IsListIter it a i) where
  mem:=by simp
  obj:=fun i h st b hb=>by
    have e:b=it:=by simpa using hb
    subst e
    obtain ⟨o,e,c,d⟩:=st
    exact ⟨o,e,fun v z=>by rw [d] at z; cases z⟩
  keep:=fun i h h' st k=>st.at fun o e=>k it (by simp) o e
  item:=by
    intro X hP hw hK hc i pins s σ H E I hf st hg
    subst hP hw hK
    obtain ⟨xs,x,hq,hx⟩:=hg
    obtain ⟨its,rv,p,hz⟩:=I.list hq
    obtain ⟨u,hu,ru⟩:=rv.get hx
    obtain ⟨f0,f1,f2,f3,f4,f5⟩:=hf it (by simp)
    refine wpAny_pyNext_list_item st p.isList (x:=u) (by simpa using hu) fun h' st' sb=>?_
    have I1:Inv X pins σ H { s with heap:=h' }:=I.turned (t':=s.toks) (fun b o hb e=>(sb.2 b hb).trans e) f0 f1 f3 f4 f5
    obtain ⟨o,e,c,d⟩:=id st'
    exact ⟨u,rfl,MG (s:={ s with heap:=h' }) e c d (by decide) ⟨x,H,I1,ru,⟨rfl,fun ys hy=>by rw [I.list_inj hy hq]; exact hx⟩,st',fun b hb=>(hf b hb).1⟩⟩
  done:=by
    intro X hP hw hK hc i pins s σ H E I hf st hg
    subst hP hw hK
    obtain ⟨xs,hq,hx⟩:=hg
    obtain ⟨its,rv,p,hz⟩:=I.list hq
    obtain ⟨f0,f1,f2,f3,f4,f5⟩:=hf it (by simp)
    have hl:=rv.length
    exact wpAny_pyNext_list_end (I.ok.hd hc) st p.isList (by simp; omega) fun h' eb=>⟨rfl,I.turned (t':=s.toks) (fun b o hb e=>eb b o hb e) f0 f1 f3 f4 f5⟩
  self:=fun _ _ _ _ _ st h=>wpAny_pyIter_listiter st h
theorem AK {P:Program} {w:World} {K:W.Frag} {tg:Expr} (a it:Addr):HB P w K tg (Itt K a) [it] it (fun i h=>h.IsTupleIter it a i) where
  mem:=by simp
  obj:=fun i h st b hb=>by
    have e:b=it:=by simpa using hb
    subst e
    obtain ⟨o,e,c,d⟩:=st
    exact ⟨o,e,fun v z=>by rw [d] at z; cases z⟩
  keep:=fun i h h' st k=>st.at fun o e=>k it (by simp) o e
  item:=by
    intro X hP hw hK hc i pins s σ H E I hf st hg
    subst hP hw hK
    obtain ⟨xs,x,hq,hx⟩:=hg
    obtain ⟨its,rv,p,hz⟩:=I.tuple hq
    obtain ⟨u,hu,ru⟩:=rv.get hx
    obtain ⟨f0,f1,f2,f3,f4,f5⟩:=hf it (by simp)
    refine wpAny_pyNext_tuple_item st (show s.heap.IsTuple a its.toArray from p) (x:=u) (by simpa using hu) fun h' st' sb=>?_
    have I1:Inv X pins σ H { s with heap:=h' }:=I.turned (t':=s.toks) (fun b o hb e=>(sb.2 b hb).trans e) f0 f1 f3 f4 f5
    obtain ⟨o,e,c,d⟩:=id st'
    exact ⟨u,rfl,MG (s:={ s with heap:=h' }) e c d (by decide) ⟨x,H,I1,ru,⟨rfl,fun ys hy=>by rw [I.tuple_inj hy hq]; exact hx⟩,st',fun b hb=>(hf b hb).1⟩⟩
  done:=by
    intro X hP hw hK hc i pins s σ H E I hf st hg
    subst hP hw hK
    obtain ⟨xs,hq,hx⟩:=hg
    obtain ⟨its,rv,p,hz⟩:=I.tuple hq
    obtain ⟨f0,f1,f2,f3,f4,f5⟩:=hf it (by simp)
    have hl:=rv.length
    exact wpAny_pyNext_tuple_end (I.ok.hd hc) st (show s.heap.IsTuple a its.toArray from p) (by simp; omega) fun h' eb=>⟨rfl,I.turned (t':=s.toks) (fun b o hb e=>eb b o hb e) f0 f1 f3 f4 f5⟩
  self:=fun _ _ _ _ _ st h=>wpAny_pyIter_tupleiter st h
theorem BI {P:Program} {w:World} {K:W.Frag} {tg:Expr} (it:Addr) (lo:Int) (n:Nat):HB P w K tg (Itr lo n) [it] it (fun i h=>IsRangeIter h it (lo + (i:Nat) * 1) ((n:Int) - (i:Nat)) 1) where
  mem:=by simp
  obj :=fun i h st b hb=>by
    have e:b=it:=by simpa using hb
    subst e
    exact ⟨_,st,fun v z=>by
      have z':Data.fields _=Data.cell v:=z
      cases z'⟩
  keep:=fun i h h' st k=>k it (by simp) _ st
  item:=by
    intro X hP hw hK hc i pins s σ H E I hf st hg
    subst hP hw hK
    obtain ⟨f0,f1,f2,f3,f4,f5⟩:=hf it (by simp)
    have W:=Walks.range (prog:=X.prog) (w:=X.w) (I.ok.hd hc) it lo 1 n
    refine W.item i s _ _ hg st fun v h' tk hv st' kk=>?_
    obtain ⟨t,rfl⟩:=hv
    have I1:Inv X pins σ H { s with heap:=h',toks:=tk }:=I.turned (fun b o hb e=>kk b o (by simpa using hb) e) f0 f1 f3 f4 f5
    refine ⟨_,rfl,MG (s:={ s with heap:=h',toks:=tk }) (n:="range_iterator") st' rfl rfl (by decide) ⟨.int (lo + i),H,I1,⟨t, ?_⟩,⟨rfl,rfl⟩,st',fun b hb=>(hf b hb).1⟩⟩
    rw [Int.mul_one]
  done:=by
    intro X hP hw hK hc i pins s σ H E I hf st hg
    subst hP hw hK
    obtain ⟨f0,f1,f2,f3,f4,f5⟩:=hf it (by simp)
    exact wpAny_pyNext_range_end (I.ok.hd hc) st (by have:n≤i:=hg; omega) fun h' eb=>⟨rfl,I.turned (t':=s.toks) (fun b o hb e=>eb b o hb e) f0 f1 f3 f4 f5⟩
  self:=fun _ _ _ _ _ st h=>wpAny_pyIter_rangeiter st h
section
variable {X:Cx} {tg:Expr}
theorem vT {pins:List (Addr×Obj)} {σ:St} {H:Hp} {s:Shared} {R:It→Hp→Prop} {E:Value→Shared→Prop} {lo hi:Int} {t u v:Tok} {tk:Nat} (I:Inv X pins σ H s) (h1: -(2 ^ 62)≤lo) (h2:lo < 2 ^ 62) (h3: -(2 ^ 62)≤hi) (h4:hi < 2 ^ 62)
    (q:R (Itr lo (hi - lo).toNat) H):wpAny (model X.prog X.w) X.A (pyIter (.ref s.heap.objs.size)) (PIE X pins σ tg R) E { s with heap:=s.heap.push { cls:=.type "range",data:=.fields #[.int lo t,.int hi u,.int 1 v] },toks:=tk }:=by
  refine wpAny_pyIter_range (IsRange.new ..) (small_one h1 h2 h3 h4) ?_
  have I1:Inv X pins σ H { s with heap:=s.heap.push { cls:=.type "range",data:=.fields #[.int lo t,.int hi u,.int 1 v] },toks:=tk }:=I.kept fun b o e=>Heap.get?_push_of_some _ e
  refine ⟨(s.heap.push { cls:=.type "range",data:=.fields #[.int lo t,.int hi u,.int 1 v] }).objs.size,[(s.heap.push { cls:=.type "range",data:=.fields #[.int lo t,.int hi u,.int 1 v] }).objs.size],_,_,H,rfl,
    I1.kept (t':=tk) fun b o e=>Heap.get?_push_of_some _ e,BI _ lo (hi - lo).toNat, ?_,fun b hb=>?_,q⟩
  · have e1:lo + ((0:Nat):Int) * 1=lo:=by simp
    have e2:(((hi - lo).toNat:Nat):Int) - ((0:Nat):Int)=Builtin.Range.rangeSize lo hi 1:=by rw [rangeSize_one]; split <;> omega
    show IsRangeIter _ _ (lo + ((0:Nat):Int) * 1) ((((hi - lo).toNat:Nat):Int) - ((0:Nat):Int)) 1
    rw [e1,e2]
    exact Heap.get?_push_size _ rfl
  · have e:b=(s.heap.push { cls:=.type "range",data:=.fields #[.int lo t,.int hi u,.int 1 v] }).objs.size:=by simpa using hb
    subst e
    exact I1.fpOk (Nat.le_refl _) (I1.hok.fresh (Nat.le_refl _))
noncomputable def aDM (ta:TA):TI:=fun σ H R=>ta σ H fun vs H1=>∃ j:Int,vs=[.int j]∧ -(2 ^ 62)≤j∧j < 2 ^ 62∧R (Itr 0 j.toNat) H1
noncomputable def aFM (ta:TA):TI:=fun σ H R=>ta σ H fun vs H1=>∃ i j:Int,vs=[.int i,.int j]∧(-(2 ^ 62)≤i∧i < 2 ^ 62∧ -(2 ^ 62)≤j∧j < 2 ^ 62)∧R (Itr i (j - i).toNat) H1
theorem HJ {a:Expr} {ta:TA} {p pos:Pos} (hg:Gl X "range") (hm:X.mg "range"=none) (ha:PA X [a] ta) (hs:starEach [a] X.env=[(false,eval a X.env)]:=by rfl):PI X tg (.Call (.Name "range" p) [a] [] pos) (aDM ta):=by
  intro pins s σ H R I h
  refine Call_ (iO I hg hm boot_range (PyProof.Rows.callWith_type1 (thn (ha pos pins s σ H _ I h) fun us s1 ⟨vs,H1,I1,r1,q1⟩=>?_) hs rfl))
  obtain ⟨j,e,q1,q2,q⟩:=q1
  subst e
  cases r1 with
  | cons r rr =>
    cases rr
    obtain ⟨t,rfl⟩:=r
    exact call_range_1 (vT I1 (by omega) (by omega) q1 q2 (by simpa using q))
theorem GC {a b:Expr} {ta:TA} {p pos:Pos} (hg:Gl X "range") (hm:X.mg "range"=none) (ha:PA X [a,b] ta) (hs:starEach [a,b] X.env=[(false,eval a X.env),(false,eval b X.env)]:=by rfl) (hs2:starEach [b] X.env=[(false,eval b X.env)]:=by rfl) :
    PI X tg (.Call (.Name "range" p) [a,b] [] pos) (aFM ta):=by
  intro pins s σ H R I h
  refine Call_ (iO I hg hm boot_range (PyProof.Rows.callWith_type1 (thn (ha pos pins s σ H _ I h) fun us s1 ⟨vs,H1,I1,r1,q1⟩=>?_) (by rw [hs,hs2]) (by rw [hs2]; rfl)))
  obtain ⟨i,j,e,⟨q1,q2,q3,q4⟩,q⟩:=q1
  subst e
  cases r1 with
  | cons r rr =>
    cases rr with
    | cons r' rr =>
      cases rr
      obtain ⟨t,rfl⟩:=r
      obtain ⟨t',rfl⟩:=r'
      exact call_range_2 (vT I1 q1 q2 q3 q4 q)
noncomputable def aHT (wi:TI) (g:TG) (tb:TS):TS:=fun D σ H=>wi σ H fun J H1=>∃ W:Nat→Nat→St→Hp→Prop,(∃ m,W 0 m σ H1)∧∀ i m σ H,W i m σ H→
  (J.stop i H∧D.nx σ H)∨(J.go i H∧∃ N:St→Hp→Prop,(∀ σ' H',N σ' H'→∃ m',m' < m∧W (i + 1) m' σ' H')∧∀ x H',J.yld i H x H'→g x σ H' fun σ2 H2=>tb { D with nx:=N,ct:=N,bk:=D.nx } σ2 H2)
noncomputable def oA (fp:List Addr) (h:Heap):List (Addr×Obj):=fp.filterMap fun b=>(h.get? b).map fun o=>(b,o)
theorem gC {fp:List Addr} {h:Heap} {b:Addr} {o:Obj} (hb:b∈fp) (e:h.get? b=some o):(b,o)∈oA fp h:=List.mem_filterMap.mpr ⟨b,hb,by rw [e]; rfl⟩
theorem HL {fp:List Addr} {h:Heap} {p:Addr×Obj} (hp:p∈oA fp h):p.1∈fp∧h.get? p.1=some p.2:=by
  obtain ⟨b,hb,e⟩:=List.mem_filterMap.mp hp
  cases q:h.get? b with
  | none=>rw [q] at e; cases e
  | some o =>
    rw [q] at e
    have e':(b,o)=p:=Option.some.inj e
    subst e'
    exact ⟨hb,q⟩
theorem Inv.pinned {pins:List (Addr×Obj)} {σ:St} {H:Hp} {s:Shared} {fp:List Addr} (I:Inv X pins σ H s) (hf:∀ b∈fp,rR X pins H b) (ho:∀ b∈fp,∃ o,s.heap.get? b=some o∧∀ v,o.data≠.cell v):Inv X (pins ++ oA fp s.heap) σ H s :=
  I.pins_of fun p hp=>(List.mem_append.mp hp).elim (fun z=>I.pin p (List.mem_append_right _ z)) fun z=>by
    obtain ⟨hb,e⟩:=HL z
    obtain ⟨f0,f1,f2,_⟩:=hf p.1 hb
    obtain ⟨o,e',d⟩:=ho p.1 hb
    rw [e] at e'; cases e'
    exact ⟨e,f0,f1,f2,d⟩
theorem Inv.unpinned {pins pl:List (Addr×Obj)} {σ:St} {H:Hp} {s:Shared} (I:Inv X (pins ++ pl) σ H s):Inv X pins σ H s:=I.pins_of fun p hp=>I.pin p (List.mem_append_right _ (List.mem_append_left _ hp))
theorem aCR {iter:Expr} {body:List Stmt} {wi:TI} {g:TG} {tb:TS} {pos:Pos} (hp:PassesOwn (model X.prog X.w) X.A X.env X.xe) (hc:X.calm=true) (hi:PI X tg iter wi) (hg:PG X tg g) (hb:PSs X body tb)
    (hs:∀ x,foldedSetIterable iter X.env x=pure x:=by intro _; rfl):PS X (.For tg iter body [] pos) (aHT wi g tb):=by
  intro pins s σ H D I h
  refine wpAny_For (thn (hi pins s σ H _ I h) fun v s1 h1=>thn h1 fun itv s2 h2=>?_) hs
  obtain ⟨it,fp,tn,J,H2,e,I2,T,st2,f2,W,⟨m0,w0⟩,turn⟩:=h2
  subst e
  have stat:∀ {H':Hp},(∀ b∈fp,H' b=none)→∀ b∈fp,rR X pins H' b:=fun hn b hb=>⟨hn b hb,(f2 b hb).2⟩
  refine codeAny_forLoop_any (fun n s'=>∃ i σ' H',Inv X pins σ' H' s'∧tn i s'.heap∧(∀ b∈fp,H' b=none)∧W i n σ' H') ?_ m0 ⟨0,σ,H2,I2,st2,fun b hb=>(f2 b hb).1,w0⟩
  rintro n s3 ⟨i,σ3,H3,I3,st3,fr3,w3⟩
  rcases turn i n σ3 H3 w3 with ⟨stop,qn⟩ | ⟨go,N,hN,step⟩
  · refine wpAny_passesOwn hp (thn (T.done X rfl rfl rfl hc i pins s3 σ3 H3 X.xe I3 (stat fr3) st3 stop) fun r s4 ⟨hr,I4⟩=>?_)
    subst hr
    exact wpAny_execs_nil ⟨σ3,H3,I4,qn⟩
  · refine wpAny_passesOwn hp (thn (T.item X rfl rfl rfl hc i pins s3 σ3 H3 X.xe I3 (stat fr3) st3 go) fun r s4 ⟨u,hr,h4⟩=>?_)
    subst hr
    refine wpAny_passesOwn hp (thn h4 fun _ s5 ⟨x,H5,I5,r5,y5,st5,fr5⟩=>?_)
    have I5':=I5.pinned (stat fr5) (T.obj _ _ st5)
    refine wpAny_passesOwn hp (thn (hg _ s5 σ3 H5 x u _ I5' r5 (step x H5 y5)) fun _ s6 ⟨σ6,H6,I6,q6⟩=>?_)
    refine wpAny_passesOwn hp (thn (hb _ s6 σ6 H6 _ I6 q6) fun f s7 q7=>?_)
    have again:∀ {σ7:St} {H7:Hp},Inv X (pins ++ oA fp s5.heap) σ7 H7 s7→N σ7 H7→∃ m,m < n∧∃ i σ' H',Inv X pins σ' H' s7∧tn i s7.heap∧(∀ b∈fp,H' b=none)∧W i m σ' H':=fun {σ7 H7} I7 n7=>by
      obtain ⟨m',hm,w7⟩:=hN σ7 H7 n7
      refine ⟨m',hm,i + 1,σ7,H7,I7.unpinned,T.keep _ _ _ st5 fun b hb o e=>(I7.pin (b,o) (List.mem_append_right _ (List.mem_append_right _ (gC hb e)))).1,fun b hb=>?_,w7⟩
      obtain ⟨o,e,d⟩:=T.obj _ _ st5 b hb
      exact (I7.pin (b,o) (List.mem_append_right _ (List.mem_append_right _ (gC hb e)))).2.1
    cases f with
    | next=>obtain ⟨σ7,H7,I7,n7⟩:=q7; exact again I7 n7
    | cont=>obtain ⟨σ7,H7,I7,n7⟩:=q7; exact again I7 n7
    | brk=>obtain ⟨σ7,H7,I7,q7⟩:=q7; exact ⟨σ7,H7,I7.unpinned,q7⟩
    | ret v=>obtain ⟨x7,σ7,H7,I7,r7,q7⟩:=q7; exact ⟨x7,σ7,H7,I7.unpinned,r7,q7⟩
end
noncomputable abbrev R2:=V→V→Hp→VK→Prop
noncomputable def OpR (X:Cx) (f:Value→Value→Sem Value) (r:R2):Prop :=
  ∀ (pins:List (Addr×Obj)) (s:Shared) (σ:St) (H:Hp) (x y:V) (v u:Value) (Q:VK),Inv X pins σ H s→aQ x v→aQ y u→r x y H Q→
    wpAny (model X.prog X.w) X.A (f v u) (EP X pins σ Q) X.xe s
noncomputable def UnR (X:Cx) (f:Value→Sem Value) (r:V→Hp→VK→Prop):Prop :=
  ∀ (pins:List (Addr×Obj)) (s:Shared) (σ:St) (H:Hp) (x:V) (v:Value) (Q:VK),Inv X pins σ H s→aQ x v→r x H Q→
    wpAny (model X.prog X.w) X.A (f v) (EP X pins σ Q) X.xe s
noncomputable def bQ (X:Cx) (f:Value) (r:List V→Hp→VK→Prop):Prop :=
  ∀ (pins:List (Addr×Obj)) (s:Shared) (σ:St) (H:Hp) (xs:List V) (us:List Value) (Q:VK),Inv X pins σ H s→aJ xs us→r xs H Q→
    wpAny (model X.prog X.w) X.A (call f us) (EP X pins σ Q) X.xe s
noncomputable def aGc (X:Cx) (r:V→Hp→(Bool→Hp→Prop)→Prop):Prop :=
  ∀ (pins:List (Addr×Obj)) (s:Shared) (σ:St) (H:Hp) (x:V) (v:Value) (Q:Bool→Hp→Prop),Inv X pins σ H s→aQ x v→r x H Q→
    wpAny (model X.prog X.w) X.A (truthy v) (TP X pins σ Q) X.xe s
noncomputable def tOp (r:R2) (ta tb:TE):TE:=fun σ H Q=>ta σ H fun x H1=>tb σ H1 fun y H2=>r x y H2 Q
noncomputable def tUn (r:V→Hp→VK→Prop) (ta:TE):TE:=fun σ H Q=>ta σ H fun x H1=>r x H1 Q
noncomputable def rI (C:Int→Int→Prop) (g:Int→Int→V):R2:=fun x y H Q=>∃ i j,x= .int i∧y= .int j∧C i j∧Q (g i j) H
noncomputable def rI0 (g:Int→Int→V):R2:=fun x y H Q=>∃ i j,x= .int i∧y= .int j∧Q (g i j) H
noncomputable def rU (g:Int→V):V→Hp→VK→Prop:=fun x H Q=>∃ i,x= .int i∧Q (g i) H
section
variable {X:Cx} {a b c:Expr} {ta tb tc:TE} {pos:Pos}
theorem aCH (ha:PE X a ta) (hb:PE X b tb) {pins:List (Addr×Obj)} {s:Shared} {σ:St} {H:Hp} {R:V→V→Hp→Prop} (I:Inv X pins σ H s)
    (h:ta σ H fun x H1=>tb σ H1 fun y H2=>R x y H2) {Q:Value→Shared→Prop} {f:Value→Value→Sem Value}
    (hf:∀ v u s2 x y H2,Inv X pins σ H2 s2→aQ x v→aQ y u→R x y H2→wpAny (model X.prog X.w) X.A (f v u) Q X.xe s2) :
    wpAny (model X.prog X.w) X.A (eval a X.env) (fun v s₁=>wpAny (model X.prog X.w) X.A (eval b X.env) (fun u s₂=>wpAny (model X.prog X.w) X.A (f v u) Q X.xe s₂) X.xe s₁) X.xe s:=by
  refine thn (ha pins s σ H _ I h) fun v s1 ⟨x,H1,I1,r1,q1⟩=>?_
  refine thn (hb pins s1 σ H1 _ I1 q1) fun u s2 ⟨y,H2,I2,r2,q2⟩=>?_
  exact hf v u s2 x y H2 I2 r1 r2 q2
theorem aED {op:Operator} {r:R2} (ho:OpR X (binaryOp op) r) (ha:PE X a ta) (hb:PE X b tb):PE X (.BinOp a op b pos) (tOp r ta tb):=by
  intro pins s σ H Q I h
  exact wpAny_BinOp (aCH ha hb I h fun v u s2 x y H2 I2 rx ry q=>ho pins s2 σ H2 x y v u Q I2 rx ry q)
theorem XR {op:UnaryOp} {r:V→Hp→VK→Prop} (ho:UnR X (unaryOp op) r) (ha:PE X a ta):PE X (.UnaryOp op a pos) (tUn r ta):=by
  intro pins s σ H Q I h
  exact UnaryOp_ (thn (ha pins s σ H _ I h) fun v s1 ⟨x,H1,I1,r1,q1⟩=>ho pins s1 σ H1 x v Q I1 r1 q1)
theorem opI {f:Value→Value→Sem Value} {C:Int→Int→Prop} {g:Int→Int→Int}
    (rule:∀ (i j:Int) (t u:Tok) (s:Shared) (Q:Value→Shared→Prop) (E:Value→Shared→Prop),C i j→Q (.int (g i j) s.toks) { s with toks:=s.toks + 1 }→wpAny (model X.prog X.w) X.A (f (.int i t) (.int j u)) Q E s) :
    OpR X f (rI C fun i j=>.int (g i j)):=by
  intro pins s σ H x y v u Q I rx ry h
  obtain ⟨i,j,rfl,rfl,hc,q⟩:=h
  obtain ⟨t,rfl⟩:=rx
  obtain ⟨t',rfl⟩:=ry
  exact rule i j t t' s _ _ hc ⟨.int (g i j),H,I.tok _,⟨_,rfl⟩,q⟩
theorem aFH {f:Value→Value→Sem Value} {g:Int→Int→Int}
    (rule:∀ (i j:Int) (t u:Tok) (s:Shared) (Q:Value→Shared→Prop) (E:Value→Shared→Prop),Q (.int (g i j) s.toks) { s with toks:=s.toks + 1 }→wpAny (model X.prog X.w) X.A (f (.int i t) (.int j u)) Q E s) :
    OpR X f (rI0 fun i j=>.int (g i j)):=by
  intro pins s σ H x y v u Q I rx ry h
  obtain ⟨i,j,rfl,rfl,q⟩:=h
  obtain ⟨t,rfl⟩:=rx
  obtain ⟨t',rfl⟩:=ry
  exact rule i j t t' s _ _ ⟨.int (g i j),H,I.tok _,⟨_,rfl⟩,q⟩
theorem VI {f:Value→Value→Sem Value} {g:Int→Int→Bool}
    (rule:∀ (i j:Int) (t u:Tok) (s:Shared) (Q:Value→Shared→Prop) (E:Value→Shared→Prop),Q (.bool (g i j)) s→wpAny (model X.prog X.w) X.A (f (.int i t) (.int j u)) Q E s) :
    OpR X f (rI0 fun i j=>.bl (g i j)):=by
  intro pins s σ H x y v u Q I rx ry h
  obtain ⟨i,j,rfl,rfl,q⟩:=h
  obtain ⟨t,rfl⟩:=rx
  obtain ⟨t',rfl⟩:=ry
  exact rule i j t t' s _ _ ⟨.bl (g i j),H,I,rfl,q⟩
noncomputable def MJ (i j:Int):Prop:=0≤j∧j≤1000000∧i.natAbs < 2 ^ 64
theorem aBd:OpR X (binaryOp .Add) (rI0 fun i j=>.int (i + j)):=aFH fun _ _ _ _ _ _ _ q=>add_int q
theorem aBD:OpR X (binaryOp .Sub) (rI0 fun i j=>.int (i - j)):=aFH fun _ _ _ _ _ _ _ q=>sub_int q
theorem aAD:OpR X (binaryOp .Mod) (rI (fun _ j=>0 < j) fun i j=>.int (i % j)):=opI fun i j _ _ _ _ _ hc q=>by
  have h1:(0:Int) < j:=hc
  exact mod_int' (by omega) (by rw [Int.fmod_eq_emod_of_nonneg i (by omega)]; exact q)
theorem aA3:OpR X (binaryOp .Pow) (rI MJ fun i j=>.int (i ^ j.toNat)):=opI fun _ _ _ _ _ _ _ hc q=>pow_int_small hc.1 hc.2.1 hc.2.2 q
theorem aCY:OpR X (binaryOp .LShift) (rI MJ fun i j=>.int (i * 2 ^ j.toNat)):=opI fun _ _ _ _ _ _ _ hc q=>lshift_int_small hc.1 hc.2.1 hc.2.2 q
theorem unI {f:Value→Sem Value} {g:Int→Int}
    (rule:∀ (i:Int) (t:Tok) (s:Shared) (Q:Value→Shared→Prop) (E:Value→Shared→Prop),Q (.int (g i) s.toks) { s with toks:=s.toks + 1 }→wpAny (model X.prog X.w) X.A (f (.int i t)) Q E s) :
    UnR X f (rU fun i=>.int (g i)):=by
  intro pins s σ H x v Q I rx h
  obtain ⟨i,rfl,q⟩:=h
  obtain ⟨t,rfl⟩:=rx
  exact rule i t s _ _ ⟨.int (g i),H,I.tok _,⟨_,rfl⟩,q⟩
theorem OD:UnR X (unaryOp .USub) (rU fun i=>.int (-i)):=unI fun _ _ _ _ _ q=>neg_int q
end
theorem QV {i j:Int}:decide (V.int i=V.int j)=(i == j):=by
  rw [Bool.eq_iff_iff]
  simp
theorem UQ {i j:Str}:decide (V.str i=V.str j)=(i == j):=by
  rw [Bool.eq_iff_iff]
  simp
section
variable {X:Cx} {a b c:Expr} {ta tb tc:TE} {pos:Pos}
theorem JB {pins:List (Addr×Obj)} {σ:St} {H:Hp} {s:Shared} {Q:VK} {k k':Bool} (I:Inv X pins σ H s) (q:Q (.bl k) H) (e:k=k'):EP X pins σ Q (.bool k') s:=by
  subst e
  exact ⟨.bl k,H,I,rfl,q⟩
theorem aEl:OpR X (compareOp .Lt) (rI0 fun i j=>.bl (decide (i < j))):=VI fun _ _ _ _ _ _ _ q=>lt_int q
theorem aD3:OpR X (compareOp .LtE) (rI0 fun i j=>.bl (decide (i≤j))):=VI fun _ _ _ _ _ _ _ q=>le_int q
theorem aDO:OpR X (compareOp .Gt) (rI0 fun i j=>.bl (decide (j < i))):=VI fun _ _ _ _ _ _ _ q=>gt_int q
theorem aEb:OpR X (compareOp .GtE) (rI0 fun i j=>.bl (decide (j≤i))):=VI fun _ _ _ _ _ _ _ q=>ge_int q
theorem aCS:OpR X (compareOp .Is) (fun x y H Q=>y= .non∧Q (.bl (decide (x= .non))) H):=by
  intro pins s σ H x y v u Q I rx ry h
  obtain ⟨rfl,q⟩:=h
  cases ry
  refine is_none_gen (JB I q ?_)
  cases x <;> first
    | (cases rx; rfl)
    | (obtain ⟨t,rfl⟩:=rx; rfl)
theorem RX:OpR X (compareOp .IsNot) (fun x y H Q=>y= .non∧Q (.bl (!decide (x= .non))) H):=by
  intro pins s σ H x y v u Q I rx ry h
  obtain ⟨rfl,q⟩:=h
  cases ry
  refine isnot_none_gen (JB I q ?_)
  cases x <;> first
    | (cases rx; rfl)
    | (obtain ⟨t,rfl⟩:=rx; rfl)
theorem OpR.or {f:Value→Value→Sem Value} {r r':R2} (h:OpR X f r) (h':OpR X f r'):OpR X f (fun x y H Q=>r x y H Q∨r' x y H Q):=by
  intro pins s σ H x y v u Q I rx ry q
  rcases q with q | q
  · exact h pins s σ H x y v u Q I rx ry q
  · exact h' pins s σ H x y v u Q I rx ry q
theorem SV {op:CmpOp} {r:R2} (ho:OpR X (compareOp op) r) (ha:PE X a ta) (hb:PE X b tb) (hm:behindInMarks op b=false):PE X (.Compare a [op] [b] pos) (tOp r ta tb):=by
  intro pins s σ H Q I h
  exact wpAny_Compare1 (aCH ha hb I h fun v u s2 x y H2 I2 rx ry q=>ho pins s2 σ H2 x y v u Q I2 rx ry q) hm
noncomputable def ZH (t:TE):TT:=fun σ H Q=>t σ H fun x H'=>∃ k,x= .bl k∧Q k H'
theorem UR {op:CmpOp} {r:R2} (ho:OpR X (compareOp op) r) (ha:PE X a ta) (hb:PE X b tb) (hm:behindInMarks op b=false):PT X (.Compare a [op] [b] pos) (ZH (tOp r ta tb)):=by
  intro pins s σ H Q I h
  refine wpAny_isTrue_Compare1 (thn (ha pins s σ H _ I h) fun v s1 ⟨x,H1,I1,r1,q1⟩=>thn (hb pins s1 σ H1 _ I1 q1) fun u s2 ⟨y,H2,I2,r2,q2⟩ =>
    thn (ho pins s2 σ H2 x y v u _ I2 r1 r2 q2) fun c s3 ⟨z,H3,I3,r3,k,e,q3⟩=>?_) hm
  subst e
  cases r3
  exact wpAny_truthy_bool ⟨H3,I3,q3⟩
noncomputable def zH (r r':R2) (ta tb tc:TE):TE:=fun σ H Q=>ta σ H fun x H1=>tb σ H1 fun y H2=>r x y H2 fun z H3=>∃ k,z= .bl k∧
  (if k=true then tc σ H3 fun w' H4=>r' y w' H4 Q else Q (.bl false) H3)
theorem LL {op op':CmpOp} {r r':R2} (ho:OpR X (compareOp op) r) (ho':OpR X (compareOp op') r') (ha:PE X a ta) (hb:PE X b tb) (hc:PE X c tc)
    (hm:lastMarks [op,op'] [b,c]=false:=by with_unfolding_all rfl):PE X (.Compare a [op,op'] [b,c] pos) (zH r r' ta tb tc):=by
  intro pins s σ H Q I h
  refine Compare_chain (thn (ha pins s σ H _ I h) fun v s1 ⟨x,H1,I1,r1,q1⟩=>chain_link (thn (hb pins s1 σ H1 _ I1 q1) fun u s2 ⟨y,H2,I2,r2,q2⟩ =>
    thn (ho pins s2 σ H2 x y v u _ I2 r1 r2 q2) fun d s3 ⟨z,H3,I3,r3,k,e,q3⟩=>?_)) hm
  subst e
  cases r3
  refine wpAny_truthy_bool ?_
  cases k with
  | false=>exact ite_ff ⟨.bl false,H3,I3,rfl,q3⟩
  | true=>exact ite_tt (chain_last (thn (hc pins s3 σ H3 _ I3 q3) fun w' s4 ⟨z',H4,I4,r4,q4⟩=>ho' pins s4 σ H4 y z' u w' Q I4 r2 r4 q4))
theorem MT {op op':CmpOp} {r r':R2} (ho:OpR X (compareOp op) r) (ho':OpR X (compareOp op') r') (ha:PE X a ta) (hb:PE X b tb) (hc:PE X c tc)
    (hm:lastMarks [op,op'] [b,c]=false:=by with_unfolding_all rfl):PT X (.Compare a [op,op'] [b,c] pos) (ZH (zH r r' ta tb tc)):=by
  intro pins s σ H Q I h
  refine isTrue_chain (thn (ha pins s σ H _ I h) fun v s1 ⟨x,H1,I1,r1,q1⟩=>test_link (thn (hb pins s1 σ H1 _ I1 q1) fun u s2 ⟨y,H2,I2,r2,q2⟩ =>
    thn (ho pins s2 σ H2 x y v u _ I2 r1 r2 q2) fun d s3 ⟨z,H3,I3,r3,k,e,q3⟩=>?_)) hm
  subst e
  cases r3
  refine wpAny_truthy_bool ?_
  cases k with
  | false =>
    obtain ⟨k',e',q'⟩:=q3
    cases e'
    exact ite_ff ⟨H3,I3,q'⟩
  | true =>
    refine ite_tt (test_last (thn (hc pins s3 σ H3 _ I3 q3) fun w' s4 ⟨z',H4,I4,r4,q4⟩=>thn (ho' pins s4 σ H4 y z' u w' _ I4 r2 r4 q4) fun d' s5 ⟨z2,H5,I5,r5,k2,e2,q5⟩=>?_))
    subst e2
    cases r5
    exact wpAny_truthy_bool ⟨H5,I5,q5⟩
noncomputable def FR (K:W.Frag) (x:V) (H:Hp) (k:Bool):Prop :=
  match x with
  | .non=>k=false
  | .bl b=>k=b
  | .int i=>k=(i != 0)
  | .str y=>y.length≤sizeLine∧k=((y.length:Int) != 0)
  | .byt y=>y.size≤sizeLine∧k=((y.size:Int) != 0)
  | .ref p=>(∃ xs,SqL K H p xs∧k= !xs.isEmpty)∨(∃ xs,SqT K H p xs∧k= !xs.isEmpty)∨∃ kvs,H p=some (.dK kvs)∧k= !kvs.isEmpty
  | _=>False
theorem zR {κ:Type} {kvs:List (κ×V)} {vs:List (κ×Value)} (r:KV kvs vs):(!vs.isEmpty)= !kvs.isEmpty:=by
  cases r <;> rfl
theorem nW {xs:List V} {its:List Value} (r:aJ xs its):(!its.toArray.isEmpty)= !xs.isEmpty:=by
  cases r <;> simp
theorem jX:(sizeLine:Nat) < 2 ^ 63:=by rw [sizeLine_eq]; decide
theorem tR:aGc X (fun x H Q=>∃ k,FR X.K x H k∧Q k H):=by
  intro pins s σ H x v Q I rx h
  obtain ⟨k,e,q⟩:=h
  have hl:=jX
  have hs:sizeLine=16777216:=sizeLine_eq
  cases x with
  | non =>
    cases rx
    have e':k=false:=e
    subst e'
    exact truthy_none ⟨H,I,q⟩
  | bl b =>
    cases rx
    have e':k=b:=e
    subst e'
    exact wpAny_truthy_bool ⟨H,I,q⟩
  | int i =>
    obtain ⟨t,rfl⟩:=rx
    have e':k=(i != 0):=e
    subst e'
    exact PySem.P.truthy_int ⟨H,I,q⟩
  | str y =>
    obtain ⟨t,rfl⟩:=rx
    obtain ⟨hy,e'⟩:y.length≤sizeLine∧k=((y.length:Int) != 0):=e
    subst e'
    exact PySem.P.truthy_str (by omega) ⟨H,I.tok _,q⟩
  | byt y =>
    obtain ⟨t,rfl⟩:=rx
    obtain ⟨hy,e'⟩:y.size≤sizeLine∧k=((y.size:Int) != 0):=e
    subst e'
    exact W.truthy_bytes (by omega) ⟨H,I.tok _,q⟩
  | ref p =>
    cases rx
    have e':(∃ xs,SqL X.K H p xs∧k= !xs.isEmpty)∨(∃ xs,SqT X.K H p xs∧k= !xs.isEmpty)∨∃ kvs,H p=some (.dK kvs)∧k= !kvs.isEmpty:=e
    rcases e' with ⟨xs,hx,e'⟩ | ⟨xs,hx,e'⟩ | ⟨kvs,hx,e'⟩
    · subst e'
      obtain ⟨its,r,pl,hz⟩:=I.list hx
      have hlen:=r.length
      exact wpAny_truthy_list pl.isList (by simp only [List.size_toArray]; omega) ⟨H,I.tok _,by rw [nW r]; exact q⟩
    · subst e'
      obtain ⟨its,r,pl,hz⟩:=I.tuple hx
      have hlen:=r.length
      exact truthy_tuple pl (by simp only [List.size_toArray]; omega) ⟨H,I.tok _,by rw [nW r]; exact q⟩
    · subst e'
      obtain ⟨hz,hS,vs,r,m⟩:kvs.length≤sizeLine∧(p == sysModules)=false∧∃ vs,KV kvs vs∧s.heap.DictOf (dJ X.prog X.w) p vs:=I.hok p _ hx
      have hlen:kvs.length=vs.length:=Paired.length r
      exact wpAny_truthy_dict hS m (by omega) ⟨H,I.tok _,by rw [zR r]; exact q⟩
  | _=>exact (show False from e).elim
theorem ME (ha:PE X a ta) (he:∀ whole,isTrue a X.env whole=(do let v ←whole; standAt a.pos; holding [v] (truthy v))) :
    PT X a (fun σ H Q=>ta σ H fun x H'=>∃ k,FR X.K x H' k∧Q k H'):=by
  intro pins s σ H Q I h
  exact isTrue_plain (thn (ha pins s σ H _ I h) fun v s1 ⟨x,H1,I1,r1,q1⟩=>tR pins s1 σ H1 x v Q I1 r1 q1) (he _)
theorem yT:OpR X (binaryOp .Add) (fun x y H Q=>∃ i j,x= .str i∧y= .str j∧i.length + j.length≤sizeLine∧Q (.str (i ++ j)) H):=by
  intro pins s σ H x y v u Q I rx ry h
  obtain ⟨i,j,rfl,rfl,hz,q⟩:=h
  obtain ⟨t,rfl⟩:=rx
  obtain ⟨t',rfl⟩:=ry
  exact add_str (fun t' tk=>⟨.str (i ++ j),H,I.tok _,⟨_,rfl⟩,q⟩) hz
theorem hU {x:V} {us:List Value} (r:aJ [x] us):∃ u,us=[u]∧aQ x u:=by
  cases r with
  | cons r1 r2=>cases r2; exact ⟨_,rfl,r1⟩
theorem xS {x y:V} {us:List Value} (r:aJ [x,y] us):∃ u w',us=[u,w']∧aQ x u∧aQ y w':=by
  cases r with
  | cons r1 r2 =>
    cases r2 with
    | cons r3 r4=>cases r4; exact ⟨_,_,rfl,r1,r3⟩
theorem IF:bQ X (.builtin "abs") (fun xs H Q=>∃ i,xs=[.int i]∧Q (.int (if i < 0 then -i else i)) H):=by
  intro pins s σ H xs us Q I r h
  obtain ⟨i,rfl,q⟩:=h
  obtain ⟨u,rfl,t,rfl⟩:=hU r
  exact call_abs_int fun u tk=>⟨.int (if i < 0 then -i else i),H,I.tok _,⟨_,rfl⟩,q⟩
theorem HQ (hc:X.calm=true):bQ X (.builtin "max") (fun xs H Q=>∃ i j,xs=[.int i,.int j]∧Q (.int (if j > i then j else i)) H):=by
  intro pins s σ H xs us Q I r h
  obtain ⟨i,j,rfl,q⟩:=h
  obtain ⟨u,w',rfl,⟨t,rfl⟩,⟨t',rfl⟩⟩:=xS r
  refine max_two_ints (I.ok.hd hc) fun h' tk k=>⟨_,H,I.kept k, ?_,q⟩
  by_cases hj:j > i
  · rw [if_pos hj,if_pos hj]; exact ⟨_,rfl⟩
  · rw [if_neg hj,if_neg hj]; exact ⟨_,rfl⟩
theorem GI (hc:X.calm=true):bQ X (.builtin "min") (fun xs H Q=>∃ i j,xs=[.int i,.int j]∧Q (.int (if j < i then j else i)) H):=by
  intro pins s σ H xs us Q I r h
  obtain ⟨i,j,rfl,q⟩:=h
  obtain ⟨u,w',rfl,⟨t,rfl⟩,⟨t',rfl⟩⟩:=xS r
  refine min_two_ints (I.ok.hd hc) fun h' tk k=>⟨_,H,I.kept k, ?_,q⟩
  by_cases hj:j < i
  · rw [if_pos hj,if_pos hj]; exact ⟨_,rfl⟩
  · rw [if_neg hj,if_neg hj]; exact ⟨_,rfl⟩
theorem FE:bQ X (.type "int") (fun xs H Q=>(∃ i,xs=[.int i]∧Q (.int i) H)∨∃ k,xs=[.bl k]∧Q (.int (if k then 1 else 0)) H):=by
  intro pins s σ H xs us Q I r h
  rcases h with ⟨i,rfl,q⟩ | ⟨k,rfl,q⟩
  · obtain ⟨u,rfl,t,rfl⟩:=hU r
    exact call_int_int ⟨.int i,H,I,⟨_,rfl⟩,q⟩
  · obtain ⟨u,rfl,r1⟩:=hU r
    cases r1
    exact call_int_bool ⟨.int (if k then 1 else 0),H,I.tok _,⟨_,rfl⟩,q⟩
theorem uH:bQ X (.type "str") (fun xs H Q=>∃ i,xs=[.int i]∧i.natAbs.log2 < 1920∧Q (.str (toString i)) H):=by
  intro pins s σ H xs us Q I r h
  obtain ⟨i,rfl,hz,q⟩:=h
  obtain ⟨u,rfl,t,rfl⟩:=hU r
  exact PySem.P.str_of_int hz ⟨.str _,H,I.tok _,⟨_,rfl⟩,q⟩
end
structure ET (h:Heap) (x dx C:Addr) (mA:Str→Option Value):Prop where
  obj:h.get? x=some (W.instObj C dx)
  ns:h.Ns1 dx mA
  ne:dx≠x
theorem sE {h:Heap} {dx:Addr} {mA:Str→Option Value} (n:h.Ns1 dx mA):∃ od,h.get? dx=some od∧∀ name,W.lookIn name od=some (mA name):=by
  obtain ⟨o,es,ep,ho,hd,hk,_,hm⟩:=n
  refine ⟨o,ho,fun name=>?_⟩
  have e:=hm name
  unfold nsFind findBy at e
  rw [←Array.find?_toList] at e
  unfold W.lookIn
  rw [hd]
  dsimp only
  split
  · rename_i y q
    rw [q] at e
    exact congrArg some e
  · rename_i q
    rw [q] at e
    have a:es.toList.any (·.refKey)=false:=by
      rw [List.any_eq_false]
      intro y hy
      obtain ⟨z,t,hkey⟩:=hk y (Array.mem_toList_iff.mp hy)
      simp [DictEntry.refKey,hkey]
    have a':¬es.toList.any (·.refKey)=true:=by rw [a]; exact Bool.false_ne_true
    rw [if_neg a']
    exact congrArg some e
theorem ET.look {h:Heap} {x dx C:Addr} {mA:Str→Option Value} (I:ET h x dx C mA):∃ od,W.InstAt h x (W.instObj C dx) C (some od)∧∀ name,W.lookIn name od=some (mA name) :=
  let ⟨od,ho,hl⟩:=sE I.ns
  ⟨od,⟨I.obj,rfl,rfl,ho⟩,hl⟩
section
variable {prog:Program} {w:World} {A:Around} {E:Value→Shared→Prop} {s:Shared} {K:W.Frag} {x dx C f:Addr} {mA:Str→Option Value} {name:Str} {v:Value}
theorem VZ {expr:Bool} {Q:Value→Shared→Prop} (X:K.In s.heap) (I:ET s.heap x dx C mA) (hg:W.plainGet K C name=true) (hh:W.hasDictIn K C=true)
    (ha:W.findIn K (.ref C) name=some none) (hv:mA name=some v) (hv':W.handedIn v=true) (h:Q v { s with toks:=s.toks + 1 }) :
    wpAny (model prog w) A (getAttr (.ref x) name expr) Q E s:=by
  obtain ⟨od,J,hl⟩:=I.look
  exact W.get_value X J (W.plainGet_of hg).1 (W.findObj_own hh ha rfl (by rw [hl,hv])) hv' h
theorem SJ {ns:List Str} {Q:Unit→Shared→Prop} (X:K.In s.heap) (I:ET s.heap x dx C mA)
    (hs:W.findIn K (.ref C) "__setattr__"=some (some (.builtin "object.__setattr__"))) (hp:W.plainOver K C=true) (ht:W.takerIn K C name=some none) (hh:W.hasDictIn K C=true)
    (hw:PySem.Within mA ns) (hsz:ns.length≤sizeLine)
    (h:∀ h',ET h' x dx C (fun y=>if y=name then some v else mA y)→Heap.SameBut dx s.heap h'→Q () { s with heap:=h',toks:=s.toks + 2 }) :
    wpAny (model prog w) A (setAttr (.ref x) name v) Q E s:=by
  obtain ⟨od,J,hl⟩:=I.look
  refine W.set_plain X J hs (W.osa_open (s:={ s with toks:=s.toks + 1 }) (r:=none) X J hp ht fun b=>?_)
  obtain ⟨cd,hc,hd'⟩:=W.any_some hh
  have hx:s.heap.get? x=some ⟨.ref C,some dx,.plain, #[]⟩:=I.obj
  refine wpAny_bind (wpAny_pure (wpAny_bind (wpAny_bind (wpAny_loadPart hx (wpAny_bind (W.Looks.here (s:={ s with toks:=s.toks + 1 }) (W.looks_clsIn X hc) ?_))))))
  rw [hd']
  refine wpAny_pure (a:=some dx) (wpAny_bind (wpAny_pure (wpAny_bind ?_)))
  refine wpAny_nsSet1 (s:={ s with toks:=s.toks + 1 }) I.ns fun h' hn2 hs2=>?_
  obtain ⟨oD,esD,epD,hoD,hdD,hcD⟩:=hn2.count (PySem.Within.cons name v hw)
  refine wpAny_bind (wpAny_lookBehind hoD (by rw [hdD]; exact pastItsLine_dict (Nat.le_trans hcD (by rw [List.length_cons]; omega))) ?_)
  exact wpAny_pure (h _ ⟨(hs2.2 _ (Ne.symm I.ne)).trans I.obj,hn2,I.ne⟩ hs2)
theorem pB {R:Result→Shared→Prop} {vs:List Value} {kw:List (Str×Value)} (X:K.In s.heap) (hm:W.makesIn K C=true)
    (hi:W.findIn K (.ref C) "__init__"=some (some (.ref f))) (hf:W.typeIn K (.ref f)=some (.type "function"))
    (h :codeAny (model prog w) (A.under (.builtin "type.__call__" ⟨.ref C :: vs,kw⟩)) (.call (.ref f) ⟨.ref (s.heap.objs.size + 1) :: vs,kw⟩) (W.InitBack (s.heap.objs.size + 1) R)
      { s with heap:=(s.heap.push W.emptyDict).push (W.instObj C s.heap.objs.size) }) :
    codeAny (model prog w) A (.call (.ref C) ⟨vs,kw⟩) R s:=by
  obtain ⟨hh,g,d,t,os⟩:=s
  exact W.make_core (W.makes_of X hm) (W.looks_findIn X hi) (fun self=>W.bind_fn X self hf) (.inl rfl) h
end
noncomputable def hV (f:Str) (v:V):List (Str×V)→List (Str×V)
  | []=>[(f,v)]
  | (g,x) :: r=>if g=f then (g,v) :: r else (g,x) :: hV f v r
theorem mI (f g:Str) (v:V):∀ fs:List (Str×V),(hV f v fs).lookup g=if g=f then some v else fs.lookup g
  | [] =>by
    show List.lookup g [(f,v)]=_
    by_cases h:g=f
    · have hb:(g == f)=true:=beq_iff_eq.mpr h
      simp only [List.lookup,hb,if_pos h]
    · have hb:(g == f)=false:=beq_eq_false_iff_ne.mpr h
      simp only [List.lookup,hb,if_neg h]
  | (k, x) :: r=>by
    have ih:=mI f g v r
    rw [show hV f v ((k,x) :: r)=(if k=f then (k,v) :: r else (k,x) :: hV f v r) from rfl]
    by_cases hk:k=f
    · rw [if_pos hk]
      by_cases h:g=k
      · have hb:(g == k)=true:=beq_iff_eq.mpr h
        simp only [List.lookup,hb,if_pos (h.trans hk)]
      · have hb:(g == k)=false:=beq_eq_false_iff_ne.mpr h
        simp only [List.lookup,hb,if_neg (fun e:g=f=>h (e.trans hk.symm))]
    · rw [if_neg hk]
      by_cases h:g=k
      · have hb:(g == k)=true:=beq_iff_eq.mpr h
        simp only [List.lookup,hb,if_neg (fun e:g=f=>hk (h.symm.trans e))]
      · have hb:(g == k)=false:=beq_eq_false_iff_ne.mpr h
        simp only [List.lookup,hb]
        exact ih
theorem lZ (f:Str) (v:V):∀ fs:List (Str×V),f∈(hV f v fs).map (·.1)∧∀ g,g∈fs.map (·.1)→g∈(hV f v fs).map (·.1)
  | []=>⟨by simp [hV],fun g h=>by simp at h⟩
  | (k, x) :: r=>by
    obtain ⟨i1,i2⟩:=lZ f v r
    rw [show hV f v ((k,x) :: r)=(if k=f then (k,v) :: r else (k,x) :: hV f v r) from rfl]
    by_cases hk:k=f
    · rw [if_pos hk]
      subst hk
      exact ⟨by simp,fun g h=>by simpa using h⟩
    · rw [if_neg hk]
      refine ⟨?_,fun g h=>?_⟩
      · rw [List.map_cons]
        exact List.mem_cons_of_mem _ i1
      · rw [List.map_cons] at h ⊢
        rcases List.mem_cons.mp h with e | e
        · exact List.mem_cons.mpr (.inl e)
        · exact List.mem_cons_of_mem _ (i2 g e)
theorem mO (f:Str) (v:V):∀ fs:List (Str×V),(hV f v fs).length≤fs.length + 1
  | []=>by simp [hV]
  | (k,x) :: r=>by
    have ih:=mO f v r
    rw [show hV f v ((k,x) :: r)=(if k=f then (k,v) :: r else (k,x) :: hV f v r) from rfl]
    by_cases hk:k=f
    · rw [if_pos hk,List.length_cons,List.length_cons]; omega
    · rw [if_neg hk,List.length_cons,List.length_cons]; omega
theorem lJ.some_of {v:V} {o:Option Value} (r:lJ (some v) o):∃ u,o=some u∧aQ v u:=by
  cases o with
  | none=>exact (show False from r).elim
  | some u=>exact ⟨u,rfl,r⟩
theorem sC {v:V} {u:Value} (r:aQ v u):W.handedIn u=true:=by
  cases v with
  | non=>cases (show u=Value.none from r); rfl
  | bl b=>cases (show u=Value.bool b from r); rfl
  | int i=>obtain ⟨t,e⟩:=(show ∃ t,u=Value.int i t from r); cases e; rfl
  | str x=>obtain ⟨t,e⟩:=(show ∃ t,u=Value.str x t from r); cases e; rfl
  | byt b=>obtain ⟨t,e⟩:=(show ∃ t,u=Value.bytes b t from r); cases e; rfl
  | flt b=>obtain ⟨t,e⟩:=(show ∃ t,u=Value.float b t from r); cases e; rfl
  | ref a=>cases (show u=Value.ref a from r); rfl
  | ty n=>cases (show u=Value.type n from r); rfl
section
variable {P:Program} {w:World} {H H':Hp} {h h':Heap} {a C dx:Addr} {fs fs':List (Str×V)}
theorem nF (hok:HOk P w H h) (e:H a=some (.ins C dx fs)):∃ mA,ET h a dx C mA∧(∀ f,lJ (fs.lookup f) (mA f))∧PySem.Within mA (fs.map (·.1))∧fs.length≤1000∧H dx=some (.own a):=by
  obtain ⟨d,z,ne,ob,mA,n,r,q⟩:=(show bJ P w H h a (.ins C dx fs) from hok a _ e)
  exact ⟨mA,⟨ob,n,ne⟩,r,q,z,d⟩
end
structure Cls (K:W.Frag) (C:Addr):Prop where
  pg:W.plainGet K C Str.empty=true
  hd:W.hasDictIn K C=true
  po:W.plainOver K C=true
  sa:W.findIn K (.ref C) "__setattr__"=some (some (.builtin "object.__setattr__"))
theorem Cls.get {K:W.Frag} {C:Addr} (c:Cls K C) (f:Str):W.plainGet K C f=true:=c.pg
noncomputable def eG (K:W.Frag) (C:Addr) (f:Str):Prop:=W.findIn K (.ref C) f=some none
theorem eG.taker {K:W.Frag} {C:Addr} {f:Str} (n:eG K C f):W.takerIn K C f=some none:=by
  unfold W.takerIn
  rw [show W.findIn K (.ref C) f=some none from n]
  rfl
structure wF (K:W.Frag) (C:Addr) (m:Str) (f:Addr):Prop where
  at_:W.findIn K (.ref C) m=some (some (.ref f))
  fn:W.isFn K (.ref f)=true
  kp:W.keepIn K (.ref f)=true
section
variable {X:Cx} {pins:List (Addr×Obj)} {σ:St} {H:Hp} {s:Shared} {a C dx:Addr} {fs:List (Str×V)} {f:Str} {v:V} {A:Around} {E:Value→Shared→Prop}
theorem AO {b:Bool} {Q:Value→Shared→Prop} (I:Inv X pins σ H s) (e:H a=some (.ins C dx fs)) (c:Cls X.K C) (n:eG X.K C f) (l:fs.lookup f=some v)
    (h:∀ u s',Inv X pins σ H s'→aQ v u→Q u s'):wpAny (model X.prog X.w) A (getAttr (.ref a) f b) Q E s:=by
  obtain ⟨mA,O,r,_,_,_⟩:=nF I.hok e
  obtain ⟨u,hu,ru⟩:=lJ.some_of (v:=v) (o:=mA f) (by rw [←l]; exact r f)
  exact VZ I.kIn O (c.get f) c.hd n hu (sC ru) (h u _ (I.tok _) ru)
theorem AX {y:V} {u:Value} {Q:Unit→Shared→Prop} (I:Inv X pins σ H s) (e:H a=some (.ins C dx fs)) (c:Cls X.K C) (n:eG X.K C f) (hl:fs.length < 1000) (ry:aQ y u)
    (h:∀ s',Inv X pins σ (upd H a (.ins C dx (hV f y fs))) s'→Q () s'):wpAny (model X.prog X.w) A (setAttr (.ref a) f u) Q E s:=by
  obtain ⟨mA,O,r,wi,_,ho⟩:=nF I.hok e
  have hz:(fs.map (·.1)).length≤sizeLine:=by rw [List.length_map,sizeLine_eq]; omega
  refine SJ I.kIn O c.sa c.po n.taker c.hd wi hz fun h' O' sb=>h _ ?_
  have hd:∃ o,h'.get? dx=some o:=let ⟨o,_,_,e',_⟩:=O'.ns; ⟨o,e'⟩
  refine I.write (x:=a) (e:=dx) (by rw [e]; exact True.intro) (.inr ho) (fun b q hb z=>(sb.2 b hb).trans z) hd ?_
  refine ⟨by rw [aB O.ne]; exact ho, ?_,O.ne,O'.obj,_,O'.ns,fun g=>?_,fun g hg=>?_⟩
  · have:=mO f y fs; omega
  · show lJ ((hV f y fs).lookup g) (if g=f then some u else mA g)
    rw [mI]
    by_cases q:g=f
    · rw [if_pos q,if_pos q]; exact ry
    · rw [if_neg q,if_neg q]; exact r g
  · by_cases q:g=f
    · rw [q]; exact (lZ f y fs).1
    · refine (lZ f y fs).2 g (wi g fun z=>hg ?_)
      show (if g=f then some u else mA g)=none
      rw [if_neg q]; exact z
theorem Inv.made (I:Inv X pins σ H s):Inv X pins σ (upd (upd H s.heap.objs.size (.own (s.heap.objs.size + 1))) (s.heap.objs.size + 1) (.ins C s.heap.objs.size []))
    { s with heap:=(s.heap.push W.emptyDict).push (W.instObj C s.heap.objs.size) }:=by
  have e1:(s.heap.push W.emptyDict).get? s.heap.objs.size=some W.emptyDict:=Heap.get?_push_size s.heap rfl
  have e2:((s.heap.push W.emptyDict).push (W.instObj C s.heap.objs.size)).get? (s.heap.objs.size + 1)=some (W.instObj C s.heap.objs.size):=by
    have:=Heap.get?_push_size (s.heap.push W.emptyDict) (o:=W.instObj C s.heap.objs.size) rfl
    rwa [Heap.size_push] at this
  have e3:(s.heap.push W.emptyDict).Ns s.heap.objs.size (fun _=>none):=⟨W.emptyDict, #[],_,e1,rfl,(fun e he=>absurd he (by simp)),fun _=>rfl⟩
  have I1:=I.laid (a:=s.heap.objs.size) (o:=.own (s.heap.objs.size + 1)) (h':=s.heap.push W.emptyDict) (t':=s.toks) (fun b u q=>Heap.get?_push_of_some _ q) (Nat.le_refl _) ⟨_,e1⟩
  refine I1.laid (a:=s.heap.objs.size + 1) (o:=.ins C s.heap.objs.size []) (t':=s.toks) (fun b u q=>Heap.get?_push_of_some _ q) (Nat.le_of_eq (Heap.size_push _ _)) ?_
  have ne:s.heap.objs.size≠s.heap.objs.size + 1:=Nat.ne_of_lt (Nat.lt_succ_self _)
  refine ⟨by rw [aB ne,aH],Nat.zero_le _,ne,e2,fun _=>none,(Heap.Ns1.of_empty e3).at fun o q=>Heap.get?_push_of_some _ q,fun _=>True.intro,fun y hy=>absurd rfl hy⟩
theorem CB {prog:Program} {w:World} {env:Env} {e:Expr} {f:Str} {pos:Pos} {s:Shared} {Q:Value→Shared→Prop} (hb:attributeBase e f env (eval e env)=eval e env)
    (h:wpAny (model prog w) A (eval e env) (fun o s₁=>wpAny (model prog w) A (getAttr o f true) Q E s₁) E s):wpAny (model prog w) A (eval (.Attribute e f pos) env) Q E s :=
  Attribute_any_ h (by rw [arm_eval_Attribute,hb])
end
noncomputable def aHk (K:W.Frag) (ta:TE) (f:Str):TE:=fun σ H Q=>ta σ H fun x H1=>∃ a C dx fs v,x= .ref a∧H1 a=some (.ins C dx fs)∧Cls K C∧eG K C f∧fs.lookup f=some v∧Q v H1
noncomputable def aGb (K:W.Frag) (ta tv:TE) (f:Str):TS:=fun D σ H=>tv σ H fun y H1=>ta σ H1 fun x H2=>∃ a C dx fs,x= .ref a∧H2 a=some (.ins C dx fs)∧Cls K C∧eG K C f∧fs.length < 1000∧
  D.nx σ (upd H2 a (.ins C dx (hV f y fs)))
section
variable {X:Cx} {o e value:Expr} {f:Str} {pos pos' tpos:Pos} {ta tv:TE}
theorem aBa (he:PE X e ta) (hb:attributeBase e f X.env (eval e X.env)=eval e X.env):PE X (.Attribute e f pos) (aHk X.K ta f):=by
  intro pins s σ H Q I h
  refine CB hb (thn (he pins s σ H _ I h) fun u s1 ⟨x,H1,I1,rx,a,C,dx,fs,v,ex,ea,c,n,l,q⟩=>?_)
  subst ex
  obtain rfl:u=Value.ref a:=rx
  exact AO I1 ea c n l fun u' s2 I2 ru=>⟨v,H1,I2,ru,q⟩
theorem aCz (ha:PE X o ta) (hv:PE X value tv) (hs:swapsWith value (some (.Attribute o f pos')) pos.line X.env=pure false):PS X (.Assign [.Attribute o f pos'] value pos) (aGb X.K ta tv f):=by
  intro pins s σ H D I h
  refine plainObj_wpAny_Assign_Attribute (thn (hv pins s σ H _ I h) fun u s1 ⟨y,H1,I1,ry,q⟩=>thn (ha pins s1 σ H1 _ I1 q) fun ov s2 ⟨x,H2,I2,rx,a,C,dx,fs,ex,ea,c,n,l,q2⟩=>?_) hs
  subst ex
  obtain rfl:ov=Value.ref a:=rx
  exact AX I2 ea c n l ry fun s3 I3=>⟨σ,_,I3,q2⟩
end
section
variable {X:Cx} {pins:List (Addr×Obj)} {σ:St} {H:Hp} {s:Shared} {A:Around} {E:Value→Shared→Prop} {Q:Value→Shared→Prop} {c:Value} {b:Bool}
inductive mG (K:W.Frag) (H:Hp):V→Value→Prop where
  | non:mG K H .non (.type "NoneType")
  | bl (x:Bool):mG K H (.bl x) (.type "bool")
  | int (i:Int):mG K H (.int i) (.type "int")
  | str (x:Str):mG K H (.str x) (.type "str")
  | flt (x:UInt64):mG K H (.flt x) (.type "float")
  | lst {a:Addr} {xs:List V} (e:H a=some (.lst xs)):mG K H (.ref a) (.type "list")
  | frz {a:Addr} {o:Obj} {xs:List V} (e:H a=some (.frz o (.lst xs))):mG K H (.ref a) (.type "list")
  | tup {a:Addr} {xs:List V} (e:H a=some (.tup xs)):mG K H (.ref a) (.type "tuple")
  | dK {a:Addr} {kvs:List (Key×V)} (e:H a=some (.dK kvs)):mG K H (.ref a) (.type "dict")
  | dT {a:Addr} {kvs:List (List Key×V)} (e:H a=some (.dT kvs)):mG K H (.ref a) (.type "dict")
  | ins {a C dx:Addr} {fs:List (Str×V)} (e:H a=some (.ins C dx fs)) (cl:Cls K C) (ha:W.findIn K (.ref C) "__class__"=some (some (.builtin "object.__class__")))
      (hn:W.specialIn K (.builtin "object.__class__") "__get__"=some (some (.builtin "getset_descriptor.__get__"))) (htk:W.takesIn K (.builtin "object.__class__")=some true)
      (hm:W.mroIn K C (.type "object")=some true):mG K H (.ref a) (.ref C)
theorem tG {x:V} {u t:Value} (I:Inv X pins σ H s) (rx:aQ x u) (ty:mG X.K H x t) (e:W.kitOne X.K t c=some b) (h:∀ tk,Q (.bool b) { s with toks:=tk }) :
    wpAny (model X.prog X.w) A (call (.builtin "isinstance") [u,c]) Q E s:=by
  cases ty with
  | non=>cases (show u=Value.none from rx); exact W.kia_one W.kitx_none I.kIn True.intro e (fun z=>nomatch z) h
  | bl y=>cases (show u=Value.bool y from rx); exact W.kia_one W.kitx_bool I.kIn True.intro e (fun z=>nomatch z) h
  | int i=>obtain ⟨t,q⟩:=(show ∃ t,u=Value.int i t from rx); cases q; exact W.kia_one W.kitx_int I.kIn True.intro e (fun z=>nomatch z) h
  | str y=>obtain ⟨t,q⟩:=(show ∃ t,u=Value.str y t from rx); cases q; exact W.kia_one W.kitx_str I.kIn True.intro e (fun z=>nomatch z) h
  | flt y=>obtain ⟨t,q⟩:=(show ∃ t,u=Value.float y t from rx); cases q; exact W.kia_one W.kitx_float I.kIn True.intro e (fun z=>nomatch z) h
  | @lst a xs ea =>
    cases (show u=Value.ref a from rx)
    obtain ⟨_,_,n,_,h1⟩:=(show bJ X.prog X.w H s.heap a (.lst xs) from I.hok a _ ea)
    exact W.kia_one W.kitx_list I.kIn ⟨_,h1,rfl⟩ e (fun z=>nomatch z) h
  | @frz a ob xs ea =>
    cases (show u=Value.ref a from rx)
    obtain ⟨_,_,_,n,_,h1⟩:=(show bJ X.prog X.w H s.heap a (.frz ob (.lst xs)) from I.hok a _ ea)
    exact W.kia_one W.kitx_list I.kIn ⟨_,h1,rfl⟩ e (fun z=>nomatch z) h
  | @tup a xs ea =>
    cases (show u=Value.ref a from rx)
    obtain ⟨_,_,_,p⟩:=(show bJ X.prog X.w H s.heap a (.tup xs) from I.hok a _ ea)
    obtain ⟨o,h1,h2,_⟩:=p.1
    exact W.kia_one W.kitx_tuple I.kIn ⟨o,h1,h2⟩ e (fun z=>nomatch z) h
  | @dK a kvs ea =>
    cases (show u=Value.ref a from rx)
    obtain ⟨_,_,vs,_,p⟩:=(show bJ X.prog X.w H s.heap a (.dK kvs) from I.hok a _ ea)
    obtain ⟨o,es,ep,h1,h2,_⟩:=p
    exact W.kia_one W.kitx_dict I.kIn ⟨o,h1,h2.1⟩ e (fun z=>nomatch z) h
  | @dT a kvs ea =>
    cases (show u=Value.ref a from rx)
    obtain ⟨_,_,xs,_,o,es,ep,h1,h2,_⟩:=(show bJ X.prog X.w H s.heap a (.dT kvs) from I.hok a _ ea)
    exact W.kia_one W.kitx_dict I.kIn ⟨o,h1,h2.1⟩ e (fun z=>nomatch z) h
  | @ins a C dx fs ea cl ha hn htk hm =>
    cases (show u=Value.ref a from rx)
    obtain ⟨mA,O,_⟩:=nF I.hok ea
    obtain ⟨od,J,_⟩:=O.look
    exact W.kia_one (W.kitx_own (cl.get _) cl.hd ha hn htk hm) I.kIn J e (fun z=>nomatch z) h
end
structure bC (k:Nat) (A:Around):Prop where
  hd:40≤k→A.handled=none
  dp:A.depth + 3 * k + 5 < recursionLimit
  un:A.units + 16 * k + 200 < cLine
  gd:80≤k→A.guards=some []
theorem bC.mono {j k:Nat} {A:Around} (r:bC k A) (h:j≤k):bC j A:=⟨fun z=>r.hd (Nat.le_trans z h),by have:=r.dp; omega,by have:=r.un; omega,fun z=>r.gd (Nat.le_trans z h)⟩
theorem bC.deeper {k:Nat} {A:Around} (r:bC (k + 1) A) (env:Env):bC k (A.deeper env) :=
  ⟨fun z=>r.hd (Nat.le_succ_of_le z),by have:=r.dp; show A.depth + 1 + 3 * k + 5 < _; omega,by have:=r.un; show A.units + 3 + 16 * k + 200 < _; omega,fun z=>r.gd (Nat.le_succ_of_le z)⟩
theorem bC.in1 {k:Nat} {A:Around} (r:bC (k + 1) A):bC k A.in1 :=
  ⟨fun z=>r.hd (Nat.le_succ_of_le z),by have:=r.dp; show A.depth + 3 * k + 5 < _; omega,by have:=r.un; show A.units + 1 + 16 * k + 200 < _; omega,fun z=>r.gd (Nat.le_succ_of_le z)⟩
theorem zP {A:Around} {C:Addr} {us:List Value} {kw:List (Str×Value)}:(A.under (.builtin "type.__call__" ⟨.ref C :: us,kw⟩)).depth=A.depth + 1:=by
  first | rfl | simp [Around.under,Code.weight,Code.isCreation,Code.isGuard,Code.isCaller,Code.frames,Code.isFrame,guardIds]
theorem BS {A:Around} {C:Addr} {us:List Value} {kw:List (Str×Value)}:(A.under (.builtin "type.__call__" ⟨.ref C :: us,kw⟩)).units=A.units + 1:=by
  first | rfl | simp [Around.under,Code.cUnits,Code.frames,Code.isFrame]
theorem bC.make {k:Nat} {A:Around} (r:bC (k + 1) A) (C:Addr) (us:List Value) (kw:List (Str×Value)):bC k (A.under (.builtin "type.__call__" ⟨.ref C :: us,kw⟩)) :=
  ⟨fun z=>r.hd (Nat.le_succ_of_le z),by have:=r.dp; rw [zP]; omega,by have:=r.un; rw [BS]; omega,fun z=>by
    have e:=r.gd (Nat.le_succ_of_le z)
    first | exact e | (simp only [Around.under,Code.isGuard,guardIds]; simpa using e)⟩
theorem bC.depth {k:Nat} {A:Around} (r:bC k A):A.depth < recursionLimit:=by have:=r.dp; omega
theorem bC.units {k:Nat} {A:Around} (r:bC k A):A.units + 64 < cLine:=by have:=r.un; omega
theorem bC.units0 {k:Nat} {A:Around} (r:bC k A):A.units < cLine:=by have:=r.un; omega
noncomputable def aAs:TA:=fun _ H Q=>Q [] H
noncomputable def CF (ta:TE) (tr:TA):TA:=fun σ H Q=>ta σ H fun x H1=>tr σ H1 fun xs H2=>Q (x :: xs) H2
section
variable {X:Cx} {e:Expr} {es:List Expr} {te:TE} {t:TA} {pos:Pos}
theorem eC:PA X [] aAs:=fun _ _ _ _ H Q I h=>Calls.spliced_nil ⟨[],H,I,.nil,h⟩
theorem bR (ha:PE X e te) (hr:PA X es t) (hs:starEach (e :: es) X.env=(false,eval e X.env) :: starEach es X.env:=by rfl):PA X (e :: es) (CF te t):=by
  intro pos pins s σ H Q I h
  rw [hs]
  show wpAny _ _ (spliced ((false,eval e X.env) :: backTo pos (starEach es X.env))) _ _ s
  refine Calls.spliced_cons (thn (ha pins s σ H _ I h) fun u s1 ⟨x,H1,I1,r1,q1⟩=>?_)
  exact thn (hr pos pins s1 σ H1 _ I1 q1) fun us s2 ⟨xs,H2,I2,r2,q2⟩=>⟨x :: xs,H2,I2,.cons r1 r2,q2⟩
noncomputable def aG5 (t:TA):TE:=fun σ H Q=>t σ H fun xs H1=>xs.length≤sizeLine∧∀ p,H1 p=none→Q (.ref p) (upd H1 p (.tup xs))
noncomputable def aGp (t:TA):TE:=fun σ H Q=>t σ H fun xs H1=>xs.length≤sizeLine∧∀ p,H1 p=none→Q (.ref p) (upd H1 p (.lst xs))
theorem aCn {x1} (h:PA X es t):PE X (.Tuple es x1 pos) (aG5 t):=by
  intro pins s σ H Q I hq
  refine wpAny_Tuple_spliced (thn (h pos pins s σ H _ I hq) fun us s1 ⟨xs,H1,I1,r,z,q⟩=>⟨by rw [←r.length]; exact z, ?_⟩)
  have hf:H1 s1.heap.objs.size=none:=I1.hok.fresh (Nat.le_refl _)
  refine ⟨.ref s1.heap.objs.size,upd H1 s1.heap.objs.size (.tup xs),I1.laid (t':=s1.toks) (fun b u e=>Heap.get?_push_of_some _ e) (Nat.le_refl _) ?_,rfl,q _ hf⟩
  exact ⟨z,us,r,eL.new _ _⟩
theorem aB4 (h:PA X es t):PE X (.List es pos) (aGp t):=by
  intro pins s σ H Q I hq
  refine wpAny_List_spliced (thn (h pos pins s σ H _ I hq) fun us s1 ⟨xs,H1,I1,r,z,q⟩=>⟨by rw [←r.length]; exact z, ?_⟩)
  have hf:H1 s1.heap.objs.size=none:=I1.hok.fresh (Nat.le_refl _)
  refine ⟨.ref s1.heap.objs.size,upd H1 s1.heap.objs.size (.lst xs),I1.laid (t':=s1.toks) (fun b u e=>Heap.get?_push_of_some _ e) (Nat.le_refl _) ?_,rfl,q _ hf⟩
  exact ⟨z,us,0,r,Heap.get?_push_size _ rfl⟩
end
noncomputable abbrev Sp:=List V→Hp→VK→XK→Prop
noncomputable abbrev CXT:=List Env→Hp→Shared→XK→Value→Shared→Prop
structure mS (P:Program) (w:World) (K:W.Frag) (mg:Str→Option Value) (base:Heap) (A:Around) (outer:List Env) (s:Shared) (H:Hp):Prop where
  frames:A.frames=some outer
  mod:Mod K mg base
  bs:∀ b o,base.get? b=some o→s.heap.get? b=some o∧H b=none
  bsz:base.objs.size≤s.heap.objs.size
  funs:s.heap.FunFrames base outer
  frf:∀ b∈frs outer,H b=none
  hok:HOk P w H s.heap
  bare:AllBare s.gens
noncomputable def CE (outer:List Env) (P:Program) (w:World) (H:Hp) (s:Shared) (Q:VK) (u:Value) (s':Shared):Prop :=
  ∃ v H',s'.os=s.os∧AllBare s'.gens∧Un (frs outer) [] H H' s.heap s'.heap∧HOk P w H' s'.heap∧aQ v u∧Q v H'
noncomputable def CR (CX:CXT) (outer:List Env) (P:Program) (w:World) (H:Hp) (s:Shared) (Q:VK) (E:XK) (r:Result) (s':Shared):Prop :=
  match r with
  | .ok (.ret u)=>CE outer P w H s Q u s'
  | .ok _=>False
  | .error e=>CX outer H s E e s'
structure bL (P:Program) (w:World) (K:W.Frag) (mg:Str→Option Value) (base:Heap) (CX:CXT) (k:Nat) (f:Addr) (fd:FuncData) (ps:List Str) (sp:Sp):Prop where
  len:∀ vs H Q E,sp vs H Q E→vs.length=ps.length
  run:∀ (A:Around) (outer:List Env) (s:Shared) (H:Hp) (args:Args) (us:List Value) (vs:List V) (Q:VK) (E:XK),bC k A→mS P w K mg base A outer s H→BindsTo s fd args (ps.zip us)→aJ vs us→sp vs H Q E→
    codeAny (model P w) A (.call (.ref f) args) (CR CX outer P w H s Q E) s
theorem bL.mono {P:Program} {w:World} {K:W.Frag} {mg:Str→Option Value} {base:Heap} {CX:CXT} {j k:Nat} {f:Addr} {fd:FuncData} {ps:List Str} {sp:Sp} (F:bL P w K mg base CX j f fd ps sp) (h:j≤k) :
    bL P w K mg base CX k f fd ps sp:=⟨F.len,fun A outer s H args us vs Q E hr=>F.run A outer s H args us vs Q E (hr.mono h)⟩
theorem bL.imp {P:Program} {w:World} {K:W.Frag} {mg:Str→Option Value} {base:Heap} {CX:CXT} {k:Nat} {f:Addr} {fd:FuncData} {ps:List Str} {sp sp':Sp} (F:bL P w K mg base CX k f fd ps sp)
    (h:∀ vs H Q E,sp' vs H Q E→sp vs H Q E):bL P w K mg base CX k f fd ps sp' :=
  ⟨fun vs H Q E q=>F.len vs H Q E (h _ _ _ _ q),fun A outer s H args us vs Q E hr he hb hv hs=>F.run A outer s H args us vs Q E hr he hb hv (h _ _ _ _ hs)⟩
theorem mS.make {P:Program} {w:World} {K:W.Frag} {mg:Str→Option Value} {base:Heap} {A:Around} {outer:List Env} {s:Shared} {H:Hp} (e:mS P w K mg base A outer s H) (C:Addr) (us:List Value) (kw:List (Str×Value)) :
    mS P w K mg base (A.under (.builtin "type.__call__" ⟨.ref C :: us,kw⟩)) outer s H:=⟨by first | exact e.frames | (simpa [Around.under,Code.envs,Code.isFrame,pushEnvs] using e.frames),e.mod,e.bs,e.bsz,e.funs,e.frf,e.hok,e.bare⟩
theorem mS.in1 {P:Program} {w:World} {K:W.Frag} {mg:Str→Option Value} {base:Heap} {A:Around} {outer:List Env} {s:Shared} {H:Hp} (e:mS P w K mg base A outer s H) :
    mS P w K mg base A.in1 outer s H:=⟨e.frames,e.mod,e.bs,e.bsz,e.funs,e.frf,e.hok,e.bare⟩
section
variable {X:Cx} {pins:List (Addr×Obj)} {σ:St} {H:Hp} {s s':Shared}
theorem Inv.env0 (I:Inv X pins σ H s):mS X.prog X.w X.K X.mg X.base X.A X.stack s H :=
  ⟨I.ok.frames,I.ok.mod,I.bs,Nat.le_trans I.ok.bsz I.sz,I.stack,I.stkFree,I.hok,I.bare⟩
theorem Inv.after {Q:VK} {u:Value} (I:Inv X pins σ H s) (h:CE X.stack X.prog X.w H s Q u s'):EP X pins σ Q u s':=by
  obtain ⟨v,H',os,bare,un,hok,r,q⟩:=h
  obtain ⟨hh,g,d,t,os'⟩:=s'
  obtain rfl:os'=s.os:=os
  exact ⟨v,H',I.call (h':=hh) (g':=g) (d':=d) (t':=t) (ch:=[]) un hok bare (fun b z=>absurd z (by simp)),r,q⟩
end
noncomputable def aFQ (sp:Sp) (dvs:List V) (E:XK) (t:TA):TE:=fun σ H Q=>t σ H fun vs H1=>sp (vs ++ dvs) H1 Q E
noncomputable def aDv (C:Addr) (sp:Sp) (dvs:List V) (E:XK) (t:TA):TE:=fun σ H Q=>t σ H fun vs H1=>∀ x dx,H1 x=none→H1 dx=none→dx≠x→
  sp (.ref x :: (vs ++ dvs)) (upd (upd H1 dx (.own x)) x (.ins C dx [])) (fun v H2=>v= .non∧Q (.ref x) H2) E
noncomputable def aR (K:W.Frag) (fd:FuncData) (ps:List Str) (ds:List Value):Prop :=
  ∀ (s:Shared) (us:List Value),K.In s.heap→(us ++ ds).length=ps.length→BindsTo s fd ⟨us,[]⟩ (ps.zip (us ++ ds))
noncomputable def gG (CX:CXT) (X:Cx) (E:XK):Prop:= ∀ (pins:List (Addr×Obj)) (σ:St) (H:Hp) (s:Shared) (e:Value) (s':Shared),Inv X pins σ H s→CX X.stack H s E e s'→X.xe e s'
section
variable {X:Cx} {CX:CXT} {k:Nat} {f C:Addr} {fd:FuncData} {ps:List Str} {sp:Sp} {dvs:List V} {ds:List Value} {E:XK} {x m:Str} {p pos apos:Pos} {e o:Expr} {es:List Expr} {ta:TE} {t:TA}
theorem aCT {pins:List (Addr×Obj)} {σ:St} {H:Hp} {s:Shared} {Q:VK} {us:List Value} {vs:List V} (F:bL X.prog X.w X.K X.mg X.base CX k f fd ps sp) (hr:bC k X.A) (hb:aR X.K fd ps ds) (hd:aJ dvs ds) (hx:gG CX X E)
    (I:Inv X pins σ H s) (r:aJ vs us) (h:sp (vs ++ dvs) H Q E):wpAny (model X.prog X.w) X.A (call (.ref f) us) (EP X pins σ Q) X.xe s:=by
  have r2:aJ (vs ++ dvs) (us ++ ds):=r.append hd
  have hl:(us ++ ds).length=ps.length:=by rw [←r2.length]; exact F.len _ _ _ _ h
  refine wpAny_call (codeAny_mono (F.run X.A X.stack s H ⟨us,[]⟩ (us ++ ds) (vs ++ dvs) Q E hr I.env0 (hb s us I.kIn hl) r2 h) fun r s' hq=>?_)
  cases r with
  | error e=>exact hx pins σ H s e s' I hq
  | ok fl =>
    cases fl with
    | ret u=>exact I.after hq
    | next=>exact False.elim hq
    | brk=>exact False.elim hq
    | cont=>exact False.elim hq
theorem VX (F:bL X.prog X.w X.K X.mg X.base CX k f fd ps sp) (hr:bC k X.A) (hg:Gl X x) (hm:X.mg x=some (.ref f)) (hk:W.keepIn X.K (.ref f)=true) (hb:aR X.K fd ps ds) (hd:aJ dvs ds) (hx:gG CX X E)
    (ha:PA X (e :: es) t) (hdb:(x == ("__debug__":Str))=false:=by decide) (he:starEach (e :: es) X.env=(false,eval e X.env) :: starEach es X.env:=by rfl) (hpl:(backTo pos (starEach es X.env)).any (·.1)=false:=by rfl) :
    PE X (.Call (.Name x p) (e :: es) [] pos) (aFQ sp dvs E t):=by
  intro pins s σ H Q I h
  refine wpAny_Call_Name_kw (dG I hg hm ?_ hdb)
  refine W.callWith_K (h₀:=X.base) I.ok.mod.kin hk (thn (ha pos pins s σ H _ I h) fun us s1 ⟨vs,H1,I1,r,q⟩=>⟨I1.kIn, ?_⟩) he hpl
  exact aCT F hr hb hd hx I1 r q
structure Mk (K:W.Frag) (C f:Addr):Prop where
  makes:W.makesIn K C=true
  init:W.findIn K (.ref C) "__init__"=some (some (.ref f))
  fn:W.isFn K (.ref f)=true
  kp:W.keepIn K (.ref C)=true
theorem KP {pins:List (Addr×Obj)} {σ:St} {H:Hp} {s:Shared} {Q:VK} {us:List Value} {vs:List V} (M:Mk X.K C f) (F:bL X.prog X.w X.K X.mg X.base CX k f fd ps sp) (hr:bC (k + 1) X.A) (hb:aR X.K fd ps ds) (hd:aJ dvs ds)
    (hx:gG CX X E) (I:Inv X pins σ H s) (r:aJ vs us)
    (h:∀ x dx,H x=none→H dx=none→dx≠x→sp (.ref x :: (vs ++ dvs)) (upd (upd H dx (.own x)) x (.ins C dx [])) (fun v H2=>v= .non∧Q (.ref x) H2) E) :
    wpAny (model X.prog X.w) X.A (call (.ref C) us) (EP X pins σ Q) X.xe s:=by
  have hq:=h (s.heap.objs.size + 1) s.heap.objs.size (I.hok.fresh (Nat.le_succ _)) (I.hok.fresh (Nat.le_refl _)) (Nat.ne_of_lt (Nat.lt_succ_self _))
  have I2:=Inv.made (C:=C) I
  have r2:aJ (V.ref (s.heap.objs.size + 1) :: (vs ++ dvs)) (Value.ref (s.heap.objs.size + 1) :: (us ++ ds)):=.cons rfl (r.append hd)
  have hl:(Value.ref (s.heap.objs.size + 1) :: us ++ ds).length=ps.length:=by
    have e:=r2.length
    rw [F.len _ _ _ _ hq] at e
    exact e.symm
  refine wpAny_call (pB (f:=f) I.kIn M.makes M.init (beq_iff_eq.mp M.fn) (codeAny_mono (F.run _ X.stack _ _ ⟨Value.ref (s.heap.objs.size + 1) :: us,[]⟩ (Value.ref (s.heap.objs.size + 1) :: (us ++ ds)) _ _ E (hr.make C us [])
    (I2.env0.make C us []) (hb _ (Value.ref (s.heap.objs.size + 1) :: us) I2.kIn hl) r2 hq) fun r s' hq'=>?_))
  cases r with
  | error e=>exact hx pins σ _ _ e s' I2 hq'
  | ok fl =>
    cases fl with
    | ret u =>
      obtain ⟨v,H',I3,rv,ev,q3⟩:=I2.after hq'
      subst ev
      exact ⟨rv,⟨V.ref (s.heap.objs.size + 1),H',I3,rfl,q3⟩⟩
    | next=>exact False.elim hq'
    | brk=>exact False.elim hq'
    | cont=>exact False.elim hq'
theorem SR (M:Mk X.K C f) (F:bL X.prog X.w X.K X.mg X.base CX k f fd ps sp) (hr:bC (k + 1) X.A) (hg:Gl X x) (hm:X.mg x=some (.ref C)) (hb:aR X.K fd ps ds) (hd:aJ dvs ds) (hx:gG CX X E)
    (ha:PA X (e :: es) t) (hdb:(x == ("__debug__":Str))=false:=by decide) (he:starEach (e :: es) X.env=(false,eval e X.env) :: starEach es X.env:=by rfl) (hpl:(backTo pos (starEach es X.env)).any (·.1)=false:=by rfl) :
    PE X (.Call (.Name x p) (e :: es) [] pos) (aDv C sp dvs E t):=by
  intro pins s σ H Q I h
  refine wpAny_Call_Name_kw (dG I hg hm ?_ hdb)
  refine W.callWith_K (h₀:=X.base) I.ok.mod.kin M.kp (thn (ha pos pins s σ H _ I h) fun us s1 ⟨vs,H1,I1,r,q⟩=>⟨I1.kIn, ?_⟩) he hpl
  exact KP M F hr hb hd hx I1 r q
end
noncomputable def PK (X:Cx) (kws:List Keyword) (t:TA):Prop :=
  ∀ (pos:Pos) (pins:List (Addr×Obj)) (s:Shared) (σ:St) (H:Hp) (Q:List V→Hp→Prop),Inv X pins σ H s→t σ H Q→wpAny (model X.prog X.w) X.A (evalAll ((backToKw pos (keywordEach kws X.env)).map (·.2))) (AP X pins σ Q) X.xe s
section
variable {X:Cx} {CX:CXT} {k:Nat} {f C:Addr} {fd:FuncData} {ps ks:List Str} {sp:Sp} {E:XK} {x m:Str} {p pos apos kpos:Pos} {e o:Expr} {es:List Expr} {kws:List Keyword} {te ta:TE} {t tk:TA} {nm:Option Str}
theorem aBu:PK X [] aAs:=fun _ _ _ _ H Q I h=>wpAny_evalAll_nil ⟨[],H,I,.nil,h⟩
theorem TW (ha:PE X e te) (hr:PK X kws t):PK X (⟨nm,e,kpos⟩ :: kws) (CF te t):=by
  intro pos pins s σ H Q I h
  show wpAny _ _ (evalAll ((do let v ←eval e X.env; standAt pos; pure v) :: (backToKw pos (keywordEach kws X.env)).map (·.2))) _ _ s
  refine wpAny_evalAll_cons (wpAny_bind (thn (ha pins s σ H _ I h) fun u s1 ⟨x,H1,I1,r1,q1⟩=>wpAny_bind (wpAny_standAt (wpAny_pure ?_))))
  exact thn (hr pos pins s1 σ H1 _ I1 q1) fun us s2 ⟨xs,H2,I2,r2,q2⟩=>⟨x :: xs,H2,I2,.cons r1 r2,q2⟩
variable {g:List Value→List Value→List Value} {gV:List V→List V→List V}
end
structure gD (N P:List Str) (sc:Scope):Prop where
  kind:sc.kind= .function
  co:sc.isCoroutine=false
  gen:sc.isGenerator=false
  nd:N.Nodup
  pre:N.take P.length=P
  par:∀ x∈P,sc.names.lookup x=some .local∨sc.names.lookup x=some .cell
  nofree:∀ y∈sc.names,y.2≠.free
theorem sS {kindOf:Str→Option NameKind} {x:Str}:∀ {binds:List (Str×Value)} {m:Str→Option Value},(∀ v,(x,v)∉ binds)→bindL kindOf binds m x=m x
  | [],_,_=>rfl
  | (n,v) :: r,m,h=>by
    unfold bindL
    rw [sS fun w hw=>h w (List.mem_cons_of_mem _ hw)]
    split
    · have:x≠n:=by rintro rfl; exact h v List.mem_cons_self
      simp [this]
    · rfl
theorem sM {kindOf:Str→Option NameKind} {x:Str}:∀ {binds:List (Str×Value)} {m:Str→Option Value},(∀ v,(x,v)∉ binds)→bindC kindOf binds m x=m x
  | [],_,_=>rfl
  | (n,v) :: r,m,h=>by
    unfold bindC
    rw [sM fun w hw=>h w (List.mem_cons_of_mem _ hw)]
    split
    · rfl
    · have:x≠n:=by rintro rfl; exact h v List.mem_cons_self
      simp [this]
theorem rZ {kindOf:Str→Option NameKind} {x:Str} {v:Value}:∀ {P:List Str} {vs:List Value} {i:Nat} {m:Str→Option Value},P.Nodup→P[i]? =some x→vs[i]? =some v→kindOf x=some .local→
    bindL kindOf (P.zip vs) m x=some v
  | [],_,_,_,_,h,_,_=>by simp at h
  | _ :: _,[],_,_,_,_,h,_=>by simp at h
  | p :: P,w :: vs,0,m,nd,h1,h2,hk=>by
    simp at h1 h2; subst h1; subst h2
    show bindL kindOf ((p,w) :: P.zip vs) m p=_
    unfold bindL
    rw [sS fun v hv=>(List.nodup_cons.mp nd).1 (List.of_mem_zip hv).1,if_pos hk]
    simp
  | p :: P,w :: vs,i + 1,m,nd,h1,h2,hk=>by
    show bindL kindOf ((p,w) :: P.zip vs) m x=_
    unfold bindL
    exact rZ (i:=i) (List.nodup_cons.mp nd).2 (by simpa using h1) (by simpa using h2) hk
theorem sH {kindOf:Str→Option NameKind} {x:Str} {v:Value}:∀ {P:List Str} {vs:List Value} {i:Nat} {m:Str→Option Value},P.Nodup→P[i]? =some x→vs[i]? =some v→kindOf x≠some .local→
    bindC kindOf (P.zip vs) m x=some v
  | [],_,_,_,_,h,_,_=>by simp at h
  | _ :: _,[],_,_,_,_,h,_=>by simp at h
  | p :: P,w :: vs,0,m,nd,h1,h2,hk=>by
    simp at h1 h2; subst h1; subst h2
    show bindC kindOf ((p,w) :: P.zip vs) m p=_
    unfold bindC
    rw [sM fun v hv=>(List.nodup_cons.mp nd).1 (List.of_mem_zip hv).1,if_neg hk]
    simp
  | p :: P,w :: vs,i + 1,m,nd,h1,h2,hk=>by
    show bindC kindOf ((p,w) :: P.zip vs) m x=_
    unfold bindC
    exact sH (i:=i) (List.nodup_cons.mp nd).2 (by simpa using h1) (by simpa using h2) hk
noncomputable def start (N:List Str) (vs:List V):St:=vs.map some ++ List.replicate (N.length - vs.length) none
noncomputable def lM (CX:CXT) (P:Program) (w:World) (K:W.Frag) (mg:Str→Option Value) (base:Heap) (N:List Str) (qual:Str) (scope:Scope) (f:Addr) (cd:Value) (A:Around) (outer:List Env) (s:Shared) (H:Hp) (E:XK):Cx where
  prog:=P
  w:=w
  K:=K
  mg:=mg
  base:=base
  A:=A.deeper (envOfC qual scope s.heap.objs.size f cd)
  N:=N
  s₀:=s
  H₀:=H
  env:=envOfC qual scope s.heap.objs.size f cd
  outer:=outer
  stack:=envOfC qual scope s.heap.objs.size f cd :: outer
  ex:=[]
  calm:=A.handled.isNone
  fn:=fun _=>true
  pn:=[]
  xe:=fun e s'=>wpAny (model P w) (A.deeper (envOfC qual scope s.heap.objs.size f cd)) (leaving (envOfC qual scope s.heap.objs.size f cd) e) (fun _ s''=>CX outer H s E e s'') (fun e' s''=>CX outer H s E e' s'') s'
theorem lA {sc:Scope} {n:Nat} {x:Str} (h:sc.names.lookup x=some .cell):∃ c,(cellsFrom n sc.names []).lookup x=some c:=by
  have q:=W.cellsFrom_some sc.names n [] (.inl h)
  exact Option.isSome_iff_exists.mp q
theorem GJ {CX:CXT} {P:Program} {w:World} {K:W.Frag} {mg:Str→Option Value} {base:Heap} {N ps:List Str} {qual:Str} {scope:Scope} {f:Addr} {cd:Value} {A:Around} {outer:List Env} {s s1:Shared} {H:Hp} {E:XK} {us:List Value} {vs:List V}
    (S:gD N ps scope) (e0:mS P w K mg base A outer s H) (hl:vs.length=ps.length) (r:aJ vs us)
    (x:InCallC s s.heap.objs.size (bindL (envOfC qual scope s.heap.objs.size f cd).kindOf (ps.zip us) fun _=>none) (cellsFrom (s.heap.objs.size + 1) scope.names []) (bindC (envOfC qual scope s.heap.objs.size f cd).kindOf (ps.zip us) fun _=>none) s1) :
    Inv (lM CX P w K mg base N qual scope f cd A outer s H E) [] (start N vs) H s1:=by
  have hpl:ps.length≤N.length:=by have:=congrArg List.length S.pre; rw [List.length_take] at this; omega
  obtain ⟨h1,tk,rfl,hk⟩:=x.done
  have noA:∀ b:Addr,b∉ (lM CX P w K mg base N qual scope f cd A outer s H E).ex:=fun b z=>absurd (show b∈([]:List Addr) from z) (by simp)
  refine ⟨⟨e0.mod,S.kind,rfl,rfl,Nat.le_refl _,fun y z c h1 h2=>?_,fun y hy=>?_,fun y c _ h=>?_,fun z=>Option.isNone_iff_eq_none.mp z,Around.frames_deeper e0.frames,.inr ⟨rfl,rfl⟩,fun b z=>absurd z (noA b),e0.bs,e0.bsz,fun b _ _=>noA b,fun b z=>absurd z (noA b),e0.funs,e0.frf⟩,
    rfl,e0.bare,Un.kept hk,⟨_,x.toInCall.ns,fun i y v h1 h2 h3=>?_⟩,fun y c h=>⟨_,x.cell y c h⟩,e0.hok.fresh (Nat.le_refl _),fun y c h=>?_,fun p hp=>absurd (show p∈([]:List (Addr×Obj)) from hp) (by simp),e0.hok.kept hk, ?_⟩
  · exact name_of_addr x.apart (PySem.mem_of_lookup h1) (PySem.mem_of_lookup h2)
  · have hy:scope.names.lookup y=some .cell∨scope.names.lookup y=some .free:=hy
    rcases hy with hy | hy
    · exact lA hy
    · exact absurd rfl (S.nofree _ (PySem.mem_of_lookup hy))
  · exact Nat.le_of_lt (x.above y c (PySem.mem_of_lookup h))
  · have hi:i < vs.length:=by
      unfold start at h2
      by_cases hi:i < vs.length
      · exact hi
      · rw [List.getElem?_append_right (by simpa using hi)] at h2
        rw [List.getElem?_replicate] at h2
        split at h2 <;> cases h2
    have ha:vs[i]? =some v:=by
      unfold start at h2
      rw [List.getElem?_append_left (by simpa using hi),List.getElem?_map] at h2
      cases e:vs[i]? with
      | none=>rw [e] at h2; cases h2
      | some a=>rw [e] at h2; cases h2; rfl
    obtain ⟨u,hu,rv⟩:=r.get ha
    have hp:ps[i]? =some y:=by
      rw [←S.pre,List.getElem?_take_of_lt (by omega)]; exact h1
    have ndP:ps.Nodup:=by rw [←S.pre]; exact S.nd.sublist (List.take_sublist _ _)
    refine ⟨u,rv, ?_⟩
    rcases S.par y (List.mem_of_getElem? hp) with k | k
    · exact .inl ⟨k,rZ ndP hp hu k⟩
    · obtain ⟨c,e⟩:=lA (n:=s.heap.objs.size + 1) k
      refine .inr ⟨.inl k,c,e, ?_⟩
      have q:=x.cell y c e
      rw [sH ndP hp hu (by show scope.names.lookup y≠_; rw [k]; decide)] at q
      exact q
  · exact e0.hok.fresh (Nat.le_of_lt (x.above y c (PySem.mem_of_lookup h)))
  · unfold start
    show _=N.length
    rw [List.length_append,List.length_map,List.length_replicate]
    omega
theorem KO {CX:CXT} {P:Program} {w:World} {K:W.Frag} {mg:Str→Option Value} {base:Heap} {k:Nat} {f:Addr} {name qual:Str} {params:Arguments} {body:List Stmt} {scope:Scope} {dV kV doc pm cdv ct oc:Value} {an od:Option Addr}
    {osl:Array (Option Value)} {N ps:List Str} {sp:Sp} (lk:K.lookup f=some ⟨oc,od,.func (W.fnOf name qual params body scope dV kV doc pm an cdv ct),osl⟩) (hcd:W.codeIn K cdv qual=true) (S:gD N ps scope)
    (len:∀ vs H Q E,sp vs H Q E→vs.length=ps.length)
    (hbody:∀ (A:Around) (outer:List Env) (s:Shared) (H:Hp) (vs:List V) (Q:VK) (E:XK),bC k (A.deeper (envOfC qual scope s.heap.objs.size f cdv))→sp vs H Q E→
      ∃ t,PSs (lM CX P w K mg base N qual scope f cdv A outer s H E) body t∧t { nx:=fun _ H'=>Q .non H',rt:=Q } (start N vs) H) :
    bL P w K mg base CX (k + 1) f (W.fnOf name qual params body scope dV kV doc pm an cdv ct) ps sp:=by
  refine ⟨len,fun A outer s H args us vs Q E hr e0 hb r hsp=>?_⟩
  have hl:=len _ _ _ _ hsp
  have KX:K.In s.heap:=e0.mod.kin.keeps fun b o e=>(e0.bs b o e).1
  have lim:s.heap.NoLimit:=e0.mod.nolimit.keeps fun b o e=>(e0.bs b o e).1
  have hkind:∀ y∈ps.zip us,scope.names.lookup y.1=some .local∨(scope.names.lookup y.1=some .cell∧((cellsFrom (s.heap.objs.size + 1) scope.names []).lookup y.1).isSome=true):=fun ⟨n,v⟩ hy=>by
    rcases S.par n (List.of_mem_zip hy).1 with q | q
    · exact .inl q
    · exact .inr ⟨q,W.cellsFrom_some _ _ _ (.inl q)⟩
  refine codeAny_call_function hr.depth (KX _ _ lk) rfl S.co S.gen rfl (W.codeRec_of KX hcd) (hb _ _ _ _ ?_)
  refine wpAny_newFunctionEnv_cells S.kind hkind fun env he s1 x=>?_
  subst he
  refine ⟨lim.keeps x.toInCall.keep,codeAny_func ?_⟩
  obtain ⟨t,ht,hq⟩:=hbody A outer s H vs Q E (hr.deeper _) hsp
  have I:Inv (lM CX P w K mg base N qual scope f cdv A outer s H E) [] (start N vs) H s1:=GJ S e0 hl r x
  refine wpAny_mono (ht [] s1 (start N vs) H _ I hq) (fun fl s' hs=>?_) fun e s' hs=>hs
  have fin:∀ {σ':St} {H':Hp} {v:V} {u:Value},Inv (lM CX P w K mg base N qual scope f cdv A outer s H E) [] σ' H' s'→aQ v u→Q v H'→CE outer P w H s Q u s' :=
    fun {σ' H' v u} J rv q=>⟨v,H',J.os,J.bare,J.base,J.hok,rv,q⟩
  cases fl with
  | ret u =>
    obtain ⟨v,σ',H',J,rv,q⟩:=hs
    exact fin J rv q
  | next =>
    obtain ⟨σ',H',J,q⟩:=hs
    exact fin (v:=V.non) (u:=Value.none) J rfl q
  | brk =>
    obtain ⟨_,_,_,q⟩:=hs
    exact False.elim q
  | cont =>
    obtain ⟨_,_,_,q⟩:=hs
    exact False.elim q
section
variable {X:Cx} {x:Str} {p pos:Pos} {e:Expr} {es:List Expr} {t:TA} {id T:String} {r:List V→Hp→VK→Prop}
noncomputable def tCB (r:List V→Hp→VK→Prop) (t:TA):TE:=fun σ H Q=>t σ H fun vs H1=>r vs H1 Q
theorem xD (hc:bQ X (.builtin id) r) (hg:Gl X x) (hm:X.mg x=none) (hv:bootBuiltins x=some (.builtin id)) (ha:PA X (e :: es) t) (hn:x≠"__name__":=by decide) (hdb:(x == ("__debug__":Str))=false:=by decide)
    (he:starEach (e :: es) X.env=(false,eval e X.env) :: starEach es X.env:=by rfl) (hpl:(backTo pos (starEach es X.env)).any (·.1)=false:=by rfl):PE X (.Call (.Name x p) (e :: es) [] pos) (tCB r t):=by
  intro pins s σ H Q I h
  refine wpAny_Call_Name_kw (iO I hg hm hv ?_ hn hdb)
  exact PyProof.Rows.callWith_builtin1 (thn (ha pos pins s σ H _ I h) fun us s1 ⟨vs,H1,I1,r1,q1⟩=>hc pins s1 σ H1 vs us Q I1 r1 q1) he hpl
theorem sL (hc:bQ X (.type T) r) (hg:Gl X x) (hm:X.mg x=none) (hv:bootBuiltins x=some (.type T)) (ha:PA X (e :: es) t) (hn:x≠"__name__":=by decide) (hdb:(x == ("__debug__":Str))=false:=by decide)
    (he:starEach (e :: es) X.env=(false,eval e X.env) :: starEach es X.env:=by rfl) (hpl:(backTo pos (starEach es X.env)).any (·.1)=false:=by rfl):PE X (.Call (.Name x p) (e :: es) [] pos) (tCB r t):=by
  intro pins s σ H Q I h
  refine wpAny_Call_Name_kw (iO I hg hm hv ?_ hn hdb)
  exact PyProof.Rows.callWith_type1 (thn (ha pos pins s σ H _ I h) fun us s1 ⟨vs,H1,I1,r1,q1⟩=>hc pins s1 σ H1 vs us Q I1 r1 q1) he hpl
end
end L2
namespace HT
open PySem PyProof.Rows
noncomputable def sU:List Int→List Int→Bool
  | [],[]=>false
  | [],_ :: _=>true
  | _ :: _,[]=>false
  | x :: xs,y :: ys=>if x=y then sU xs ys else decide (x < y)
theorem aBY (x y:Int) (xs ys:List Int):sU (x :: xs) (y :: ys)=if x=y then sU xs ys else decide (x < y):=rfl
theorem PQ:sU [] []=false:=rfl
theorem PL (y:Int) (ys:List Int):sU [] (y :: ys)=true:=rfl
theorem NF (x:Int) (xs:List Int):sU (x :: xs) []=false:=rfl
section
open PySem.SeqAt
open PySem.AutoSeq1 (wpAny_loadPart')
open PySem.MeetsSeq PySem.MeetsSeq2 PySem.MeetsSeq3
end
section
variable {prog:Program} {w:World} {A:Around} {E:Value→Shared→Prop} {s:Shared}
theorem SO {t b:Addr} {vs ws:List Value} {Q:Value→Shared→Prop} (ht:IsTup s.heap t vs.toArray) (hb:IsTup s.heap b ws.toArray) (hv:vs≠ [])
    (h1:ws=[]→Q (.ref t) s) (h2:ws≠ []→Q (.ref s.heap.objs.size) { s with heap:=s.heap.push { cls:=.type "tuple",data:=.seq (vs ++ ws).toArray } })
    (hsz:vs.length + ws.length≤sizeLine):wpAny (model prog w) A (binaryOp .Add (.ref t) (.ref b)) Q E s:=by
  obtain ⟨⟨cls,dd,data,sl⟩,ho,hc,n,hd⟩:=id ht
  obtain ⟨⟨cls2,dd2,data2,sl2⟩,ho2,hc2,n2,hd2⟩:=id hb
  simp only at hc hd hc2 hd2
  subst hc hd hc2 hd2
  have e:vs.toArray ++ ws.toArray=(vs ++ ws).toArray:=by simp
  by_cases hw:ws=[]
  · exact concat_meets ⟨_,ho,rfl⟩ ⟨_,ho2,rfl⟩ noFill_tuple_add seq_tuple_add PySem.F.slot_tuple_add PySem.F.entry_tuple_add (PySem.F.args_tuple_add_2 _ _)
      (tuple_addW1 t b vs.toArray ws.toArray n n2 dd dd2 sl sl2 (by simpa using hv) (by simp [hw])) ⟨ho,ho2,h1 hw⟩
  · refine concat_meets ⟨_,ho,rfl⟩ ⟨_,ho2,rfl⟩ noFill_tuple_add seq_tuple_add PySem.F.slot_tuple_add PySem.F.entry_tuple_add (PySem.F.args_tuple_add_2 _ _)
      (tuple_addW2 t b vs.toArray ws.toArray n n2 dd dd2 sl sl2 (by simpa using hv) (by simpa using hw) (by rw [List.size_toArray,List.size_toArray]; exact hsz)) ⟨ho,ho2, ?_⟩
    rw [e]
    exact h2 hw
noncomputable def sIx (n d:Nat):Option Int→Nat
  | none=>d
  | some v=>if v < 0 then (v + (n:Int)).toNat else min v.toNat n
theorem aEM (n d:Nat):sIx n d none=d:=rfl
theorem aBH (n d:Nat) (hd:d≤n) (o:Option Int):sIx n d o≤n:=by
  cases o with
  | none=>exact hd
  | some v =>
    show (if v < 0 then (v + (n:Int)).toNat else min v.toNat n)≤n
    by_cases hv:v < 0
    · rw [if_pos hv]; omega
    · rw [if_neg hv]; exact Nat.min_le_right _ _
theorem DQ (v:Int) (n d:Nat):(if v < 0 then max (v + (n:Int)) 0 else min v (n:Int))=((sIx n d (some v):Nat):Int):=by
  show (if v < 0 then max (v + (n:Int)) 0 else min v (n:Int))=(((if v < 0 then (v + (n:Int)).toNat else min v.toNat n):Nat):Int)
  by_cases hv:v < 0
  · simp only [if_pos hv]; omega
  · simp only [if_neg hv]; omega
theorem zD (lo hi:Option Int) (n:Nat):Builtin.Slice.sliceAdjust lo hi 1 (n:Int)=(((sIx n 0 lo:Nat):Int),((sIx n n hi:Nat):Int)):=by
  have h1:¬((1:Int) < 0):=by omega
  unfold Builtin.Slice.sliceAdjust
  simp only [h1,if_false]
  refine Prod.ext ?_ ?_
  · cases lo with
    | none=>rfl
    | some v=>exact DQ v n 0
  · cases hi with
    | none=>rfl
    | some v=>exact DQ v n n
theorem BT (i j:Nat):Builtin.Slice.slicePlaces (i:Int) (j:Int) 1=j - i:=by
  unfold Builtin.Slice.slicePlaces
  have h1:(1:Int) > 0:=by omega
  simp only [h1,if_true,Int.ediv_one]
  split <;> omega
theorem kG {v:Value} {o:Option Int} {Q:Option Int→Shared→Prop} (p:IsPart v o) (h:Q o s):wpAny (model prog w) A (Builtin.Slice.slicePartIndex v) Q E s:=by
  cases p with
  | none=>exact slicePart_none h
  | int i t=>exact slicePart_int h
theorem fP {sl:Addr} {vl vu:Value} {lo hi:Option Int} {n:Nat} {Q:Int×Int×Nat→Shared→Prop} (hs:s.heap.IsSliceOf sl vl vu .none) (pl:IsPart vl lo) (pu:IsPart vu hi)
    (h:Q (((sIx n 0 lo:Nat):Int),1,sIx n n hi - sIx n 0 lo) s):wpAny (model prog w) A (Builtin.Slice.sliceApplied (.ref sl) (pure (n:Int))) Q E s:=by
  obtain ⟨os,hos,hcs,hds⟩:=id hs
  unfold Builtin.Slice.sliceApplied Builtin.Slice.sliceFields
  refine wpAny_bind (wpAny_bind (wpAny_field hos hds (x:=vl) rfl (wpAny_bind (wpAny_field hos hds (x:=vu) rfl (wpAny_bind (wpAny_field hos hds (x:=.none) rfl (wpAny_pure ?_)))))))
  refine wpAny_bind (slicePart_none ?_)
  show wpAny _ _ (if ((1:Int) == 0)=true then _ else _) _ _ s
  rw [if_neg (by decide)]
  refine wpAny_bind (kG pl (wpAny_bind (kG pu (wpAny_bind (wpAny_pure ?_)))))
  show wpAny _ _ (match Builtin.Slice.sliceAdjust lo hi 1 (n:Int) with | (lo,hi)=>pure (lo,(1:Int),Builtin.Slice.slicePlaces lo hi 1)) _ _ s
  rw [zD lo hi n]
  show wpAny _ _ (pure (((sIx n 0 lo:Nat):Int),(1:Int),Builtin.Slice.slicePlaces ((sIx n 0 lo:Nat):Int) ((sIx n n hi:Nat):Int) 1)) _ _ s
  rw [BT]
  exact wpAny_pure h
theorem JC (xs:Array Value) (i k:Nat):((List.range k).filterMap fun (m:Nat)=>xs[((i:Int) + (m:Int) * 1).toNat]?).toArray=((xs.toList.drop i).take k).toArray:=by
  have e:(fun (m:Nat)=>xs[((i:Int) + (m:Int) * 1).toNat]?)=fun m=>xs[i + m]? :=by
    funext m
    have:((i:Int) + (m:Int) * 1).toNat=i + m:=by omega
    rw [this]
  rw [e]
  have:=pick_run xs i k
  rw [List.filterMap_map] at this
  have e2:((fun x=>xs[x]?) ∘ fun x=>i + x)=fun m=>xs[i + m]? :=rfl
  rw [e2] at this
  rw [this]
theorem kT {t sl:Addr} {items:Array Value} {vl vu:Value} {lo hi:Option Int} {Q:Value→Shared→Prop} (ht:IsTup s.heap t items) (hs:s.heap.IsSliceOf sl vl vu .none) (pl:IsPart vl lo) (pu:IsPart vu hi)
    (hw:¬(sIx items.size 0 lo=0∧sIx items.size items.size hi=items.size))
    (h:Q (.ref s.heap.objs.size) { s with heap:=s.heap.push { cls:=.type "tuple",data:=.seq ((items.toList.drop (sIx items.size 0 lo)).take (sIx items.size items.size hi - sIx items.size 0 lo)).toArray } })
    (hsz:items.size≤sizeLine):wpAny (model prog w) A (getItem (.ref t) (.ref sl)) Q E s:=by
  have htake:sizeOk (.seq ((items.toList.drop (sIx items.size 0 lo)).take (sIx items.size items.size hi - sIx items.size 0 lo)).toArray):=by
    show ((items.toList.drop (sIx items.size 0 lo)).take (sIx items.size items.size hi - sIx items.size 0 lo)).toArray.size≤sizeLine
    rw [List.size_toArray,List.length_take,List.length_drop,Array.length_toList]
    omega
  have hj:sIx items.size items.size hi≤items.size:=aBH _ _ (Nat.le_refl _) hi
  obtain ⟨os,hos,hcs,hds⟩:=id hs
  have hTs:s.TypeIs (.ref sl) "slice":=⟨os,hos,hcs⟩
  unfold getItem
  try with_reducible refine wpAny_holding ?_
  first | refine wpAny_bind (wpAny_pure ?_) | skip
  refine wpAny_bind (wpAny_sequenceKey ht.typeIs (by decide) ?_)
  refine wpAny_bind (wpAny_callSpecial?_slot (name:=Str.ofString "__getitem__") ht.typeIs PyProof.Rows.slot_tuple_getitem
    (wpAny_call_entry PyProof.Rows.slot_tuple_getitem ht.typeIs entry_tuple_getitem ?_ (args_tuple_getitem _ _)))
  show wpAny _ _ (Builtin.Tuple.tupleItemsOf (.ref t) >>= _) _ _ s
  refine wpAny_bind (tupleItemsOf_ ht ?_)
  refine wpAny_bind (wpAny_typeOf hTs ?_)
  rw [if_pos (by decide)]
  refine wpAny_bind (fP hs pl pu ?_)
  have hno:¬((((sIx items.size 0 lo:Nat):Int) == 0 && (1:Int) == 1 && (sIx items.size items.size hi - sIx items.size 0 lo) == items.size)=true):=by
    intro q
    rw [Bool.and_eq_true,Bool.and_eq_true] at q
    have q1:((sIx items.size 0 lo:Nat):Int)=0:=eq_of_beq q.1.1
    have q2:sIx items.size items.size hi - sIx items.size 0 lo=items.size:=eq_of_beq q.2
    exact hw ⟨by omega,by omega⟩
  show wpAny _ _ (if (((sIx items.size 0 lo:Nat):Int) == 0 && (1:Int) == 1 && (sIx items.size items.size hi - sIx items.size 0 lo) == items.size)=true then _ else _) _ _ s
  rw [if_neg hno,JC]
  first
    | exact wpAny_bind (m:=Builtin.Tuple.tupleExact _) (wpAny_newObj_type (wpAny_pure ⟨_,rfl,wpAny_pure h⟩) htake)
    | exact wpAny_bind (m:=Builtin.Tuple.tupleExact _) (wpAny_newObj_type (wpAny_bind (wpAny_pure (wpAny_pure ⟨_,rfl,wpAny_pure h⟩))) htake)
    | exact wpAny_bind (wpAny_bind (m:=Builtin.Tuple.tupleExact _) (wpAny_newObj_type (wpAny_pure (wpAny_pure ⟨_,rfl,wpAny_pure h⟩)) htake))
    | exact wpAny_bind (wpAny_bind (m:=Builtin.Tuple.tupleExact _) (wpAny_newObj_type (wpAny_pure ⟨_,rfl,wpAny_pure h⟩) htake))
end
end HT
namespace L2
open PySem PySem.Spec PyProof.Rows
noncomputable abbrev TO:=St→Hp→(Option Int→Hp→Prop)→Prop
noncomputable def PO (X:Cx) (e:Option Expr) (t:TO):Prop :=
  ∀ (pins:List (Addr×Obj)) (s:Shared) (σ:St) (H:Hp) (Q:Option Int→Hp→Prop),Inv X pins σ H s→t σ H Q→
    wpAny (model X.prog X.w) X.A (evalPart e X.env) (fun u s'=>∃ o H',Inv X pins σ H' s'∧IsPart u o∧Q o H') X.xe s
noncomputable def QK:TO:=fun _ H Q=>Q none H
noncomputable def aDF (t:TE):TO:=fun σ H Q=>t σ H fun x H1=>∃ i,x= .int i∧Q (some i) H1
section
variable {X:Cx} {e:Expr} {te:TE} {lo hi:Option Expr} {tl th:TO} {pos p2:Pos}
theorem VC:PO X none QK:=by
  intro pins s σ H Q I h
  rw [evalPart_none]
  exact wpAny_pure ⟨none,H,I,.none,h⟩
theorem CV (h:PE X e te):PO X (some e) (aDF te):=by
  intro pins s σ H Q I hw
  rw [evalPart_some]
  refine thn (h pins s σ H _ I hw) fun u s1 ⟨x,H1,I1,r1,q1⟩=>?_
  obtain ⟨i,rfl,q⟩:=q1
  obtain ⟨t,rfl⟩:=r1
  exact ⟨some i,H1,I1,.int i t,q⟩
noncomputable def SlR (X:Cx) (r:V→Option Int→Option Int→Hp→VK→Prop):Prop :=
  ∀ (pins:List (Addr×Obj)) (s:Shared) (σ:St) (H:Hp) (x:V) (v vl vu:Value) (lo hi:Option Int) (sl:Addr) (Q:VK),Inv X pins σ H s→aQ x v→s.heap.IsSliceOf sl vl vu .none→IsPart vl lo→IsPart vu hi→r x lo hi H Q→
    ∃ T id,typeLookup (.type T) "__getitem__"=pure (some (.builtin id))∧s.TypeIs v T∧wpAny (model X.prog X.w) X.A (getItem v (.ref sl)) (EP X pins σ Q) X.xe s
theorem SlR.or {r r':V→Option Int→Option Int→Hp→VK→Prop} (h:SlR X r) (h':SlR X r'):SlR X (fun x lo hi H Q=>r x lo hi H Q∨r' x lo hi H Q):=by
  intro pins s σ H x v vl vu lo hi sl Q I rx hs pl pu q
  rcases q with q | q
  · exact h pins s σ H x v vl vu lo hi sl Q I rx hs pl pu q
  · exact h' pins s σ H x v vl vu lo hi sl Q I rx hs pl pu q
noncomputable def tSl (r:V→Option Int→Option Int→Hp→VK→Prop) (te:TE) (tl th:TO):TE:=fun σ H Q=>te σ H fun x H1=>tl σ H1 fun l H2=>th σ H2 fun u H3=>r x l u H3 Q
theorem MN {r:V→Option Int→Option Int→Hp→VK→Prop} (hr:SlR X r) (he:PE X e te) (hl:PO X lo tl) (hu:PO X hi th):PE X (.Subscript e (.Slice lo hi none p2) pos) (tSl r te tl th):=by
  intro pins s σ H Q I h
  refine Subscript_ (thn (he pins s σ H _ I h) fun v s1 ⟨x,H1,I1,r1,q1⟩=>?_)
  refine wpAny_Slice (thn (hl pins s1 σ H1 _ I1 q1) fun vl s2 ⟨l,H2,I2,pl,q2⟩=>thn (hu pins s2 σ H2 _ I2 q2) fun vu s3 ⟨u,H3,I3,pu,q3⟩=>?_)
  rw [evalPart_none]
  refine wpAny_pure ?_
  have I4:Inv X pins σ H3 { s3 with heap:=s3.heap.push { cls:=.type "slice",data:=.fields #[vl,vu,.none] } }:=I3.kept (t':=s3.toks) fun b ob q=>Heap.get?_push_of_some _ q
  obtain ⟨T,id,hT,ht,hg⟩:=hr pins { s3 with heap:=s3.heap.push { cls:=.type "slice",data:=.fields #[vl,vu,.none] } } σ H3 x v vl vu l u s3.heap.objs.size Q I4 r1 (Heap.IsSliceOf.new ..) pl pu q3
  show wpAny (model X.prog X.w) X.A (subscriptTail e (.Slice lo hi none p2) v (.ref s3.heap.objs.size)) (EP X pins σ Q) X.xe { s3 with heap:=s3.heap.push { cls:=.type "slice",data:=.fields #[vl,vu,.none] } }
  exact tail_any (ops:=[.ref s3.heap.objs.size,v]) ht hT hg (by with_unfolding_all rfl)
noncomputable def wI (xs:List V) (lo hi:Option Int):List V:=(xs.drop (HT.sIx xs.length 0 lo)).take (HT.sIx xs.length xs.length hi - HT.sIx xs.length 0 lo)
theorem mL (xs:List V) (lo hi:Option Int):(wI xs lo hi).length≤xs.length:=by
  unfold wI
  rw [List.length_take,List.length_drop]
  omega
noncomputable def aGJ (K:W.Frag):V→Option Int→Option Int→Hp→VK→Prop:=fun x lo hi H Q=>∃ a xs,x= .ref a∧SqT K H a xs∧
  ¬(HT.sIx xs.length 0 lo=0∧HT.sIx xs.length xs.length hi=xs.length)∧∀ p,H p=none→Q (.ref p) (upd H p (.tup (wI xs lo hi)))
theorem aBx:SlR X (aGJ X.K):=by
  intro pins s σ H x v vl vu lo hi sl Q I rx hs pl pu h
  obtain ⟨a,xs,rfl,hx,hw,q⟩:=h
  cases rx
  obtain ⟨its,r,ht,hz⟩:=I.tuple hx
  have hlen:its.toArray.size=xs.length:=by rw [List.size_toArray]; exact r.length.symm
  refine ⟨"tuple",_,PyProof.Rows.slot_tuple_getitem.lookup,ht.typeIs, ?_⟩
  refine HT.kT ht hs pl pu (by rw [hlen]; exact hw) ?_ (by rw [hlen]; exact hz)
  rw [hlen]
  refine ⟨.ref s.heap.objs.size,_,I.laid (t':=s.toks) (o:=.tup (wI xs lo hi)) (fun b ob q=>Heap.get?_push_of_some _ q) (Nat.le_refl _) ?_,rfl,q _ (I.hok.fresh (Nat.le_refl _))⟩
  exact ⟨Nat.le_trans (mL xs lo hi) hz,_,(r.drop (HT.sIx xs.length 0 lo)).take (HT.sIx xs.length xs.length hi - HT.sIx xs.length 0 lo),eL.new _ _⟩
noncomputable def aDX (K:W.Frag):R2:=fun x y H Q=>∃ a b xs ys,x= .ref a∧y= .ref b∧SqT K H a xs∧SqT K H b ys∧xs≠ []∧xs.length + ys.length≤sizeLine∧
  (ys=[]→Q (.ref a) H)∧(ys≠ []→∀ p,H p=none→Q (.ref p) (upd H p (.tup (xs ++ ys))))
theorem aJ.nil_iff {xs:List V} {us:List Value} (r:aJ xs us):us=[]↔xs=[]:=by
  cases r with
  | nil=>simp
  | cons _ _=>simp
theorem TC:OpR X (binaryOp .Add) (aDX X.K):=by
  intro pins s σ H x y v u Q I rx ry h
  obtain ⟨a,b,xs,ys,rfl,rfl,ha,hb,hx,hz,q1,q2⟩:=h
  cases rx
  cases ry
  obtain ⟨its,r1,p1,_⟩:=I.tuple ha
  obtain ⟨its2,r2,p2,_⟩:=I.tuple hb
  refine HT.SO p1 p2 (fun z=>hx (r1.nil_iff.mp z)) (fun z=>⟨.ref a,H,I,rfl,q1 (r2.nil_iff.mp z)⟩) (fun z=>?_) (by rw [←r1.length,←r2.length]; exact hz)
  refine ⟨.ref s.heap.objs.size,_,I.laid (t':=s.toks) (o:=.tup (xs ++ ys)) (fun b ob q=>Heap.get?_push_of_some _ q) (Nat.le_refl _) ?_,rfl,q2 (fun w=>z (r2.nil_iff.mpr w)) _ (I.hok.fresh (Nat.le_refl _))⟩
  exact ⟨by rw [List.length_append]; exact hz,_,r1.append r2,eL.new _ _⟩
end
noncomputable def ixN (n:Nat) (i:Int):Option Nat:=if 0≤i then (if i < n then some i.toNat else none) else if -(n:Int)≤i then some (i + n).toNat else none
noncomputable def atI {α:Type} (xs:List α) (i:Int):Option α:=(ixN xs.length i).bind fun j=>xs[j]?
theorem CQ {n:Nat} {i:Int} {j:Nat} (h:ixN n i=some j):seqIndex? i n=some j∧j < n∧ -(n:Int)≤i∧i < n:=by
  unfold ixN at h
  by_cases h0:0≤i
  · rw [if_pos h0] at h
    by_cases h1:i < n
    · rw [if_pos h1] at h
      have e:i.toNat=j:=Option.some.inj h
      exact ⟨by rw [seqIndex_of h0 h1,e],by omega,by omega,h1⟩
    · rw [if_neg h1] at h; cases h
  · rw [if_neg h0] at h
    by_cases h1: -(n:Int)≤i
    · rw [if_pos h1] at h
      have e:(i + n).toNat=j:=Option.some.inj h
      exact ⟨by rw [seqIndex_neg (by omega) h1,e],by omega,h1,by omega⟩
    · rw [if_neg h1] at h; cases h
theorem uK {α:Type} {xs:List α} {i:Int} {v:α} (h:atI xs i=some v):∃ j,seqIndex? i xs.length=some j∧xs[j]? =some v∧j < xs.length∧ -(xs.length:Int)≤i∧i < xs.length:=by
  unfold atI at h
  cases e:ixN xs.length i with
  | none=>rw [e] at h; cases h
  | some j =>
    rw [e] at h
    obtain ⟨h1,h2,h3,h4⟩:=CQ e
    exact ⟨j,h1,h,h2,h3,h4⟩
theorem dH {α:Type} {xs:List α} {j:Nat} {v:α} (h:xs[j]? =some v):atI xs (j:Int)=some v:=by
  have hj:j < xs.length:=(List.getElem?_eq_some_iff.mp h).1
  have e:ixN xs.length (j:Int)=some j:=by
    unfold ixN
    rw [if_pos (by omega),if_pos (by omega)]; simp
  unfold atI; rw [e]; exact h
noncomputable def uT (b:Expr):Prop:= ∀ o i,subscripted b false o i=operate [o,i] (getItem o i)
noncomputable def IxR (X:Cx) (r:R2):Prop :=
  ∀ (value slice:Expr) (pins:List (Addr×Obj)) (s:Shared) (σ:St) (H:Hp) (x y:V) (v u:Value) (Q:VK),Inv X pins σ H s→aQ x v→aQ y u→r x y H Q→
    subscripted slice false v u=operate [v,u] (getItem v u)→wpAny (model X.prog X.w) X.A (subscriptTail value slice v u) (EP X pins σ Q) X.xe s
noncomputable def MtR (X:Cx) (id:String) (r:V→List V→Hp→VK→Prop):Prop :=
  ∀ (pins:List (Addr×Obj)) (s:Shared) (σ:St) (H:Hp) (x:V) (xs:List V) (v:Value) (us:List Value) (Q:VK),Inv X pins σ H s→aQ x v→aJ xs us→r x xs H Q→
    wpAny (model X.prog X.w) X.A (call (.builtin id) (v :: us)) (EP X pins σ Q) X.xe s
section
variable {X:Cx} {a b:Expr} {ta tb:TE} {pos:Pos}
theorem IxR.or {r r':R2} (h:IxR X r) (h':IxR X r'):IxR X (fun x y H Q=>r x y H Q∨r' x y H Q):=by
  intro value slice pins s σ H x y v u Q I rx ry q hs
  rcases q with q | q
  · exact h value slice pins s σ H x y v u Q I rx ry q hs
  · exact h' value slice pins s σ H x y v u Q I rx ry q hs
theorem aFC {r:R2} (hr:IxR X r) (ha:PE X a ta) (hb:PE X b tb) (hs:uT b):PE X (.Subscript a b pos) (tOp r ta tb):=by
  intro pins s σ H Q I h
  exact Subscript_ (aCH ha hb I h fun v u s2 x y H2 I2 rx ry q=>hr a b pins s2 σ H2 x y v u Q I2 rx ry q (hs _ _))
noncomputable def aFA (K:W.Frag):R2:=fun x y H Q=>∃ p xs i v,x= .ref p∧y= .int i∧SqL K H p xs∧atI xs i=some v∧Q v H
noncomputable def aFL (K:W.Frag):R2:=fun x y H Q=>∃ p xs i v,x= .ref p∧y= .int i∧SqT K H p xs∧atI xs i=some v∧Q v H
noncomputable def aEp:R2:=fun x y H Q=>∃ z i c,x= .str z∧y= .int i∧z.length≤sizeLine∧atI z.cps.toList i=some c∧Q (.str ⟨#[c]⟩) H
theorem RF:IxR X (aFA X.K):=by
  intro value slice pins s σ H x y v u Q I rx ry h hs
  obtain ⟨p,xs,i,z,rfl,rfl,hq,he,q⟩:=h
  cases rx
  obtain ⟨t,rfl⟩:=ry
  obtain ⟨its,r,pl,hz⟩:=I.list hq
  obtain ⟨j,h1,h2,h3,h4,h5⟩:=uK he
  obtain ⟨w,ew,rw'⟩:=r.get h2
  have hl:=r.length
  have hn:=jX
  have fin:EP X pins σ Q w s:=⟨z,H,I,rw',q⟩
  by_cases h0:0≤i
  · have hj:i.toNat=j:=by
      rw [seqIndex_of h0 h5] at h1
      exact Option.some.inj h1
    exact item_listR pl.isList h0 (by omega) (by rw [hj]; simpa using ew) fin hs
  · have hj:(i + (its.toArray.size:Int)).toNat=j:=by
      rw [seqIndex_neg (by omega) h4] at h1
      rw [List.size_toArray,←hl]
      exact Option.some.inj h1
    exact subscriptTail_builtinR (x:=w) pl.isList.typeIs slot_list_getitem.lookup
      (wpAny_getItem_list_neg (Q:=fun r s'=>r=w∧EP X pins σ Q r s') pl.isList (by omega) (by rw [List.size_toArray] <;> omega) (by omega) (by rw [hj]; simpa using ew) ⟨rfl,fin⟩) hs
theorem aA4:IxR X (aFL X.K):=by
  intro value slice pins s σ H x y v u Q I rx ry h hs
  obtain ⟨p,xs,i,z,rfl,rfl,hq,he,q⟩:=h
  cases rx
  obtain ⟨t,rfl⟩:=ry
  obtain ⟨its,r,pl,hz⟩:=I.tuple hq
  obtain ⟨j,h1,h2,h3,h4,h5⟩:=uK he
  obtain ⟨w,ew,rw'⟩:=r.get h2
  have hl:=r.length
  have hn:=jX
  have fin:EP X pins σ Q w s:=⟨z,H,I,rw',q⟩
  exact subscriptTail_builtinR (x:=w) pl.typeIs slot_tuple_getitem.lookup
    (getItem_tuple (j:=j) (Q:=fun r s'=>r=w∧EP X pins σ Q r s') pl (by omega) (by omega) (by rw [List.size_toArray,←hl]; exact h1) (by simpa using ew) ⟨rfl,fin⟩) hs
theorem aBT:IxR X aEp:=by
  intro value slice pins s σ H x y v u Q I rx ry h hs
  obtain ⟨z,i,c,rfl,rfl,hz,he,q⟩:=h
  obtain ⟨t,rfl⟩:=rx
  obtain ⟨t',rfl⟩:=ry
  obtain ⟨j,h1,h2,h3,h4,h5⟩:=uK he
  have hl:z.cps.toList.length=z.length:=by simp [Str.length]
  rw [hl] at h1 h4 h5
  have hn:=jX
  exact tail_any (typeIs_str s z t) slot_str_getitem.lookup (getItem_str (c:=c) (by
    have e1:decide (i < -(2 ^ 63:Int))=false:=decide_eq_false (by omega)
    have e2:decide (i ≥ 2 ^ 63)=false:=decide_eq_false (by omega)
    rw [e1,e2,Bool.or_false]) (by rw [h1]; simpa using h2) ⟨.str ⟨#[c]⟩,H,I.tok _,⟨_,rfl⟩,q⟩) hs
noncomputable def rIx (K:W.Frag):R2:=fun x y H Q=>aFA K x y H Q∨aFL K x y H Q∨aEp x y H Q
theorem aBA:IxR X (rIx X.K):=RF.or (aA4.or aBT)
theorem zI (its:List Value) (n j:Nat) (u:Value):Obj.mapSeq (·.setIfInBounds j u) { cls:=.type "list",data:=.seq its.toArray n }={ cls:=.type "list",data:=.seq (its.set j u).toArray n }:=by
  simp [Obj.mapSeq]
theorem Inv.lst {pins:List (Addr×Obj)} {σ:St} {H:Hp} {s:Shared} {p:Addr} {xs:List V} (I:Inv X pins σ H s) (h:H p=some (.lst xs)) :
    ∃ (its:List Value) (n:Nat),aJ xs its∧s.heap.get? p=some { cls:=.type "list",data:=.seq its.toArray n }∧xs.length≤sizeLine:=by
  obtain ⟨z,its,n,r,e⟩:=I.hok p _ h
  exact ⟨its,n,r,e,z⟩
theorem Inv.lstUpd {pins:List (Addr×Obj)} {σ:St} {H:Hp} {s:Shared} {p:Addr} {xs ys:List V} {its its':List Value} {n n':Nat} {f:Obj→Obj} (I:Inv X pins σ H s) (h:H p=some (.lst xs))
    (ho:s.heap.get? p=some { cls:=.type "list",data:=.seq its.toArray n }) (hf:f { cls:=.type "list",data:=.seq its.toArray n }={ cls:=.type "list",data:=.seq its'.toArray n' }) (r:aJ ys its') (hz:ys.length≤sizeLine) (t:Nat) :
    Inv X pins σ (upd H p (.lst ys)) { s with heap:=s.heap.update p f,toks:=t }:=by
  have e:(s.heap.update p f).get? p=some { cls:=.type "list",data:=.seq its'.toArray n' }:=by
    rw [Heap.get?_update_self f ho (by rw [hf] <;> rfl),hf]
  refine I.write (x:=p) (e:=p) (by rw [h]; trivial) (.inl rfl) (fun b u hb q=>(Heap.get?_update_other _ _ (Ne.symm hb)).trans q) ⟨_,e⟩ ?_
  exact ⟨hz,its',n',r,e⟩
noncomputable def aDZ:V→V→V→Hp→(Hp→Prop)→Prop:=fun o i v H Q=>∃ p xs k j,o= .ref p∧i= .int k∧H p=some (.lst xs)∧ixN xs.length k=some j∧Q (upd H p (.lst (xs.set j v)))
theorem IO:aAJ X aDZ:=by
  intro pins s σ H o i v ov iv u Q I ro ri rv h
  obtain ⟨p,xs,k,j,rfl,rfl,hp,hj,q⟩:=h
  cases ro
  obtain ⟨t,rfl⟩:=ri
  obtain ⟨its,n,r,ho,hz⟩:=I.lst hp
  obtain ⟨h1,h2,h3,h4⟩:=CQ hj
  have hl:=r.length
  have hn:=jX
  have I':Inv X pins σ (upd H p (.lst (xs.set j v))) { s with heap:=s.heap.update p (Obj.mapSeq (·.setIfInBounds j u)) } :=
    I.lstUpd hp ho (zI its n j u) (r.set rv j) (by rw [List.length_set]; exact hz) s.toks
  by_cases h0:0≤k
  · have hk:k.toNat=j:=by
      rw [seqIndex_of h0 h4] at h1
      exact Option.some.inj h1
    exact W.ki_setAt ho h0 (by omega) (by rw [List.size_toArray,←hl]; exact h4) (by rw [hk]; exact ⟨_,I',q⟩)
  · have hk:(k + (its.toArray.size:Int)).toNat=j:=by
      rw [seqIndex_neg (by omega) h3] at h1
      rw [List.size_toArray,←hl]
      exact Option.some.inj h1
    exact W.ki_setBack ho (by omega) (by rw [List.size_toArray,←hl]; exact h3) (by omega) (by rw [hk]; exact ⟨_,I',q⟩)
theorem tK (lo hi:Option Int) (n:Nat):(sliceBounds lo hi none n).1=((HT.sIx n 0 lo:Nat):Int)∧(sliceBounds lo hi none n).2.1=((HT.sIx n n hi:Nat):Int)∧(sliceBounds lo hi none n).2.2=1:=by
  refine ⟨?_, ?_,rfl⟩
  · cases lo with
    | none=>simp [sliceBounds,HT.sIx]
    | some i =>
      simp only [sliceBounds,HT.sIx,Option.getD_none,show (1:Int) > 0 by decide,if_true]
      by_cases h:i < 0
      · simp only [h,if_true] <;> omega
      · simp only [h,if_false] <;> omega
  · cases hi with
    | none=>simp [sliceBounds,HT.sIx]
    | some i =>
      simp only [sliceBounds,HT.sIx,Option.getD_none,show (1:Int) > 0 by decide,if_true]
      by_cases h:i < 0
      · simp only [h,if_true] <;> omega
      · simp only [h,if_false] <;> omega
theorem rK (its:List Value) (lo hi:Option Int):slicePick its.toArray lo hi none=((its.drop (HT.sIx its.length 0 lo)).take (HT.sIx its.length its.length hi - HT.sIx its.length 0 lo)).toArray:=by
  obtain ⟨h1,h2,h3⟩:=tK lo hi its.toArray.size
  unfold slicePick
  rw [h1,h2,h3]
  simp only [sliceRange_one,pick_run,List.size_toArray] <;> rfl
noncomputable def aHS (K:W.Frag):V→Option Int→Option Int→Hp→VK→Prop:=fun x lo hi H Q=>∃ a xs,x= .ref a∧SqL K H a xs∧∀ p,H p=none→Q (.ref p) (upd H p (.lst (wI xs lo hi)))
theorem UP:SlR X (aHS X.K):=by
  intro pins s σ H x v vl vu lo hi sl Q I rx hs pl pu h
  obtain ⟨a,xs,rfl,hx,q⟩:=h
  cases rx
  obtain ⟨its,r,ht,hz⟩:=I.list hx
  have hlen:=r.length
  refine ⟨"list",_,slot_list_getitem.lookup,ht.isList.typeIs, ?_⟩
  refine wpAny_getItem_list_slice ht.isList hs pl pu .none (by simp) ?_ (by rw [List.size_toArray] <;> omega)
  rw [rK,←hlen]
  refine ⟨.ref s.heap.objs.size,_,I.laid (t':=s.toks) (o:=.lst (wI xs lo hi)) (fun b ob q=>Heap.get?_push_of_some _ q) (Nat.le_refl _) ?_,rfl,q _ (I.hok.fresh (Nat.le_refl _))⟩
  exact ⟨Nat.le_trans (mL xs lo hi) hz,_,0,(r.drop (HT.sIx xs.length 0 lo)).take (HT.sIx xs.length xs.length hi - HT.sIx xs.length 0 lo),Heap.get?_push_size _ rfl⟩
noncomputable def jN:V→Bool
  | .non=>true
  | .bl _=>true
  | .int _=>true
  | .str _=>true
  | _=>false
noncomputable def eqV:V→V→Bool
  | .non,.non=>true
  | .bl a,.bl b=>a == b
  | .bl a,.int b=>(if a then 1 else 0) == b
  | .int a,.bl b=>a == (if b then 1 else 0)
  | .int a,.int b=>a == b
  | .str a,.str b=>a == b
  | _,_=>false
theorem aBp {A:Around} {s:Shared} {y x:V} {u v:Value} (ry:aQ y u) (rx:aQ x v) (fy:jN y=true) (fx:jN x=true):SeqAt.EqAt A s u v (eqV y x):=by
  cases y with
  | non =>
    cases ry
    cases x with
    | non=>cases rx; exact SeqAt.EqAt.same _
    | bl b=>cases rx; exact SeqAt.EqAt.none_bool b
    | int b=>obtain ⟨t,rfl⟩:=rx; exact SeqAt.EqAt.none_int b t
    | str b=>obtain ⟨t,rfl⟩:=rx; exact SeqAt.EqAt.none_str b t
    | _=>exact absurd (show false=true from fx) Bool.false_ne_true
  | bl a =>
    cases ry
    cases x with
    | non=>cases rx; exact SeqAt.EqAt.bool_none a
    | bl b=>cases rx; exact SeqAt.EqAt.bool_bool a b
    | int b=>obtain ⟨t,rfl⟩:=rx; exact SeqAt.EqAt.bool_int a b t
    | str b=>obtain ⟨t,rfl⟩:=rx; exact SeqAt.EqAt.bool_str a b t
    | _=>exact absurd (show false=true from fx) Bool.false_ne_true
  | int a =>
    obtain ⟨t',rfl⟩:=ry
    cases x with
    | non=>cases rx; exact SeqAt.EqAt.int_none a t'
    | bl b=>cases rx; exact SeqAt.EqAt.int_bool a t' b
    | int b=>obtain ⟨t,rfl⟩:=rx; exact SeqAt.EqAt.int_int a t' b t
    | str b=>obtain ⟨t,rfl⟩:=rx; exact SeqAt.EqAt.int_str a t' b t
    | _=>exact absurd (show false=true from fx) Bool.false_ne_true
  | str a =>
    obtain ⟨t',rfl⟩:=ry
    cases x with
    | non=>cases rx; exact SeqAt.EqAt.str_none a t'
    | bl b=>cases rx; exact SeqAt.EqAt.str_bool a t' b
    | int b=>obtain ⟨t,rfl⟩:=rx; exact SeqAt.EqAt.str_int a t' b t
    | str b=>obtain ⟨t,rfl⟩:=rx; exact SeqAt.EqAt.str_str a t' b t
    | _=>exact absurd (show false=true from fx) Bool.false_ne_true
  | _=>exact absurd (show false=true from fy) Bool.false_ne_true
noncomputable def eqU (x:V) (u:Value):Bool:=match u with
  | .none=>eqV .non x
  | .bool b=>eqV (.bl b) x
  | .int i _=>eqV (.int i) x
  | .str z _=>eqV (.str z) x
  | _=>false
theorem NZ {x y:V} {u:Value} (r:aQ y u) (f:jN y=true):eqU x u=eqV y x:=by
  cases y with
  | non=>cases r; rfl
  | bl b=>cases r; rfl
  | int i=>obtain ⟨t,rfl⟩:=r; rfl
  | str z=>obtain ⟨t,rfl⟩:=r; rfl
  | _=>exact absurd (show false=true from f) Bool.false_ne_true
theorem lI {x:V}:∀ {xs:List V} {us:List Value},aJ xs us→xs.all jN=true→us.any (eqU x)=xs.any fun y=>eqV y x
  | _,_,.nil,_=>rfl
  | y :: xs,u :: us,.cons r t,f=>by
    rw [List.all_cons,Bool.and_eq_true] at f
    rw [List.any_cons,List.any_cons,NZ r f.1,lI t f.2]
theorem iA {A:Around} {s:Shared} {x:V} {v:Value} (rx:aQ x v) (fx:jN x=true):∀ {xs:List V} {us:List Value},aJ xs us→xs.all jN=true→∀ u∈us,SeqAt.EqAt A s u v (eqU x u)
  | _,_,.nil,_=>fun u hu=>by cases hu
  | y :: xs,u :: us,.cons r t,f=>fun u' hu=>by
    rw [List.all_cons,Bool.and_eq_true] at f
    rcases List.mem_cons.mp hu with rfl | hu
    · rw [NZ r f.1]; exact aBp r rx f.1 fx
    · exact iA rx fx t f.2 u' hu
noncomputable def inV (x:V) (xs:List V):Bool:=xs.any fun y=>eqV y x
noncomputable def rIn (K:W.Frag) (neg:Bool):R2:=fun x y H Q=>∃ p xs,y= .ref p∧(SqL K H p xs∨SqT K H p xs)∧jN x=true∧xs.all jN=true∧Q (.bl (if neg then !inV x xs else inV x xs)) H
theorem HF:OpR X (compareOp .In) (rIn X.K false):=by
  intro pins s σ H x y v u Q I rx ry h
  obtain ⟨p,xs,rfl,hq,fx,fs,q⟩:=h
  cases ry
  rcases hq with hq | hq
  · obtain ⟨its,r,pl,hz⟩:=I.list hq
    refine SeqAt.in_listAt (eqU x) pl.isList (fun w hw=>iA rx fx r fs w (by simpa using hw)) ⟨.bl _,H,I,rfl, ?_⟩
    rw [show its.toArray.any (eqU x)=its.any (eqU x) by simp,lI r fs]
    exact q
  · obtain ⟨its,r,pl,hz⟩:=I.tuple hq
    refine SeqAt.in_tupleAt (eqU x) pl (fun w hw=>iA rx fx r fs w (by simpa using hw)) ⟨.bl _,H,I,rfl, ?_⟩
    rw [show its.toArray.any (eqU x)=its.any (eqU x) by simp,lI r fs]
    exact q
theorem tM:OpR X (compareOp .NotIn) (rIn X.K true):=by
  intro pins s σ H x y v u Q I rx ry h
  obtain ⟨p,xs,rfl,hq,fx,fs,q⟩:=h
  cases ry
  rcases hq with hq | hq
  · obtain ⟨its,r,pl,hz⟩:=I.list hq
    refine SeqAt.notIn_listAt (eqU x) pl.isList (fun w hw=>iA rx fx r fs w (by simpa using hw)) ⟨.bl _,H,I,rfl, ?_⟩
    rw [show its.toArray.any (eqU x)=its.any (eqU x) by simp,lI r fs]
    exact q
  · obtain ⟨its,r,pl,hz⟩:=I.tuple hq
    refine SeqAt.notIn_tupleAt (eqU x) pl (fun w hw=>iA rx fx r fs w (by simpa using hw)) ⟨.bl _,H,I,rfl, ?_⟩
    rw [show its.toArray.any (eqU x)=its.any (eqU x) by simp,lI r fs]
    exact q
theorem uW:bQ X (.builtin "len") (fun xs H Q=>∃ p ys,xs=[.ref p]∧(SqL X.K H p ys∨SqT X.K H p ys)∧Q (.int ys.length) H):=by
  intro pins s σ H xs us Q I r h
  obtain ⟨p,ys,rfl,hq,q⟩:=h
  obtain ⟨u,rfl,rx⟩:=hU r
  cases rx
  have hn:=jX
  rcases hq with hq | hq
  · obtain ⟨its,r',pl,hz⟩:=I.list hq
    have hlen:=r'.length
    exact Calls.call_len_list pl.isList (by simp only [List.size_toArray] <;> omega) ⟨.int ys.length,H,I.tok _,⟨s.toks + 1,by rw [List.size_toArray,hlen]⟩,q⟩
  · obtain ⟨its,r',pl,hz⟩:=I.tuple hq
    have hlen:=r'.length
    exact len_tuple pl (by simp only [List.size_toArray] <;> omega) ⟨.int ys.length,H,I.tok _,⟨s.toks + 1,by rw [List.size_toArray,hlen]⟩,q⟩
theorem uG:bQ X (.builtin "len") (fun xs H Q=>∃ z,xs=[.str z]∧z.length≤sizeLine∧Q (.int z.length) H):=by
  intro pins s σ H xs us Q I r h
  obtain ⟨z,rfl,hz,q⟩:=h
  obtain ⟨u,rfl,t,rfl⟩:=hU r
  have hn:=jX
  exact len_str (by omega) ⟨.int z.length,H,I.tok _,⟨_,rfl⟩,q⟩
theorem bQ.or {f:Value} {r r':List V→Hp→VK→Prop} (h:bQ X f r) (h':bQ X f r'):bQ X f (fun xs H Q=>r xs H Q∨r' xs H Q):=by
  intro pins s σ H xs us Q I rs q
  rcases q with q | q
  · exact h pins s σ H xs us Q I rs q
  · exact h' pins s σ H xs us Q I rs q
theorem tN:bQ X (.type "list") (fun xs H Q=>∃ p ys,xs=[.ref p]∧(SqL X.K H p ys∨SqT X.K H p ys)∧∀ l,H l=none→Q (.ref l) (upd H l (.lst ys))):=by
  intro pins s σ H xs us Q I r h
  obtain ⟨p,ys,rfl,hq,q⟩:=h
  obtain ⟨u,rfl,rx⟩:=hU r
  cases rx
  have fin:∀ (its:List Value),aJ ys its→ys.length≤sizeLine→∀ (h':Heap) (c':Nat),(∀ b o',s.heap.get? b=some o'→h'.get? b=some o')→
      h'.get? s.heap.objs.size=some { cls:=.type "list",dict:=none,data:=.seq its.toArray c',slots:= #[] }→EP X pins σ Q (.ref s.heap.objs.size) { s with heap:=h' }:=fun its r' hz h' c' kp e =>
    ⟨.ref s.heap.objs.size,_,I.laid (t':=s.toks) kp (Nat.le_refl _) (show bJ X.prog X.w _ h' _ (.lst ys) from ⟨hz,its,c',r',e⟩),rfl,q _ (I.hok.fresh (Nat.le_refl _))⟩
  rcases hq with hq | hq
  · obtain ⟨its,r',pl,hz⟩:=I.list hq
    have hlen:=r'.length
    obtain ⟨o,ho,hc,n,hd⟩:=pl.isList
    exact call_list_seq p (.inl rfl) ho hc hd (fun h' c' kp e=>fin its r' hz h' c' kp e) (by simp only [List.size_toArray] <;> omega)
  · obtain ⟨its,r',pl,hz⟩:=I.tuple hq
    have hlen:=r'.length
    obtain ⟨o,ho,hc,n,hd⟩:=pl
    exact call_list_seq p (.inr rfl) ho hc hd (fun h' c' kp e=>fin its r' hz h' c' kp e) (by simp only [List.size_toArray] <;> omega)
theorem rG:bQ X (.type "tuple") (fun xs H Q=>∃ p ys,xs=[.ref p]∧((SqL X.K H p ys∧∀ l,H l=none→Q (.ref l) (upd H l (.tup ys)))∨(SqT X.K H p ys∧Q (.ref p) H))):=by
  intro pins s σ H xs us Q I r h
  obtain ⟨p,ys,rfl,h⟩:=h
  obtain ⟨u,rfl,rx⟩:=hU r
  cases rx
  rcases h with ⟨hq,q⟩ | ⟨hq,q⟩
  · obtain ⟨its,r',pl,hz⟩:=I.list hq
    have hlen:=r'.length
    refine call_tuple_list pl.isList (fun h' kp=>?_) (by simp only [List.size_toArray] <;> omega)
    have I1:Inv X pins σ H { s with heap:=h' }:=I.kept (t':=s.toks) kp
    have I2:Inv X pins σ (upd H h'.objs.size (.tup ys)) { s with heap:=h'.push { cls:=.type "tuple",data:=.seq its.toArray } } :=
      I1.laid (t':=s.toks) (fun b o e=>Heap.get?_push_of_some _ e) (Nat.le_refl _) (show bJ X.prog X.w _ _ _ (.tup ys) from ⟨hz,its,r',eL.new _ _⟩)
    exact ⟨.ref h'.objs.size,_,I2,rfl,q _ (I1.hok.fresh (Nat.le_refl _))⟩
  · obtain ⟨its,r',pl,hz⟩:=I.tuple hq
    exact call_tuple_same pl ⟨.ref p,H,I,rfl,q⟩
noncomputable def tyV (K:W.Frag) (T:String) (x:V) (H:Hp):Prop:=match x with
  | .str _=>T="str"
  | .int _=>T="int"
  | .ref p=>(T="list"∧∃ xs,SqL K H p xs)∨(T="tuple"∧∃ o,K.lookup p=some o∧o.cls= .type "tuple"∧o.dict=none)∨
      (T="dict"∧((∃ kvs,H p=some (.dK kvs))∨∃ kvs,H p=some (.dT kvs)))∨(T="set"∧∃ S n,H p=some (.set S n))
  | _=>False
theorem OQ {pins:List (Addr×Obj)} {σ:St} {H:Hp} {s:Shared} {T:String} {x:V} {v:Value} (I:Inv X pins σ H s) (r:aQ x v) (ty:tyV X.K T x H) :
    s.TypeIs v T∧∀ a,v= .ref a→∃ ob,s.heap.get? a=some ob∧ob.dict=none:=by
  cases x with
  | str z =>
    obtain ⟨t,rfl⟩:=r
    cases (show T="str" from ty)
    exact ⟨typeIs_str s z t,fun _ e=>nomatch e⟩
  | int i =>
    obtain ⟨t,rfl⟩:=r
    cases (show T="int" from ty)
    exact ⟨typeIs_int s i t,fun _ e=>nomatch e⟩
  | ref p =>
    cases r
    rcases ty with ⟨rfl,xs,hq⟩ | ⟨rfl,o,hk,hc,hd⟩ | ⟨rfl,hk⟩ | ⟨rfl,S,n,hk⟩
    · obtain ⟨its,_,pl,_⟩:=I.list hq
      refine ⟨pl.isList.typeIs,fun a e=>?_⟩
      cases e
      obtain ⟨o,n,e,c,hd,_⟩:=pl
      exact ⟨o,e,hd⟩
    · refine ⟨⟨o,I.kIn p o hk,hc⟩,fun a e=>?_⟩
      cases e
      exact ⟨o,I.kIn _ o hk,hd⟩
    · have z:∃ o,s.heap.get? p=some o∧o.ExactDict:=by
        rcases hk with ⟨kvs,hk⟩ | ⟨kvs,hk⟩
        · obtain ⟨_,_,_,_,o,_,_,e,ex,_⟩:=I.hok p _ hk
          exact ⟨o,e,ex⟩
        · obtain ⟨_,_,_,_,o,_,_,e,ex,_⟩:=I.hok p _ hk
          exact ⟨o,e,ex⟩
      obtain ⟨o,e,ex⟩:=z
      refine ⟨⟨o,e,ex.1⟩,fun a e2=>?_⟩
      cases e2
      exact ⟨o,e,ex.2.1⟩
    · obtain ⟨o,_,_,_,e,ex,_⟩:=I.hok p _ hk
      refine ⟨⟨o,e,ex.1⟩,fun a e2=>?_⟩
      cases e2
      exact ⟨o,e,ex.2.1⟩
  | _=>exact False.elim ty
noncomputable def tBM (K:W.Frag) (T:String) (r:V→List V→Hp→VK→Prop) (to:TE) (t:TA):TE:=fun σ H Q=>to σ H fun x H1=>tyV K T x H1∧t σ H1 fun xs H2=>r x xs H2 Q
variable {o e:Expr} {es:List Expr} {to:TE} {t:TA} {name:Str} {apos cpos:Pos} {T id:String} {r:V→List V→Hp→VK→Prop}
theorem MO (pa:PlainAttrs T) (slot:Slot T name id) (hty:typeOf (.builtin id)=pure (.type "method_descriptor")) (hm:MtR X id r) (ho:PE X o to) (ha:PA X (e :: es) t)
    (hbase:attributeBase o name X.env (eval o X.env)=eval o X.env:=by rfl)
    (hfew:((backTo cpos (starEach (e :: es) X.env)).all (fun x=> !x.1) && (backToKw cpos (keywordEach [] X.env)).all (fun x=>x.1.isSome)
      && decide ((e :: es).length + ([]:List Keyword).length + (if ([]:List Keyword).isEmpty then 0 else 1) < 30))=true:=by rfl)
    (hline:(apos.endLine == cpos.line)=true:=by rfl) (hs:starEach (e :: es) X.env=(false,eval e X.env) :: starEach es X.env:=by rfl) (hplain:(backTo cpos (starEach es X.env)).any (·.1)=false:=by rfl) :
    PE X (.Call (.Attribute o name apos) (e :: es) [] cpos) (tBM X.K T r to t):=by
  intro pins s σ H Q I h
  refine wpAny_Call_method_late hbase hfew hline rfl (thn (ho pins s σ H _ I h) fun v s1 ⟨x,H1,I1,r1,ty,q1⟩=>?_)
  obtain ⟨h1,h2⟩:=OQ I1 r1 ty
  refine ⟨T,id,pa,slot,hty,h1,h2, ?_⟩
  have hA:=ha cpos pins s1 σ H1 _ I1 q1
  rw [hs] at hA ⊢
  refine Calls.callWith_builtin (by show (false || (backTo cpos (starEach es X.env)).any (·.1))=false; rw [hplain] <;> rfl) (Calls.evalArgs_plain ?_)
  exact thn hA fun us s2 ⟨vs,H2,I2,r2,q2⟩=>hm pins s2 σ H2 x vs v us Q I2 r1 r2 q2
end
noncomputable def MtM (X:Cx) (id:String) (r:V→List V→Hp→VK→Prop):Prop :=
  ∀ (pins:List (Addr×Obj)) (s:Shared) (σ:St) (H:Hp) (x:V) (xs:List V) (v:Value) (us:List Value) (Q:VK),Inv X pins σ H s→aQ x v→aJ xs us→r x xs H Q→
    wpAny (model X.prog X.w) X.A (call (.builtin id) (v :: us)) (EP X pins σ Q) X.xe s
theorem aJ.one:∀ {x:V} {us:List Value},aJ [x] us→∃ u,us=[u]∧aQ x u
  | _,_,.cons r .nil=>⟨_,rfl,r⟩
theorem aJ.reverse {xs:List V} {us:List Value} (h:aJ xs us):aJ xs.reverse us.reverse:=by
  induction h with
  | nil=>exact .nil
  | cons r t ih=>rw [List.reverse_cons,List.reverse_cons]; exact aJ.append ih (.cons r .nil)
section
variable {X:Cx} {pins:List (Addr×Obj)} {σ:St} {H:Hp} {s:Shared} {l b:Addr} {xs ys zs:List V}
theorem Inv.lset {its its':List Value} {n:Nat} {f:Array Value→Array Value} {t':Nat} (I:Inv X pins σ H s) (hH:H l=some (.lst xs))
    (e:s.heap.get? l=some { cls:=.type "list",data:=.seq its.toArray n }) (hf:f its.toArray=its'.toArray) (hv:aJ ys its') (hz:ys.length≤sizeLine) :
    Inv X pins σ (upd H l (.lst ys)) { s with heap:=s.heap.update l (Obj.mapSeq f),toks:=t' }:=by
  have q:=PySem.IsL.update e f
  rw [hf] at q
  refine I.write (x:=l) (e:=l) (by rw [hH]; exact trivial) (.inl rfl) (fun b' u hb hu=>(Heap.get?_update_other s.heap (Obj.mapSeq f) (Ne.symm hb)).trans hu) ⟨_,q⟩ ?_
  exact ⟨hz,its',_,hv,q⟩
theorem Inv.lnew {its:List Value} {t':Nat} (I:Inv X pins σ H s) (hv:aJ ys its) (hz:ys.length≤sizeLine) :
    Inv X pins σ (upd H s.heap.objs.size (.lst ys)) { s with heap:=s.heap.push { cls:=.type "list",data:=.seq its.toArray },toks:=t' } :=
  I.laid (fun _ _ q=>Heap.get?_push_of_some _ q) (Nat.le_refl _) ⟨hz,its,0,hv,Heap.get?_push_size _ rfl⟩
theorem Inv.fresh (I:Inv X pins σ H s):H s.heap.objs.size=none:=I.hok.fresh (Nat.le_refl _)
theorem Inv.lstM (I:Inv X pins σ H s) (hH:H l=some (.lst xs)):xs.length≤sizeLine∧∃ (its:List Value) (n:Nat),aJ xs its∧xs.length=its.length∧s.heap.get? l=some { cls:=.type "list",data:=.seq its.toArray n }:=by
  obtain ⟨z,its,n,r,e⟩:=I.hok l _ hH
  exact ⟨z,its,n,r,r.length,e⟩
end
section
variable {X:Cx}
noncomputable def SW:V→List V→Hp→VK→Prop:=fun x vs H Q=>∃ l xs y,x= .ref l∧vs=[y]∧H l=some (.lst xs)∧xs.length < sizeLine∧Q .non (upd H l (.lst (xs ++ [y])))
theorem sO:MtM X "list.append" SW:=by
  intro pins s σ H x vs v us Q I rx rv h
  obtain ⟨l,xs,y,rfl,rfl,hH,hz,q⟩:=h
  cases rx
  obtain ⟨u,rfl,ru⟩:=rv.one
  obtain ⟨z,its,n,r,hl,e⟩:=I.lstM hH
  refine call_meets F.slot_list_append ⟨_,e,rfl⟩ F.entry_list_append (F.args_list_append_2 _ _) (PySem.list_append l its.toArray n u (by rw [List.size_toArray]; omega)) ⟨e, ?_⟩
  refine ⟨.non,_,I.lset (its':=its ++ [u]) hH e (by simp) (r.append (.cons ru .nil)) ?_,rfl,q⟩
  rw [List.length_append,List.length_singleton]
  omega
noncomputable def aEn:R2:=fun x y H Q=>∃ l b xs zs,x= .ref l∧y= .ref b∧H l=some (.lst xs)∧H b=some (.lst zs)∧xs.length + zs.length≤sizeLine∧∀ p,H p=none→Q (.ref p) (upd H p (.lst (xs ++ zs)))
theorem aBi:OpR X (binaryOp .Add) aEn:=by
  intro pins s σ H x y v u Q I rx ry h
  obtain ⟨l,b,xs,zs,rfl,rfl,hH,hB,hz,q⟩:=h
  cases rx
  cases ry
  obtain ⟨z,its,n,r,hl,e⟩:=I.lstM hH
  obtain ⟨z2,its2,n2,r2,hl2,e2⟩:=I.lstM hB
  refine PySem.P.add_list e e2 ?_ (by rw [List.size_toArray,List.size_toArray]; omega)
  have ea:its.toArray ++ its2.toArray=(its ++ its2).toArray:=by simp
  rw [ea]
  exact ⟨.ref _,_,I.lnew (t':=s.toks) (r.append r2) (by rw [List.length_append]; omega),rfl,q _ I.fresh⟩
end
section
variable {prog:Program} {w:World} {A:Around} {E:Value→Shared→Prop} {s:Shared}
end
section
variable {X:Cx}
end
end L2
namespace Att
open PySem PySem.W PySem.Calls PyProof.Rows
theorem mQ {P:Params} {h:Heap}:∀ (ns:List Int) (vs:List Value),WellAll P h vs (ns.map WData.int)→IntsAre vs ns:=by
  intro ns
  induction ns with
  | nil =>
    intro vs w
    rw [List.map_nil] at w
    cases w
    exact .nil
  | cons n ns ih =>
    intro vs w
    rw [List.map_cons] at w
    cases w with
    | cons a b =>
      cases a
      exact .cons _ _ (ih _ b)
theorem GB {l:OpenLaw} {n:Nat} (hn:l.most=some n) {P:Params} {h:Heap} {args:List WData} {vals:List Value}
    (hpre:l.row.toRowW.claim.pre args=true) (hwl:WellAll P h vals args) :
    ∃ a vs ns,vals=[Value.ref a]∧args=[WData.list (ns.map WData.int)]∧h.get? a=some { cls:=.type "list",data:=.seq vs.toArray }∧IntsAre vs ns∧ns.length≤n:=by
  have hsh:WShape.hasAll [] args [.list .int]=true:=(pre_splitW hpre).1
  have hc:l.pre.holds [] { args:=args }=true:=(pre_splitW hpre).2
  obtain ⟨d,r,rfl,h1,h2⟩:=hasAllW_cons hsh
  obtain rfl:=hasAllW_nil h2
  obtain ⟨xs,rfl,h3⟩:=hasW_list h1
  obtain ⟨ns,rfl⟩:=items_int h3
  have hlen:ns.length≤n:=by
    unfold OpenLaw.pre at hc
    have h4:(WTm.not (.lt (.lit (.int (n:Int))) (.len (.arg 0)))).holds [] { args:=[.list (ns.map .int)] }=true:=by
      have h4:=(holds_andW hc).1
      rw [hn] at h4
      exact h4
    have h5:=condW_of h4 (w_not (w_lt w_lit (w_len_list (w_arg rfl))))
    rw [List.length_map] at h5
    refine Nat.le_of_not_lt fun q=>?_
    have q':(n:Int) < ((ns.length:Nat):Int):=by omega
    first
      | (rw [decide_eq_true q'] at h5; exact absurd h5 (by decide))
      | (simp at h5; omega)
  cases hwl with
  | cons w1 w2 =>
    cases w2
    cases w1 with
    | list ho hall=>exact ⟨_,_,ns,rfl,rfl,ho,mQ ns _ hall,hlen⟩
theorem EJ (l:OpenLaw) (args:List WData):l.row.toRowW.claim.post args (.bool true) args=true :=
  postW_of (r:=l.row.toRowW) (X:=(true == true))
    (show WShape.has [] (.bool true) .bool=true by first | rfl | decide | simp [WShape.has,WShape.arms,WShape.armsAll])
    (show (WTm.eq .res (.lit (.bool true))).value [] { args:=args,res:=some (.bool true),after:=args }=some (.bool (true == true)) from w_eq_bool (w_res rfl) w_lit) rfl
theorem xG {l:OpenLaw} {n:Nat} {q:Program} {loose:List Str} {XP:(Str→Option Value)→Heap→Prop} {YP:World→Heap→Prop} {d:DefRec}
    (hn:l.most=some n) (hdf:d.params.defaults=[])
    (call:∀ (w:World) (s₀ s₁:Shared) (mg mb:Str→Option Value) (fa:Addr) (o:Obj) (pm cd doc:Value) (a:Addr) (vs:List Value) (ns:List Int),
      Ground q loose [] XP w s₀ mg mb s₁.heap→YP w s₁.heap→
      s₁.heap.get? fa=some o→o.data= .func (docDef d.name d.params d.body d.scope pm cd doc)→s₁.heap.CodeRec cd d.name→mg d.name=some (.ref fa)→
      s₁.heap.get? a=some { cls:=.type "list",data:=.seq vs.toArray }→IntsAre vs ns→ns.length≤n→s₁.gens= #[]→
      codeAny (model l.prog w) callerA (.call (.ref fa) ⟨[.ref a],[]⟩) (fun r s'=>r= .ok (.ret (.bool true))∧OldK s₁.heap s'.heap∧s'.os=s₁.os∧AllBare s'.gens) s₁) :
    WalkO q loose XP YP l.row.toRowW d [] (fun f vs=>PySem.call f vs):=by
  intro w s₀ s₁ mg mb G Y fa o pm cd doc dV kV ho hd hcd hD hmg hg args vals as hpre hlay hrd hwl hlo
  obtain rfl:dV= .none:=Dflts.none hD hdf
  obtain rfl:kV= .none:=Dflts.noKw hD
  obtain ⟨a,vs,ns,rfl,rfl,hobj,hints,hlen⟩:=GB hn hpre hwl
  refine enter_call (codeAny_mono (call w s₀ s₁ mg mb fa o pm cd doc a vs ns G Y ho (fd_plain hd) hcd hmg hobj hints hlen hg) fun r s' hq=>?_)
  obtain ⟨rfl,h2,h3,h4⟩:=hq
  exact ⟨.inl ⟨.bool true,.bool true,[],rfl,fun _=>rfl,.bool true,EJ l _,fun _=>⟨List.Pairwise.nil,fun _ hm=>(nomatch hm)⟩⟩,h2,h3,h4⟩
section
variable {prog:Program} {w:World} {A:Around} {E:Value→Shared→Prop} {s:Shared} {K:Frag}
end
end Att
namespace L2
open PySem PySem.Spec PyProof.Rows
theorem sQ:∀ {vs:List Value} {ns:List Int},IntsAre vs ns→aJ (ns.map V.int) vs
  | _,_,.nil=>.nil
  | _,_,.cons n t h=>.cons ⟨t,rfl⟩ (sQ h)
noncomputable def OK (H:Hp):Prop:= ∀ b,H b=none∨∃ o xs,H b=some (.frz o (.lst xs))
theorem IM {P:Program} {w:World} {K:W.Frag} {mg mb:Str→Option Value} {CX:CXT} {k:Nat} {fa a:Addr} {fd:FuncData} {x:Str} {sp:Sp} {s₁:Shared} {vs:List Value} {ns:List Int}
    (KX:K.In s₁.heap) (hns:s₁.heap.Ns mainGlobals mg) (hb:s₁.heap.Ns builtinsNs mb) (hbb:∀ x:Str,x≠"__name__"→mb x=bootBuiltins x) (hlim:s₁.heap.NoLimit) (hg:s₁.gens= #[])
    (ha:s₁.heap.get? a=some { cls:=.type "list",data:=.seq vs.toArray }) (hi:IntsAre vs ns) (hl:ns.length≤sizeLine) (hr:bC k callerA)
    (F:∀ base:Heap,K.In base→base.Ns mainGlobals mg→bL P w K mg base CX k fa fd [x] sp) (hbind:∀ (s:Shared) (u:Value),BindsTo s fd ⟨[u],[]⟩ [(x,u)])
    (hsp:∀ H:Hp,OK H→SqL K H a (ns.map V.int)→sp [.ref a] H (fun v _=>v= .bl true) fun _ _ _=>False)
    (hCX:∀ H e s',CX [] H s₁ (fun _ _ _=>False) e s'→False) :
    codeAny (model P w) callerA (.call (.ref fa) ⟨[.ref a],[]⟩) (fun r s'=>r= .ok (.ret (.bool true))∧OldK s₁.heap s'.heap∧s'.os=s₁.os∧AllBare s'.gens) s₁:=by
  have rv:=sQ hi
  have lenV:=hi.length
  have core :∀ H:Hp,OK H→SqL K H a (ns.map V.int)→HOk P w H s₁.heap→(∀ b,H b≠none→b=a)→(H a≠none→K.lookup a=none)→
      codeAny (model P w) callerA (.call (.ref fa) ⟨[.ref a],[]⟩) (fun r s'=>r= .ok (.ret (.bool true))∧OldK s₁.heap s'.heap∧s'.os=s₁.os∧AllBare s'.gens) s₁:=by
    intro H hO hS hok hA hK
    have base_of:∀ {b:Addr} {o:Obj},s₁.heap.get? b=some o→H b=none→(vD s₁.heap H).get? b=some o:=fun e n=>MK e n
    have noA:∀ {b:Addr} {o:Obj} {es:Array DictEntry} {ep:Nat},s₁.heap.get? b=some o→o.data= .dict es ep→H b=none:=fun {b o es ep} e d=>by
      cases q:H b with
      | none=>rfl
      | some u =>
        have e':b=a:=hA b (by rw [q]; simp)
        subst e'
        rw [ha] at e; cases e
        have d':Data.seq vs.toArray _=Data.dict es ep:=d
        cases d'
    have nsK:∀ {b:Addr} {m:Str→Option Value},s₁.heap.Ns b m→(vD s₁.heap H).Ns b m:=fun {b m} ⟨o,es,ep,e,d,r⟩=>⟨o,es,ep,base_of e (noA e d),d,r⟩
    have hKb:K.In (vD s₁.heap H):=fun b o e=>base_of (KX b o e) (by
      cases q:H b with
      | none=>rfl
      | some u =>
        have e':b=a:=hA b (by rw [q]; simp)
        subst e'
        rw [hK (by rw [q]; simp)] at e; cases e)
    have hM:Mod K mg (vD s₁.heap H):=⟨hKb,nsK hns,⟨mb,nsK hb,hbb⟩,let ⟨mc,h1,h2⟩:=hlim; ⟨mc,nsK h1,h2⟩⟩
    have e0:mS P w K mg (vD s₁.heap H) callerA [] s₁ H:=⟨rfl,hM,fun b o e=>RS e,Nat.le_of_eq (EB _ _),trivial,fun b hb=>absurd (show b∈([]:List Addr) from hb) (by simp),hok,.of_eq hg⟩
    refine codeAny_mono ((F _ hKb (nsK hns)).run callerA [] s₁ H ⟨[.ref a],[]⟩ [.ref a] [.ref a] _ _ hr e0 (hbind s₁ (.ref a)) (.cons rfl .nil) (hsp H hO hS)) fun r s' h=>?_
    cases r with
    | error e=>exact (hCX H e s' h).elim
    | ok fl =>
      cases fl with
      | next=>exact False.elim h
      | brk=>exact False.elim h
      | cont=>exact False.elim h
      | ret u =>
        obtain ⟨v,H',os,bare,un,hok',r',q⟩:=h
        have q':v= .bl true:=q
        subst q'
        obtain rfl:u=Value.bool true:=r'
        refine ⟨rfl,OldK.of_keep fun b o e=>?_,os,bare⟩
        cases q:H b with
        | none=>exact un.keep b o e q (by intro z; exact absurd (show b∈([]:List Addr) from z) (by simp)) (by simp)
        | some u =>
          rcases hO b with z | ⟨ob,xs,z⟩
          · rw [q] at z; cases z
          · have z2:=un.frzs b ob _ z
            obtain ⟨e1,_⟩:=hok b _ z
            obtain ⟨e2,_⟩:=hok' b _ z2
            rw [e] at e1; cases e1
            exact e2
  cases hk:K.lookup a with
  | some o =>
    have e:=KX a o hk
    rw [ha] at e
    cases e
    refine core (fun _=>none) (fun _=>.inl rfl) (.inr ⟨_,vs.toArray,_,hk,rfl,rfl,rfl,by rw [List.size_toArray,lenV]; exact hl,by simpa using rv⟩) (fun b u z=>by have z':(none:Option HO)=some u:=z; cases z') (fun b z=>absurd rfl z) fun z=>absurd rfl z
  | none =>
    refine core (fun b=>if b=a then some (.frz { cls:=.type "list",data:=.seq vs.toArray } (.lst (ns.map V.int))) else none) (fun b=>?_) (.inl (.inr ⟨{ cls:=.type "list",data:=.seq vs.toArray },if_pos rfl⟩)) (fun b u z=>?_) (fun b z=>?_) fun _=>hk
    · by_cases hb:b=a
      · exact .inr ⟨_,_,if_pos hb⟩
      · exact .inl (if_neg hb)
    · by_cases hb:b=a
      · have z':=(if_pos hb).symm.trans z
        cases z'
        subst hb
        exact ⟨ha,by rw [List.length_map]; exact hl,vs,_,rv,ha⟩
      · have z':=(if_neg hb).symm.trans z
        cases z'
    · by_cases hb:b=a
      · exact hb
      · exact absurd (if_neg hb) z
theorem ST {l:W.OpenLaw} {n k:Nat} {q:Program} {loose:List Str} {XP:(Str→Option Value)→Heap→Prop} {YP:World→Heap→Prop} {d:DefRec} {K:Params→W.Frag} {CX:World→CXT} {sp:World→Sp} {x:Str}
    (hn:l.most=some n) (hn2:n≤sizeLine) (hdf:d.params.defaults=[]) (hr:bC k callerA)
    (hY:∀ (w:World) (h:Heap),YP w h→(K w.params).In h)
    (F : ∀ (w:World) (mg:Str→Option Value) (fa:Addr) (h:Heap),(K w.params).In h→h.Ns mainGlobals mg→mg d.name=some (.ref fa)→
      ∃ fd:FuncData,(∀ (s:Shared) (u:Value),BindsTo s fd ⟨[u],[]⟩ [(x,u)])∧
        ∀ base:Heap,(K w.params).In base→base.Ns mainGlobals mg→bL l.prog w (K w.params) mg base (CX w) k fa fd [x] (sp w))
    (hsp:∀ (w:World) (H:Hp) (a:Addr) (ns:List Int),ns.length≤n→OK H→SqL (K w.params) H a (ns.map V.int)→sp w [.ref a] H (fun v _=>v= .bl true) fun _ _ _=>False)
    (hCX:∀ (w:World) (H:Hp) (s:Shared) (e:Value) (s':Shared),CX w [] H s (fun _ _ _=>False) e s'→False) :
    W.WalkO q loose XP YP l.row.toRowW d [] (fun f vs=>PySem.call f vs):=by
  refine Att.xG hn hdf fun w s₀ s₁ mg mb fa o pm cd doc a vs ns G Y ho hd hcd hmg hobj hints hlen hg=>?_
  have KX:=hY w _ Y
  obtain ⟨fd,hb,hF⟩:=F w mg fa _ KX G.T.g hmg
  exact IM KX G.T.g G.T.b G.T.builtins G.T.nolimit hg hobj hints (Nat.le_trans hlen hn2) hr hF hb (fun H hO hS=>hsp w H a ns hlen hO hS) fun H e s'=>hCX w H s₁ e s'
theorem ID {l:W.OpenLaw} {n k:Nat} {q:Program} {loose:List Str} {XP:(Str→Option Value)→Heap→Prop} {YP:World→Heap→Prop} {d:DefRec} {K:Params→W.Frag} {CX:CXT} {sp:W.Frag→Sp} {x:Str}
    (hn:l.most=some n) (hn2:n≤sizeLine) (hdf:d.params.defaults=[]) (hr:bC k callerA)
    (hY:∀ (w:World) (h:Heap),YP w h→(K w.params).In h)
    (F : ∀ (w:World) (mg:Str→Option Value) (fa:Addr) (h:Heap),(K w.params).In h→h.Ns mainGlobals mg→mg d.name=some (.ref fa)→
      ∃ fd:FuncData,(∀ (s:Shared) (u:Value),BindsTo s fd ⟨[u],[]⟩ [(x,u)])∧
        ∀ base:Heap,(K w.params).In base→base.Ns mainGlobals mg→bL l.prog w (K w.params) mg base CX k fa fd [x] (sp (K w.params)))
    (hsp:∀ (K:W.Frag) (H:Hp) (a:Addr) (ns:List Int),ns.length≤n→OK H→SqL K H a (ns.map V.int)→sp K [.ref a] H (fun v _=>v= .bl true) fun _ _ _=>False)
    (hCX:∀ (H:Hp) (s:Shared) (e:Value) (s':Shared),CX [] H s (fun _ _ _=>False) e s'→False) :
    W.WalkO q loose XP YP l.row.toRowW d [] (fun f vs=>PySem.call f vs) :=
  ST (K:=K) (CX:=fun _=>CX) (sp:=fun w=>sp (K w.params)) hn hn2 hdf hr hY F (fun w H a ns h1 h2 h3=>hsp (K w.params) H a ns h1 h2 h3) fun _ H s e s'=>hCX H s e s'
noncomputable def aF (s:Stmt) (j:Nat):Stmt:=match s with
  | .ClassDef _ _ _ body _ _ _ _ _ _ _=>body.getD j (.Pass ⟨0,0,0,0⟩)
  | _=>.Pass ⟨0,0,0,0⟩
noncomputable def fF (s:Stmt):Arguments:=match s with
  | .FunctionDef _ a _ _ _ _ _ _ _ _=>a
  | _=>{ posonlyargs:=[],args:=[],vararg:=none,kwonlyargs:=[],kw_defaults:=[],kwarg:=none,defaults:=[] }
noncomputable def aI (s:Stmt):List Stmt:=match s with
  | .FunctionDef _ _ b _ _ _ _ _ _ _=>b
  | _=>[]
noncomputable def aD (s:Stmt):Scope:=match s with
  | .FunctionDef _ _ _ _ _ _ sc _ _ _=>sc
  | _=>{ kind:=.function,names:=[],isGenerator:=false,isCoroutine:=false }
noncomputable abbrev CX0:CXT:=fun _ _ _ _ _ _=>False
noncomputable abbrev E0:XK:=fun _ _ _=>False
theorem WS {X:Cx}:gG CX0 X E0:=fun _ _ _ _ _ _ _ h=>h.elim
section
variable {P:Program} {w:World} {K:W.Frag} {mg:Str→Option Value} {base:Heap}
end
section
variable {X:Cx}
theorem pv (i:Nat) {x:Str} {pos:Pos} (hN:X.N[i]? =some x:=by rfl) (hv:Vis X.env.scope x:=by first | exact Or.inl rfl | exact Or.inr (Or.inl rfl) | exact Or.inr (Or.inr rfl)) (hd:(x == ("__debug__":Str))=false:=by decide)
    (hcd:(x == ("__classdict__":Str))=false:=by decide):PE X (.Name x pos) (aCu i):=pS hN hv hd hcd
end
noncomputable def aM (H H':Hp):Prop:= ∀ b o,H b=some o→H' b=some o
theorem aM.refl (H:Hp):aM H H:=fun _ _ h=>h
theorem aM.trans {H H1 H2:Hp} (a:aM H H1) (b:aM H1 H2):aM H H2:=fun c o h=>b c o (a c o h)
theorem aM.seq {K:W.Frag} {H H':Hp} {a:Addr} {xs:List V} (e:aM H H') (h:SqL K H a xs):SqL K H' a xs:=by
  rcases h with (h | ⟨o,h⟩) | h
  · exact .inl (.inl (e _ _ h))
  · exact .inl (.inr ⟨o,e _ _ h⟩)
  · exact .inr h
end L2
set_option maxHeartbeats 4000000
namespace L2
open PySem PySem.Spec PyProof.Rows
noncomputable def Sm (k:Nat) (x:Int):Prop:=x.natAbs < 2 ^ k
theorem Sm.mono {k l:Nat} {x:Int} (h:Sm k x) (q:k≤l):Sm l x:=Nat.lt_of_lt_of_le h (Nat.pow_le_pow_right (by decide) q)
theorem Sm.neg {k:Nat} {x:Int} (h:Sm k x):Sm k (-x):=by unfold Sm at *; rw [Int.natAbs_neg]; exact h
theorem Sm.le {k:Nat} {x y:Int} (h:Sm k y) (a:0≤x) (b:x≤y):Sm k x:=by unfold Sm at *; omega
theorem Sm.div {k:Nat} {x y:Int} (h:Sm k x) (hy:0 < y):Sm k (x / y):=by
  rcases Int.le_total 0 x with z | z
  · exact h.le (Int.ediv_nonneg z (by omega)) (Int.ediv_le_self _ z)
  · have a:x≤x / y:=Int.le_ediv_of_mul_le hy (by
      have:=Int.mul_le_mul_of_nonpos_left z (show 1≤y by omega)
      omega)
    have b:x / y≤0:=by
      have:=Int.ediv_le_ediv hy z
      rw [Int.zero_ediv] at this; exact this
    unfold Sm at *; omega
theorem Sm.bits {k:Nat} {x:Int} (h:Sm k x):Builtin.Int.intBits x≤k:=by
  unfold Builtin.Int.intBits
  split
  · exact Nat.zero_le _
  · rename_i z
    have hz:x.natAbs≠0:=fun e=>z (by rw [Int.natAbs_eq_zero.mp e]; rfl)
    exact (Nat.log2_lt hz).mpr h
theorem Sm.log {k:Nat} {x:Int} (h:Sm k x) (e:k≤9000) (hk:0 < k):x.natAbs.log2 < 9000:=by
  by_cases hz:x.natAbs=0
  · rw [hz]; decide
  · exact Nat.lt_of_lt_of_le ((Nat.log2_lt hz).mpr h) e
section
variable {X:Cx}
noncomputable def wH (i j:Int):Prop:=IntMulOk i j
theorem JQ {i j:Int} (h:Sm 64 i):wH i j:=IntMulOk.of_left h.bits
theorem aFt {i j:Int} (h:Sm 64 j):wH i j:=IntMulOk.of_right h.bits
noncomputable def mH (_i j:Int):Prop:=0 < j∧∃ k,Sm k j∧0 < k∧k≤9000
theorem EZ {k:Nat} {i j:Int} (h:0 < j) (q:Sm k j) (e:0 < k:=by decide) (e':k≤9000:=by decide):mH i j:=⟨h,k,q,e,e'⟩
theorem RA:OpR X (binaryOp .Mult) (rI wH fun i j=>.int (i * j)):=opI fun _ _ _ _ _ _ _ hc q=>by
  exact mul_int q hc
theorem PB:OpR X (binaryOp .FloorDiv) (rI mH fun i j=>.int (i / j)):=opI fun i j _ _ _ _ _ hc q=>by
  obtain ⟨h1,k,a,hk,e⟩:=hc
  exact floordiv_int (by omega) (by rw [Int.fdiv_eq_ediv_of_nonneg i (by omega)]; exact q) (.inl (PyProof.noPylong_of_log2 (a.log e hk)))
end
section
variable {X:Cx} {CX:CXT} {k:Nat} {f C:Addr} {fd:FuncData} {ps ks:List Str} {sp:Sp} {E:XK} {x m:Str} {p pos apos kpos:Pos} {kws:List Keyword} {tk:TA}
variable {g:List Value→List Value→List Value} {gV:List V→List V→List V}
end
theorem eL.at {h:Heap} {a:Addr} {items:Array Value} {n:Nat} (e:h.get? a=some { cls:=.type "tuple",data:=.seq items n }):eL h a items:=⟨⟨_,e,rfl,n,rfl⟩,fun o q=>by rw [e] at q; cases q; rfl⟩
end L2
namespace LE
open PySem PyProof.Rows
open AutoSeq1 (wpAny_loadPart')
open Builtin
variable {prog:Program} {w:World} {A:Around} {E:Value→Shared→Prop} {s:Shared}
theorem aEN {it l:Addr} {i:Nat} {xs:Array Value} {x:Value} {Q:Value→Shared→Prop} (a:s.heap.IsTupleIter it l i) (b:s.heap.IsTuple l xs) (c:xs[i]? =some x)
    (q:∀ h',h'.IsTupleIter it l (i + 1)→Heap.SameBut it s.heap h'→Q x { s with heap:=h' }):wpAny (model prog w) A (Builtin.SmallTypes.nextOf (.ref it)) Q E s:=by
  obtain ⟨o,ho,hc,hd⟩:=id a
  obtain ⟨p,hp,_,n,hn⟩:=b
  unfold Builtin.SmallTypes.nextOf
  refine wpAny_bind (wpAny_callSpecial?_slot (name:=Str.ofString "__next__") a.typeIs F.slot_tuple_iterator_next (wpAny_call_entry F.slot_tuple_iterator_next a.typeIs F.entry_tuple_iterator_next ?_ (F.args_tuple_iterator_next_1 _)))
  show wpAny _ _ (field (.ref it) 0 >>= _) _ _ _
  refine wpAny_bind (wpAny_field ho hd (x:=.ref l) rfl ?_)
  show wpAny _ _ (if (Value.ref l == Value.none)=true then _ else _) _ _ _
  rw [if_neg (show ¬((Value.ref l == Value.none)=true) from nofun)]
  show wpAny _ _ (field (.ref it) 1 >>= _) _ _ _
  refine wpAny_bind (wpAny_field ho hd (x:=.int i 0) rfl ?_)
  show wpAny _ _ (seqItems? (.ref l) >>= _) _ _ _
  refine wpAny_bind (wpAny_seqItems hp hn ?_)
  simp only [Int.toNat_natCast,c]
  exact wpAny_bind (wpAny_setField ho hd (by simp) (wpAny_pure ⟨x,rfl,wpAny_pure (q _ ⟨_,Heap.get?_update_self _ ho (Obj.isFreed_of_fields (Obj.data_mapFields hd _)),(Obj.cls_mapFields ..).trans hc,by rw [Obj.data_mapFields hd]; simp [rawInt]⟩ (Heap.SameBut.update ..))⟩))
theorem aDT {it l:Addr} {i:Nat} {xs:Array Value} {Q:Value→Shared→Prop} (hh:A.handled=none) (a:s.heap.IsTupleIter it l i) (b:s.heap.IsTuple l xs) (c:xs[i]? =none)
    (q:∀ h' e,Heap.ExtBut it s.heap h'→(∃ o,h'.get? e=some o∧o.cls= .type "StopIteration")→E (.ref e) { s with heap:=h' }):wpAny (model prog w) A (Builtin.SmallTypes.nextOf (.ref it)) Q E s:=by
  obtain ⟨o,ho,hc,hd⟩:=id a
  obtain ⟨p,hp,_,n,hn⟩:=b
  unfold Builtin.SmallTypes.nextOf
  refine wpAny_bind (wpAny_callSpecial?_slot (name:=Str.ofString "__next__") a.typeIs F.slot_tuple_iterator_next (wpAny_call_entry F.slot_tuple_iterator_next a.typeIs F.entry_tuple_iterator_next ?_ (F.args_tuple_iterator_next_1 _)))
  show wpAny _ _ (field (.ref it) 0 >>= _) _ _ _
  refine wpAny_bind (wpAny_field ho hd (x:=.ref l) rfl ?_)
  show wpAny _ _ (if (Value.ref l == Value.none)=true then _ else _) _ _ _
  rw [if_neg (show ¬((Value.ref l == Value.none)=true) from nofun)]
  show wpAny _ _ (field (.ref it) 1 >>= _) _ _ _
  refine wpAny_bind (wpAny_field ho hd (x:=.int i 0) rfl ?_)
  show wpAny _ _ (seqItems? (.ref l) >>= _) _ _ _
  refine wpAny_bind (wpAny_seqItems hp hn ?_)
  simp only [Int.toNat_natCast,c]
  refine wpAny_bind (wpAny_rule (wpAny_bind (wpAny_setField ho hd (by simp) ?_)))
  show wpAny _ _ (newExc (.type "StopIteration") [] >>= _) _ _ _
  refine wpAny_bind ?_
  simp only [newExc,newTuple]
  refine wpAny_bind (wpAny_newObj_type ?_ (by size_fits))
  refine wpAny_bind (m:=firstArgMember _ _) (wpAny_of_eq (a:=Value.none) (by first | rfl | (simp only [firstArgMember]; rfl)) (wpAny_newObj_type ?_ (by size_fits)))
  simp only [raiseNew]
  refine wpAny_bind (wpAny_handled ?_)
  first | rw [show A.in1.handled=none from hh] | rw [hh]
  exact wpAny_bind (wpAny_pure (wpAny_throw (q _ _ (((Heap.SameBut.update ..).extBut.push _).push _) ⟨_,Heap.get?_push_size _ rfl,rfl⟩)))
theorem aCD (hh:A.handled=none) (it l:Addr) (hne:l≠it) (xs:Array Value):Draws prog w A it [it,l] xs.size (fun i v=>xs[i]? =some v) (fun i h=>h.IsTupleIter it l i∧h.IsTuple l xs) where
  live:=fun _ _ st=>let ⟨o,ho,_⟩:=st.1; ⟨o,ho⟩
  frame:=fun _ _ _ st hk=>⟨st.1.at fun o e=>hk it (by simp) o e,let ⟨o,e,r⟩:=st.2; ⟨o,hk l (by simp) o e,r⟩⟩
  item:=fun i s Q E hi st hQ=>aEN st.1 st.2 (x:=xs[i]) (by simp [hi]) fun h' a b=>hQ _ h' s.toks (by simp [hi]) ⟨a,st.2.extBut b.extBut hne⟩ b
  done:=fun s Q E st hE=>aDT hh st.1 st.2 (by simp) hE
theorem aC9 (hh:A.handled=none) (it l:Addr) (i:Nat) (xs:Array Value) (hx:xs[i]? =none):Draws prog w A it [it,l] i (fun _ _=>True) (fun j h=>j=i∧h.IsTupleIter it l j∧h.IsTuple l xs) where
  live:=fun _ _ st=>let ⟨o,ho,_⟩:=st.2.1; ⟨o,ho⟩
  frame:=fun _ _ _ st hk=>⟨st.1,st.2.1.at fun o e=>hk it (by simp) o e,let ⟨o,e,r⟩:=st.2.2; ⟨o,hk l (by simp) o e,r⟩⟩
  item:=fun j s Q E hi st hQ=>absurd st.1 (Nat.ne_of_lt hi)
  done:=fun s Q E st hE=>aDT hh st.2.1 st.2.2 hx hE
theorem QX (l:Addr) (items:Array Value) (o:Obj) (ho:o.cls= .type "tuple") (n:Nat) (hd:o.data= .seq items n) :
    Meets (Builtin.«enumerate.__new__» ⟨[.type "enumerate",.ref l],[]⟩) (fun _ R s=>s.heap.get? l=some o∧
      R (.ok (.ret (.ref (s.heap.push { cls:=.type "tuple_iterator",data:=.fields #[.ref l,.int 0 0] }).objs.size)))
        { s with heap:=(s.heap.push { cls:=.type "tuple_iterator",data:=.fields #[.ref l,.int 0 0] }).push { cls:=.type "enumerate",data:=.fields #[.none,.bool false,.ref s.heap.objs.size,rawInt 0,.none,.none] } }) :=
  .of_wp fun prog w A R s h=>by
    obtain ⟨hp,g,d,tk,os⟩:=s
    obtain ⟨oc,od,dt,sl⟩:=o
    replace ho:oc= .type "tuple":=ho
    replace hd:dt= .seq items n:=hd
    subst ho hd
    obtain ⟨hl,h⟩:=h
    have hsub:=sub_enumerate
    have hL:Heap.IsTuple (Shared.heap ⟨hp,g,d,tk,os⟩) l items:=⟨_,hl,rfl,n,rfl⟩
    wp_walk using wpAny_loadPart' hl
    refine wpAny_stack_any fun st=>wpAny_pure ?_
    split
    · rename_i c _ _ _ _ _
      cases (c == Value.type "enumerate") <;> (wp_walk using wpAny_loadPart' hl,wpAny_pyIter_tuple hL) <;> exact ⟨_,rfl,h⟩
    · wp_walk using wpAny_loadPart' hl,wpAny_pyIter_tuple hL
      exact ⟨_,rfl,h⟩
theorem EN {l:Addr} {items:Array Value} {Q:Value→Shared→Prop} (hL:s.heap.IsTuple l items)
    (h :∀ h',IsEnum h' (s.heap.objs.size + 1) s.heap.objs.size 0 .none→h'.IsTupleIter s.heap.objs.size l 0→h'.objs.size=s.heap.objs.size + 2→
      (∀ b o,s.heap.get? b=some o→h'.get? b=some o)→Q (.ref (s.heap.objs.size + 1)) { s with heap:=h' }) :
    wpAny (model prog w) A (call (.type "enumerate") [.ref l]) Q E s:=by
  obtain ⟨o,hl,hc,n,hd⟩:=hL
  refine callType_new F.called_enumerate (by decide) (F.typeCall_enumerate_1 _) (F.newCall_enumerate_1 _) (fun obj=>F.args_object_init_2 obj _) F.entry_enumerate_new (QX l items o hc n hd) ⟨hl, ?_⟩
  have hz:(s.heap.push { cls:=.type "tuple_iterator",data:=.fields #[.ref l,.int 0 0] }).objs.size=s.heap.objs.size + 1:=Heap.size_push ..
  show _∧_
  rw [hz]
  have he:IsEnum ((s.heap.push { cls:=.type "tuple_iterator",data:=.fields #[.ref l,.int 0 0] }).push
      { cls:=.type "enumerate",data:=.fields #[.none,.bool false,.ref s.heap.objs.size,rawInt 0,.none,.none] }) (s.heap.objs.size + 1) s.heap.objs.size 0 .none:=by
    have:=Heap.get?_push_size (s.heap.push { cls:=.type "tuple_iterator",data:=.fields #[.ref l,.int 0 0] })
      (o:={ cls:=.type "enumerate",data:=.fields #[.none,.bool false,.ref s.heap.objs.size,rawInt 0,.none,.none] }) rfl
    rw [hz] at this; exact this
  exact ⟨⟨_,he,rfl⟩,h _ he ⟨_,Heap.get?_push_of_some _ (Heap.get?_push_size _ rfl),rfl,rfl⟩ (by rw [Heap.size_push,hz]) fun b o x=>Heap.get?_push_of_some _ (Heap.get?_push_of_some _ x)⟩
end LE
namespace L2
open PySem PySem.Spec PyProof.Rows
section
variable {X:Cx} {pins:List (Addr×Obj)} {σ:St} {H:Hp} {s:Shared} {h':Heap}
theorem Inv.turnNew {t':Nat} {ch:List Addr} {T:Addr} {u:HO} (I:Inv X pins σ H s)
    (hch:∀ b∈ch,(b∈X.ex∨X.s₀.heap.objs.size≤b)∧b≠X.env.locals∧(∀ x c,X.env.cells.lookup x=some c→c≠b)∧∀ p∈X.pn ++ pins,p.1≠b) (hn:∀ b∈ch,H b=none)
    (k:∀ b o,b∉ ch→s.heap.get? b=some o→h'.get? b=some o) (hT:s.heap.objs.size≤T) (new:bJ X.prog X.w (upd H T u) h' T u):Inv X pins σ (upd H T u) { s with heap:=h',toks:=t' }:=by
  have fT:H T=none:=I.hok.fresh hT
  have nT:∀ {b o},s.heap.get? b=some o→b≠T:=fun q=>Nat.ne_of_lt (Nat.lt_of_lt_of_le (Heap.lt_size q) hT)
  have nit:∀ b u,H b=some u→b∉ ch:=fun b u e z=>by rw [hn b z] at e; cases e
  refine I.step (g':=s.gens) (d':=s.drawn) (ch:=ch) hch (fun b o _ _ hc e _=>k b o hc e) (fun b o _ _ hc e _=>⟨o.slots,k b o hc e⟩) (fun b o _ q n=>by rw [aB (nT q)]; exact n)
    (fun b o hc e=>⟨o,k b o hc e⟩) (fun b xs e=>by rw [aB (aG e fT)]; exact e) (fun b o v e=>by rw [aB (aG e fT)]; exact e) (fun b ps e=>⟨#[],by rw [aB (aG e fT),e]; simp⟩) (fun m hm=>?_) (fun b v e=>?_) I.bare
  · obtain ⟨o,es,ep,ho,r⟩:=hm
    exact ⟨o,es,ep,k _ o (fun z=>(hch _ z).2.1 rfl) ho,r⟩
  · by_cases hb:b=T
    · subst hb
      rw [aH] at e
      cases e
      exact new
    · rw [aB hb] at e
      refine (I.hok b v e).stay (fun c v hc q=>k c v ?_ q) (fun c q=>by rw [aB (aG q fT)]; exact q) fun c xs q=>by rw [aB (aG q fT)]; exact q
      rcases hc with z | z
      · rw [z]; exact nit b _ e
      · exact nit c _ z
noncomputable def Ite (K:W.Frag) (a:Addr):It :=
  ⟨fun i H=>∃ xs x,SqT K H a xs∧xs[i]? =some x,fun i H x H'=>∃ T v,x= .ref T∧H T=none∧H'=upd H T (.tup [.int i,v])∧∀ xs,SqT K H a xs→xs[i]? =some v,fun i H=>∃ xs,SqT K H a xs∧xs.length≤i⟩
theorem EM {P:Program} {w:World} {K:W.Frag} {es:List Expr} {x1} {tp:Pos} (a e it:Addr) (hei:e≠it) (hai:a≠it) (hae:a≠e) :
    HB P w K (.Tuple es x1 tp) (Ite K a) [e,it] e (fun i h=>(∃ old,IsEnum h e it ((i:Nat):Int) old)∧h.IsTupleIter it a i) where
  mem:=by simp
  obj :=fun i h st b hb=>by
    obtain ⟨⟨old,h1⟩,o,h2,c,d⟩:=st
    rcases List.mem_cons.mp hb with rfl | hb
    · exact ⟨_,h1,fun v z=>by have z':Data.fields _=Data.cell v:=z; cases z'⟩
    · have e':b=it:=by simpa using hb
      subst e'
      exact ⟨o,h2,fun v z=>by rw [d] at z; cases z⟩
  keep:=fun i h h' st k=>⟨let ⟨old,q⟩:=st.1; ⟨old,k e (by simp) _ q⟩,st.2.at fun o q=>k it (by simp) o q⟩
  item := by
    intro X hP hw hK hc i pins s σ H E I hf st hg
    subst hP hw hK
    obtain ⟨xs,x,hq,hx⟩:=hg
    obtain ⟨its,rv,p,hz⟩:=I.tuple hq
    obtain ⟨u,hu,ru⟩:=rv.get hx
    obtain ⟨⟨old,he⟩,hit⟩:=st
    have hi:i < its.toArray.size:=by
      have:=(List.getElem?_eq_some_iff.mp hu).1
      simpa using this
    have D:=LE.aCD (prog:=X.prog) (w:=X.w) (A:=X.A.in1) (I.ok.hd hc) it a hai its.toArray
    refine wpAny_pyNext_enum_itemD (A:=X.A) D he ⟨hit,(show s.heap.IsTuple a its.toArray from p)⟩ hi hei (by simp [hei,Ne.symm hae]) fun y h1 tk hy ho hs' hT hsz hk=>?_
    refine ⟨_,rfl,wpAny_letOwnedTupleGo_enum ho fun h2 he2 sb=>?_⟩
    have hy':y=u:=by
      have z:its.toArray[i]? =some u:=by simpa using hu
      exact Option.some.inj (hy.symm.trans z)
    subst hy'
    have hTe:s.heap.objs.size≠e:=Nat.ne_of_gt (Heap.lt_size he)
    have gT:h2.get? s.heap.objs.size=some { cls:=.type "tuple",data:=.seq #[.int i tk,y] }:=(sb.2 _ hTe).trans hT
    refine ⟨.ref s.heap.objs.size,upd H s.heap.objs.size (.tup [.int i,x]),I.turnNew (ch:=[e,it]) (h':=h2) (fun b hb=>?_) (fun b hb=>(hf b hb).1) (fun b o hb q=>?_) (Nat.le_refl _) ?_,rfl,⟨_,x,rfl,I.hok.fresh (Nat.le_refl _),rfl,fun ys hy=>by rw [I.tuple_inj hy hq]; exact hx⟩,⟨⟨_,by simpa using he2⟩, ?_⟩,fun b hb=>?_⟩
    · obtain ⟨f0,f1,f2,f3,f4,f5⟩:=hf b hb
      exact ⟨f3,f1,f4,f5⟩
    · simp only [List.mem_cons,List.not_mem_nil,or_false,not_or] at hb
      exact (sb.2 b hb.1).trans (hk b o hb.1 hb.2 q)
    · exact ⟨by show 2≤sizeLine; decide,[.int i tk,y],.cons ⟨tk,rfl⟩ (.cons ru .nil),eL.at gT⟩
    · exact hs'.1.at fun o q=>(sb.2 it (Ne.symm hei)).trans q
    · have hl:∀ b,b∈ [e,it]→b≠s.heap.objs.size:=fun b hb z=>by
        rcases List.mem_cons.mp hb with r | r
        · exact hTe (z▸r)
        · obtain ⟨o,q,_⟩:=hit
          have r':b=it:=by simpa using r
          have l:=Heap.lt_size q
          rw [←r',z] at l
          exact absurd l (Nat.lt_irrefl _)
      rw [aB (hl b hb)]
      exact (hf b hb).1
  done:=by
    intro X hP hw hK hc i pins s σ H E I hf st hg
    subst hP hw hK
    obtain ⟨xs,hq,hx⟩:=hg
    obtain ⟨its,rv,p,hz⟩:=I.tuple hq
    obtain ⟨⟨old,he⟩,hit⟩:=st
    obtain ⟨f0,f1,f2,f3,f4,f5⟩:=hf it (by simp)
    have hl:=rv.length
    have hx':its.toArray[i]? =none:=by simp; omega
    refine wpAny_pyNext_enum_endD (A:=X.A) (LE.aC9 (prog:=X.prog) (w:=X.w) (A:=X.A.in1) (I.ok.hd hc) it a i its.toArray hx') he ⟨rfl,hit,(show s.heap.IsTuple a its.toArray from p)⟩ fun h' eb=>⟨rfl,I.turned (t':=s.toks) (fun b o hb e=>eb b o hb e) f0 f1 f3 f4 f5⟩
  self:=fun _ _ _ _ _ st h=>let ⟨_,q⟩:=st.1; wpAny_pyIter_enum q h
noncomputable def aFo (K:W.Frag) (ta:TA):TI:=fun σ H R=>ta σ H fun vs H1=>∃ a,vs=[.ref a]∧(∃ xs,SqT K H1 a xs)∧R (Ite K a) H1
theorem UV {es:List Expr} {x1} {tp:Pos} {e:Expr} {ta:TA} {p pos:Pos} (hg:Gl X "enumerate") (hm:X.mg "enumerate"=none) (ha:PA X [e] ta) (hs:starEach [e] X.env=[(false,eval e X.env)]:=by rfl) :
    PI X (.Tuple es x1 tp) (.Call (.Name "enumerate" p) [e] [] pos) (aFo X.K ta):=by
  intro pins s σ H R I h
  refine Call_ (iO I hg hm boot_enumerate (PyProof.Rows.callWith_type1 (thn (ha pos pins s σ H _ I h) fun us s1 ⟨vs,H1,I1,r1,q1⟩=>?_) hs rfl))
  obtain ⟨a,e,⟨xs,hq⟩,q⟩:=q1
  subst e
  obtain ⟨u,rfl,r⟩:=hU r1
  cases r
  obtain ⟨its,rv,ht,hz⟩:=I1.tuple hq
  have ht':s1.heap.IsTuple a its.toArray:=ht
  have hl:a < s1.heap.objs.size:=let ⟨o,e,_⟩:=ht'; Heap.lt_size e
  refine LE.EN ht' fun h' he hit hsz k=>?_
  have I2:Inv X pins σ H1 { s1 with heap:=h' }:=I1.kept (t':=s1.toks) k
  refine wpAny_pyIter_enum (s:={ s1 with heap:=h' }) he ?_
  refine ⟨s1.heap.objs.size + 1,[s1.heap.objs.size + 1,s1.heap.objs.size],_,_,H1,rfl,I2,EM a _ _ (Nat.succ_ne_self _) (Nat.ne_of_lt hl) (Nat.ne_of_lt (Nat.lt_succ_of_lt hl)),⟨⟨_,he⟩,hit⟩,fun b hb=>?_,q⟩
  have hb':s1.heap.objs.size≤b:=by
    rcases List.mem_cons.mp hb with z | z
    · rw [z]; exact Nat.le_succ _
    · have z':b=s1.heap.objs.size:=by simpa using z
      exact Nat.le_of_eq z'.symm
  exact I1.fpOk hb' (I1.hok.fresh hb')
end
section
variable {X:Cx}
theorem IxR.imp {r r':R2} (h:IxR X r) (f:∀ x y H Q,r' x y H Q→r x y H Q):IxR X r':=fun value slice pins s σ H x y v u Q I rx ry q hs=>h value slice pins s σ H x y v u Q I rx ry (f _ _ _ _ q) hs
theorem bQ.imp {g:Value} {r r':List V→Hp→VK→Prop} (h:bQ X g r) (f:∀ x H Q,r' x H Q→r x H Q):bQ X g r':=fun pins s σ H xs us Q I rs q=>h pins s σ H xs us Q I rs (f _ _ _ q)
theorem PG.imp {e:Expr} {t t':TG} (h:PG X e t) (f:∀ v σ H Q,t' v σ H Q→t v σ H Q):PG X e t':=fun pins s σ H v u Q I r q=>h pins s σ H v u Q I r (f _ _ _ _ q)
theorem PI.imp {tg it:Expr} {t t':TI} (h:PI X tg it t) (f:∀ σ H R,t' σ H R→t σ H R):PI X tg it t':=fun pins s σ H R I q=>h pins s σ H R I (f _ _ _ q)
end
theorem XX {n:Nat}:ixN (n + 1) 0=some 0:=by unfold ixN; rw [if_pos (by decide),if_pos (by omega)]; rfl
theorem XA {n:Nat}:ixN (n + 2) 1=some 1:=by unfold ixN; rw [if_pos (by decide),if_pos (by omega)]; rfl
theorem YC {n:Nat}:ixN (n + 3) 2=some 2:=by unfold ixN; rw [if_pos (by decide),if_pos (by omega)]; rfl
theorem eX {H:Hp} {p q:Addr} {o u:HO} (h:H q=some u) (n:H p=none):upd H p o q=some u:=by rw [aB (aG h n)]; exact h
theorem bA {H:Hp} {p:Addr} (h:H p=none) (o:HO):aM H (upd H p o):=fun b u q=>eX q h
noncomputable def tyN (H:Hp):V→Option String
  | .non=>some "NoneType"
  | .bl _=>some "bool"
  | .int _=>some "int"
  | .str _=>some "str"
  | .ref a=>match H a with
    | some (.lst _)=>some "list"
    | some (.tup _)=>some "tuple"
    | some (.dK _)=>some "dict"
    | _=>none
  | _=>none
noncomputable def kM (n T:String):Bool:=n == T || (n == "bool" && T == "int")
noncomputable def jJ:List String:=["int","bool","tuple","str","list","dict"]
noncomputable def JL:List String:=["NoneType","bool","int","str","list","tuple","dict"]
theorem aBX {K:W.Frag} {H:Hp} {x:V} {n:String} (h:tyN H x=some n):mG K H x (.type n):=by
  unfold tyN at h
  split at h
  · cases h; exact .non
  · cases h; exact .bl _
  · cases h; exact .int _
  · cases h; exact .str _
  · split at h
    · rename_i e; cases h; exact .lst e
    · rename_i e; cases h; exact .tup e
    · rename_i e; cases h; exact .dK e
    · cases h
  · cases h
theorem aAV (K:W.Frag):∀ n∈JL,∀ T∈jJ,W.kitOne K (.type n) (.type T)=some (kM n T):=by
  intro n hn T hT
  simp only [JL,jJ,List.mem_cons,List.not_mem_nil,or_false] at hn hT
  rcases hn with rfl | rfl | rfl | rfl | rfl | rfl | rfl <;> rcases hT with rfl | rfl | rfl | rfl | rfl | rfl <;> rfl
theorem OpR.imp {X:Cx} {f:Value→Value→Sem Value} {r r':R2} (h:OpR X f r) (g:∀ x y H Q,r' x y H Q→r x y H Q):OpR X f r':=fun pins s σ H x y v u Q I rx ry q=>h pins s σ H x y v u Q I rx ry (g _ _ _ _ q)
theorem aHC (i:Int):(if i < 0 then -i else i)=(i.natAbs:Int):=by split <;> omega
theorem EG {X:Cx}:bQ X (.builtin "abs") (fun xs H Q=>∃ i,xs=[.int i]∧Q (.int (i.natAbs:Int)) H):=IF.imp fun _ _ _ ⟨i,a,q⟩=>⟨i,a,by rw [aHC]; exact q⟩
theorem aH1:((0:Nat):Int)=0:=rfl
theorem aH4:((1:Nat):Int)=1:=rfl
theorem aEv:((2:Nat):Int)=2:=rfl
theorem aH5:((3:Nat):Int)=3:=rfl
section
variable {prog:Program} {w:World} {A:Around} {R:Result→Shared→Prop} {s:Shared}
noncomputable abbrev NoE:Value→Shared→Prop:=fun _ _=>False
theorem FJ {elt target iter:Expr} {ifs:List Expr} {scope:Scope} {pos:Pos} {it acc:Value} {env:Env} (I:Nat→Shared→Prop)
    (turn : ∀ n s,I n s→wpAny (model prog w) A (pyNext it) (fun r s₁=>match r with
      | none=>R (.ok .next) s₁
      | some v=>wpAny (model prog w) A (letOwnedTupleGo target it v) (fun _ s₁'=>wpAny (model prog w) A (assign target env v) (fun _ s₂ =>
          wpAny (model prog w) A (forIn ifs true fun c r=>if r=true then do let ok ←isTrue c env (eval c env); pure (ForInStep.yield ok) else pure (ForInStep.yield r)) (fun ok s₃ =>
            if ok=true then wpAny (model prog w) A (eval elt env) (fun x s₄=>wpAny (model prog w) A (call (.builtin "list.append") [acc,x]) (fun _ s₅=>∃ m,m < n∧I m s₅) NoE s₄) NoE s₃
            else ∃ m,m < n∧I m s₃) NoE s₂) NoE s₁') NoE s₁) NoE s) (n:Nat) (h:I n s) :
    codeAny (model prog w) A (.compLoop (.ListComp elt [⟨target,iter,ifs,0⟩] scope pos) 0 it acc env) R s:=by
  refine codeAny_loop rfl I (fun n s hI=>?_) n h
  refine wpAny_noted (m:=compTurn (.ListComp elt [⟨target,iter,ifs,0⟩] scope pos) 0 it acc env) ?_
  rw [compTurn_list]
  refine wpAny_bind (wpAny_standAt (wpAny_bind (wpAny_mono (turn n s hI) (fun r s₁ h₁=>?_) fun _ _ f=>f.elim)))
  cases r with
  | none=>exact wpAny_pure h₁
  | some v =>
    refine wpAny_bind (wpAny_mono h₁ (fun _ s₁' h₁'=>?_) fun _ _ f=>f.elim)
    refine wpAny_bind (wpAny_mono h₁' (fun _ s₂ h₂=>wpAny_bind (wpAny_mono h₂ (fun ok s₃ h₃=>?_) fun _ _ f=>f.elim)) fun _ _ f=>f.elim)
    cases ok with
    | false=>exact wpAny_pure ⟨rfl,h₃⟩
    | true =>
      exact wpAny_bind (wpAny_bind (wpAny_mono h₃ (fun x s₄ h₄=>wpAny_bind (wpAny_mono h₄ (fun _ s₅ h₅=>wpAny_pure (wpAny_pure ⟨rfl,h₅⟩)) fun _ _ f=>f.elim)) fun _ _ f=>f.elim))
end
noncomputable def kB (cl cells:List (Str×Addr)):List (Str×NameKind)→Prop
  | []=>True
  | (n,k) :: r=>(k= .free→∃ c,cl.lookup n=some c∧cells.lookup n=some c)∧kB cl cells r
noncomputable def rC (cells:List (Str×Addr)):List (Str×Addr)→Prop
  | []=>True
  | (n,c) :: r=>cells.lookup n=some c∧rC cells r
theorem rC.look {cells:List (Str×Addr)}:∀ {cl:List (Str×Addr)} {x:Str} {c:Addr},rC cells cl→cl.lookup x=some c→cells.lookup x=some c
  | [],_,_,_,h=>by cases h
  | (n,c') :: r,x,c,ok,h=>by
    cases hx:x == n with
    | true =>
      rw [List.lookup_cons,hx] at h
      cases h
      rw [beq_iff_eq.mp hx]; exact ok.1
    | false =>
      rw [List.lookup_cons,hx] at h
      exact rC.look ok.2 h
theorem kB.look {cl cells:List (Str×Addr)} {f:Str×NameKind→Str×NameKind} (hf:∀ y,(f y).1=y.1∧((f y).2= .cell∨(f y).2= .free→y.2= .cell∨y.2= .free)):∀ {names:List (Str×NameKind)} {x:Str},kB cl cells names→
    ((names.map f).lookup x=some .cell∨(names.map f).lookup x=some .free)→(∃ c,cl.lookup x=some c)∨(x,NameKind.cell)∈names
  | [],_,_,h=>by rcases h with h | h <;> cases h
  | (n, k) :: r,x,ok,h=>by
    have h1:=hf (n,k)
    rw [List.map_cons] at h
    cases hx:x == (f (n,k)).1 with
    | true =>
      have e:List.lookup x (f (n,k) :: r.map f)=some (f (n,k)).2:=by rw [List.lookup_cons,hx]
      rw [e] at h
      have hk:k= .cell∨k= .free:=h1.2 (h.imp Option.some.inj Option.some.inj)
      rcases hk with hk | hk
      · subst hk
        rw [beq_iff_eq.mp hx,h1.1]
        exact .inr (List.mem_cons_self ..)
      · obtain ⟨c,q,_⟩:=ok.1 hk
        rw [beq_iff_eq.mp hx,h1.1]; exact .inl ⟨c,q⟩
    | false =>
      have e:List.lookup x (f (n,k) :: r.map f)=List.lookup x (r.map f):=by rw [List.lookup_cons,hx]
      rw [e] at h
      exact (kB.look hf ok.2 h).imp_right fun z=>List.mem_cons_of_mem _ z
theorem cD:∀ (names:List (Str×NameKind)) (n:Nat) (acc:List (Str×Addr)),cellsFrom n names acc=cellsFrom n names [] ++ acc
  | [],_,_=>rfl
  | (y,k) :: r,n,acc=>by
    unfold cellsFrom
    split
    · rw [cD r (n + 1) ((y,n) :: acc),cD r (n + 1) [(y,n)],List.append_assoc]; rfl
    · exact cD r n acc
theorem dC:∀ {names:List (Str×NameKind)} {n:Nat} {acc:List (Str×Addr)} {x:Str} {c:Addr},(x,c)∈cellsFrom n names acc→(x,c)∈acc∨((x,NameKind.cell)∈names∧n≤c)
  | [],_,_,_,_,h=>.inl h
  | (y, k) :: r,n,acc,x,c,h=>by
    unfold cellsFrom at h
    split at h
    · rename_i hk
      rcases dC h with z | ⟨z,l⟩
      · rcases List.mem_cons.mp z with e | z
        · cases e; rw [beq_iff_eq.mp hk]; exact .inr ⟨List.mem_cons_self ..,Nat.le_refl _⟩
        · exact .inl z
      · exact .inr ⟨List.mem_cons_of_mem _ z,Nat.le_of_succ_le l⟩
    · rcases dC h with z | ⟨z,l⟩
      · exact .inl z
      · exact .inr ⟨List.mem_cons_of_mem _ z,l⟩
theorem fL:∀ {names:List (Str×NameKind)} {n:Nat} {acc:List (Str×Addr)} {x:Str},(x,NameKind.cell)∈names∨(∃ c,(x,c)∈acc)→∃ c,(x,c)∈cellsFrom n names acc
  | [],_,_,_,h=>by
    rcases h with h | h
    · cases h
    · exact h
  | (y, k) :: r,n,acc,x,h=>by
    unfold cellsFrom
    split
    · refine fL ?_
      rcases h with h | ⟨c,h⟩
      · rcases List.mem_cons.mp h with e | h
        · cases e; exact .inr ⟨n,List.mem_cons_self ..⟩
        · exact .inl h
      · exact .inr ⟨c,List.mem_cons_of_mem _ h⟩
    · rename_i hk
      refine fL (h.imp_left fun h=>?_)
      rcases List.mem_cons.mp h with e | h
      · cases e; exact absurd rfl hk
      · exact h
theorem yH {l:List (Str×Addr)} {x:Str}:(∃ c,(x,c)∈l)→∃ c,l.lookup x=some c:=by
  induction l with
  | nil=>rintro ⟨_,h⟩; cases h
  | cons p r ih =>
    rintro ⟨c,h⟩
    rw [List.lookup_cons]
    cases hb:x == p.1 with
    | true=>exact ⟨p.2,rfl⟩
    | false =>
      rcases List.mem_cons.mp h with e | h
      · rw [←e] at hb; rw [beq_self_eq_true] at hb; cases hb
      · exact ih ⟨c,h⟩
theorem dO {n:Nat} {names:List (Str×NameKind)} {cl:List (Str×Addr)} {x:Str} {c:Addr} (h:(cellsFrom n names cl).lookup x=some c):((x,c)∈cellsFrom n names []∧(x,NameKind.cell)∈names∧n≤c)∨cl.lookup x=some c:=by
  rw [cD,List.lookup_append] at h
  cases e:(cellsFrom n names []).lookup x with
  | none=>rw [e] at h; exact .inr h
  | some d =>
    rw [e] at h; cases h
    have m:=PySem.mem_of_lookup e
    rcases dC m with z | z
    · cases z
    · exact .inl ⟨m,z⟩
theorem mF {n:Nat} {names:List (Str×NameKind)} {cl:List (Str×Addr)} {x:Str} {c:Addr} (hx:(x,NameKind.cell)∉ names) (h:cl.lookup x=some c):(cellsFrom n names cl).lookup x=some c:=by
  rw [cD,List.lookup_append]
  cases e:(cellsFrom n names []).lookup x with
  | none=>exact h
  | some d =>
    rcases dC (PySem.mem_of_lookup e) with z | z
    · cases z
    · exact absurd z.1 hx
theorem sK {n:Nat} {names:List (Str×NameKind)} {cl:List (Str×Addr)} {x:Str} (h:(x,NameKind.cell)∈names):∃ c,(cellsFrom n names cl).lookup x=some c∧n≤c:=by
  obtain ⟨c,e⟩:=yH (fL (n:=n) (acc:=[]) (.inl h))
  refine ⟨c,by rw [cD,List.lookup_append,e]; rfl, ?_⟩
  rcases dC (PySem.mem_of_lookup e) with z | z
  · cases z
  · exact z.2
noncomputable def aGF (scope:Scope) (x:Str):Bool:=scope.names.contains (x,NameKind.cell)
theorem vU {M:Model} {A:Around} {E:Value→Shared→Prop} {s:Shared} {scope:Scope} {globals:Addr} {cl:List (Str×Addr)} {qual:Str} {env:Env} {Q:Env→Shared→Prop}
    (hQ:Q (newEnv scope s.heap.objs.size globals (cellsFrom (s.heap.objs.size + 1) scope.names cl) qual none .none (some env) builtinsNs) { s with heap:=pushCells (s.heap.push { cls:=.type "dict",data:=.dict #[] }) scope.names }) :
    wpAny M A (newFunctionEnv scope globals cl [] qual none .none (some env)) Q E s:=by
  simp only [newFunctionEnv,Option.isSome_some,if_true]
  refine wpAny_bind (wpAny_alloc ?_)
  refine wpAny_bind (wpAny_layCells _ (fun name kind cells=>by cases hkc:kind == NameKind.cell <;> simp [hkc]) _ _ _ _ ?_)
  rw [show ({ s with heap:=s.heap.push { cls:=.type "dict",data:=.dict #[] } }:Shared).heap.objs.size=s.heap.objs.size + 1 from Heap.size_push ..]
  rw [List.forIn_nil]
  exact wpAny_bind (wpAny_pure (wpAny_pure hQ))
noncomputable def cxC (X:Cx) (N:List Str) (scope:Scope) (cl:List (Str×Addr)) (C:Addr) (s₀:Shared) (H₀:Hp) (ex:List Addr):Cx :=
  { X with N:=N,s₀:=s₀,H₀:=H₀,env:=compEnvC scope (cellsFrom (C + 1) scope.names cl) C X.env,outer:=X.stack,stack:=X.stack,ex:=ex,fn:=aGF scope,pn:=[],xe:=NoE }
noncomputable def OV (js:List (Option Nat)) (σ:St):St:=js.map fun o=>match o with | none=>none | some j=>(σ[j]?).getD none
noncomputable def eY (X:Cx) (scope:Scope) (cl:List (Str×Addr)):List Str→List (Option Nat)→Prop
  | [],[]=>True
  | _ :: N,none :: J=>eY X scope cl N J
  | x :: N,some j :: J=>(X.N[j]? =some x∧X.env.kindOf x=some .cell∧(relabel scope X.env).names.lookup x=some .cell∧∃ c,cl.lookup x=some c∧X.env.cells.lookup x=some c)∧eY X scope cl N J
  | _,_=>False
theorem eY.len {X:Cx} {scope:Scope} {cl:List (Str×Addr)}:∀ {N:List Str} {J:List (Option Nat)},eY X scope cl N J→N.length=J.length
  | [],[],_=>rfl
  | _ :: _,none :: _,h=>congrArg (· + 1) (eY.len (show eY X scope cl _ _ from h))
  | _ :: _,some _ :: _,h=>congrArg (· + 1) (eY.len h.2)
  | [],_ :: _,h=>h.elim
  | _ :: _,[],h=>h.elim
theorem eY.at {X:Cx} {scope:Scope} {cl:List (Str×Addr)}:∀ {N:List Str} {J:List (Option Nat)} {i:Nat} {x:Str} {σ:St} {v:V},eY X scope cl N J→N[i]? =some x→(OV J σ)[i]? =some (some v)→
    ∃ (j:Nat),σ[j]? =some (some v)∧X.N[j]? =some x∧X.env.kindOf x=some .cell∧(relabel scope X.env).names.lookup x=some .cell∧∃ c,cl.lookup x=some c∧X.env.cells.lookup x=some c
  | [],[],_,_,_,_,_,h,_=>by cases h
  | y :: N,none :: J,i,x,σ,v,ok,h,q=>by
    cases i with
    | zero=>cases q
    | succ i=>exact eY.at (show eY X scope cl N J from ok) h q
  | y :: N,some j :: J,i,x,σ,v,ok,h,q=>by
    cases i with
    | zero =>
      cases h
      refine ⟨j, ?_,ok.1⟩
      have q':some ((σ[j]?).getD none)=some (some v):=q
      have q2:=Option.some.inj q'
      cases e:σ[j]? with
      | none=>rw [e] at q2; cases q2
      | some o=>rw [e] at q2; exact congrArg some q2
    | succ i=>exact eY.at ok.2 h q
  | [],_ :: _,_,_,_,_,ok,_,_=>ok.elim
  | _ :: _,[],_,_,_,_,ok,_,_=>ok.elim
section
variable {X:Cx} {pins:List (Addr×Obj)} {σ:St} {H:Hp} {s:Shared} {N:List Str} {scope:Scope} {cl:List (Str×Addr)} {js:List (Option Nat)} {fp:List Addr}
structure gP (X:Cx) (N:List Str) (scope:Scope) (cl:List (Str×Addr)) (js:List (Option Nat)):Prop where
  clos:closureFor scope X.env=pure cl
  own:∀ x,(x,NameKind.cell)∈scope.names→cl.lookup x=none
  kind:scope.kind= .function
  names:∀ y∈scope.names,y.2= .local→scope.names.lookup y.1=some .local
  free:kB cl X.env.cells scope.names
  cls:rC X.env.cells cl
  cap:eY X scope cl N js
theorem vI (S:gP X N scope cl js) (I:Inv X pins σ H s) (hf:∀ b∈fp,rR X pins H b) (he:∀ b∈fp,b < s.heap.objs.size) {h':Heap} {m:Str→Option Value} {t':Nat} (hn:h'.Ns s.heap.objs.size m)
    (k:∀ b o,s.heap.get? b=some o→h'.get? b=some o) (hc:CellsOk h' (s.heap.objs.size + 1) (cellsFrom (s.heap.objs.size + 1) scope.names [])):Inv (cxC X N scope cl s.heap.objs.size s H fp) [] (OV js σ) H { s with heap:=h',toks:=t' }:=by
  have hcl:∀ x c,cl.lookup x=some c→X.env.cells.lookup x=some c:=fun x c h=>S.cls.look h
  have lo:∀ x c,cl.lookup x=some c→c < s.heap.objs.size:=fun x c h=>let ⟨_,q⟩:=I.cell x c (hcl x c h); q.lt
  refine ⟨⟨I.mod, ?_,I.ok.glob,I.ok.blt,Nat.le_refl _,fun x y c a b=>?_,fun x hx=>?_,fun x c z e=>?_,I.ok.hd,I.ok.frames,.inl rfl,fun b hb=>⟨Nat.ne_of_lt (he b hb),fun x c e=>?_⟩,
    I.bs,Nat.le_trans I.ok.bsz I.sz,fun b o e hb=>?_,fun b hb z=>?_,I.stack,I.stkFree⟩,rfl,I.bare,⟨fun b o q _ _ _=>k b o q,fun b o q _ _ _=>⟨o.slots,k b o q⟩,fun _ _ _ n _=>n,fun b o q _=>⟨o,k b o q⟩,fun _ _ q=>q,fun _ _ _ q=>q,fun b ps q=>⟨#[],by rw [show H b=_ from q]; simp⟩⟩, ?_,fun x c e=>?_, ?_,fun x c e=>?_,(fun p hp=>nomatch hp),I.hok.kept k, ?_⟩
  · exact S.kind
  · rcases dO a with ⟨m1,_,l1⟩ | a1 <;> rcases dO b with ⟨m2,_,l2⟩ | b1
    · exact name_of_addr hc.apart m1 m2
    · exact absurd (Nat.lt_of_lt_of_le (lo y c b1) (Nat.le_of_succ_le l1)) (Nat.lt_irrefl _)
    · exact absurd (Nat.lt_of_lt_of_le (lo x c a1) (Nat.le_of_succ_le l2)) (Nat.lt_irrefl _)
    · exact I.ok.inj x y c (hcl x c a1) (hcl y c b1)
  · have q:=kB.look (f:=fun y=>if (y.2 == .free && X.env.scope.kind == .function && X.env.kindOf y.1 == some .cell) then (y.1,.cell) else (y.1,y.2)) (fun y=>by
      by_cases hc:(y.2 == .free && X.env.scope.kind == .function && X.env.kindOf y.1 == some .cell)=true
      · rw [if_pos hc]
        refine ⟨rfl,fun _=>.inr ?_⟩
        rw [Bool.and_eq_true,Bool.and_eq_true] at hc
        exact beq_iff_eq.mp hc.1.1
      · rw [if_neg hc]
        exact ⟨rfl,fun z=>z⟩) S.free hx
    rcases q with ⟨c,q⟩ | q
    · refine ⟨c,mF (fun z=>?_) q⟩
      rw [S.own x z] at q; cases q
    · obtain ⟨c,e,_⟩:=sK (n:=s.heap.objs.size + 1) (cl:=cl) q
      exact ⟨c,e⟩
  · have z':(x,NameKind.cell)∈scope.names:=List.contains_iff_mem.mp z
    rcases dO e with ⟨_,_,l⟩ | q
    · exact Nat.le_of_succ_le l
    · rw [S.own x z'] at q; cases q
  · rcases dO e with ⟨_,_,l⟩ | q
    · exact Nat.ne_of_gt (Nat.lt_of_lt_of_le (he b hb) (Nat.le_of_succ_le l))
    · exact (hf b hb).2.2.2.2.1 x c (hcl x c q)
  · obtain ⟨_,n2⟩:=I.bs b o e
    rcases (hf b hb).2.2.2.1 with z | z
    · exact I.ok.noex b o e z
    · exact absurd (Nat.lt_of_lt_of_le (Heap.lt_size (I.ok.bs b o e).1) z) (Nat.lt_irrefl _)
  · obtain ⟨_,f1,f2,_⟩:=hf b hb
    exact (List.mem_cons.mp (I.stkSub b z)).elim f1 f2
  · obtain ⟨mX,hnX,hl⟩:=I.loc
    refine ⟨m,hn,fun i x v e1 e2 e3=>?_⟩
    obtain ⟨j,q1,q2,q3,q4,c,q5,q6⟩:=S.cap.at e1 e2
    obtain ⟨u,r,l⟩:=hl j x v q2 q1 (.inr (.inl q3))
    refine ⟨u,r,.inr ⟨.inl q4,c,mF (fun z=>?_) q5, ?_⟩⟩
    · rw [S.own x z] at q5; cases q5
    rcases l with ⟨l,_⟩ | ⟨_,c',e',z⟩
    · rw [q3] at l; cases l
    · rw [q6] at e'; cases e'
      obtain ⟨o,ho,hd⟩:=z
      exact ⟨o,k _ _ ho,hd⟩
  · rcases dO e with ⟨m1,_,_⟩ | q
    · exact ⟨none,(hc.empty x c m1).1⟩
    · obtain ⟨v,o,ho,hd⟩:=I.cell x c (hcl x c q)
      exact ⟨v,o,k _ _ ho,hd⟩
  · exact I.hok.fresh (Nat.le_refl _)
  · rcases dO e with ⟨_,_,l⟩ | q
    · exact I.hok.fresh (Nat.le_of_succ_le l)
    · exact I.freeC x c (hcl x c q)
  · show (js.map _).length=N.length
    rw [List.length_map]; exact S.cap.len.symm
end
noncomputable def PTs (X:Cx) (ifs:List Expr) (t:TT):Prop :=
  ∀ (pins:List (Addr×Obj)) (s:Shared) (σ:St) (H:Hp) (Q:Bool→Hp→Prop),Inv X pins σ H s→t σ H Q→
    wpAny (model X.prog X.w) X.A (forIn ifs true fun c r=>if r=true then do let ok ←isTrue c X.env (eval c X.env); pure (ForInStep.yield ok) else pure (ForInStep.yield r)) (TP X pins σ Q) X.xe s
theorem US {X:Cx}:PTs X [] (fun _ H Q=>Q true H):=fun pins s σ H Q I h=>wpAny_tests_nil ⟨H,I,h⟩
theorem TD {X:Cx} {c:Expr} {t:TT} (h:PT X c t):PTs X [c] t:=fun pins s σ H Q I q=>wpAny_tests_one (h pins s σ H Q I q)
noncomputable def IR (J:It) (D:Addr) (g:TG) (ts:TT) (te:TE) (Q:VK) (σ:St) (H:Hp):Prop:= ∃ W:Nat→Nat→St→Hp→Prop,(∃ m,W 0 m σ H)∧∀ i m σ' H',W i m σ' H'→
  (J.stop i H'∧Q (.ref D) H')∨(J.go i H'∧∃ N:St→Hp→Prop,(∀ σ2 H2,N σ2 H2→∃ m',m' < m∧W (i + 1) m' σ2 H2)∧∀ x H2,J.yld i H' x H2→g x σ' H2 fun σ3 H3=>ts σ3 H3 fun ok H4=>if ok=true then te σ3 H4 fun y H5 =>
    ∃ ys,H5 D=some (.lst ys)∧ys.length < sizeLine∧N σ3 (upd H5 D (.lst (ys ++ [y]))) else N σ3 H4)
noncomputable def JH (wi:TI) (g:TG) (ts:TT) (te:TE) (js:List (Option Nat)):TE:=fun σ H Q=>wi σ H fun J H1=>∀ D,H1 D=none→IR J D g ts te Q (OV js σ) (upd H1 D (.lst []))
section
variable {X:Cx} {pins:List (Addr×Obj)} {σ:St} {H:Hp} {s:Shared} {N:List Str} {scope:Scope} {cl:List (Str×Addr)} {js:List (Option Nat)} {fp:List Addr} {tg elt iter:Expr} {ifs:List Expr} {pos:Pos} {J:It} {it:Addr} {tn:Nat→Heap→Prop}
  {g:TG} {ts:TT} {te:TE}
structure aCE (X:Cx) (pins:List (Addr×Obj)) (σ:St) (Q:VK) (D C:Addr) (s':Shared):Prop where
  ex:∃ H' m,Inv X pins σ H' s'∧s'.heap.Ns C m∧H' C=none∧C≠X.env.locals∧C∉ X.fs∧X.s₀.heap.objs.size≤C∧(∀ x c,X.env.cells.lookup x=some c→c≠C)∧(∀ p∈X.pn ++ pins,p.1≠C)∧Q (.ref D) H'
theorem yN (S:gP X N scope cl js) (hc:X.calm=true) (I:Inv X pins σ H s) (T:HB X.prog X.w X.K tg J fp it tn) (st:tn 0 s.heap) (hf:∀ b∈fp,rR X pins H b)
    (hg:∀ C s₀ H₀ ex,PG (cxC X N scope cl C s₀ H₀ ex) tg g) (ht:∀ C s₀ H₀ ex,PTs (cxC X N scope cl C s₀ H₀ ex) ifs ts) (he:∀ C s₀ H₀ ex,PE (cxC X N scope cl C s₀ H₀ ex) elt te) {Q:VK}
    (q:∀ D,H D=none→IR J D g ts te Q (OV js σ) (upd H D (.lst [])))
    {RR:Value→Addr→Result→Shared→Prop} (hR:∀ D C s',aCE X pins σ Q D C s'→RR (.ref D) C (.ok .next) s') {E:Value→Shared→Prop} :
    wpAny (model X.prog X.w) X.A (newList []) (fun acc s₃=>wpAny (model X.prog X.w) X.A (newFunctionEnv scope X.env.globals cl [] X.env.qual none .none (some X.env)) (fun cenv s₄ =>
      codeAny (model X.prog X.w) X.A (.compStart (.ListComp elt [⟨tg,iter,ifs,0⟩] scope pos) 0 (.ref it) acc { cenv with scope:=relabel scope X.env }) (RR acc cenv.locals) s₄) E s₃) E s:=by
  refine wpAny_newObj_type (vU ?_)
  have fD:H s.heap.objs.size=none:=I.hok.fresh (Nat.le_refl _)
  have I3:Inv X pins σ (upd H s.heap.objs.size (.lst [])) { s with heap:=s.heap.push { cls:=.type "list",dict:=none,data:=.seq ([]:List Value).toArray },toks:=s.toks } :=
    I.laid (t':=s.toks) (fun b u e=>Heap.get?_push_of_some _ e) (Nat.le_refl _) ⟨Nat.zero_le _,[],0,.nil,Heap.get?_push_size _ rfl⟩
  have lt:∀ b∈fp,b < s.heap.objs.size:=fun b hb=>let ⟨o,e,_⟩:=T.obj _ _ st b hb; Heap.lt_size e
  have hf3:∀ b∈fp,rR X pins (upd H s.heap.objs.size (.lst [])) b:=fun b hb=>⟨by rw [aB (Nat.ne_of_lt (lt b hb))]; exact (hf b hb).1,(hf b hb).2⟩
  dsimp only
  generalize hH2:s.heap.push { cls:=.type "list",dict:=none,data:=.seq ([]:List Value).toArray }=H2 at I3 ⊢
  have hns₁:(pushCells (H2.push { cls:=.type "dict",data:=.dict #[] }) scope.names).Ns H2.objs.size (fun _=>none):=(Heap.Ns.new H2 (.type "dict")).keeps (pushCells_keeps _ _)
  have hco:CellsOk (pushCells (H2.push { cls:=.type "dict",data:=.dict #[] }) scope.names) (H2.objs.size + 1) (cellsFrom (H2.objs.size + 1) scope.names []):=by
    have ok:=cellsFrom_ok scope.names (H2.push { cls:=.type "dict",data:=.dict #[] }) (H2.objs.size + 1) [] ⟨fun _ _ hm=>(nomatch hm),List.Pairwise.nil⟩ (by rw [Heap.size_push]; exact Nat.le_refl _)
    rw [Heap.size_push] at ok
    exact ok
  have keep:∀ b o,H2.get? b=some o→(pushCells (H2.push { cls:=.type "dict",data:=.dict #[] }) scope.names).get? b=some o:=fun b o e=>pushCells_keeps _ _ b o (Heap.get?_push_of_some _ e)
  generalize pushCells (H2.push { cls:=.type "dict",data:=.dict #[] }) scope.names=h₁ at hns₁ hco keep ⊢
  have hC:H2.objs.size=s.heap.objs.size + 1:=by rw [←hH2,Heap.size_push]
  have Ic:=vI (t':=s.toks) S I3 hf3 (fun b hb=>by show b < H2.objs.size; rw [hC]; exact Nat.lt_succ_of_lt (lt b hb)) hns₁ keep hco
  obtain ⟨W,⟨m0,w0⟩,turn⟩:=q _ fD
  have stat:∀ {H':Hp},(∀ b∈fp,H' b=none)→∀ b∈fp,rR (cxC X N scope cl H2.objs.size { s with heap:=H2,toks:=s.toks } (upd H s.heap.objs.size (.lst [])) fp) [] H' b:=fun hn b hb =>
    ⟨hn b hb,Nat.ne_of_lt (by rw [hC]; exact Nat.lt_succ_of_lt (lt b hb)),fun z=>(List.mem_cons.mp (I.stkSub b z)).elim (hf b hb).2.1 (hf b hb).2.2.1,.inl hb,fun x c e=>(dO e).elim (fun z=>Nat.ne_of_gt (Nat.lt_of_lt_of_le (lt b hb) (Nat.le_trans (by rw [hC]; omega) z.2.2))) fun q=>(hf b hb).2.2.2.2.1 x c (S.cls.look q),(fun p hp=>nomatch hp)⟩
  have st1:tn 0 h₁:=T.keep _ _ _ st fun b hb o e=>keep b o (by rw [←hH2]; exact Heap.get?_push_of_some _ e)
  have loop:codeAny (model X.prog X.w) X.A (.compLoop (.ListComp elt [⟨tg,iter,ifs,0⟩] scope pos) 0 (.ref it) (.ref s.heap.objs.size) (compEnvC scope (cellsFrom (H2.objs.size + 1) scope.names cl) H2.objs.size X.env)) (RR (.ref s.heap.objs.size) H2.objs.size)
      { s with heap:=h₁,toks:=s.toks }:=by
    refine FJ (fun n s'=>∃ i σ' H',Inv (cxC X N scope cl H2.objs.size { s with heap:=H2,toks:=s.toks } (upd H s.heap.objs.size (.lst [])) fp) [] σ' H' s'∧tn i s'.heap∧(∀ b∈fp,H' b=none)∧W i n σ' H') ?_ m0
      ⟨0,_,_,Ic,st1,fun b hb=>(hf3 b hb).1,w0⟩
    rintro n s3 ⟨i,σ3,H3,I3',st3,fr3,w3⟩
    rcases turn i n σ3 H3 w3 with ⟨stop,qn⟩ | ⟨go,Nx,hN,step⟩
    · refine thn (T.done (cxC X N scope cl H2.objs.size { s with heap:=H2,toks:=s.toks } (upd H s.heap.objs.size (.lst [])) fp) rfl rfl rfl hc i [] s3 σ3 H3 NoE I3' (stat fr3) st3 stop) fun r s4 ⟨hr,I4⟩=>?_
      subst hr
      obtain ⟨mC,hnC,_⟩:=I4.loc
      have IX:Inv X pins σ H3 s4:=I3.call' (ch:=fp) I4.os I4.base I4.hok I4.bare fun b hb=>by
        obtain ⟨_,f1,_,f3,f4,f5⟩:=hf3 b hb
        exact ⟨f3,f1,f4,f5⟩
      have up:s.heap.objs.size≤H2.objs.size:=by rw [hC]; exact Nat.le_succ _
      have fp0:=I.fpOk (H':=H3) up I4.free
      exact hR _ _ s4 ⟨⟨H3,mC,IX,hnC,I4.free,fp0.2.1,fp0.2.2.1,Nat.le_trans I.sz up,fp0.2.2.2.2.1,fp0.2.2.2.2.2,qn⟩⟩
    · refine thn (T.item (cxC X N scope cl H2.objs.size { s with heap:=H2,toks:=s.toks } (upd H s.heap.objs.size (.lst [])) fp) rfl rfl rfl hc i [] s3 σ3 H3 NoE I3' (stat fr3) st3 go) fun r s4 ⟨u,hr,h4⟩=>?_
      subst hr
      refine thn h4 fun _ s5 ⟨x,H5,I5,r5,y5,st5,fr5⟩=>?_
      have I5':=I5.pinned (stat fr5) (T.obj _ _ st5)
      refine thn (hg _ _ _ _ _ s5 σ3 H5 x u _ I5' r5 (step x H5 y5)) fun _ s6 ⟨σ6,H6,I6,q6⟩=>?_
      refine thn (ht _ _ _ _ _ s6 σ6 H6 _ I6 q6) fun ok s7 ⟨H7,I7,q7⟩=>?_
      have again:∀ {σ8:St} {H8:Hp} {s8:Shared},Inv (cxC X N scope cl H2.objs.size { s with heap:=H2,toks:=s.toks } (upd H s.heap.objs.size (.lst [])) fp) ([] ++ oA fp s5.heap) σ8 H8 s8→Nx σ8 H8→
          ∃ m,m < n∧∃ i σ' H',Inv (cxC X N scope cl H2.objs.size { s with heap:=H2,toks:=s.toks } (upd H s.heap.objs.size (.lst [])) fp) [] σ' H' s8∧tn i s8.heap∧(∀ b∈fp,H' b=none)∧W i m σ' H':=fun {σ8 H8 s8} I8 n8=>by
        obtain ⟨m',hm,w8⟩:=hN σ8 H8 n8
        refine ⟨m',hm,i + 1,σ8,H8,I8.unpinned,T.keep _ _ _ st5 fun b hb o e=>(I8.pin (b,o) (List.mem_append_right _ (List.mem_append_right _ (gC hb e)))).1,fun b hb=>?_,w8⟩
        obtain ⟨o,e,d⟩:=T.obj _ _ st5 b hb
        exact (I8.pin (b,o) (List.mem_append_right _ (List.mem_append_right _ (gC hb e)))).2.1
      cases ok with
      | false=>exact again I7 q7
      | true =>
        refine thn (he _ _ _ _ _ s7 σ6 H7 _ I7 q7) fun v s8 ⟨y,H8,I8,r8,ys,e8,l8,q8⟩=>?_
        exact thn (sO _ s8 σ6 H8 (.ref s.heap.objs.size) [y] (.ref s.heap.objs.size) [v] (fun _ H9=>Nx σ6 H9) I8 rfl (.cons r8 .nil) ⟨_,ys,y,rfl,rfl,e8,l8,q8⟩) fun _ s9 ⟨_,H9,I9,_,q9⟩=>again I9 q9
  exact codeAny_compStart_list loop (T.self _ 0 _ _ _ st1 loop)
theorem UD {wi:TI} (S:gP X N scope cl js) (hc:X.calm=true) (hi:PI X tg iter wi) (hg:∀ C s₀ H₀ ex,PG (cxC X N scope cl C s₀ H₀ ex) tg g) (ht:∀ C s₀ H₀ ex,PTs (cxC X N scope cl C s₀ H₀ ex) ifs ts) (he:∀ C s₀ H₀ ex,PE (cxC X N scope cl C s₀ H₀ ex) elt te)
    (hs:∀ x,foldedSetIterable iter X.env x=pure x:=by intro _; rfl):PE X (.ListComp elt [⟨tg,iter,ifs,0⟩] scope pos) (JH wi g ts te js):=by
  intro pins s σ H Q I h
  rw [eval_ListComp]
  refine wpAny_comprehension_free (use:=none) (g:=⟨tg,iter,ifs,0⟩) (gs:=[]) rfl hs S.clos S.kind S.names (thn (hi pins s σ H _ I h) fun v s1 h1=>thn h1 fun itv s2 h2=>?_)
  obtain ⟨it,fp,tn,J,H2,e,I2,T,st2,f2,q⟩:=h2
  subst e
  refine yN (RR:=fun acc C=>compPost (model X.prog X.w) X.A X.xe none (EP X pins σ Q) acc C) S hc I2 T st2 f2 hg ht he q ?_
  rintro D C s' ⟨H',m,I',hn,f0,f1,_,f3,f4,f5,q'⟩
  exact ⟨m,hn,fun h' sb=>⟨.ref D,H',I'.turned (t':=s'.toks) (fun b o hb e=>(sb.2 b hb).trans e) f0 f1 (.inr f3) f4 f5,rfl,q'⟩⟩
theorem VM {wi:TI} {i:Nat} {y:Str} {py spos:Pos} (S:gP X N scope cl js) (hc:X.calm=true) (hN:X.N.Nodup) (hi':X.N[i]? =some y) (hy:X.env.scope.names.lookup y=some .local) (hi:PI X tg iter wi)
    (hg:∀ C s₀ H₀ ex,PG (cxC X N scope cl C s₀ H₀ ex) tg g) (ht:∀ C s₀ H₀ ex,PTs (cxC X N scope cl C s₀ H₀ ex) ifs ts) (he:∀ C s₀ H₀ ex,PE (cxC X N scope cl C s₀ H₀ ex) elt te)
    (hsw:swapsWith (.ListComp elt [⟨tg,iter,ifs,0⟩] scope pos) (some (.Name y py)) spos.line X.env=pure true:=by rfl)
    (hs:∀ x,foldedSetIterable iter X.env x=pure x:=by intro _; rfl):PS X (.Assign [.Name y py] (.ListComp elt [⟨tg,iter,ifs,0⟩] scope pos) spos) (aAI (JH wi g ts te js) (KL i)):=by
  intro pins s σ H D' I h
  rw [exec_Assign_Name_used _ _ _ _ hsw]
  refine wpAny_bind (wpAny_standAt (wpAny_bind ?_))
  show wpAny _ X.A (do let _ ←comprehension (.ListComp elt [⟨tg,iter,ifs,0⟩] scope pos) scope X.env _ (newList []) false (eval iter X.env) (some (assign (.Name y py) X.env))) _ _ s
  refine wpAny_bind (wpAny_mono (wpAny_comprehension_free (use:=some (assign (.Name y py) X.env)) (g:=⟨tg,iter,ifs,0⟩) (gs:=[]) (Q:=fun _ s'=>SP X pins D' .next s') rfl hs S.clos S.kind S.names
    (thn (hi pins s σ H _ I h) fun v s1 h1=>thn h1 fun itv s2 h2=>?_)) (fun _ s' hq=>wpAny_pure (wpAny_pure hq)) fun _ _ e=>e)
  obtain ⟨it,fp,tn,J,H2,e,I2,T,st2,f2,q⟩:=h2
  subst e
  refine yN (Q:=fun x H1=>KL i x σ H1 D'.nx) (RR:=fun acc C=>compPost (model X.prog X.w) X.A X.xe (some (assign (.Name y py) X.env)) (fun _ s'=>SP X pins D' .next s') acc C) S hc I2 T st2 f2 hg ht he q ?_
  rintro D C s' ⟨H',m,I',hn,f0,f1,f2',f3,f4,f5,q'⟩
  obtain ⟨oC,es,ep,hoC,hdC,hrC⟩:=hn
  have Ip:Inv X (pins ++ [(C,oC)]) σ H' s':=I'.pins_of fun p hp=>(List.mem_append.mp hp).elim (fun z=>I'.pin p (List.mem_append_right _ z)) fun z=>by
    rw [List.mem_singleton.mp z]
    exact ⟨hoC,f0,f1,f2',fun v z=>by rw [hdC] at z; cases z⟩
  show wpAny _ X.A (assign (.Name y py) X.env (.ref D)) _ _ _
  refine thn (BZ (i:=i) hN hi' (.inl hy) (.inr hy) _ s' σ H' (.ref D) (.ref D) _ Ip rfl q') fun _ s'' ⟨σ',H'',I'',q''⟩=>?_
  have pc:=I''.pin (C,oC) (List.mem_append_right _ (List.mem_append_right _ (List.mem_singleton.mpr rfl)))
  refine ⟨m,⟨oC,es,ep,pc.1,hdC,hrC⟩,fun h' sb=>⟨σ',H'', ?_,q''⟩⟩
  exact (I''.unpinned).turned (t':=s''.toks) (fun b o hb e=>(sb.2 b hb).trans e) pc.2.1 f1 (.inr f3) f4 f5
end
mutual
inductive RdD (H:Hp):V→PyData→Prop
  | non:RdD H .non .none
  | bl (b:Bool):RdD H (.bl b) (.bool b)
  | int (i:Int):RdD H (.int i) (.int i)
  | str (x:Str):RdD H (.str x) (.str x)
  | tup {a:Addr} {xs:List V} {ds:List PyData}:H a=some (.tup xs)→RdDs H xs ds→RdD H (.ref a) (.tuple ds)
  | lst {a:Addr} {xs:List V} {ds:List PyData}:H a=some (.lst xs)→RdDs H xs ds→RdD H (.ref a) (.list ds)
inductive RdDs (H:Hp):List V→List PyData→Prop
  | nil:RdDs H [] []
  | cons {x:V} {xs:List V} {d:PyData} {ds:List PyData}:RdD H x d→RdDs H xs ds→RdDs H (x :: xs) (d :: ds)
end
section
variable {P:Program} {w:World} {H H':Hp} {h:Heap}
mutual
theorem RdD.reads (ok:HOk P w H h):∀ {x:V} {d:PyData} {u:Value},RdD H x d→aQ x u→∃ as,Reads h u d as
  | _,_,_,.non,r=>⟨[],by cases r; exact .none⟩
  | _,_,_,.bl b,r=>⟨[],by cases r; exact .bool b⟩
  | _,_,_,.int i,r=>⟨[],by obtain ⟨t,rfl⟩:=r; exact .int i t⟩
  | _,_,_,.str x,r=>⟨[],by obtain ⟨t,rfl⟩:=r; exact .str x t⟩
  | _,_,_,.tup e rs,r=>by
    cases r
    obtain ⟨_,its,rv,⟨o,ho,hc,n,hd⟩,_⟩:=ok _ _ e
    obtain ⟨as,q⟩:=RdDs.reads ok rs rv
    exact ⟨as,.tuple ho hc hd (by simpa using q)⟩
  | _,_,_,.lst e rs,r=>by
    cases r
    obtain ⟨_,its,n,rv,ho⟩:=ok _ _ e
    obtain ⟨as,q⟩:=RdDs.reads ok rs rv
    exact ⟨_ :: as,.list ho rfl rfl (by simpa using q)⟩
theorem RdDs.reads (ok:HOk P w H h):∀ {xs:List V} {ds:List PyData} {us:List Value},RdDs H xs ds→aJ xs us→∃ as,ReadsAll h us ds as
  | _,_,_,.nil,r=>⟨[],by cases r; exact .nil⟩
  | _, _,_,.cons a b,r=>by
    cases r with
    | cons r1 r2 =>
      obtain ⟨as,q⟩:=RdD.reads ok a r1
      obtain ⟨bs,q2⟩:=RdDs.reads ok b r2
      exact ⟨as ++ bs,.cons q q2⟩
end
mutual
theorem RdD.same (s:aM H H'):∀ {x:V} {d:PyData},RdD H x d→RdD H' x d
  | _,_,.non=>.non
  | _,_,.bl b=>.bl b
  | _,_,.int i=>.int i
  | _,_,.str x=>.str x
  | _,_,.tup e rs=>.tup (s _ _ e) (RdDs.same s rs)
  | _,_,.lst e rs=>.lst (s _ _ e) (RdDs.same s rs)
theorem RdDs.same (s:aM H H'):∀ {xs:List V} {ds:List PyData},RdDs H xs ds→RdDs H' xs ds
  | _,_,.nil=>.nil
  | _,_,.cons a b=>.cons (RdD.same s a) (RdDs.same s b)
end
end
section
variable {X:Cx}
end
section
variable {X:Cx} {CX:CXT} {k:Nat} {f C:Addr} {fd:FuncData} {ps ks:List Str} {sp:Sp} {E:XK} {pins:List (Addr×Obj)} {σ:St} {H:Hp} {s:Shared} {Q:VK} {us:List Value} {vs:List V} {dvs:List V} {ds:List Value}
theorem aCX {A':Around} (F:bL X.prog X.w X.K X.mg X.base CX k f fd ps sp) (hr:bC k A') (e0:mS X.prog X.w X.K X.mg X.base A' X.stack s H) (hb:aR X.K fd ps ds) (hd:aJ dvs ds) (hx:gG CX X E)
    (I:Inv X pins σ H s) (r:aJ vs us) (h:sp (vs ++ dvs) H Q E):wpAny (model X.prog X.w) A' (call (.ref f) us) (EP X pins σ Q) X.xe s:=by
  have r2:aJ (vs ++ dvs) (us ++ ds):=r.append hd
  have hl:(us ++ ds).length=ps.length:=by rw [←r2.length]; exact F.len _ _ _ _ h
  refine wpAny_call (codeAny_mono (F.run A' X.stack s H ⟨us,[]⟩ (us ++ ds) (vs ++ dvs) Q E hr e0 (hb s us I.kIn hl) r2 h) fun r s' hq=>?_)
  cases r with
  | error e=>exact hx pins σ H s e s' I hq
  | ok fl =>
    cases fl with
    | ret u=>exact I.after hq
    | next=>exact False.elim hq
    | brk=>exact False.elim hq
    | cont=>exact False.elim hq
theorem bC.in2 {k:Nat} {A:Around} (r:bC (k + 2) A):bC k A.in1.in1:=(bC.in1 (bC.in1 r))
end
structure UW (K:W.Frag) (C:Addr):Prop where
  cl:Cls K C
  ha:W.findIn K (.ref C) "__class__"=some (some (.builtin "object.__class__"))
  hn:W.specialIn K (.builtin "object.__class__") "__get__"=some (some (.builtin "getset_descriptor.__get__"))
  htk:W.takesIn K (.builtin "object.__class__")=some true
  hm:W.mroIn K C (.type "object")=some true
theorem RI {X:Cx} {pins:List (Addr×Obj)} {σ:St} {H:Hp} {s:Shared} {p C dx:Addr} {fs:List (Str×V)} (I:Inv X pins σ H s) (e:H p=some (.ins C dx fs)):∃ od,W.InstAt s.heap p (W.instObj C dx) C (some od):=by
  obtain ⟨mA,O,_⟩:=nF I.hok e
  obtain ⟨od,J,_⟩:=O.look
  exact ⟨od,J⟩
section
variable {X:Cx} {CX:CXT} {k:Nat} {f C:Addr} {fd:FuncData} {sp:Sp}
noncomputable def aFr (C:Addr) (sp:Sp):List V→Hp→VK→Prop:=fun xs H Q=>∃ p dx fs,xs=[.ref p]∧H p=some (.ins C dx fs)∧sp [.ref p] H (fun v H'=>∃ x,v= .str x∧Q (.str x) H') E0
theorem HA (M:wF X.K C "__str__" f) (F:bL X.prog X.w X.K X.mg X.base CX0 k f fd ["self"] sp) (hr:bC (k + 2) X.A) (hb:aR X.K fd ["self"] []):bQ X (.type "str") (aFr C sp):=by
  intro pins s σ H xs us Q I r ⟨p,dx,fs,e,ea,q⟩
  subst e
  obtain ⟨u,rfl,ru⟩:=hU r
  cases ru
  obtain ⟨od,J⟩:=RI I ea
  refine W.kso_call hr.in2.units0 I.kIn J M.at_ M.fn (thn (aCX (dvs:=[]) (ds:=[]) (vs:=[.ref p]) F hr.in2 I.env0.in1.in1 hb .nil WS I (.cons rfl .nil) q) fun v s' ⟨x,H',I',rx,y,e,q'⟩=>?_)
  subst e
  obtain ⟨t,rfl⟩:=rx
  exact ⟨.str y,H',I',⟨_,rfl⟩,q'⟩
end
section
variable {X:Cx} {e:Expr} {es:List Expr} {te:TE} {pos:Pos}
noncomputable def PJ (X:Cx) (parts:List Expr) (t:Str→TE):Prop :=
  ∀ (out:Str) (pins:List (Addr×Obj)) (s:Shared) (σ:St) (H:Hp) (Q:VK),Inv X pins σ H s→t out σ H Q→wpAny (model X.prog X.w) X.A (joinParts out (evalEach parts X.env)) (EP X pins σ Q) X.xe s
noncomputable def tJ0:Str→TE:=fun out _ H Q=>out.length≤sizeLine∧Q (.str out) H
noncomputable def tJ1 (te:TE) (t:Str→TE):Str→TE:=fun out σ H Q=>te σ H fun x H1=>∃ y,x= .str y∧(out ++ y).length≤sizeLine∧t (out ++ y) σ H1 Q
theorem aCr:PJ X [] tJ0:=fun out pins s σ H Q I h=>joinParts_nil ⟨.str out,H,I.tok _,⟨_,rfl⟩,h.2⟩ h.1
theorem DB {t:Str→TE} (he:PE X e te) (hr:PJ X es t) (hs:evalEach (e :: es) X.env=eval e X.env :: evalEach es X.env:=by rfl):PJ X (e :: es) (tJ1 te t):=by
  intro out pins s σ H Q I h
  rw [hs]
  refine joinParts_cons (thn (he pins s σ H _ I h) fun v s1 ⟨x,H1,I1,r1,y,ex,hz,q⟩=>?_)
  subst ex
  obtain ⟨t',rfl⟩:=r1
  exact ⟨hz,hr (out ++ y) pins s1 σ H1 Q I1 q⟩
noncomputable def tFv (te:TE):TE:=fun σ H Q=>te σ H fun x H1=>∃ y,x= .str y∧y.length≤sizeLine∧Q (.str y) H1
theorem aEf (he:PE X e te):PE X (.FormattedValue e (-1) none pos) (tFv te):=by
  intro pins s σ H Q I h
  refine FormattedValue_plain (thn (he pins s σ H _ I h) fun v s1 ⟨x,H1,I1,r1,y,ex,hz,q⟩=>?_)
  subst ex
  obtain ⟨t',rfl⟩:=r1
  exact formatField_str (fun t2 tk=>⟨.str y,H1,I1.tok tk,⟨_,rfl⟩,q⟩) hz
theorem RQ {v₁ v₂:Expr} {aY:List Expr} {t:Str→TE} (h:PJ X (v₁ :: v₂ :: aY) t):PE X (.JoinedStr (v₁ :: v₂ :: aY) pos) (t Str.empty):=fun pins s σ H Q I q=>JoinedStr_many (h Str.empty pins s σ H Q I q)
theorem DH:∀ {ys:List Str} {us:List Value},aJ (ys.map V.str) us→StrsAre us ys
  | [],_,r=>by cases r; exact .nil
  | y :: ys,_,r=>by
    cases r with
    | cons r1 r2 =>
      obtain ⟨t,rfl⟩:=r1
      exact .cons _ _ (DH r2)
noncomputable def aEw:V→List V→Hp→VK→Prop:=fun x xs H Q=>∃ sep p ys,x= .str sep∧xs=[.ref p]∧H p=some (.lst (ys.map V.str))∧(ys.map (·.length)).sum + ys.length * sep.length≤16777216∧Q (.str (Txt.join sep ys)) H
theorem TN:MtR X "str.join" aEw:=by
  intro pins s σ H x xs v us Q I r rs ⟨sep,p,ys,e1,e2,e3,hz,q⟩
  subst e1 e2
  obtain ⟨t,rfl⟩:=r
  obtain ⟨u,rfl,ru⟩:=hU rs
  cases ru
  obtain ⟨_,its,n,rv,hl⟩:=I.hok _ _ e3
  exact join_list (items:=its.toArray) ⟨_,hl,rfl,n,rfl⟩ (by simpa using DH rv) hz fun t' k=>⟨.str _,H,I.tok k,⟨_,rfl⟩,q⟩
theorem pN {α β:Type} {f g:α→Option β}:∀ (l:List α),(∀ x∈l,f x=g x)→l.filterMap f=l.filterMap g
  | [],_=>rfl
  | x :: r,h=>by
    rw [List.filterMap_cons,List.filterMap_cons,h x (List.mem_cons_self ..),pN r fun y hy=>h y (List.mem_cons_of_mem _ hy)]
theorem jW {α:Type}:∀ m:List α,(List.range m.length).filterMap (fun k=>m[k]?)=m
  | []=>rfl
  | x :: r=>by
    rw [List.length_cons,List.range_succ_eq_map,List.filterMap_cons]
    simp only [List.getElem?_cons_zero,List.filterMap_map]
    have e:((fun k=>(x :: r)[k]?) ∘ Nat.succ)=fun k=>r[k]? :=by funext k; rfl
    rw [e,jW r]
theorem NX (its:List Value):slicePick its.toArray none none (some (-1))=its.reverse.toArray:=by
  unfold slicePick
  congr 1
  have e:sliceRange (sliceBounds none none (some (-1)) its.toArray.size).1 (sliceBounds none none (some (-1)) its.toArray.size).2.1 (sliceBounds none none (some (-1)) its.toArray.size).2.2=(List.range its.length).map fun k=>its.length - 1 - k:=by
    simp only [sliceBounds,Option.getD_some,List.size_toArray]
    rw [if_neg (by decide),if_neg (by decide)]
    unfold sliceRange
    dsimp only
    rw [if_neg (by decide)]
    have c:(if (its.length:Int) - 1 > -1 then ((its.length:Int) - 1 - -1 - -1 - 1) / (- -1) else 0).toNat=its.length:=by
      rw [show (- -1:Int)=1 from rfl,Int.ediv_one]
      split <;> omega
    rw [c]
    refine List.map_congr_left fun k hk=>?_
    omega
  rw [e,List.filterMap_map]
  have e2:(List.range its.length).filterMap ((fun x=>its.toArray[x]?) ∘ fun k=>its.length - 1 - k)=(List.range its.reverse.length).filterMap (fun k=>its.reverse[k]?):=by
    rw [List.length_reverse]
    refine pN _ fun k hk=>?_
    have hk':k < its.length:=List.mem_range.mp hk
    show its.toArray[its.length - 1 - k]? =_
    rw [List.getElem?_reverse hk']
    simp
  rw [e2,jW]
end
end L2
namespace LE
open PySem PyProof.Rows
open AutoSeq1 (wpAny_loadPart')
end LE
namespace L2
open PySem PySem.Spec PyProof.Rows
section
variable {X:Cx} {CX:CXT} {k:Nat} {f C:Addr} {fd:FuncData} {ps ks:List Str} {sp:Sp} {E:XK} {x:Str} {p pos:Pos} {kws:List Keyword} {tk:TA} {g:List Value→List Value→List Value} {gV:List V→List V→List V}
end
section
variable {X:Cx} {C:Addr} {f x:Str} {pos pos':Pos} {e o value:Expr} {ta tv:TE} {i:Int}
theorem PE.imp {t t':TE} (h:PE X e t) (g:∀ σ H Q,t' σ H Q→t σ H Q):PE X e t':=fun pins s σ H Q I q=>h pins s σ H Q I (g _ _ _ q)
theorem PS.imp {st:Stmt} {t t':TS} (h:PS X st t) (g:∀ D σ H,t' D σ H→t D σ H):PS X st t':=fun pins s σ H D I q=>h pins s σ H D I (g _ _ _ q)
end
section
variable {X:Cx} {es:List Expr} {te:TE} {t:TA} {pos:Pos}
end
end L2
namespace LZ
open PySem PyProof.Rows
open AutoSeq1 (wpAny_loadPart')
open Builtin
section
variable {prog:Program} {w:World} {A:Around} {E:Value→Shared→Prop} {s:Shared}
end
end LZ
namespace LZ
open PySem PyProof.Rows
open Builtin
section
variable {prog:Program} {w:World} {A:Around} {E:Value→Shared→Prop} {s:Shared}
end
end LZ
namespace LZ
open PySem PyProof.Rows
open Builtin
section
variable {prog:Program} {w:World} {A:Around} {E:Value→Shared→Prop}
end
end LZ
namespace L2
open PySem PySem.Spec PyProof.Rows LZ
section
variable {X:Cx} {pins:List (Addr×Obj)} {σ:St} {H:Hp} {s:Shared} {h':Heap}
end
section
variable {X:Cx} {pins:List (Addr×Obj)} {σ:St} {H:Hp} {s:Shared} {h':Heap}
end
end L2
namespace L2
open PySem PySem.Spec PyProof.Rows
section
variable {X:Cx}
end
end L2
namespace LX
open PySem PyProof.Rows
section
variable {prog:Program} {w:World} {A:Around} {E:Value→Shared→Prop} {s:Shared}
end
end LX
namespace L2
open PySem PySem.Spec PyProof.Rows
section
variable {X:Cx} {pos:Pos}
variable {a b c d:Expr} {ta tb tc td:TE}
end
section
variable {X:Cx}
end
section
variable {X:Cx} {pos:Pos}
theorem Inv.big1 {pins:List (Addr×Obj)} {σ:St} {H:Hp} {s:Shared} (I:Inv X pins σ H s):sysModules < s.heap.objs.size:=by
  obtain ⟨o,es,ep,ho,_⟩:=I.mod.glob
  exact Nat.lt_trans (show sysModules < mainGlobals by decide) (Heap.lt_size (I.bk _ _ ho))
theorem aC0:PE X (.Dict [] [] pos) (fun _ H Q=>∀ p,H p=none→Q (.ref p) (upd H p (.dK []))):=fun pins s σ H Q I h =>
  wpAny_Dict_empty ⟨.ref s.heap.objs.size,_,I.laid (a:=s.heap.objs.size) (o:=.dK []) (t':=s.toks) (fun _ _ q=>Heap.get?_push_of_some _ q) (Nat.le_refl _)
    (show bJ X.prog X.w _ _ _ (.dK []) from ⟨Nat.zero_le _,beq_eq_false_iff_ne.mpr (Ne.symm (Nat.ne_of_lt I.big1)),[],.nil,Heap.DictOf.new s.heap⟩),rfl,h _ (I.hok.fresh (Nat.le_refl _))⟩
end
end L2
namespace LE
open PySem PyProof.Rows
open AutoSeq1 (wpAny_loadPart')
open MeetsSeq MeetsSeq2 MeetsSeq3 SeqRoads2
end LE
namespace L2
open PySem PySem.Spec PyProof.Rows
section
variable {X:Cx}
end
section
variable {κ:Type} [DecidableEq κ]
noncomputable def valV (kvs:List (κ×V)) (k:κ):Option V:=(kvs.find? fun kv=>decide (kv.1=k)).map (·.2)
theorem aDk {k:κ}:valV ([]:List (κ×V)) k=none:=rfl
theorem nR {p:κ×V} {r:List (κ×V)} {k:κ} (e:p.1=k):valV (p :: r) k=some p.2:=by simp [valV,List.find?_cons,e]
theorem nJ {p:κ×V} {r:List (κ×V)} {k:κ} (e:¬p.1=k):valV (p :: r) k=valV r k:=by simp [valV,List.find?_cons,e]
theorem KV.val {kvs:List (κ×V)} {vs:List (κ×Value)} (r:KV kvs vs) (k:κ):lJ (valV kvs k) (valueAt vs k):=by
  unfold KV at r
  induction r with
  | nil=>exact True.intro
  | @cons p q ps qs h t ih =>
    obtain ⟨h1,h2⟩:=h
    by_cases e:p.1=k
    · have e':q.1=k:=h1.symm.trans e
      have b:valueAt (q :: qs) k=some q.2:=by simp [valueAt,List.find?_cons,e']
      rw [nR e,b]; exact h2
    · have e':¬q.1=k:=fun z=>e (h1.trans z)
      have b:valueAt (q :: qs) k=valueAt qs k:=by simp [valueAt,List.find?_cons,e']
      rw [nJ e,b]; exact ih
end
theorem YY {P:Program} {w:World} {k:Key} {u:Value} (r:aQ (kV k) u):(dJ P w).is k u=true:=by
  cases k with
  | inl i=>obtain ⟨t,e⟩:=(show ∃ t,u=Value.int i t from r); subst e; exact vP P w i t
  | inr x=>obtain ⟨t,e⟩:=(show ∃ t,u=Value.str x t from r); subst e; exact wK P w x t
theorem sR {P:Program} {w:World}:∀ {ks:List Key} {us:List Value},aJ (ks.map kV) us→ItemsAre (dJ P w) ks us
  | [],_,r=>by rw [List.map_nil] at r; cases r; exact .nil
  | k :: ks,_,r=>by
    rw [List.map_cons] at r
    cases r with
    | cons h t=>exact .cons (YY h) (sR t)
noncomputable abbrev KT (H:Hp):List (List Key×V)→List (List Key×Addr×Value)→Prop:=Paired fun p q=>p.1=q.1∧H q.2.1=some (.tup (p.1.map kV))∧aQ p.2 q.2.2
theorem KT.val {H:Hp} {kvs:List (List Key×V)} {xs:List (List Key×Addr×Value)} (r:KT H kvs xs) (k:List Key):lJ (valV kvs k) ((atKey xs k).map (·.2)):=by
  induction r with
  | nil=>exact True.intro
  | @cons p q ps qs h t ih =>
    obtain ⟨h1,_,h2⟩:=h
    by_cases e:p.1=k
    · have e':q.1=k:=h1.symm.trans e
      have b:atKey (q :: qs) k=some q.2:=by simp [atKey,List.find?_cons,e']
      rw [nR e,b]; exact h2
    · have e':¬q.1=k:=fun z=>e (h1.trans z)
      have b:atKey (q :: qs) k=atKey qs k:=by simp [atKey,List.find?_cons,e']
      rw [nJ e,b]; exact ih
section
variable {P:Program} {w:World} {H:Hp} {h:Heap} {a:Addr}
theorem YV {u:HO} (ok:HOk P w H h) (e:Rd H a u):bJ P w H h a u:=e.ok ok
theorem XJ {kvs:List (Key×V)} (ok:HOk P w H h) (e:Rd H a (.dK kvs)):kvs.length≤sizeLine∧(a == sysModules)=false∧∃ vs,KV kvs vs∧h.DictOf (dJ P w) a vs :=
  show bJ P w H h a (.dK kvs) from YV ok e
theorem IE {ks:List Key} (ok:HOk P w H h) (e:H a=some (.tup (ks.map kV))):(tupleKind (dJ P w)).is h ks a:=by
  obtain ⟨_,its,r,⟨o,h1,h2,n,h3⟩,_⟩:=(show bJ P w H h a (.tup (ks.map kV)) from ok a _ e)
  exact ⟨o,its.toArray,n,h1,h2,h3,by simpa using sR r⟩
theorem YJ {kvs:List (List Key×V)} (ok:HOk P w H h) (e:Rd H a (.dT kvs)):kvs.length≤sizeLine∧(a == sysModules)=false∧
    ∃ xs,KT H kvs xs∧h.DictOfH (tupleKind (dJ P w)) a xs:=by
  obtain ⟨z,y,xs,r,o,es,ep,h1,h2,h3,h4,h5⟩:=(show bJ P w H h a (.dT kvs) from YV ok e)
  refine ⟨z,y,xs,r,o,es,ep,h1,h2,h3,h4,fun x hx=>?_,h5⟩
  have all:∀ {l:List (List Key×V)} {m:List (List Key×Addr×Value)},KT H l m→∀ x∈m,(tupleKind (dJ P w)).is h x.1 x.2.1:=by
    intro l m q
    induction q with
    | nil=>intro x hx; exact nomatch hx
    | @cons p q ps qs hq t ih =>
      intro x hx
      rcases List.mem_cons.mp hx with e | hx
      · subst e
        exact IE ok (by rw [←hq.1]; exact hq.2.1)
      · exact ih x hx
  exact all r x hx
end
noncomputable def LH (H:Hp) (a:Addr) (y:V) (r:Option V):Prop :=
  (∃ kvs k,Rd H a (.dK kvs)∧y=kV k∧r=valV kvs k)∨∃ kvs k b,Rd H a (.dT kvs)∧y= .ref b∧H b=some (.tup (k.map kV))∧r=valV kvs k
theorem LH.k {H:Hp} {a:Addr} {kvs:List (Key×V)} {k:Key} (e:H a=some (.dK kvs)):LH H a (kV k) (valV kvs k):=.inl ⟨kvs,k,.inl e,rfl,rfl⟩
section
variable {X:Cx} {pins:List (Addr×Obj)} {σ:St} {H:Hp} {s:Shared} {a:Addr} {y v:V} {u r:Value} {o:Option V} {A:Around} {E:Value→Shared→Prop}
theorem GP {Q:Value→Shared→Prop} (hu:A.units + 1 < cLine) (I:Inv X pins σ H s) (g:LH H a y (some v)) (ry:aQ y u) (h:∀ w' s',Inv X pins σ H s'→aQ v w'→Q w' s') :
    wpAny (model X.prog X.w) A (getItem (.ref a) u) Q E s:=by
  rcases g with ⟨kvs,k,e,ey,l⟩ | ⟨kvs,k,b,e,ey,eb,l⟩
  · subst ey
    obtain ⟨z,hd,vs,rel,dd⟩:=XJ I.hok e
    obtain ⟨w',hw,rw'⟩:=lJ.some_of (v:=v) (o:=valueAt vs k) (by rw [l]; exact rel.val k)
    exact wpAny_getItem_of (YY ry) dd.mapOf hw (h w' _ (I.tok _) rw')
  · subst ey
    cases (show u=Value.ref b from ry)
    obtain ⟨z,hd,xs,rel,dd⟩:=YJ I.hok e
    obtain ⟨w',hw,rw'⟩:=lJ.some_of (v:=v) (o:=(atKey xs k).map (·.2)) (by rw [l]; exact rel.val k)
    obtain ⟨p,hp,hp2⟩:=Option.map_eq_some_iff.mp hw
    refine wpAny_getItem_heap (tupleKind_room_in1 hu) (IE I.hok eb) dd hp ?_
    rw [hp2]
    exact h w' _ (I.tok _) rw'
end
section
variable {X:Cx} {pins:List (Addr×Obj)} {σ:St} {H:Hp} {s:Shared} {a:Addr} {kvs:List (Key×V)} {k:Key} {u:Value} {A:Around} {E:Value→Shared→Prop}
end
theorem vK {X:Cx} {pins:List (Addr×Obj)} {σ:St} {H:Hp} {s:Shared} {a:Addr} {y:V} {o:Option V} (I:Inv X pins σ H s) (g:LH H a y o):s.TypeIs (.ref a) "dict":=by
  rcases g with ⟨kvs,k,e,_,_⟩ | ⟨kvs,k,b,e,_,_,_⟩
  · obtain ⟨_,_,vs,_,dd⟩:=XJ I.hok e
    exact dd.typeIs
  · obtain ⟨_,_,xs,_,dd⟩:=YJ I.hok e
    exact dd.typeIs
section
variable {X:Cx} {o i e value:Expr} {pos pos' tpos:Pos} {td ty tv:TE}
end
section
variable {X:Cx} {pos:Pos}
end
noncomputable def aGQ:R2:=fun x y H Q=>∃ a v,x= .ref a∧LH H a y (some v)∧Q v H
theorem WA {X:Cx} {k:Nat} (hr:bC k X.A):IxR X aGQ:=by
  intro value slice pins s σ H x y v u Q I rx ry ⟨a,z,ex,g,q⟩ hs
  subst ex
  cases rx
  exact tail_any (vK I g) slot_dict_getitem.lookup (GP (by have:=hr.units; omega) I g ry fun w' s' I' r'=>⟨z,H,I',r',q⟩) hs
end L2
namespace LE
open PySem PySem.W PySem.Calls PyProof.Rows Builtin
section
variable {prog:Program} {w:World} {A:Around} {E:Value→Shared→Prop} {s:Shared} {K:Frag} {x C L f:Addr} {h₀:Heap} {m:Str→Option Value} {ox:Obj} {od:Option Obj} {b tb:Value}
end
end LE
namespace L2
open PySem PySem.Spec PyProof.Rows
section
variable {X:Cx}
structure NeC (K:W.Frag) (C:Addr):Prop where
  ne:W.findIn K (.ref C) "__ne__"=some (some (.builtin "object.__ne__"))
  ob:W.subIn K (.ref C) (.type "object")=some true
  bo:W.findIn K (.ref C) "__bool__"=some none
end
end L2
namespace LE
open PySem PyProof.Rows
open AutoSeq1 (wpAny_loadPart')
open MeetsSeq MeetsSeq2 MeetsSeq3 SeqRoads2 SeqAt
theorem mT {M:Model} {A:Around} {E:Value→Shared→Prop} {s:Shared} {β:Type} (f:Nat→β→Sem (ForInStep β)) (I:List Nat→β→Shared→Prop) (Q:β→Shared→Prop)
    (turn:∀ x aY b s,I (x :: aY) b s→wpAny M A (f x b) (fun r s'=>match r with | .yield b'=>I aY b' s' | .done b'=>Q b' s') E s)
    (fin:∀ b s,I [] b s→Q b s) (n:Nat) (b:β) (h:I (List.range' 0 n) b s):wpAny M A (forIn [:n] b f) Q E s:=by
  rw [Std.Legacy.Range.forIn_eq_forIn_range']
  simp only [Std.Legacy.Range.size,Nat.sub_zero,Nat.add_sub_cancel,Nat.div_one]
  exact wpAny_forIn_list f I Q turn fin _ b h
theorem uA (l:Addr) (items:Array Value) (n:Nat) (dd:Option Addr) (sl:Array (Option Value)) (x:Value) (e:Nat→Bool) (j:Nat) (hj:j < items.size) (hit:e j=true) (hno:∀ m,m < j→e m=false) :
    Meets (Builtin.«tuple.index» ⟨[.ref l,x],[]⟩) (fun A R s=>s.heap.get? l=some { cls:=.type "tuple",dict:=dd,data:=.seq items n,slots:=sl }∧(∀ m (hm:m < items.size),m≤j→EqAt A.in1 s items[m] x (e m))∧R (.ok (.ret (.int j s.toks))) { s with toks:=s.toks + 1 }) :=
  .of_wp fun prog w A R s h=>by
    obtain ⟨hp,g,d,tk,os⟩:=s; obtain ⟨hl,he,h⟩:=h
    wp_walk using wpAny_loadPart' hl,mT _ (fun aY b s'=>b.1=none∧s'=⟨hp,g,d,tk,os⟩∧∃ i,aY=List.range' i (items.size - i)∧i≤j) _
    case turn =>
      rintro y aY b s' ⟨hb,rfl,i,hi,hij⟩
      have e1:items.size - i=(items.size - (i + 1)) + 1:=by omega
      rw [e1,List.range'_succ] at hi
      obtain ⟨rfl,rfl⟩:=List.cons.inj hi
      have hlt:y < items.size:=by omega
      have hy:items[y]? =some items[y]:=by simp [hlt]
      rw [hy]
      refine wpAny_bind (he _ hlt hij prog w _ _ ?_)
      by_cases ej:y=j
      · subst ej
        rw [hit]
        wp_walk
        exact ⟨_,rfl,h⟩
      · rw [hno y (by omega)]
        wp_walk
        exact ⟨rfl,rfl,y + 1,rfl,by omega⟩
    case fin =>
      rintro b s' ⟨hb,rfl,i,hi,hij⟩
      exfalso
      have:=congrArg List.length hi
      rw [List.length_range'] at this
      simp at this
      omega
    case h =>
      exact ⟨rfl,rfl,0,by simp,Nat.zero_le _⟩
theorem xM (l:Addr) (items:Array Value) (n:Nat) (dd:Option Addr) (sl:Array (Option Value)) (x:Value) (e:Nat→Bool) (upto:Int) (j:Nat) (hj:j < items.size) (hupto:(j:Int) < upto) (hit:e j=true) (hno:∀ m,m < j→e m=false) (k:Nat) :
    ∀ i:Nat,j - i=k→i≤j→Meets (Builtin.«list.index.loop» ⟨[.ref l,x,rawInt i,rawInt upto],[]⟩)
      (fun A R s=>s.heap.get? l=some { cls:=.type "list",dict:=dd,data:=.seq items n,slots:=sl }∧(∀ m (hm:m < items.size),m≤j→EqAt A.in1 s items[m] x (e m))∧R (.ok (.ret (.int j s.toks))) { s with toks:=s.toks + 1 }):=by
  induction k with
  | zero =>
    intro i hk hij prog w A R s h
    obtain ⟨hp,g,d,tk,os⟩:=s; obtain ⟨hl,he,h⟩:=h
    have hij':i=j:=by omega
    subst hij'
    wp_walk using wpAny_loadPart' hl
    have hi:(if (i:Int) < upto then items[((i:Nat):Int).toNat]? else none)=some items[i]:=by simp [hupto,hj]
    rw [hi]
    refine wpAny_bind (he i hj (Nat.le_refl _) prog w _ _ ?_)
    rw [hit]
    wp_walk
    exact h
  | succ k ih =>
    intro i hk hij prog w A R s h
    obtain ⟨hp,g,d,tk,os⟩:=s; obtain ⟨hl,he,h⟩:=h
    have hlt:i < items.size:=by omega
    have hst:(i:Int) < upto:=by omega
    wp_walk using wpAny_loadPart' hl
    have hi:(if (i:Int) < upto then items[((i:Nat):Int).toNat]? else none)=some items[i]:=by simp [hst,hlt]
    have hc:((i:Int) + 1)=((i + 1:Nat):Int):=by push_cast; rfl
    rw [hi]
    refine wpAny_bind (he i hlt hij prog w _ _ ?_)
    rw [hno i (by omega)]
    wp_walk
    rw [hc]
    exact ⟨plainId_quiet plain_index_loop _,codeAny_builtin entry_index_loop (by
      rw [Around.under_plainId plain_index_loop _]
      exact ih (i + 1) (by omega) (by omega) prog w A R _ ⟨hl,he,h⟩)⟩
theorem xA (l:Addr) (items:Array Value) (n:Nat) (dd:Option Addr) (sl:Array (Option Value)) (x:Value) (e:Nat→Bool) (j:Nat) (hj:j < items.size) (hsmall:(j:Int) < 2 ^ 63 - 1) (hit:e j=true) (hno:∀ m,m < j→e m=false) :
    Meets (Builtin.«list.index» ⟨[.ref l,x],[]⟩)
      (fun A R s=>s.heap.get? l=some { cls:=.type "list",dict:=dd,data:=.seq items n,slots:=sl }∧(∀ m (hm:m < items.size),m≤j→EqAt A.in1 s items[m] x (e m))∧R (.ok (.ret (.int j s.toks))) { s with toks:=s.toks + 1 }):=by
  intro prog w A R s h
  obtain ⟨hp,g,d,tk,os⟩:=s; obtain ⟨hl,he,h⟩:=h
  wp_walk using wpAny_loadPart' hl
  have a1:((fun i:Int=>if i < 0 then max 0 (i + (items.size:Int)) else i) ((none:Option Int).getD 0))=((0:Nat):Int):=by simp
  have a2:((fun i:Int=>if i < 0 then max 0 (i + (items.size:Int)) else i) ((none:Option Int).getD (2 ^ 63 - 1)))=2 ^ 63 - 1:=by simp
  rw [a1,a2]
  exact ⟨plainId_quiet plain_index_loop _,codeAny_builtin entry_index_loop (by
    rw [Around.under_plainId plain_index_loop _]
    exact xM l items n dd sl x e (2 ^ 63 - 1) j hj hsmall hit hno _ 0 rfl (Nat.zero_le _) prog w A R _ ⟨hl,he,h⟩)⟩
end LE
namespace HT
open PySem PySem.Spec PyProof.Rows
section
variable {prog:Program} {w:World} {A:Around} {E:Value→Shared→Prop} {s:Shared}
theorem lQ {sl:Addr} {vs:Value} {n:Nat} {Q:Int×Int×Nat→Shared→Prop} (hs:s.heap.IsSliceOf sl .none .none vs) (ps:IsPart vs (some (-1)))
    (h:Q ((n:Int) - 1,-1,n) s):wpAny (model prog w) A (Builtin.Slice.sliceApplied (.ref sl) (pure (n:Int))) Q E s:=by
  obtain ⟨os,hos,hcs,hds⟩:=id hs
  unfold Builtin.Slice.sliceApplied Builtin.Slice.sliceFields
  refine wpAny_bind (wpAny_bind (wpAny_field hos hds (x:=.none) rfl (wpAny_bind (wpAny_field hos hds (x:=.none) rfl (wpAny_bind (wpAny_field hos hds (x:=vs) rfl (wpAny_pure ?_)))))))
  refine wpAny_bind (kG ps ?_)
  show wpAny _ _ (if ((-1:Int) == 0)=true then _ else _) _ _ s
  rw [if_neg (by decide)]
  refine wpAny_bind (slicePart_none (wpAny_bind (slicePart_none (wpAny_bind (wpAny_pure ?_)))))
  have e1:Builtin.Slice.sliceAdjust none none (-1) (n:Int)=((n:Int) - 1,-1):=rfl
  have e2:Builtin.Slice.slicePlaces ((n:Int) - 1) (-1) (-1)=n:=by
    unfold Builtin.Slice.slicePlaces
    rw [if_neg (by decide)]
    split
    · rw [show (- -1:Int)=1 from rfl,Int.ediv_one]; omega
    · omega
  show wpAny _ _ (match Builtin.Slice.sliceAdjust none none (-1) (n:Int) with | (lo,hi)=>pure (lo,(-1:Int),Builtin.Slice.slicePlaces lo hi (-1))) _ _ s
  rw [e1]
  show wpAny _ _ (pure ((n:Int) - 1,(-1:Int),Builtin.Slice.slicePlaces ((n:Int) - 1) (-1) (-1))) _ _ s
  rw [e2]
  exact wpAny_pure h
theorem FU (its:List Value):((List.range its.toArray.size).filterMap fun (m:Nat)=>its.toArray[((its.toArray.size:Int) - 1 + (m:Int) * -1).toNat]?).toArray=its.reverse.toArray:=by
  congr 1
  have e2:(List.range its.toArray.size).filterMap (fun (m:Nat)=>its.toArray[((its.toArray.size:Int) - 1 + (m:Int) * -1).toNat]?)=(List.range its.reverse.length).filterMap (fun k=>its.reverse[k]?):=by
    rw [List.length_reverse,List.size_toArray]
    refine L2.pN _ fun k hk=>?_
    have hk':k < its.length:=List.mem_range.mp hk
    rw [List.getElem?_reverse hk']
    have:((its.length:Int) - 1 + (k:Int) * -1).toNat=its.length - 1 - k:=by omega
    rw [this]; simp
  rw [e2,L2.jW]
theorem lD {t sl:Addr} {its:List Value} {vs:Value} {Q:Value→Shared→Prop} (ht:IsTup s.heap t its.toArray) (hs:s.heap.IsSliceOf sl .none .none vs) (ps:IsPart vs (some (-1)))
    (h:Q (.ref s.heap.objs.size) { s with heap:=s.heap.push { cls:=.type "tuple",data:=.seq its.reverse.toArray } })
    (hsz:its.length≤sizeLine):wpAny (model prog w) A (getItem (.ref t) (.ref sl)) Q E s:=by
  have htake:sizeOk (.seq its.reverse.toArray):=by
    show its.reverse.toArray.size≤sizeLine
    rw [List.size_toArray,List.length_reverse]; exact hsz
  obtain ⟨os,hos,hcs,hds⟩:=id hs
  have hTs:s.TypeIs (.ref sl) "slice":=⟨os,hos,hcs⟩
  unfold getItem
  try with_reducible refine wpAny_holding ?_
  first | refine wpAny_bind (wpAny_pure ?_) | skip
  refine wpAny_bind (wpAny_sequenceKey ht.typeIs (by decide) ?_)
  refine wpAny_bind (wpAny_callSpecial?_slot (name:=Str.ofString "__getitem__") ht.typeIs PyProof.Rows.slot_tuple_getitem
    (wpAny_call_entry PyProof.Rows.slot_tuple_getitem ht.typeIs entry_tuple_getitem ?_ (args_tuple_getitem _ _)))
  show wpAny _ _ (Builtin.Tuple.tupleItemsOf (.ref t) >>= _) _ _ s
  refine wpAny_bind (tupleItemsOf_ ht ?_)
  refine wpAny_bind (wpAny_typeOf hTs ?_)
  rw [if_pos (by decide)]
  refine wpAny_bind (lQ hs ps ?_)
  have hno:¬((((its.toArray.size:Int) - 1 == 0) && (-1:Int) == 1 && its.toArray.size == its.toArray.size)=true):=by
    rw [show ((-1:Int) == 1)=false from rfl,Bool.and_false,Bool.false_and]; exact Bool.false_ne_true
  show wpAny _ _ (if (((its.toArray.size:Int) - 1 == 0) && (-1:Int) == 1 && its.toArray.size == its.toArray.size)=true then _ else _) _ _ s
  rw [if_neg hno,FU]
  first
    | exact wpAny_bind (m:=Builtin.Tuple.tupleExact _) (wpAny_newObj_type (wpAny_pure ⟨_,rfl,wpAny_pure h⟩) htake)
    | exact wpAny_bind (m:=Builtin.Tuple.tupleExact _) (wpAny_newObj_type (wpAny_bind (wpAny_pure (wpAny_pure ⟨_,rfl,wpAny_pure h⟩))) htake)
    | exact wpAny_bind (wpAny_bind (m:=Builtin.Tuple.tupleExact _) (wpAny_newObj_type (wpAny_pure (wpAny_pure ⟨_,rfl,wpAny_pure h⟩)) htake))
    | exact wpAny_bind (wpAny_bind (m:=Builtin.Tuple.tupleExact _) (wpAny_newObj_type (wpAny_pure ⟨_,rfl,wpAny_pure h⟩) htake))
end
end HT
namespace L2
open PySem PySem.Spec PyProof.Rows
section
variable {X:Cx} {pins:List (Addr×Obj)} {σ:St} {H:Hp} {s:Shared} {a:Addr} {xs:List V}
theorem Inv.tupleN (I:Inv X pins σ H s) (h:SqT X.K H a xs):∃ its:List Value,aJ xs its∧eL s.heap a its.toArray∧xs.length≤sizeLine:=by
  rcases h with h | ⟨o,its,n,hk,hc,hs,hz,r,hd⟩
  · obtain ⟨z,its,r,p⟩:=h.ok I.hok
    exact ⟨its,r,p,z⟩
  · refine ⟨its.toList,r,⟨⟨o,I.kIn a o hk,hc,n,by simpa using hs⟩,fun o' e=>by rw [I.kIn a o hk] at e; cases e; exact hd⟩, ?_⟩
    have e:=r.length
    simp only [Array.length_toList] at e
    omega
end
section
variable {X:Cx} {o e:Expr} {to te:TE} {pos apos:Pos}
noncomputable def aE8 (K:W.Frag) (te:TE):TE:=fun σ H Q=>te σ H fun x H1=>∃ p xs,x= .ref p∧((H1 p=some (.lst xs)∧∀ q,H1 q=none→Q (.ref q) (upd H1 q (.lst xs.reverse)))∨(SqT K H1 p xs∧∀ q,H1 q=none→Q (.ref q) (upd H1 q (.tup xs.reverse))))
theorem TQ {p1 p2 p3:Pos} {k1} (he:PE X e te):PE X (.Subscript e (.Slice none none (some (.UnaryOp .USub (.Constant (.int 1) k1 p1) p2)) p3) pos) (aE8 X.K te):=by
  intro pins s σ H Q I h
  refine Subscript_ (thn (he pins s σ H _ I h) fun v s1 ⟨x,H1,I1,r1,p,xs,ex,hq⟩=>?_)
  subst ex
  cases r1
  refine wpAny_Slice ?_
  rw [evalPart_none]
  refine wpAny_pure ?_
  refine wpAny_pure ?_
  refine thn ((CV (XR OD (KI (X:=X)))) pins s1 σ H1 (fun o H2=>o=some (-1)∧H2=H1) I1 ⟨_,rfl,_,rfl,rfl,rfl⟩) fun vs s2 ⟨o,H2,I2,ps,eo,eH⟩=>?_
  subst eo eH
  have I3:Inv X pins σ H2 { s2 with heap:=s2.heap.push { cls:=.type "slice",data:=.fields #[.none,.none,vs] } }:=I2.kept (t':=s2.toks) fun b ob q=>Heap.get?_push_of_some _ q
  rcases hq with ⟨hp,q⟩ | ⟨hp,q⟩
  · obtain ⟨its,rv,ht,hz⟩:=I3.list (SqL.of hp)
    have hlen:=rv.length
    refine tail_any (ops:=[.ref p,.ref s2.heap.objs.size]) ht.isList.typeIs slot_list_getitem.lookup ?_ (by with_unfolding_all rfl)
    refine wpAny_getItem_list_slice (lo:=none) (hi:=none) ht.isList (Heap.IsSliceOf.new ..) .none .none ps (by decide) ?_ (by rw [List.size_toArray] <;> omega)
    rw [NX]
    refine ⟨.ref _,_,I3.laid (t':=s2.toks) (o:=.lst xs.reverse) (fun b ob q=>Heap.get?_push_of_some _ q) (Nat.le_refl _) ?_,rfl,q _ (I3.hok.fresh (Nat.le_refl _))⟩
    exact ⟨by rw [List.length_reverse]; exact hz,_,0,rv.reverse,Heap.get?_push_size _ rfl⟩
  · obtain ⟨its,rv,ht,hz⟩:=I3.tuple hp
    have hlen:=rv.length
    refine tail_any (ops:=[.ref p,.ref s2.heap.objs.size]) ht.typeIs PyProof.Rows.slot_tuple_getitem.lookup ?_ (by with_unfolding_all rfl)
    refine HT.lD ht (Heap.IsSliceOf.new ..) ps ?_ (by omega)
    refine ⟨.ref _,_,I3.laid (t':=s2.toks) (o:=.tup xs.reverse) (fun b ob q=>Heap.get?_push_of_some _ q) (Nat.le_refl _) ?_,rfl,q _ (I3.hok.fresh (Nat.le_refl _))⟩
    exact ⟨by rw [List.length_reverse]; exact hz,_,rv.reverse,eL.new _ _⟩
noncomputable def aGK (K:W.Frag) (rl rt:V→V→Hp→VK→Prop) (to te:TE):TE:=fun σ H Q=>to σ H fun x H1=>∃ p,x= .ref p∧(((∃ xs,SqL K H1 p xs)∧te σ H1 fun y H2=>rl x y H2 Q)∨((∃ xs,SqT K H1 p xs)∧te σ H1 fun y H2=>rt x y H2 Q))
noncomputable def IxM (X:Cx) (id:String) (r:V→V→Hp→VK→Prop):Prop:= ∀ (pins:List (Addr×Obj)) (s:Shared) (σ:St) (H:Hp) (x y:V) (v u:Value) (Q:VK),Inv X pins σ H s→aQ x v→aQ y u→r x y H Q→
    wpAny (model X.prog X.w) X.A (call (.builtin id) [v,u]) (EP X pins σ Q) X.xe s
theorem IH {rl rt:V→V→Hp→VK→Prop} (hl:IxM X "list.index" rl) (ht:IxM X "tuple.index" rt) (ho:PE X o to) (he:PE X e te)
    (hmono:∀ σ H (Q Q':VK),(∀ y H',Q y H'→Q' y H')→te σ H Q→te σ H Q') (hbase:attributeBase o "index" X.env (eval o X.env)=eval o X.env) (hline:(apos.endLine == pos.line)=true) (hs:starEach [e] X.env=[(false,eval e X.env)]) :
    PE X (.Call (.Attribute o "index" apos) [e] [] pos) (aGK X.K rl rt to te):=by
  intro pins s σ H Q I h
  have hfew:((backTo pos (starEach [e] X.env)).all (fun x=> !x.1) && (backToKw pos (keywordEach [] X.env)).all (fun x=>x.1.isSome) && decide ([e].length + ([]:List Keyword).length + (if ([]:List Keyword).isEmpty then 0 else 1) < 30))=true:=by rw [hs]; rfl
  refine wpAny_Call_method_late hbase hfew hline rfl (thn (ho pins s σ H _ I h) fun v s1 ⟨x,H1,I1,r1,p,ex,hq⟩=>?_)
  subst ex
  rcases hq with ⟨⟨xs,hx⟩,q⟩ | ⟨⟨xs,hx⟩,q⟩
  · obtain ⟨h1,h2⟩:=OQ (T:="list") I1 r1 (.inl ⟨rfl,xs,hx⟩)
    refine ⟨"list","list.index",PySem.F.plainAttrs_list,PySem.F.slot_list_index,PySem.F.type_list_index,h1,h2, ?_⟩
    have hA:=(bR he eC hs) pos pins s1 σ H1 (fun vs H2=>∃ y,vs=[y]∧rl (.ref p) y H2 Q) I1 (hmono σ H1 _ _ (fun y H2 z=>⟨y,rfl,z⟩) q)
    rw [hs] at hA ⊢
    refine Calls.callWith_builtin rfl (Calls.evalArgs_plain ?_)
    exact thn hA fun us s2 ⟨vs,H2,I2,r2,y,ev,q2⟩=>by
      subst ev
      obtain ⟨u,rfl,ru⟩:=r2.one
      exact hl pins s2 σ H2 (.ref p) y v u Q I2 r1 ru q2
  · cases r1
    obtain ⟨its,rv,⟨⟨o,e1,e2,e3⟩,hd⟩,hz⟩:=I1.tupleN hx
    refine ⟨"tuple","tuple.index",PySem.F.plainAttrs_tuple,PySem.F.slot_tuple_index,PySem.F.type_tuple_index,⟨o,e1,e2⟩,fun b eb=>by cases eb; exact ⟨o,e1,hd o e1⟩, ?_⟩
    have hA:=(bR he eC hs) pos pins s1 σ H1 (fun vs H2=>∃ y,vs=[y]∧rt (.ref p) y H2 Q) I1 (hmono σ H1 _ _ (fun y H2 z=>⟨y,rfl,z⟩) q)
    rw [hs] at hA ⊢
    refine Calls.callWith_builtin rfl (Calls.evalArgs_plain ?_)
    exact thn hA fun us s2 ⟨vs,H2,I2,r2,y,ev,q2⟩=>by
      subst ev
      obtain ⟨u,rfl,ru⟩:=r2.one
      exact ht pins s2 σ H2 (.ref p) y (.ref p) u Q I2 rfl ru q2
end
section
variable {X:Cx} {a:Addr} {es:Array DictEntry} {n:Nat}
end
section
variable {X:Cx} {pos:Pos}
end
end L2
namespace HT
open PySem PySem.Spec PyProof PyProof.Rows
section
variable {prog:Program} {w:World} {A:Around} {E:Value→Shared→Prop} {s:Shared}
theorem jH {t sl:Addr} {items:Array Value} {vl vu:Value} {lo hi:Option Int} {Q:Value→Shared→Prop} (ht:IsTup s.heap t items) (hs:s.heap.IsSliceOf sl vl vu .none) (pl:IsPart vl lo) (pu:IsPart vu hi)
    (hw:sIx items.size 0 lo=0∧sIx items.size items.size hi=items.size)
    (h:Q (.ref t) s):wpAny (model prog w) A (getItem (.ref t) (.ref sl)) Q E s:=by
  obtain ⟨os,hos,hcs,hds⟩:=id hs
  have hTs:s.TypeIs (.ref sl) "slice":=⟨os,hos,hcs⟩
  unfold getItem
  try with_reducible refine wpAny_holding ?_
  first | refine wpAny_bind (wpAny_pure ?_) | skip
  refine wpAny_bind (wpAny_sequenceKey ht.typeIs (by decide) ?_)
  refine wpAny_bind (wpAny_callSpecial?_slot (name:=Str.ofString "__getitem__") ht.typeIs PyProof.Rows.slot_tuple_getitem
    (wpAny_call_entry PyProof.Rows.slot_tuple_getitem ht.typeIs entry_tuple_getitem ?_ (args_tuple_getitem _ _)))
  show wpAny _ _ (Builtin.Tuple.tupleItemsOf (.ref t) >>= _) _ _ s
  refine wpAny_bind (tupleItemsOf_ ht ?_)
  refine wpAny_bind (wpAny_typeOf hTs ?_)
  rw [if_pos (by decide)]
  refine wpAny_bind (fP hs pl pu ?_)
  have hno:(((sIx items.size 0 lo:Nat):Int) == 0 && (1:Int) == 1 && (sIx items.size items.size hi - sIx items.size 0 lo) == items.size)=true:=by
    rw [hw.1,hw.2]; simp
  show wpAny _ _ (if (((sIx items.size 0 lo:Nat):Int) == 0 && (1:Int) == 1 && (sIx items.size items.size hi - sIx items.size 0 lo) == items.size)=true then _ else _) _ _ s
  rw [if_pos hno]
  unfold Builtin.Tuple.tupleIsExact
  refine wpAny_bind (wpAny_bind (wpAny_typeOf ht.typeIs (wpAny_pure ?_)))
  rw [if_pos (by decide)]
  refine wpAny_bind (wpAny_rule ?_)
  first
    | exact wpAny_bind (wpAny_pure ⟨_,rfl,wpAny_pure h⟩)
    | exact wpAny_bind (wpAny_pure (wpAny_pure ⟨_,rfl,wpAny_pure h⟩))
    | exact wpAny_pure ⟨_,rfl,wpAny_pure h⟩
end
end HT
namespace L2
open PySem PySem.Spec PyProof.Rows
section
variable {X:Cx}
noncomputable def aHL (K:W.Frag):V→Option Int→Option Int→Hp→VK→Prop:=fun x lo hi H Q=>∃ a xs,x= .ref a∧SqT K H a xs∧
  (HT.sIx xs.length 0 lo=0∧HT.sIx xs.length xs.length hi=xs.length)∧Q (.ref a) H
theorem QJ:SlR X (aHL X.K):=by
  intro pins s σ H x v vl vu lo hi sl Q I rx hs pl pu h
  obtain ⟨a,xs,rfl,hx,hw,q⟩:=h
  cases rx
  obtain ⟨its,r,ht,hz⟩:=I.tuple hx
  have hlen:its.toArray.size=xs.length:=by rw [List.size_toArray]; exact r.length.symm
  refine ⟨"tuple",_,PyProof.Rows.slot_tuple_getitem.lookup,ht.typeIs, ?_⟩
  exact HT.jH ht hs pl pu (by rw [hlen]; exact hw) ⟨.ref a,_,I,rfl,q⟩
end
end L2
namespace LR
open PySem PySem.W PyProof PyProof.Rows
section
variable {prog:Program} {w:World} {A:Around} {E:Value→Shared→Prop} {s:Shared} {K:Frag} {x C L f:Addr} {h₀:Heap} {m:Str→Option Value} {ox:Obj} {od:Option Obj} {a:Value}
open PySem.AutoSeq1 (wpAny_loadPart') in
theorem QV {C dx:Addr} {sl:Array (Option Value)} {i:Int} {u:Tok} {Q':Value→Shared→Prop} (ho:s.heap.get? x=some { cls:=.ref C,dict:=some dx,data:=.plain,slots:=sl }) (q:Q' .notImplemented s) :
    wpAny (model prog w) A (call (.builtin "int.__eq__") [.int i u,.ref x]) Q' E s:=by
  refine wpAny_call_entry PySem.F.slot_int_eq (s:=s) rfl PySem.F.entry_int_eq ?_ (PySem.F.args_int_eq_2 _ _)
  obtain ⟨hp,g,d,tk,os⟩:=s
  wp_walk using wpAny_loadPart' ho
  exact ⟨_,rfl,q⟩
open PySem.AutoSeq1 (wpAny_loadPart') in
theorem aEB {C dx:Addr} {sl:Array (Option Value)} {b:Bool} {Q':Value→Shared→Prop} (ho:s.heap.get? x=some { cls:=.ref C,dict:=some dx,data:=.plain,slots:=sl }) (q:Q' .notImplemented s) :
    wpAny (model prog w) A (call (.builtin "int.__eq__") [.bool b,.ref x]) Q' E s:=by
  refine wpAny_call_entry PySem.F.slot_bool_eq (s:=s) rfl PySem.F.entry_int_eq ?_ (PySem.F.args_int_eq_2 _ _)
  obtain ⟨hp,g,d,tk,os⟩:=s
  wp_walk using wpAny_loadPart' ho
  exact ⟨_,rfl,q⟩
open PySem.AutoSeq1 (wpAny_loadPart') in
theorem UQ {C dx:Addr} {sl:Array (Option Value)} {z:Str} {u:Tok} {Q':Value→Shared→Prop} (ho:s.heap.get? x=some { cls:=.ref C,dict:=some dx,data:=.plain,slots:=sl }) (q:Q' .notImplemented s) :
    wpAny (model prog w) A (call (.builtin "str.__eq__") [.str z u,.ref x]) Q' E s:=by
  refine wpAny_call_entry PySem.F.slot_str_eq (s:=s) rfl PySem.F.entry_str_eq ?_ (PySem.F.args_str_eq_2 _ _)
  obtain ⟨hp,g,d,tk,os⟩:=s
  wp_walk using wpAny_loadPart' ho
  exact ⟨_,rfl,q⟩
variable {y D:Addr} {oy:Obj} {oyd:Option Obj}
end
end LR
namespace L2
open PySem PySem.Spec PyProof.Rows
section
variable {X:Cx}
noncomputable def aFg:List String:=["NoneType","bool","int","str","list","tuple","dict"]
structure EqL (K:W.Frag) (C:Addr):Prop where
  nt:∀ T∈aFg,W.subIn K (.ref C) (.type T)=some false
  tn:∀ T∈aFg,W.subIn K (.type T) (.ref C)=some false
structure EqD (K:W.Frag) (C D:Addr):Prop where
  ne:D≠C
  eq:W.findIn K (.ref D) "__eq__"=some (some (.builtin "object.__eq__"))
  ob:W.subIn K (.ref D) (.type "object")=some true
  cd:W.subIn K (.ref C) (.ref D)=some false
  dc:W.subIn K (.ref D) (.ref C)=some false
inductive BuV (K:W.Frag) (H:Hp):V→Prop
  | non:BuV K H .non
  | bl (b:Bool):BuV K H (.bl b)
  | int (i:Int):BuV K H (.int i)
  | str (z:Str):BuV K H (.str z)
  | tup {a:Addr} {xs:List V}:SqT K H a xs→BuV K H (.ref a)
  | lst {a:Addr} {xs:List V}:SqL K H a xs→BuV K H (.ref a)
  | dK {a:Addr} {kvs:List (Key×V)}:H a=some (.dK kvs)→BuV K H (.ref a)
end
end L2
namespace LR
open PySem PyProof.Rows
open AutoSeq1 (wpAny_loadPart')
open MeetsSeq MeetsSeq2 MeetsSeq3 SeqRoads2
end LR
namespace L2
open PySem PySem.Spec PyProof.Rows
section
variable {X:Cx}
inductive ItV (K:W.Frag) (C:Addr) (H:Hp):V→Bool→Prop
  | bu {y:V}:BuV K H y→ItV K C H y false
  | own {p dx:Addr} {fs:List (Str×V)}:H p=some (.ins C dx fs)→ItV K C H (.ref p) true
  | oth {p D dx:Addr} {fs:List (Str×V)}:H p=some (.ins D dx fs)→EqD K C D→ItV K C H (.ref p) false
end
end L2
namespace LR
open PySem PyProof.Rows
open AutoSeq1 (wpAny_loadPart')
open MeetsSeq MeetsSeq2 MeetsSeq3 SeqRoads2
end LR
namespace L2
open PySem PySem.Spec PyProof.Rows
section
variable {X:Cx}
noncomputable def inT (K:W.Frag) (C:Addr) (sp:Sp) (p:Addr) (Q:Bool→Hp→Prop):List V→Hp→Prop
  | [],H=>Q false H
  | y :: r,H=>(∃ dx fs,H p=some (.ins C dx fs))∧((y= .ref p∧Q true H)∨(∃ o,(o=true→y≠.ref p)∧ItV K C H y o∧
      sp (if o=true then [y,.ref p] else [.ref p,y]) H (fun v H'=>∃ b,v= .bl b∧if b=true then Q true H' else inT K C sp p Q r H') E0))
end
end L2
namespace L2
open PySem PySem.Spec
open PyProof.Rows hiding St
noncomputable def fM (h:Heap) (lo:Nat) (H:Hp) (e:Addr) (C:Value) (d:Option Addr):Prop :=
  lo ≤e∧H e=none∧∃ oe vs,h.get? e=some oe∧oe.cls=C∧oe.dict=d∧oe.data= .fields vs∧1 < vs.size∧
    ∃ T oT ts fl,vs[1]? =some (.ref T)∧lo≤T∧H T=none∧T≠e∧h.get? T=some oT∧oT.data= .fields ts∧ts[3]? =some fl
noncomputable def aGa (h:Heap) (lo:Nat) (H:Hp) (e:Addr) (C:Value) (d:Option Addr):Prop :=
  lo≤e∧H e=none∧∃ oe vs,h.get? e=some oe∧oe.cls=C∧oe.dict=d∧oe.data= .fields vs∧1 < vs.size∧vs[1]? =some .none
noncomputable def nK (h:Heap) (lo:Nat) (H:Hp) (e:Addr) (C:Value) (d:Option Addr):Prop:=aGa h lo H e C d∨fM h lo H e C d
structure Way (fs ch:List Addr) (h h':Heap):Prop where
  keep:∀ b o,b∉ fs→b∉ ch→h.get? b=some o→h'.get? b=some o
  slot:∀ b o,b∈fs→h.get? b=some o→∃ sl,h'.get? b=some { o with slots:=sl }
  there:∀ b o,h.get? b=some o→∃ o',h'.get? b=some o'
theorem Way.refl {fs:List Addr} {h:Heap}:Way fs [] h h:=⟨fun _ _ _ _ e=>e,fun _ o _ e=>⟨o.slots,e⟩,fun _ o e=>⟨o,e⟩⟩
noncomputable def oM (h:Heap) (lo:Nat) (H:Hp) (ch:List Addr):Prop:= ∀ b∈ch,lo≤b∧H b=none∧∃ o vs,h.get? b=some o∧o.data= .fields vs
theorem oM.nil {h:Heap} {lo:Nat} {H:Hp}:oM h lo H []:=fun _ z=>nomatch z
section
variable {M:Model} {A:Around} {E:Value→Shared→Prop} {s:Shared} {base:Heap} {env:Env} {outer:List Env} {L e:Addr} {C:Value} {d:Option Addr} {lo:Nat} {H:Hp}
theorem DF {oe:Obj} {vs:Array Value} {head:Value} {hadNext:Bool} {Q:Unit→Shared→Prop}
    (hfr:A.frames=some (env :: outer)) (hl:s.heap.FunFrames base (env :: outer)) (hf:env.frame=some L) (hlo:lo≤s.heap.objs.size) (hH:∀ b,s.heap.objs.size≤b→H b=none)
    (le:lo≤e) (he0:H e=none) (he:s.heap.get? e=some oe) (hc:oe.cls=C) (hdd:oe.dict=d) (hd:oe.data= .fields vs) (hsz:1 < vs.size)
    (h:∀ h',Way (frs (env :: outer)) [e] s.heap h'→fM h' lo H e C d→Q () { s with heap:=h' }) :
    wpAny M A (do let a ←frameOf env; let pl ←entryPlaceOf L hadNext; let b ←EntryCells.newEntry head a .none (rawInt L) .none pl; setField (.ref e) 1 b) Q E s:=by
  have hene:e∉ (env :: outer).filterMap (·.frame):=fun hm=>by
    obtain ⟨_,o,ho,hnf⟩:=hl.mem hm
    rw [he] at ho; injection ho with ho; subst ho; exact hnf vs hd
  refine wpAny_bind (wpAny_frameOf_fun hfr hl hf fun h₁ hs₁=>?_)
  refine wpAny_bind (wpAny_entryPlaceOf fun pl hpl=>?_)
  unfold EntryCells.newEntry newFields
  refine wpAny_bind (wpAny_newObj_type ?_ (hpl.sizeOk5 _ _ _ _ _))
  have he₁:h₁.get? e=some oe:=(hs₁.2.1 e hene).trans he
  have he₂:=Heap.get?_push_of_some (h:=h₁) { cls:=.type "traceback",dict:=none,data:=.fields ([head,.ref L,.none,rawInt L,.none] ++ (if pl.isEmpty then List.replicate 6 Value.none else pl)).toArray } he₁
  refine wpAny_setField he₂ hd hsz (h _ ?_ ?_)
  · have keep:∀ b o,b≠e→h₁.get? b=some o→
      ((h₁.push { cls:=.type "traceback",dict:=none,data:=.fields ([head,.ref L,.none,rawInt L,.none] ++ (if pl.isEmpty then List.replicate 6 Value.none else pl)).toArray }).update e (Obj.mapFields (·.setIfInBounds 1 (Value.ref h₁.objs.size)))).get? b=some o :=
      fun b o hbe hb=>by
        rw [Heap.get?_update_other _ _ (Ne.symm hbe)]
        exact Heap.get?_push_of_some _ hb
    have hd₃:=Obj.data_mapFields hd (·.setIfInBounds 1 (Value.ref h₁.objs.size))
    have he₃:=Heap.get?_update_self (Obj.mapFields (·.setIfInBounds 1 (Value.ref h₁.objs.size))) he₂ (Obj.isFreed_of_fields hd₃)
    refine ⟨fun b o hb hc ho=>keep b o (fun z=>hc (by simp [z])) ((hs₁.2.1 b hb).trans ho),fun b o hb ho=>?_,fun b o ho=>?_⟩
    · obtain ⟨sl,hs⟩:=hs₁.2.2 b o ho
      exact ⟨sl,keep b _ (fun z=>hene (z▸hb)) hs⟩
    · by_cases z:b=e
      · subst z; exact ⟨_,he₃⟩
      · obtain ⟨sl,hs⟩:=hs₁.2.2 b o ho
        exact ⟨_,keep b _ z hs⟩
  · have hTe:h₁.objs.size≠e:=Nat.ne_of_gt (Heap.lt_size he₁)
    have hd₃:=Obj.data_mapFields hd (·.setIfInBounds 1 (Value.ref h₁.objs.size))
    have he₃:=Heap.get?_update_self (Obj.mapFields (·.setIfInBounds 1 (Value.ref h₁.objs.size))) he₂ (Obj.isFreed_of_fields hd₃)
    have hT₃:=(Heap.get?_update_other (h₁.push { cls:=.type "traceback",dict:=none,data:=.fields ([head,.ref L,.none,rawInt L,.none] ++ (if pl.isEmpty then List.replicate 6 Value.none else pl)).toArray })
      (Obj.mapFields (·.setIfInBounds 1 (Value.ref h₁.objs.size))) (Ne.symm hTe)).trans (Heap.get?_push_size h₁ rfl)
    have hz:s.heap.objs.size=h₁.objs.size:=by first | exact hs₁.1.symm | exact hs₁.1
    refine ⟨le,he0,_,_,he₃,(Obj.cls_mapFields _ _).trans hc, ?_,hd₃,by simpa using hsz,h₁.objs.size,_,_,rawInt L,by simp [hsz],by omega,hH _ (by omega),hTe,hT₃,rfl,by first | (simp; done) | (rcases hpl with rfl | ⟨_,_,_,_,_,_,_,rfl⟩ <;> simp)⟩
    rw [←hdd]
    unfold Obj.mapFields
    split <;> rfl
theorem NG {fo:Option Addr} {Q:Unit→Shared→Prop} (hl:s.heap.FunFrames base (env :: outer)) (x:nK s.heap lo H e C d)
    (h:∀ h' ch,oM s.heap lo H ch→Way (frs (env :: outer)) ch s.heap h'→nK h' lo H e C d→(fM s.heap lo H e C d→fM h' lo H e C d)→Q () { s with heap:=h' }):wpAny M A (setFlight (.ref e) fo) Q E s:=by
  rcases x with x | x
  · have x0:=x
    obtain ⟨le,he0,oe,vs,he,hc,hdd,hd,hsz,h1⟩:=x
    unfold setFlight
    refine wpAny_bind (wpAny_field he hd h1 ?_)
    rw [if_neg (by decide)]
    exact wpAny_pure (h s.heap [] oM.nil Way.refl (.inl x0) fun z=>z)
  · obtain ⟨le,he0,oe,vs,he,hc,hdd,hd,hsz,T,oT,ts,fl,h1,lT,hT0,hTe,hT,hdT,h3⟩:=x
    have hsz3:3 < ts.size:=(Array.getElem?_eq_some_iff.mp h3).1
    have nf:T∉ frs (env :: outer):=fun hm=>by
      obtain ⟨_,o,ho,hnf⟩:=hl.mem hm
      rw [hT] at ho; injection ho with ho; subst ho; exact hnf ts hdT
    unfold setFlight
    refine wpAny_bind (wpAny_field he hd h1 ?_)
    rw [if_pos (show (Value.ref T != Value.none)=true from by simp)]
    have hd₃:=Obj.data_mapFields hdT (·.setIfInBounds 3 (fo.elim .none fun f=>rawInt f))
    have hT₃:=Heap.get?_update_self (Obj.mapFields (·.setIfInBounds 3 (fo.elim .none fun f=>rawInt f))) hT (Obj.isFreed_of_fields hd₃)
    have other:∀ b,b≠T→(s.heap.update T (Obj.mapFields (·.setIfInBounds 3 (fo.elim .none fun f=>rawInt f)))).get? b=s.heap.get? b:=fun b hb=>Heap.get?_update_other _ _ (Ne.symm hb)
    have xt:fM (s.heap.update T (Obj.mapFields (·.setIfInBounds 3 (fo.elim .none fun f=>rawInt f)))) lo H e C d :=
      ⟨le,he0,oe,vs,(other e (Ne.symm hTe)).trans he,hc,hdd,hd,hsz,T,_,_,_,h1,lT,hT0,hTe,hT₃,hd₃,by simp [hsz3]; rfl⟩
    refine wpAny_setField hT hdT hsz3 (h _ [T] (fun b hb=>?_) ⟨fun b o hb hc ho=>?_,fun b o hb ho=>?_,fun b o ho=>?_⟩ (.inr xt) fun _=>xt)
    · have e:b=T:=by simpa using hb
      subst e; exact ⟨lT,hT0,oT,ts,hT,hdT⟩
    · exact (other b fun z=>hc (by simp [z])).trans ho
    · exact ⟨o.slots,(other b fun z=>nf (z▸hb)).trans ho⟩
    · by_cases z:b=T
      · subst z; exact ⟨_,hT₃⟩
      · exact ⟨o,(other b z).trans ho⟩
theorem Way.trans {fs c1 c2:List Addr} {h1 h2 h3:Heap} (a:Way fs c1 h1 h2) (b:Way fs c2 h2 h3):Way fs (c1 ++ c2) h1 h3:=by
  refine ⟨fun x o hf hc ho=>b.keep x o hf (fun z=>hc (List.mem_append_right _ z)) (a.keep x o hf (fun z=>hc (List.mem_append_left _ z)) ho),fun x o hf ho=>?_,fun x o ho=>?_⟩
  · obtain ⟨sl,e⟩:=a.slot x o hf ho
    obtain ⟨sl',e'⟩:=b.slot x _ hf e
    exact ⟨sl',e'⟩
  · obtain ⟨o',e⟩:=a.there x o ho
    exact b.there x o' e
theorem ZK {Q:Unit→Shared→Prop} (hfr:A.frames=some (env :: outer)) (hl:s.heap.FunFrames base (env :: outer)) (hf:env.frame=some L) (hlo:lo≤s.heap.objs.size) (hH:∀ b,s.heap.objs.size≤b→H b=none) (x:nK s.heap lo H e C d)
    (h:∀ h' ch,oM s.heap lo H ch→Way (frs (env :: outer)) ch s.heap h'→fM h' lo H e C d→Q () { s with heap:=h' }):wpAny M A (noteFrame (.ref e) env) Q E s:=by
  rcases x with x | x
  · obtain ⟨le,he0,oe,vs,he,hc,hdd,hd,hsz,h1⟩:=x
    unfold noteFrame
    simp only [hf]
    refine wpAny_bind (wpAny_field he hd h1 ?_)
    rw [if_neg (by decide)]
    refine DF hfr hl hf hlo hH le he0 he hc hdd hd hsz fun h' w x'=>h h' [e] (fun b hb=>?_) w x'
    have e':b=e:=by simpa using hb
    subst e'; exact ⟨le,he0,oe,vs,he,hd⟩
  · have x0:=x
    obtain ⟨le,he0,oe,vs,he,hc,hdd,hd,hsz,T,oT,ts,fl,h1,lT,hT0,hTe,hT,hdT,h3⟩:=x
    have hsz3:3 < ts.size:=(Array.getElem?_eq_some_iff.mp h3).1
    have nf:T∉ frs (env :: outer):=fun hm=>by
      obtain ⟨_,o,ho,hnf⟩:=hl.mem hm
      rw [hT] at ho; injection ho with ho; subst ho; exact hnf ts hdT
    unfold noteFrame
    simp only [hf]
    refine wpAny_bind (wpAny_field he hd h1 ?_)
    rw [if_pos (show (Value.ref T != Value.none)=true from by simp)]
    refine wpAny_bind (wpAny_field hT hdT h3 ?_)
    by_cases hfl:(fl == rawInt L)=true
    · rw [if_pos hfl]
      exact wpAny_pure (h s.heap [] oM.nil Way.refl x0)
    · rw [if_neg hfl]
      have hd₃:=Obj.data_mapFields hdT (·.setIfInBounds 3 Value.none)
      have hT₃:=Heap.get?_update_self (Obj.mapFields (·.setIfInBounds 3 Value.none)) hT (Obj.isFreed_of_fields hd₃)
      have other:∀ b,b≠T→(s.heap.update T (Obj.mapFields (·.setIfInBounds 3 Value.none))).get? b=s.heap.get? b:=fun b hb=>Heap.get?_update_other _ _ (Ne.symm hb)
      have w1:Way (frs (env :: outer)) [T] s.heap (s.heap.update T (Obj.mapFields (·.setIfInBounds 3 Value.none))):=by
        refine ⟨fun b o hb hc ho=>(other b fun z=>hc (by simp [z])).trans ho,fun b o hb ho=>⟨o.slots,(other b fun z=>nf (z▸hb)).trans ho⟩,fun b o ho=>?_⟩
        by_cases z:b=T
        · subst z; exact ⟨_,hT₃⟩
        · exact ⟨o,(other b z).trans ho⟩
      have hzz:(s.heap.update T (Obj.mapFields (·.setIfInBounds 3 Value.none))).objs.size=s.heap.objs.size:=Heap.size_update ..
      refine wpAny_bind (wpAny_setField hT hdT hsz3 ?_)
      refine DF (base:=base) hfr (hl.of_keeps fun b o hb hnf=>⟨o,(other b fun z=>by subst z; rw [hT] at hb; cases hb; exact hnf ts hdT).trans hb,rfl⟩) hf (by rw [hzz]; exact hlo) (fun b hb=>hH b (by rw [hzz] at hb; exact hb)) le he0 ((other e (Ne.symm hTe)).trans he) hc hdd hd hsz fun h' w x'=>h h' ([T] ++ [e]) (fun b hb=>?_) (w1.trans w) x'
      rcases List.mem_append.mp hb with hb | hb
      · have e':b=T:=by simpa using hb
        subst e'; exact ⟨lT,hT0,oT,ts,hT,hdT⟩
      · have e':b=e:=by simpa using hb
        subst e'; exact ⟨le,he0,oe,vs,he,hd⟩
end
noncomputable def Cx.lo (X:Cx):Nat:=X.pn.foldr (fun p n=>max (p.1 + 1) n) X.s₀.heap.objs.size
theorem DE {X:Cx}:X.s₀.heap.objs.size≤X.lo:=by
  unfold Cx.lo
  induction X.pn with
  | nil=>exact Nat.le_refl _
  | cons p r ih=>exact Nat.le_trans ih (Nat.le_max_right _ _)
theorem NJ {X:Cx}:∀ p∈X.pn,p.1 < X.lo:=by
  unfold Cx.lo
  induction X.pn with
  | nil=>intro p hp; cases hp
  | cons q r ih =>
    intro p hp
    rcases List.mem_cons.mp hp with e | hp
    · subst e; exact Nat.lt_of_lt_of_le (Nat.lt_succ_self _) (Nat.le_max_left _ _)
    · exact Nat.lt_of_lt_of_le (ih p hp) (Nat.le_max_right _ _)
section
variable {X:Cx} {pins:List (Addr×Obj)} {σ:St} {H:Hp} {s:Shared}
theorem Inv.lo_le (I:Inv X pins σ H s):X.lo≤s.heap.objs.size:=by
  have h:∀ l:List (Addr×Obj),(∀ p∈l,p.1 < s.heap.objs.size)→l.foldr (fun p n=>max (p.1 + 1) n) X.s₀.heap.objs.size≤s.heap.objs.size:=fun l=>by
    induction l with
    | nil=>intro _; exact I.sz
    | cons p r ih=>intro h; exact Nat.max_le.mpr ⟨h p (List.mem_cons_self ..),ih fun q hq=>h q (List.mem_cons_of_mem _ hq)⟩
  exact h X.pn fun p hp=>Heap.lt_size (I.pin p (List.mem_append_left _ hp)).1
theorem Inv.nopins (I:Inv X pins σ H s):Inv X [] σ H s:=I.pins_of fun _ z=>nomatch z
theorem Inv.way {h':Heap} {ch:List Addr} (I:Inv X [] σ H s) (hc:oM s.heap X.lo H ch) (w:Way (frs X.stack) ch s.heap h'):Inv X [] σ H { s with heap:=h' }:=by
  have nch:∀ b u,H b=some u→b∉ ch:=fun b u e z=>by rw [(hc b z).2.1] at e; cases e
  have nfs:∀ b u,H b=some u→b∉ frs X.stack:=fun b u e z=>by rw [I.stkFree b z] at e; cases e
  refine I.call (g':=s.gens) (t':=s.toks) (d':=s.drawn) (ch:=ch) (H':=H) ⟨fun b o e n hf hx=>w.keep b o hf hx e,fun b o e n hf hx=>w.slot b o hf e,fun _ _ _ n _=>n,fun b o e _=>w.there b o e,fun _ _ e=>e,fun _ _ _ e=>e,fun b ps e=>⟨#[],by rw [e]; simp⟩⟩ (fun b u e=>?_) I.bare fun b hb=>?_
  · refine (I.hok b u e).stay (fun c v hcv q=>?_) (fun _ q=>q) fun _ _ q=>q
    rcases hcv with z | z
    · rw [z] at q ⊢; exact w.keep b v (nfs b u e) (nch b u e) q
    · exact w.keep c v (nfs c _ z) (nch c _ z) q
  · obtain ⟨l1,n1,o,vs,ho,hd⟩:=hc b hb
    refine ⟨.inr (Nat.le_trans DE l1),fun z=>?_,fun x c e z=>?_,fun p hp z=>?_⟩
    · obtain ⟨m,⟨o',es,ep,ho',hd',_⟩,_⟩:=I.loc
      rw [←z,ho] at ho'; cases ho'; rw [hd] at hd'; cases hd'
    · obtain ⟨v,o',ho',hd'⟩:=I.cell x c e
      rw [z,ho] at ho'; cases ho'; rw [hd] at hd'; cases hd'
    · have:=NJ p (by simpa using hp)
      rw [z] at this
      exact absurd l1 (Nat.not_le.mpr this)
end
noncomputable def CXo (P:Program) (w:World):CXT:=fun outer H s E e s'=>∃ a C d H',e= .ref a∧s'.os=s.os∧AllBare s'.gens∧Un (frs outer) [] H H' s.heap s'.heap∧HOk P w H' s'.heap∧fM s'.heap s.heap.objs.size H' a C d∧E C d H'
noncomputable def xeO (X:Cx) (E:XK):Value→Shared→Prop:=fun e s'=>∃ a C d σ H',e= .ref a∧Inv X [] σ H' s'∧nK s'.heap X.lo H' a C d∧E C d H'
structure Own (X:Cx):Prop where
  st:X.stack=X.env :: X.outer
  fr:X.env.frame=some X.env.locals
theorem fM.mono {h:Heap} {lo lo':Nat} {H:Hp} {e:Addr} {C:Value} {d:Option Addr} (x:fM h lo H e C d) (hl:lo'≤lo):fM h lo' H e C d:=by
  obtain ⟨le,he0,oe,vs,he,hc,hdd,hd,hsz,T,oT,ts,fl,h1,lT,r⟩:=x
  exact ⟨Nat.le_trans hl le,he0,oe,vs,he,hc,hdd,hd,hsz,T,oT,ts,fl,h1,Nat.le_trans hl lT,r⟩
section
variable {X:Cx} {E:XK}
theorem zW {a:Addr} {C:Value} {d:Option Addr} {σ:St} {H:Hp} {s:Shared} {M:Model} {E':Value→Shared→Prop} {Q:Unit→Shared→Prop} (ow:Own X) (I:Inv X [] σ H s) (x:nK s.heap X.lo H a C d)
    (h:∀ h',Inv X [] σ H { s with heap:=h' }→fM h' X.lo H a C d→Q () { s with heap:=h' }):wpAny M X.A (noteFrame (.ref a) X.env) Q E' s:=by
  have hl:=I.stack
  rw [ow.st] at hl
  refine ZK (base:=X.base) (outer:=X.outer) (by rw [I.ok.frames,ow.st]) hl ow.fr I.lo_le (fun b hb=>I.hok.fresh hb) x fun h' ch hc w x'=>?_
  rw [←ow.st] at w
  exact h h' (I.way hc w) x'
theorem kQ {a:Addr} {C:Value} {d fo:Option Addr} {σ:St} {H:Hp} {s:Shared} {M:Model} {A:Around} {E':Value→Shared→Prop} {Q:Unit→Shared→Prop} (ow:Own X) (I:Inv X [] σ H s) (x:nK s.heap X.lo H a C d)
    (h:∀ h',Inv X [] σ H { s with heap:=h' }→nK h' X.lo H a C d→(fM s.heap X.lo H a C d→fM h' X.lo H a C d)→Q () { s with heap:=h' }):wpAny M A (setFlight (.ref a) fo) Q E' s:=by
  have hl:=I.stack
  rw [ow.st] at hl
  refine NG (base:=X.base) (outer:=X.outer) (env:=X.env) hl x fun h' ch hc w x' xt=>?_
  rw [←ow.st] at w
  exact h h' (I.way hc w) x' xt
theorem BR {h:Heap} {lo:Nat} {H:Hp} {a:Addr} {C:Value} {d:Option Addr} {M:Model} {A:Around} {E':Value→Shared→Prop} {Q:Value→Shared→Prop} {s:Shared} (x:fM s.heap lo H a C d) (h:∀ T,Q (.ref T) s):wpAny M A (field (.ref a) 1) Q E' s:=by
  obtain ⟨le,he0,oe,vs,he,hc,hdd,hd,hsz,T,oT,ts,fl,h1,r⟩:=x
  exact wpAny_field he hd h1 (h T)
theorem aDG {a:Addr} {C:Value} {d:Option Addr} {σ:St} {H:Hp} {s:Shared} (ow:Own X) (I:Inv X [] σ H s) (x:fM s.heap X.lo H a C d) (q:E C d H):cameBackBy (model X.prog X.w) X.A X.env (xeO X E) (.ref a) s:=by
  unfold cameBackBy
  refine wpAny_bind (BR (h:=s.heap) x fun T=>?_)
  rw [if_neg (by simp)]
  exact kQ ow I (.inr x) fun h' I' x' _=>⟨a,C,d,σ,H,rfl,I',x',q⟩
theorem aDR (ow:Own X):PassesOwn (model X.prog X.w) X.A X.env (xeO X E):=by
  rintro e s' ⟨a,C,d,σ,H,rfl,I,x,q⟩
  unfold notedBy
  exact zW ow I x fun h' I' x'=>aDG ow I' x' q
theorem aAx {s':Shared} {e:Value} {M:Model} {E':Value→Shared→Prop} {Q:Unit→Shared→Prop} (ow:Own X) (hx:xeO X E e s') (h:∀ s'' a C d σ H,e= .ref a→Inv X [] σ H s''→fM s''.heap X.lo H a C d→E C d H→Q () s''):wpAny M X.A (leaving X.env e) Q E' s':=by
  obtain ⟨a,C,d,σ,H,rfl,I,x,q⟩:=hx
  unfold leaving
  refine wpAny_bind (zW ow I x fun h' I' x'=>?_)
  exact kQ ow I' (.inr x') fun h2 I2 _ x2=>h _ a C d σ H rfl I2 (x2 x') q
theorem PSs.wishO {st:List Stmt} {t:TS} {E2:Value→Shared→Prop} (h:PSs (X.wish E2) st t) (f:∀ e s',E2 e s'→X.xe e s'):PSs X st t:=fun pins s σ H D I hw =>
  wpAny_mono (h pins s σ H D (I.wish _) hw) (fun _ _ q=>q.unwish) f
end
theorem IQ {CX:CXT} {P:Program} {w:World} {K:W.Frag} {mg:Str→Option Value} {base:Heap} {N:List Str} {qual:Str} {scope:Scope} {f:Addr} {cd:Value} {A:Around} {outer:List Env} {s:Shared} {H:Hp} {E:XK} :
    Own (lM CX P w K mg base N qual scope f cd A outer s H E):=⟨rfl,rfl⟩
theorem aB7 {P:Program} {w:World} {K:W.Frag} {mg:Str→Option Value} {base:Heap} {k:Nat} {f:Addr} {name qual:Str} {params:Arguments} {body:List Stmt} {scope:Scope} {dV kV doc pm cdv ct oc:Value} {an od:Option Addr}
    {osl:Array (Option Value)} {N ps:List Str} {sp:Sp} (lk:K.lookup f=some ⟨oc,od,.func (W.fnOf name qual params body scope dV kV doc pm an cdv ct),osl⟩) (hcd:W.codeIn K cdv qual=true) (S:gD N ps scope)
    (len:∀ vs H Q E,sp vs H Q E→vs.length=ps.length)
    (hbody:∀ (A:Around) (outer:List Env) (s:Shared) (H:Hp) (vs:List V) (Q:VK) (E:XK),bC k (A.deeper (envOfC qual scope s.heap.objs.size f cdv))→sp vs H Q E→
      ∃ t,PSs ((lM (CXo P w) P w K mg base N qual scope f cdv A outer s H E).wish (xeO (lM (CXo P w) P w K mg base N qual scope f cdv A outer s H E) E)) body t∧t { nx:=fun _ H'=>Q .non H',rt:=Q } (start N vs) H) :
    bL P w K mg base (CXo P w) (k + 1) f (W.fnOf name qual params body scope dV kV doc pm an cdv ct) ps sp:=by
  refine KO lk hcd S len fun A outer s H vs Q E hr hsp=>?_
  obtain ⟨t,ht,hq⟩:=hbody A outer s H vs Q E hr hsp
  refine ⟨t,ht.wishO fun e s' hx=>?_,hq⟩
  have ow:Own (lM (CXo P w) P w K mg base N qual scope f cdv A outer s H E):=IQ
  show wpAny _ _ (leaving _ e) _ _ s'
  refine aAx ow hx fun s'' a C d σ H' ee I x q=>?_
  exact ⟨a,C,d,H',ee,I.os,I.bare,I.base,I.hok,x,q⟩
end L2
namespace LX
open PySem PySem.W PyProof.Rows
open PySem.Builtin PySem.Builtin.ObjectAttr
noncomputable def vE:List Value:=[.type "ValueError",.type "Exception",.type "BaseException",.type "object"]
noncomputable def aE:List Value:=[.type "ArithmeticError",.type "Exception",.type "BaseException",.type "object"]
noncomputable def lE:List Value:=[.type "LookupError",.type "Exception",.type "BaseException",.type "object"]
noncomputable def iF:List Value→Bool
  | .ref _ :: r=>iF r
  | l=>l == vE || l == aE || l == lE
theorem OO (self:Value):refuseLoop self "__setattr__" vE=pure ():=by kernel_rfl
theorem MP (self:Value):refuseLoop self "__setattr__" aE=pure ():=by kernel_rfl
theorem NO (self:Value):refuseLoop self "__setattr__" lE=pure ():=by kernel_rfl
theorem lV {v:Value} {r:List Value} (e:iF (v :: r)=true):(∃ c,v= .ref c∧iF r=true)∨(v :: r=vE∨v :: r=aE∨v :: r=lE):=by
  cases v with
  | ref c=>exact .inl ⟨c,rfl,e⟩
  | _ =>
    refine .inr ?_
    unfold iF at e
    simp only [Bool.or_eq_true,beq_iff_eq] at e
    rcases e with (e | e) | e
    · exact .inl e
    · exact .inr (.inl e)
    · exact .inr (.inr e)
theorem oP (self:Value):∀ {l:List Value},iF l=true→refuseLoop self "__setattr__" l=pure ()
  | [],e=>by cases e
  | v :: r,e=>by
    rcases lV e with ⟨c,rfl,e⟩ | e | e | e
    · rw [refuseLoop_ref]; exact oP self e
    · rw [e]; exact OO self
    · rw [e]; exact MP self
    · rw [e]; exact NO self
theorem DI:∀ {l:List Value},iF l=true→l.contains (.type "object")=true
  | [],e=>by cases e
  | v :: r,e=>by
    rcases lV e with ⟨c,rfl,e'⟩ | e | e | e
    · rw [List.contains_cons,DI e',Bool.or_true]
    · rw [e]; decide
    · rw [e]; decide
    · rw [e]; decide
theorem oW:∀ {l:List Value},iF l=true→l.contains (.type "BaseException")=true
  | [],e=>by cases e
  | v :: r,e=>by
    rcases lV e with ⟨c,rfl,e'⟩ | e | e | e
    · rw [List.contains_cons,oW e',Bool.or_true]
    · rw [e]; decide
    · rw [e]; decide
    · rw [e]; decide
theorem nA:Slot "ValueError" "__getattribute__" "BaseException.__getattribute__":=PySem.F.excAttr_ValueError.ga
noncomputable def eS (K:Frag) (C:Addr):Bool:=(clsIn K C).any fun cd=>iF cd.mro
section
variable {prog:Program} {w:World} {A:Around} {E:Value→Shared→Prop} {s:Shared} {K:Frag} {x C:Addr} {name:Str} {v:Value} {R:Result→Shared→Prop}
theorem HC {ox:Obj} {od:Option Obj} {tk:Tok} {r:Option Value} (X:K.In s.heap) (I:InstAt s.heap x ox C od) (hp:eS K C=true) (ht:takerIn K C name=some r)
    (h :∀ b,wpAny (model prog w) A.in1 (match r with | some a=>setByDescriptor a (.ref x) v | none=>storeInOwnDict (.ref x) (.ref C) (.str name tk) name v b)
      (fun fin s'=>match fin with | .done f=>R (.ok f) s' | .again c'=>c'.quiet=true∧codeAny (model prog w) A c' R s') (fun e s'=>R (.error e) s') s) :
    codeAny (model prog w) A (.call (.builtin "object.__setattr__") ⟨[.ref x,.str name tk,v],[]⟩) R s:=by
  have SF:=PySem.F.store_object
  obtain ⟨cd,hc,ho⟩:=any_some hp
  have ne:cd.mro.isEmpty=false:=by cases q:cd.mro with | nil=>rw [q] at ho; cases ho | cons _ _=>rfl
  have sub:Looks (model prog w) s.heap (isInstance (.ref x) (.type "object")) true:=I.type.andThen (looks_mroIn X (by unfold mroIn; rw [hc,Option.bind_some,if_neg (by rw [ne]; decide),DI ho]))
  refine codeAny_call_builtin SF.slot.plain SF.entry (@check_slot (model prog w) _ _ s "object.__setattr__" "object" "__setattr__" (.ref x) [.str name tk,v] [] _ SF.kind SF.split sub (SF.args (.ref x) (.str name tk) v) ?_)
  obtain ⟨attr,ha,hr⟩:=Option.bind_eq_some_iff.mp ht
  have hm:Looks (model prog w) s.heap (mroOf (.ref C)) cd.mro:=(looks_clsIn X hc).andThen .now
  have L3:Looks (model prog w) s.heap (storeTaker? attr) r:=by
    cases attr with
    | none=>cases hr; exact .now
    | some a =>
      obtain ⟨b,hb,rfl⟩:=Option.map_eq_some_iff.mp hr
      refine (looks_takesIn X hb).andThen ?_
      cases b <;> exact .now
  rw [osa_eq,refuse_eq]
  refine wpAny_bind (wpAny_bind (I.type.here (wpAny_bind (hm.here ?_))))
  rw [oP _ ho]
  refine wpAny_pure (wpAny_bind (I.type.here (wpAny_bind ((looks_findIn X ha).here (wpAny_bind (L3.here ?_))))))
  exact h _
theorem QA {vs:Array Value} {Q:Unit→Shared→Prop} (X:K.In s.heap) (hx:s.heap.get? x=some ⟨.ref C,none,.fields vs, #[]⟩)
    (hs:findIn K (.ref C) "__setattr__"=some (some (.builtin "object.__setattr__"))) (hp:eS K C=true) (ht:takerIn K C name=some none) (hh:hasDictIn K C=true)
    (h:∀ h' d,s.heap.objs.size≤d→h'.get? x=some ⟨.ref C,some d,.fields vs, #[]⟩→h'.Ns1 d (fun y=>if y=name then some v else none)→(∀ b o,b≠x→s.heap.get? b=some o→h'.get? b=some o)→Q () { s with heap:=h',toks:=s.toks + 2 }) :
    wpAny (model prog w) A (setAttr (.ref x) name v) Q E s:=by
  have J:InstAt s.heap x ⟨.ref C,none,.fields vs, #[]⟩ C none:=⟨hx,rfl,rfl,trivial⟩
  refine set_plain X J hs (HC (s:={ s with toks:=s.toks + 1 }) (r:=none) X J hp ht fun b=>?_)
  obtain ⟨cd,hc,hd'⟩:=any_some hh
  refine wpAny_bind (wpAny_pure (wpAny_bind (wpAny_bind (wpAny_loadPart hx (wpAny_bind (Looks.here (s:={ s with toks:=s.toks + 1 }) (looks_clsIn X hc) ?_))))))
  rw [hd']
  dsimp only
  rw [if_neg (by decide),if_neg (by simp [typeHasDict])]
  obtain ⟨hp2,g,d2,tk,os⟩:=s
  have hx₁:(hp2.push { cls:=.type "dict",data:=.dict #[] }).get? x=some ⟨.ref C,none,.fields vs, #[]⟩:=Heap.get?_push_of_some _ hx
  have hxs:x≠hp2.objs.size:=Nat.ne_of_lt (Heap.lt_size hx)
  refine wpAny_bind (wpAny_alloc' ?_)
  refine wpAny_bind (wpAny_update' hx₁ ?_)
  refine wpAny_pure (a:=some hp2.objs.size) ?_
  have hgd:((hp2.push { cls:=.type "dict",data:=.dict #[] }).update x fun o=>{ cls:=o.cls,dict:=some hp2.objs.size,data:=o.data,slots:=o.slots }).get? hp2.objs.size
      =some { cls:=.type "dict",data:=.dict #[] } :=
    (Heap.get?_update_ne _ _ _ _ hxs.symm).trans (Heap.get?_push_at rfl rfl)
  have hnd:((hp2.push { cls:=.type "dict",data:=.dict #[] }).update x fun o=>{ cls:=o.cls,dict:=some hp2.objs.size,data:=o.data,slots:=o.slots }).Ns hp2.objs.size (fun _=>none) :=
    ⟨_, #[],_,hgd,rfl,fun e he=>absurd he (by simp),fun _=>rfl⟩
  show wpAny _ _ (storeInDict hp2.objs.size (.str name _) name v) _ _ _
  unfold storeInDict newKeyGuard
  refine wpAny_bind (wpAny_pure (wpAny_bind (wpAny_nsSet1 (Heap.Ns1.of_empty hnd) fun h' hn' hs=>?_)))
  obtain ⟨oD,esD,epD,hoD,hdD,hcD⟩:=hn'.count (Within.cons name v Within.nil)
  refine wpAny_bind (wpAny_lookBehind hoD (by rw [hdD]; exact pastItsLine_dict (Nat.le_trans hcD (by rw [List.length_cons,List.length_nil,sizeLine_eq]; omega))) ?_)
  refine wpAny_pure (h h' hp2.objs.size (Nat.le_refl _) ?_ hn' fun b o hb ho=>?_)
  · exact (hs.2 x hxs).trans (Heap.get?_update_self _ hx₁ rfl)
  · exact (hs.2 b (Nat.ne_of_lt (Heap.lt_size ho))).trans ((Heap.get?_update_ne _ _ _ _ hb).trans (Heap.get?_push_of_some _ ho))
theorem SL {ox:Obj} {od:Option Obj} {expr:Bool} {Q:Value→Shared→Prop} (X:K.In s.heap) (I:InstAt s.heap x ox C od) (hga:findIn K (.ref C) "__getattribute__"=some (some (.builtin "BaseException.__getattribute__")))
    (hk:findIn K (.ref C) "__getattr__"=some none) (hp:eS K C=true) (hf:findObj K C od name=some (.value v)) (hh:handedIn v=true) (h:Q v { s with toks:=s.toks + 1 }) :
    wpAny (model prog w) A (getAttr (.ref x) name expr) Q E s:=by
  obtain ⟨cd,hc,ho⟩:=any_some hp
  have ne:cd.mro.isEmpty=false:=by cases q:cd.mro with | nil=>rw [q] at ho; cases ho | cons _ _=>rfl
  have sub:Looks (model prog w) s.heap (isInstance (.ref x) (.type "BaseException")) true:=I.type.andThen (looks_mroIn X (by unfold mroIn; rw [hc,Option.bind_some,if_neg (by rw [ne]; decide),oW ho]))
  have L0:=I.type (M:=model prog w)
  have L1:=looks_findIn (M:=model prog w) X hga
  have L2:=looks_findIn (M:=model prog w) X hk
  have L3:=looks_find (M:=model prog w) X I hf
  obtain ⟨hh',g,d,t,os⟩:=s
  unfold getAttr getAttrBy
  refine wpAny_bind (wpAny_mkText (wpAny_holding (wpAny_bind (L0.at (wpAny_bind (L1.at ?_))))))
  dsimp only
  rw [if_neg (by simp [onTheHeap])]
  unfold getAttrByItsOwn hookBefore
  rw [if_pos (show onTheHeap (Value.ref C)=true from rfl)]
  refine wpAny_bind (L2.at (wpAny_bind (wpAny_attempt (wpAny_holding ?_))))
  unfold callGetattribute
  rw [if_neg (by cases expr <;> simp [onTheHeap])]
  unfold boundAndCalled
  rw [nA.bind]
  refine wpAny_bind (wpAny_pure (wpAny_call ?_))
  refine codeAny_call_builtin nA.plain PySem.F.entry_bexc_ga (@check_slot (model prog w) _ _ _ "BaseException.__getattribute__" "BaseException" "__getattribute__" (.ref x) [.str name _] [] _ (by decide +kernel) (by decide +kernel) sub (PySem.F.args_bexc_ga (.ref x) _) ?_)
  refine wpAny_bind (wpAny_pure (wpAny_bind (wpAny_pure (a:=name) (wpAny_bind (L0.at (wpAny_bind (L3.at ?_)))))))
  refine wpAny_pure ?_
  show wpAny _ _ (handedOut v) _ _ _
  rw [handedOut_of hh]; exact wpAny_pure h
end
end LX
namespace LX
open PySem PySem.W PyProof.Rows
open PySem.Builtin PySem.Builtin.ObjectAttr
noncomputable abbrev exO (C:Value) (d:Option Addr) (t:Addr):Obj:={ cls:=C,dict:=d,data:=.fields #[.ref t,.none,.none,.none,.bool false,.none] }
section
variable {prog:Program} {w:World} {A:Around} {E:Value→Shared→Prop} {h:Heap} {g:Array GenState} {d:Drawn} {t:Nat} {os:OsState}
variable {nm q:Str} {C N:Addr} {bs bm bmB:List Value} {hdct:Bool} {sn:List Str} {sub:List Value} {ab:Bool} {col:Option Bool} {dd:Option Addr} {k0 k1 k2 k3 k5:Option Value} {B newId initId:String}
noncomputable abbrev mdX (h:Heap) (C:Addr) (aY:List Value):Heap:=(h.push { cls:=.type "tuple",data:=.seq aY.toArray }).push (exO (.ref C) none h.objs.size)
theorem yY (F:ExcBaseFacts B newId initId bmB) (T:OwnTail h bmB bm) {mN:Str→Option Value} {aY:List Value} {fI:Addr} {oI:Obj} {Q:Fin→Shared→Prop}
    (hC:h.get? C=some (excClassObj nm q C N bs bm hdct sn sub ab col dd k0 k1 k2 k3 k5 newId)) (hn:h.Ns N mN) (hi:mN "__init__"=some (.ref fI))
    (hfI:h.get? fI=some oI) (hfc:oI.cls= .type "function")
    (hq:wpAny (model prog w) A (call (.ref fI) (.ref (h.objs.size + 1) :: aY)) (fun r s'=>r= .none∧Q (.done (.ret (.ref (h.objs.size + 1)))) s') E ⟨mdX h C aY,g,d,t,os⟩) (hrest:aY.length≤sizeLine:=by size_fits) :
    wpAny (model prog w) A (Builtin.«type.__call__» ⟨.ref C :: aY,[]⟩) Q E ⟨h,g,d,t,os⟩:=by
  repeat (first | with_reducible refine wpAny_loadPart_at hC ?_ | with_reducible refine wpAny_madeBy_exc hC ?_ | wp_step)
  refine codeAny_call_builtin_code (Code.quiet_builtin _ F.quiet) (wpAny_check_new_subT F T hC ?_)
  refine codeAny_exc_new_subT F T hC ?_ hrest
  show wpAny _ _ _ _ _ _
  have hC₁:=Heap.get?_push_of_some { cls:=.ref C,data:=.fields #[.ref h.objs.size,.none,.none,.none,.bool false,.none] }
    (Heap.get?_push_of_some { cls:=.type "tuple",data:=.seq aY.toArray } hC)
  have hfI₁:=Heap.get?_push_of_some { cls:=.ref C,data:=.fields #[.ref h.objs.size,.none,.none,.none,.bool false,.none] }
    (Heap.get?_push_of_some { cls:=.type "tuple",data:=.seq aY.toArray } hfI)
  have hn₁:((h.push { cls:=.type "tuple",data:=.seq aY.toArray }).push { cls:=.ref C,data:=.fields #[.ref h.objs.size,.none,.none,.none,.bool false,.none] }).Ns N mN:=let ⟨o,es,ep,e,r⟩:=hn; ⟨o,es,ep,Heap.get?_push_of_some _ (Heap.get?_push_of_some _ e),r⟩
  have hget:((h.push { cls:=.type "tuple",data:=.seq aY.toArray }).push { cls:=.ref C,data:=.fields #[.ref h.objs.size,.none,.none,.none,.bool false,.none] }).get? (h.objs.size + 1)=some { cls:=.ref C,data:=.fields #[.ref h.objs.size,.none,.none,.none,.bool false,.none] }:=by heap_get
  have hcC:(Value.ref C :: bm).contains (.ref C)=true:=by simp
  have T₁:=T.keeps (h':=((h.push { cls:=.type "tuple",data:=.seq aY.toArray }).push { cls:=.ref C,data:=.fields #[.ref h.objs.size,.none,.none,.none,.bool false,.none] })) fun b o e=>Heap.get?_push_of_some _ (Heap.get?_push_of_some _ e)
  unfold isInstance
  repeat (first | with_reducible refine wpAny_loadPart_at hget ?_ | (with_reducible refine wpAny_isSubtype_exc hC₁ ?_; rw [hcC]) | wp_step)
  show wpAny _ _ (typeLookup (.ref C) _) _ _ _
  refine wpAny_typeLookup_tail hC₁ hn₁ T₁ F.mroIs F.init.lookup ?_
  rw [hi]
  refine wpAny_holding (wpAny_bind ?_)
  unfold bindSpecial
  refine wpAny_bind (wpAny_typeOf (T:="function") ⟨_,hfI₁,hfc⟩ ?_)
  rw [if_pos (by decide)]
  refine wpAny_pure (wpAny_bind (wpAny_mono hq (fun r s' hr=>?_) fun _ _ x=>x))
  obtain ⟨rfl,hQ⟩:=hr
  wp_walk
  exact hQ
theorem EO (F:ExcBaseFacts B newId initId bmB) (T:OwnTail h bmB bm) {mN:Str→Option Value} {aY:List Value} {fI:Addr} {oI:Obj} {Q:Value→Shared→Prop}
    (hC:h.get? C=some (excClassObj nm q C N bs bm hdct sn sub ab col dd k0 k1 k2 k3 k5 newId)) (hn:h.Ns N mN) (hi:mN "__init__"=some (.ref fI))
    (hfI:h.get? fI=some oI) (hfc:oI.cls= .type "function")
    (hq:wpAny (model prog w) (A.under (.builtin "type.__call__" ⟨.ref C :: aY,[]⟩)) (call (.ref fI) (.ref (h.objs.size + 1) :: aY)) (fun r s'=>r= .none∧Q (.ref (h.objs.size + 1)) s') E ⟨mdX h C aY,g,d,t,os⟩) (hrest:aY.length≤sizeLine:=by size_fits) :
    wpAny (model prog w) A (call (.ref C) aY) Q E ⟨h,g,d,t,os⟩:=by
  have f1:=tc_lookup
  have f2:=tc_bind (.ref C)
  have hT:(⟨h,g,d,t,os⟩:Shared).TypeIs (.ref C) "type":=⟨_,hC,rfl⟩
  refine wpAny_call (codeAny_of_tree ?_)
  show wpAny _ _ (callAny (.ref C) _) _ _ _
  repeat (any_goals (first | assumption | with_reducible refine wpAny_loadPart_at hC ?_ | wp_step))
  refine ⟨rfl, ?_⟩
  refine codeAny_call_builtin_at (Code.quiet_builtin _ (by decide +kernel)) entry_typeCall (wpAny_check_type_call_sub hC (yY (hrest:=hrest) F T hC hn hi hfI hfc hq))
theorem GQ (F:ExcBaseFacts B newId initId bmB) (T:OwnTail h bmB bm) {e t0:Addr} {aY:List Value} {Q:Value→Shared→Prop}
    (hC:h.get? C=some (excClassObj nm q C N bs bm hdct sn sub ab col dd k0 k1 k2 k3 k5 newId)) (he:h.get? e=some (exO (.ref C) none t0))
    (hq:∀ h' tt,(∀ b o,b≠e→h.get? b=some o→h'.get? b=some o)→h'.get? e=some (exO (.ref C) none tt)→Q .none ⟨h',g,d,t,os⟩) (hrest:aY.length≤sizeLine:=by size_fits) :
    wpAny (model prog w) A (call (.builtin initId) (.ref e :: aY)) Q E ⟨h,g,d,t,os⟩:=by
  have he:h.get? e=some { cls:=.ref C,data:=.fields #[.ref t0,.none,.none,.none,.bool false,.none] }:=he
  refine wpAny_call (codeAny_call_builtin F.init.plain F.initEntry (wpAny_check_init_subT F T hC he rfl ?_))
  wp_walk
  refine hq _ h.objs.size (fun b o hb ho=>?_) ?_
  · rw [Heap.get?_update_other _ _ (Ne.symm hb)]
    exact Heap.get?_push_of_some _ ho
  · rw [Heap.get?_update_self _ (Heap.get?_push_of_some _ he) rfl]
    rfl
theorem RZ {s:Shared} {x:Sem Value} {env:Env} {Q:Flow→Shared→Prop} (hbase:bm.contains (.type "BaseException")=true) (hh:A.handled=none)
    (hx:wpAny (model prog w) A x (fun v s₁=>∃ e tt dx,v= .ref e∧s₁.heap.get? C=some (excClassObj nm q C N bs bm hdct sn sub ab col dd k0 k1 k2 k3 k5 newId)∧
      s₁.heap.get? e=some (exO (.ref C) dx tt)∧E (.ref e) s₁) E s) :
    wpAny (model prog w) A (raiseStmt env (some x) none) Q E s:=by
  have hcB:(Value.ref C :: bm).contains (.type "BaseException")=true:=by rw [List.contains_cons,hbase,Bool.or_true]
  unfold raiseStmt
  refine wpAny_bind (wpAny_mono hx (fun v s₁ h₁=>?_) fun _ _ x=>x)
  obtain ⟨e,t,dx,rfl,hC,he,hE⟩:=h₁
  obtain ⟨hp,g,d,tk,os⟩:=s₁
  have he:hp.get? e=some { cls:=.ref C,dict:=dx,data:=.fields #[.ref t,.none,.none,.none,.bool false,.none] }:=he
  repeat (first | with_reducible refine wpAny_loadPart_at he ?_ | with_reducible refine wpAny_loadPart_at hC ?_ | (with_reducible refine wpAny_isSubtype_exc hC ?_; rw [hcB]) | wp_step)
  exact wpAny_raiseNew_none hh hE
end
end LX
namespace LX
open PySem PySem.W PyProof.Rows
theorem BP {K:Frag} {h:Heap} {N:Addr} {mg:Str→Option Value} {n:Str} {v:Value} (X:K.In h) (G:h.Ns N mg) (e:nsIn K N n=some (some v)):mg n=some v:=by
  obtain ⟨o,es,ep,ho,hd,_,hf⟩:=G
  unfold nsIn at e
  split at e
  · rename_i c d es' n' sl q
    have:=X _ _ q
    rw [ho] at this
    cases this
    cases hd
    split at e
    · rename_i he
      rw [←hf]
      unfold nsFind findBy
      rw [←Array.find?_toList,he]
      exact Option.some.inj e
    · split at e
      · cases e
      · cases e
  · cases e
theorem aDQ {K:Frag} {h:Heap} {N:Addr} {n:Str} {iv:Option Value} (X:K.In h) (e:nsOkIn K N=true) (q:nsIn K N n=some iv):h.nsMap N n=iv:=by
  cases iv with
  | none=>exact nsMap_none_of_in X e q
  | some v=>exact BP X (.of_isNs (isNs_of_in X e)) q
noncomputable def tW (K:Frag) (C:Addr) (bmB:List Value) (newId:String) (iv:Option Value):Bool:=match K.lookup C with
  | some ⟨.type "type",_,.cls cd,sl⟩=>(match cd.mro,sl.toList with
    | .ref C' :: bm,[_,_,_,_,some (.builtin n),_]=>C' == C && n == newId && !cd.hasDel && tailIn K bmB bm && nsOkIn K cd.ns && nsIn K cd.ns "__init__" == some iv
    | _,_=>false)
  | _=>false
structure Shp (K:Frag) (C:Addr) (bmB:List Value) (newId:String) (iv:Option Value) (bm:List Value) (N:Addr) (nm qn:Str) (bs:List Value) (hd:Bool) (sn:List Str) (sub:List Value) (ab:Bool) (col:Option Bool) (dd:Option Addr) (k0 k1 k2 k3 k5:Option Value):Prop where
  lk:K.lookup C=some (excClassObj nm qn C N bs bm hd sn sub ab col dd k0 k1 k2 k3 k5 newId)
  ok:nsOkIn K N=true
  ini:nsIn K N "__init__"=some iv
  tl:tailIn K bmB bm=true
theorem wW {K:Frag} {C:Addr} {bmB:List Value} {newId:String} {iv:Option Value} (q:tW K C bmB newId iv=true) :
    ∃ bm N nm qn bs hd sn sub ab col dd k0 k1 k2 k3 k5,Shp K C bmB newId iv bm N nm qn bs hd sn sub ab col dd k0 k1 k2 k3 k5:=by
  unfold tW at q
  split at q
  · rename_i dd cd sl ho
    split at q
    · rename_i C' bm k0 k1 k2 k3 n k5 hm hs
      simp only [Bool.and_eq_true,beq_iff_eq,Bool.not_eq_true'] at q
      obtain ⟨⟨⟨⟨⟨rfl,rfl⟩,hdel⟩,ht⟩,hok⟩,hni⟩:=q
      obtain ⟨nm,bs,mro,ns,qn,hd,sn,sub,ab,col,del⟩:=cd
      dsimp only at hm hdel hok hni
      subst hm hdel
      have hsl:sl= #[k0,k1,k2,k3,some (.builtin n),k5]:=by
        obtain ⟨l⟩:=sl
        simp only at hs
        rw [hs]
      subst hsl
      exact ⟨bm,ns,nm,qn,bs,hd,sn,sub,ab,col,dd,k0,k1,k2,k3,k5,ho,hok,hni,ht⟩
    · cases q
  · cases q
end LX
namespace L2
open PySem PySem.Spec
open PyProof.Rows hiding St
noncomputable def XN (e C:Addr):Heap→Prop:=fun h=>∃ t,h.get? e=some (LX.exO (.ref C) none t)
noncomputable def XD (e C d:Addr):Heap→Prop:=fun h=>∃ t,h.get? e=some (LX.exO (.ref C) (some d) t)
section
variable {P:Program} {w:World} {H:Hp} {h:Heap} {e C d:Addr}
theorem XN.ok (x:XN e C h):bJ P w H h e (.ext (XN e C)):=⟨x,let ⟨t,q⟩:=x; ⟨_,q⟩,fun h1 h2 ⟨t,q⟩ k=>⟨t,k _ q⟩⟩
theorem XD.ok (x:XD e C d h):bJ P w H h e (.ext (XD e C d)):=⟨x,let ⟨t,q⟩:=x; ⟨_,q⟩,fun h1 h2 ⟨t,q⟩ k=>⟨t,k _ q⟩⟩
end
noncomputable def del (H:Hp) (a:Addr):Hp:=fun b=>if b=a then none else H b
theorem tV {H:Hp} {a b:Addr} (h:b≠a):del H a b=H b:=if_neg h
theorem nV {H:Hp} {a:Addr}:del H a a=none:=if_pos rfl
section
variable {X:Cx} {pins:List (Addr×Obj)} {σ:St} {H:Hp} {s:Shared}
theorem Inv.untrack {e:Addr} {φ:Heap→Prop} (I:Inv X pins σ H s) (he:H e=some (.ext φ)):Inv X pins σ (del H e) s:=by
  have no:∀ b,H b=none→del H e b=none:=fun b n=>by
    by_cases z:b=e
    · subst z; exact nV
    · rw [tV z]; exact n
  have ke:∀ b u,H b=some u→u≠.ext φ→del H e b=some u:=fun b u q nu=>by
    rw [tV (JU q he nu)]; exact q
  refine ⟨I.ok,I.os,I.bare,⟨I.base.keep,I.base.slot,fun b o q n hx=>no b (I.base.free b o q n hx),I.base.there,fun b xs q=>ke _ _ (I.base.tups b xs q) (by intro z; cases z),fun b o u q=>ke _ _ (I.base.frzs b o u q) (by intro z; cases z),fun b ps q=>?_⟩,I.loc,I.cell,no _ I.free,fun x c q=>no _ (I.freeC x c q),fun p hp=>?_,fun b u q=>?_,I.len⟩
  · obtain ⟨m,e1⟩:=I.base.tbls b ps q
    exact ⟨m,ke _ _ e1 (by intro z; cases z)⟩
  · obtain ⟨a1,a2,a3⟩:=I.pin p hp
    exact ⟨a1,no _ a2,a3⟩
  · have z:b≠e:=fun z=>by subst z; rw [nV] at q; cases q
    rw [tV z] at q
    exact (I.hok b u q).stay (fun _ _ _ r=>r) (fun c r=>ke _ _ r (by intro z; cases z)) fun c xs r=>ke _ _ r (by intro z; cases z)
theorem Inv.xwrite {e C:Addr} {h':Heap} {t':Nat} (I:Inv X pins σ H s) (he:H e=some (.ext (XN e C))) (k:∀ b o,b≠e→s.heap.get? b=some o→h'.get? b=some o) (x:XN e C h'):Inv X pins σ H { s with heap:=h',toks:=t' }:=by
  have hu:upd H e (.ext (XN e C))=H:=by
    funext b
    unfold upd
    split
    · rename_i z; rw [z,he]
    · rfl
  have:=I.write (x:=e) (e:=e) (o:=.ext (XN e C)) (t':=t') (by rw [he]; exact True.intro) (.inl rfl) k (let ⟨t,q⟩:=x; ⟨_,q⟩) x.ok
  rw [hu] at this
  exact this
theorem Inv.xdict {e C d:Addr} {h':Heap} {t':Nat} {f:Str} {v:V} {u:Value} (I:Inv X pins σ H s) (he:H e=some (.ext (XN e C))) (hd:s.heap.objs.size≤d) (k:∀ b o,b≠e→s.heap.get? b=some o→h'.get? b=some o) (x:XD e C d h')
    (hn:h'.Ns1 d (fun y=>if y=f then some u else none)) (r:aQ v u):Inv X pins σ (upd (upd H e (.ext (XD e C d))) d (.xd [(f,v)])) { s with heap:=h',toks:=t' }:=by
  have hdn:H d=none:=I.hok.fresh hd
  have hde:d≠e:=fun z=>by subst z; rw [he] at hdn; cases hdn
  have ou:∀ b,b≠d→b≠e→upd (upd H e (.ext (XD e C d))) d (.xd [(f,v)]) b=H b:=fun b h1 h2=>by rw [aB h1,aB h2]
  have ke:∀ b o,H b=some o→o≠.ext (XN e C)→upd (upd H e (.ext (XD e C d))) d (.xd [(f,v)]) b=some o:=fun b o q nu=>by rw [ou b (aG q hdn) (JU q he nu)]; exact q
  have ne0:∀ b,H b=none→b≠e:=fun b n z=>by subst z; rw [he] at n; cases n
  have th:∀ b o,s.heap.get? b=some o→∃ o',h'.get? b=some o':=fun b o q=>by
    by_cases z:b=e
    · subst z; obtain ⟨t,q'⟩:=x; exact ⟨_,q'⟩
    · exact ⟨o,k b o z q⟩
  refine I.un ⟨fun b o q n _ _=>k b o (ne0 b n) q,fun b o q n _ _=>⟨o.slots,k b o (ne0 b n) q⟩,fun b o q n _=>?_,fun b o q _=>th b o q,fun b xs q=>ke b _ q (by intro z; cases z),fun b o u q=>ke b _ q (by intro z; cases z),fun b ps q=>⟨#[],by rw [ke b _ q (by intro z; cases z)]; simp⟩⟩ fun b o q=>?_
  · rw [ou b (Nat.ne_of_lt (Nat.lt_of_lt_of_le (Heap.lt_size q) hd)) (ne0 b n)]; exact n
  · by_cases z:b=d
    · subst z
      rw [aH] at q; cases q
      refine ⟨_,hn,fun g=>?_⟩
      by_cases z:g=f
      · subst z
        show lJ (List.lookup g [(g,v)]) _
        simp only [List.lookup,beq_self_eq_true,if_true]
        exact r
      · show lJ (List.lookup g [(f,v)]) _
        have hb:(g == f)=false:=beq_eq_false_iff_ne.mpr z
        simp only [List.lookup,hb,if_neg z]
        exact True.intro
    · by_cases z2:b=e
      · subst z2
        rw [aB z,aH] at q; cases q
        exact x.ok
      · rw [ou b z z2] at q
        refine (I.hok b o q).stay (fun c w hc r=>?_) (fun c r=>ke _ _ r (by intro z; cases z)) fun c xs r=>ke _ _ r (by intro z; cases z)
        rcases hc with e1 | e1
        · rw [e1] at r ⊢; exact k b w z2 r
        · exact k c w (JU e1 he (by intro z; cases z)) r
end
structure XIn (K:W.Frag) (mg:Str→Option Value) (C f:Addr) (Bn fld:Str):Prop where
  ex :∃ B newId initId bmB BC,ExcBaseFacts B newId initId bmB∧LX.tW K C bmB newId (some (.ref f))=true∧mg Bn=some (.ref BC)∧W.readsIn K BC (.type "type")=true∧
    W.findCls K (.ref BC) (.type "type") "__init__"=some (.val (.builtin initId))∧W.handedIn (.builtin initId)=true∧W.specialIn K (.ref BC) "__getattribute__"=some (some (.builtin "type.__getattribute__"))
  sa:W.findIn K (.ref C) "__setattr__"=some (some (.builtin "object.__setattr__"))
  ov:LX.eS K C=true
  na:W.takerIn K C fld=some none
  hd:W.hasDictIn K C=true
  kp:W.keepIn K (.ref C)=true
  fn:W.isFn K (.ref f)=true
theorem IP {env:Env} {Bn self t:Str} {p1 p2 p3 p4 p5:Pos} {j:Nat} (hline:(p2.endLine == p5.line)=true):eval (.Call (.Attribute (.Name Bn p1) "__init__" p2) [.Name self p3,.Constant (.str t) j p4] [] p5) env=(do
      let ov ←eval (.Name Bn p1) env
      standAt p2.atName
      let (f,first) ←holding [ov] (getMethod ov "__init__" (do return (←importBound (.Name Bn p1) env).getD true))
      callWith p5 f first (backTo p5 (starEach [.Name self p3,.Constant (.str t) j p4] env)) (backToKw p5 (keywordEach [] env))):=by
  rw [arm_eval_Call]
  have e0:attributeBase (.Name Bn p1) "__init__" env (eval (.Name Bn p1) env)=eval (.Name Bn p1) env:=rfl
  rw [e0]
  have e2:methodCallPos true (.Name Bn p1) env p2 p5=pure p5:=by unfold methodCallPos; rw [hline]; rfl
  have e1:∀ ov,methodCall (.Name Bn p1) "__init__" p2 p5 env ov ([Expr.Name self p3,Expr.Constant (.str t) j p4].length + ([]:List Keyword).length) (backTo p5 (starEach [.Name self p3,.Constant (.str t) j p4] env)) (backToKw p5 (keywordEach [] env))=(do
      let (f,first) ←holding [ov] (getMethod ov "__init__" (do return (←importBound (.Name Bn p1) env).getD true))
      callWith p5 f first (backTo p5 (starEach [.Name self p3,.Constant (.str t) j p4] env)) (backToKw p5 (keywordEach [] env))):=fun ov=>by
    unfold methodCall
    have few:methodCallForm ([Expr.Name self p3,Expr.Constant (.str t) j p4].length + ([]:List Keyword).length) (backTo p5 (starEach [.Name self p3,.Constant (.str t) j p4] env)) (backToKw p5 (keywordEach [] env))=true:=rfl
    rw [few,e2]
    rfl
  simp only [e1]
section
variable {X:Cx} {C f:Addr} {Bn fld self arg:Str} {p1 p2 p3 p4 p5 p6:Pos} {j:Nat} {t:Str} {i i2:Nat}
theorem NW (hline:(p2.endLine == p5.line)=true) (D:XIn X.K X.mg C f Bn fld) (hg:Gl X Bn) (hN:X.N[i]? =some self) (hv:Vis X.env.scope self) (hd:(self == ("__debug__":Str))=false) (hcd:(self == ("__classdict__":Str))=false) (hdb:(Bn == ("__debug__":Str))=false) :
    PE X (.Call (.Attribute (.Name Bn p1) "__init__" p2) [.Name self p3,.Constant (.str t) j p4] [] p5) (fun σ H Q=>∃ e,σ[i]? =some (some (.ref e))∧H e=some (.ext (XN e C))∧Q .non H):=by
  intro pins s σ H Q I ⟨e,hs,hH,q⟩
  obtain ⟨B,newId,initId,bmB,BC,F,ini,hm,hr,hf,hh,hsp⟩:=D.ex
  obtain ⟨bm,N,nm,qn,bs,hdc,sn,sub,ab,col,dd,k0,k1,k2,k3,k5,S⟩:=LX.wW ini
  refine W.methodCall_KW (dG I hg hm ?_ hdb) (IP hline)
  refine W.method_cls I.kIn hsp (W.cls_value I.kIn hr hf hh ?_)
  have pa:PA X [.Name self p3,.Constant (.str t) j p4] (CF (aCu i) (CF (tC (.str t)) aAs)):=bR (pS hN hv hd hcd) (bR LI eC)
  refine callWith_builtin1 (thn (pa p5 pins _ σ H (fun vs H1=>vs=[.ref e,.str t]∧H1=H) (I.tok (s.toks + 1)) ⟨_,hs,rfl,rfl⟩) fun us s1 ⟨vs,H1,I1,r,ev,eH⟩=>?_) rfl rfl
  subst ev eH
  obtain ⟨u1,u2,rfl,r1,r3⟩:=xS r
  cases r1
  obtain ⟨x,_,_⟩:=I1.hok _ _ hH
  obtain ⟨t0,he⟩:=x
  obtain ⟨hp,g,dr,tk,os⟩:=s1
  refine LX.GQ F (W.tail_of_in I1.kIn S.tl) (I1.kIn _ _ S.lk) he (fun h' tt k hx=>?_) (by show 1≤sizeLine; decide)
  exact ⟨.non,H1,I1.xwrite (t':=tk) hH k ⟨tt,hx⟩,rfl,q⟩
theorem SX (D:XIn X.K X.mg C f Bn fld) (hN:X.N[i]? =some self) (hv:Vis X.env.scope self) (hd:(self == ("__debug__":Str))=false) (hcd:(self == ("__classdict__":Str))=false)
    (hN2:X.N[i2]? =some arg) (hv2:Vis X.env.scope arg) (hd2:(arg == ("__debug__":Str))=false) (hcd2:(arg == ("__classdict__":Str))=false) :
    PS X (.Assign [.Attribute (.Name self p1) fld p2] (.Name arg p3) p4) (fun E σ H=>∃ e v,σ[i]? =some (some (.ref e))∧σ[i2]? =some (some v)∧H e=some (.ext (XN e C))∧∀ d,H d=none→E.nx σ (upd (upd H e (.ext (XD e C d))) d (.xd [(fld,v)]))):=by
  intro pins s σ H E I ⟨e,v,hs,hs2,hH,q⟩
  refine plainObj_wpAny_Assign_Attribute (thn (pS hN2 hv2 hd2 hcd2 pins s σ H (fun x H1=>x=v∧H1=H) I ⟨_,hs2,rfl,rfl⟩) fun u s1 ⟨y,H1,I1,ry,e1,e2⟩=>thn (pS hN hv hd hcd pins s1 σ H1 (fun x H1=>x= .ref e∧H1=H) I1 ⟨_,by rw [hs],rfl,e2⟩) fun ov s2 ⟨x,H2,I2,rx,e3,e4⟩=>?_) rfl
  subst e1 e3 e4
  obtain rfl:ov=Value.ref e:=rx
  obtain ⟨x,_,_⟩:=I2.hok _ _ hH
  obtain ⟨t0,he⟩:=x
  refine LX.QA I2.kIn he D.sa D.ov D.na D.hd fun h' d hd he' hn k=>?_
  exact ⟨σ,_,I2.xdict (t':=s2.toks + 2) hH hd k ⟨t0,he'⟩ hn ry,q d (I2.hok.fresh hd)⟩
end
noncomputable def spI (C:Addr) (fld:Str):Sp:=fun vs H Q _=>∃ e v,vs=[.ref e,v]∧H e=some (.ext (XN e C))∧∀ d,H d=none→Q .non (upd (upd H e (.ext (XD e C d))) d (.xd [(fld,v)]))
theorem QR {P:Program} {w:World} {K:W.Frag} {mg:Str→Option Value} {base:Heap} {k:Nat} {C f:Addr} {Bn fld self arg name qual:Str} {params:Arguments} {scope:Scope} {dV kV doc pm cdv ct oc:Value} {an od:Option Addr}
    {osl:Array (Option Value)} {p1 p2 p3 p4 p5 p6 q1 q2 q3 q4:Pos} {j:Nat} {t:Str} {body:List Stmt} (D:XIn K mg C f Bn fld) (hline:(p2.endLine == p5.line)=true)
    (lk:K.lookup f=some ⟨oc,od,.func (W.fnOf name qual params body scope dV kV doc pm an cdv ct),osl⟩) (hcd:W.codeIn K cdv qual=true) (S:gD [self,arg] [self,arg] scope)
    (hbd:body=[.Expr (.Call (.Attribute (.Name Bn p1) "__init__" p2) [.Name self p3,.Constant (.str t) j p4] [] p5) p6,.Assign [.Attribute (.Name self q1) fld q2] (.Name arg q3) q4])
    (hsc:scope.names.lookup self=some .local∧scope.names.lookup arg=some .local∧scope.names.lookup Bn=some .globalImplicit)
    (hnm:(self == ("__debug__":Str))=false∧(self == ("__classdict__":Str))=false∧(arg == ("__debug__":Str))=false∧(arg == ("__classdict__":Str))=false∧(Bn == ("__debug__":Str))=false) :
    bL P w K mg base CX0 (k + 1) f (W.fnOf name qual params body scope dV kV doc pm an cdv ct) [self,arg] (spI C fld):=by
  refine KO lk hcd S (fun vs H Q E ⟨e,v,ev,_⟩=>by rw [ev]; rfl) fun A outer s H vs Q E hr ⟨e,v,ev,hH,q⟩=>?_
  subst ev hbd
  refine ⟨_,vN (CC (NW (i:=0) hline D hsc.2.2 rfl (.inl hsc.1) hnm.1 hnm.2.1 hnm.2.2.2.2)) (BY (SX (i:=0) (i2:=1) D rfl (.inl hsc.1) hnm.1 hnm.2.1 rfl (.inl hsc.2.1) hnm.2.2.1 hnm.2.2.2.1)), ?_⟩
  exact ⟨e,rfl,hH,e,v,rfl,rfl,hH,q⟩
section
variable {X:Cx} {C f:Addr} {Bn fld x:Str} {np cpos pos:Pos} {e:Expr} {te:TE} {k:Nat} {fd:FuncData} {ps:List Str} {EX:XK}
theorem Inv.xmade {pins:List (Addr×Obj)} {σ:St} {H:Hp} {s:Shared} {us:List Value} (I:Inv X pins σ H s):Inv X pins σ (upd H (s.heap.objs.size + 1) (.ext (XN (s.heap.objs.size + 1) C))) { s with heap:=LX.mdX s.heap C us }:=by
  have hx:(LX.mdX s.heap C us).get? (s.heap.objs.size + 1)=some (LX.exO (.ref C) none s.heap.objs.size):=by
    have:=Heap.get?_push_size (s.heap.push { cls:=.type "tuple",data:=.seq us.toArray }) (o:=LX.exO (.ref C) none s.heap.objs.size) rfl
    rwa [Heap.size_push] at this
  exact I.laid (a:=s.heap.objs.size + 1) (o:=.ext (XN (s.heap.objs.size + 1) C)) (t':=s.toks) (fun b u q=>Heap.get?_push_of_some _ (Heap.get?_push_of_some _ q)) (Nat.le_succ _) (XN.ok ⟨_,hx⟩)
theorem GW (D:XIn X.K X.mg C f Bn fld) (hg:Gl X x) (hm:X.mg x=some (.ref C)) (hdb:(x == ("__debug__":Str))=false) (F:bL X.prog X.w X.K X.mg X.base CX0 k f fd ps (spI C fld)) (hh:X.A.handled=none) (hr:bC (k + 1) X.A) (hb:aR X.K fd ps []) (ha:PE X e te)
    (hxe:∀ e s',xeO X EX e s'→X.xe e s') (hst:starEach [e] X.env=(false,eval e X.env) :: starEach [] X.env) :
    PS X (.Raise (some (.Call (.Name x np) [e] [] cpos)) none pos) (fun _ σ H=>te σ H fun v H1=>∀ d,H1 d=none→EX (.ref C) (some d) (upd H1 d (.xd [(fld,v)]))):=by
  intro pins s σ H E I h
  obtain ⟨B,newId,initId,bmB,BC,Fb,ini,_⟩:=D.ex
  obtain ⟨bm,N,nm,qn,bs,hdc,sn,sub,ab,col,dd,k0,k1,k2,k3,k5,S⟩:=LX.wW ini
  have hbase:bm.contains (.type "BaseException")=true:=(W.tail_of_in I.kIn S.tl).hasType Fb.hasBase
  have ev : wpAny (model X.prog X.w) X.A (eval (.Call (.Name x np) [e] [] cpos) X.env) (fun v s₁=>∃ e tt dx,v= .ref e∧s₁.heap.get? C=some (excClassObj nm qn C N bs bm hdc sn sub ab col dd k0 k1 k2 k3 k5 newId)∧
      s₁.heap.get? e=some (LX.exO (.ref C) dx tt)∧X.xe (.ref e) s₁) X.xe s:=by
    refine wpAny_Call_Name_kw (dG I hg hm ?_ hdb)
    refine W.callWith_K (h₀:=X.base) I.ok.mod.kin D.kp (thn (bR ha eC hst cpos pins s σ H (fun vs H1=>match vs with | [v]=>∀ d,H1 d=none→EX (.ref C) (some d) (upd H1 d (.xd [(fld,v)])) | _=>False) I h) fun us s1 ⟨vs,H1,I1,r,q⟩=>⟨I1.kIn, ?_⟩) hst rfl
    match vs,q,r with
    | [v],q,r =>
    obtain ⟨u,rfl,ru⟩:=hU r
    have I2:=I1.xmade (C:=C) (us:=[u])
    have hl0:=I1.lo_le
    have hc0:=I1.kIn _ _ S.lk
    have hfc:∃ oI,s1.heap.get? f=some oI∧oI.cls= .type "function":=by
      have hf:=D.fn
      replace hf:((X.K.lookup f).map (·.cls) == some (.type "function"))=true:=hf
      cases lk:X.K.lookup f with
      | none=>rw [lk] at hf; cases hf
      | some o =>
        rw [lk] at hf
        exact ⟨o,I1.kIn _ _ lk,by simpa using hf⟩
    obtain ⟨oI,hoI,hfc⟩:=hfc
    have fresh1:H1 (s1.heap.objs.size + 1)=none:=I1.hok.fresh (Nat.le_succ _)
    have run:=F.run (X.A.under (.builtin "type.__call__" ⟨.ref C :: [u],[]⟩)) X.stack { s1 with heap:=LX.mdX s1.heap C [u] } (upd H1 (s1.heap.objs.size + 1) (.ext (XN (s1.heap.objs.size + 1) C))) ⟨[.ref (s1.heap.objs.size + 1),u],[]⟩ [.ref (s1.heap.objs.size + 1),u] [.ref (s1.heap.objs.size + 1),v]
      (fun r H2=>r= .non∧∃ d,H1 d=none∧d≠s1.heap.objs.size + 1∧H2=upd (upd (upd H1 (s1.heap.objs.size + 1) (.ext (XN (s1.heap.objs.size + 1) C))) (s1.heap.objs.size + 1) (.ext (XD (s1.heap.objs.size + 1) C d))) d (.xd [(fld,v)])) E0 (hr.make C [u] []) (I2.env0.make C [u] [])
    obtain ⟨hp,g,dr,tk,os⟩:=s1
    refine LX.EO Fb (W.tail_of_in I1.kIn S.tl) hc0 (.of_isNs (W.isNs_of_in I1.kIn S.ok)) (LX.aDQ I1.kIn S.ok S.ini) hoI hfc ?_ (by show 1≤sizeLine; decide)
    refine wpAny_call (codeAny_mono (run (hb _ [.ref (hp.objs.size + 1),u] I2.kIn ?_) (.cons rfl (.cons ru .nil)) ⟨_,v,rfl,aH,fun d hd=>⟨rfl,d, ?_⟩⟩) fun r s' hq'=>?_)
    · exact F.len [.ref (hp.objs.size + 1),v] _ (fun _ _=>True) E0 ⟨_,v,rfl,aH (H:=H1),fun _ _=>trivial⟩
    · have dn:d≠hp.objs.size + 1:=fun z=>by subst z; rw [aH] at hd; cases hd
      rw [aB dn] at hd
      exact ⟨hd,dn,rfl⟩
    · cases r with
      | error e=>exact False.elim hq'
      | ok fl =>
        cases fl with
        | ret u' =>
          obtain ⟨v',H',I3,rv,ev,d,hd,dn,eH⟩:=I2.after hq'
          subst ev eH
          cases rv
          refine ⟨rfl, ?_⟩
          have hx:upd (upd (upd H1 (hp.objs.size + 1) (.ext (XN (hp.objs.size + 1) C))) (hp.objs.size + 1) (.ext (XD (hp.objs.size + 1) C d))) d (.xd [(fld,v)]) (hp.objs.size + 1)=some (.ext (XD (hp.objs.size + 1) C d)):=by rw [aB (Ne.symm dn),aH]
          obtain ⟨⟨tt,he⟩,_,_⟩:=I3.hok _ _ hx
          have I4:=I3.untrack hx
          have eH:del (upd (upd (upd H1 (hp.objs.size + 1) (.ext (XN (hp.objs.size + 1) C))) (hp.objs.size + 1) (.ext (XD (hp.objs.size + 1) C d))) d (.xd [(fld,v)])) (hp.objs.size + 1)=upd H1 d (.xd [(fld,v)]):=by
            funext b
            by_cases z:b=hp.objs.size + 1
            · subst z; rw [nV,aB (Ne.symm dn)]; exact fresh1.symm
            · rw [tV z]
              by_cases z2:b=d
              · subst z2; rw [aH,aH]
              · rw [aB z2,aB z2,aB z,aB z]
          rw [eH] at I4
          refine ⟨_,tt,some d,rfl,I3.kIn _ _ S.lk,he,hxe _ _ ⟨hp.objs.size + 1,.ref C,some d,σ,_,rfl,I4.nopins,.inl ⟨Nat.le_trans hl0 (Nat.le_succ _),by rw [aB (Ne.symm dn)]; exact fresh1,_,_,he,rfl,rfl,rfl,by show 1 < 6; decide,rfl⟩,q d hd⟩⟩
        | next=>exact False.elim hq'
        | brk=>exact False.elim hq'
        | cont=>exact False.elim hq'
  rw [arm_exec_Raise]
  refine wpAny_bind (wpAny_standAt (LX.RZ (C:=C) (nm:=nm) (q:=qn) (N:=N) (bs:=bs) (bm:=bm) (hdct:=hdc) (sn:=sn) (sub:=sub) (ab:=ab) (col:=col) (dd:=dd) (k0:=k0) (k1:=k1) (k2:=k2) (k3:=k3) (k5:=k5) (newId:=newId) hbase hh ?_))
  refine wpAny_bind (wpAny_mono ev (fun v s₃ h₃=>wpAny_bind (wpAny_standAt (wpAny_pure h₃))) fun _ _ x=>x)
end
noncomputable def Cx.mk2 (X:Cx) (e:Value):Cx:={ X with A:=X.A.mark (some e),calm:=false,xe:=fun _ _=>False }
noncomputable def Cx.pin (X:Cx) (pins:List (Addr×Obj)):Cx:={ X with pn:=X.pn ++ pins }
section
variable {X:Cx} {pins:List (Addr×Obj)} {σ:St} {H:Hp} {s:Shared} {e:Value}
theorem Inv.marked (I:Inv X pins σ H s):Inv (X.mk2 e) pins σ H s :=
  ⟨⟨I.ok.mod,I.ok.kind,I.ok.glob,I.ok.blt,I.ok.above,I.ok.inj,I.ok.has,I.ok.cab,(fun z=>by cases z),I.ok.frames,I.ok.stk,I.ok.exf,I.ok.bs,I.ok.bsz,I.ok.noex,I.ok.exfs,I.ok.funs,I.ok.frf⟩,I.os,I.bare,I.base,I.loc,I.cell,I.free,I.freeC,I.pin,I.hok,I.len⟩
theorem Inv.unmarked (ok:X.Ok) (I:Inv (X.mk2 e) pins σ H s):Inv X pins σ H s:=⟨ok,I.os,I.bare,I.base,I.loc,I.cell,I.free,I.freeC,I.pin,I.hok,I.len⟩
theorem Cx.Ok.pin (ok:X.Ok) (pins:List (Addr×Obj)):(X.pin pins).Ok :=
  ⟨ok.mod,ok.kind,ok.glob,ok.blt,ok.above,ok.inj,ok.has,ok.cab,ok.hd,ok.frames,ok.stk,ok.exf,ok.bs,ok.bsz,ok.noex,ok.exfs,ok.funs,ok.frf⟩
theorem Inv.pinX (I:Inv X pins σ H s):Inv (X.pin pins) [] σ H s :=
  ⟨I.ok.pin pins,I.os,I.bare,I.base,I.loc,I.cell,I.free,I.freeC,(fun p hp=>I.pin p (by
    have hp:p∈(X.pn ++ pins) ++ []:=hp
    rw [List.append_nil] at hp; exact hp)),I.hok,I.len⟩
theorem Inv.unpinX (ok:X.Ok) (I:Inv (X.pin pins) [] σ H s):Inv X pins σ H s :=
  ⟨ok,I.os,I.bare,I.base,I.loc,I.cell,I.free,I.freeC,(fun p hp=>I.pin p (by
    show p∈(X.pn ++ pins) ++ []
    rw [List.append_nil]; exact hp)),I.hok,I.len⟩
theorem Inv.track {a:Addr} {o:HO} (I:Inv X [] σ H s) (hl:X.lo≤a) (hn:H a=none) (ho:∀ H',bJ X.prog X.w H' s.heap a o) (hr:∃ ob vs,s.heap.get? a=some ob∧ob.data= .fields vs):Inv X [] σ (upd H a o) s:=by
  obtain ⟨ob,vs,hob,hd⟩:=hr
  have h0:∀ b ob',X.s₀.heap.get? b=some ob'→b≠a:=fun b ob' q=>Nat.ne_of_lt (Nat.lt_of_lt_of_le (Heap.lt_size q) (Nat.le_trans DE hl))
  have hL:X.env.locals≠a:=fun z=>by
    obtain ⟨m,⟨o',es,ep,ho',hd',_⟩,_⟩:=I.loc
    rw [z,hob] at ho'; cases ho'; rw [hd] at hd'; cases hd'
  refine ⟨I.ok,I.os,I.bare,⟨I.base.keep,I.base.slot,fun b ob' q n hx=>?_,I.base.there,fun b xs q=>?_,fun b ob' u q=>?_,fun b ps q=>?_⟩,I.loc,I.cell, ?_,fun x c q=>?_,fun p hp=>?_,fun b u q=>?_,I.len⟩
  · rw [aB (h0 b ob' q)]; exact I.base.free b ob' q n hx
  · have:=I.base.tups b xs q
    rw [aB (aG this hn)]; exact this
  · have:=I.base.frzs b ob' u q
    rw [aB (aG this hn)]; exact this
  · obtain ⟨m,this⟩:=I.base.tbls b ps q
    exact ⟨m,by rw [aB (aG this hn)]; exact this⟩
  · rw [aB hL]; exact I.free
  · have:c≠a:=fun z=>by
      obtain ⟨v,o',ho',hd'⟩:=I.cell x c q
      rw [z,hob] at ho'; cases ho'; rw [hd] at hd'; cases hd'
    rw [aB this]; exact I.freeC x c q
  · obtain ⟨a1,a2,a3⟩:=I.pin p hp
    have:p.1≠a:=fun z=>by
      have:=NJ p (by simpa using hp)
      rw [z] at this
      exact absurd hl (Nat.not_le.mpr this)
    exact ⟨a1,by rw [aB this]; exact a2,a3⟩
  · by_cases z:b=a
    · subst z; rw [aH] at q; cases q; exact ho _
    · rw [aB z] at q
      exact (I.hok b u q).stay (fun _ _ _ r=>r) (fun c r=>by rw [aB (aG r hn)]; exact r) fun c xs r=>by rw [aB (aG r hn)]; exact r
theorem FA {M:Model} {A:Around} {E:Value→Shared→Prop} {i:Nat} {x:Str} {v:V} {Q:Unit→Shared→Prop} (I:Inv X pins σ H s) (hN:X.N.Nodup) (hi:X.N[i]? =some x) (hx:X.env.scope.names.lookup x=some .local) (hv:σ[i]? =some (some v))
    (h:∀ s',Inv X pins (σ.set i none) H s'→Q () s'):wpAny M A (unbindName X.env x) Q E s:=by
  obtain ⟨m,hn,hl⟩:=id I.loc
  have hcls:(X.env.scope.kind == .class || (X.env.scope.kind == .module && X.env.locals != X.env.globals))=false:=by rw [I.ok.kind]; rfl
  have cne:=I.cne
  obtain ⟨u0,_,lk⟩:=hl i x v hi hv (.inl hx)
  have hm:m x=some u0:=by
    rcases lk with ⟨_,q⟩ | ⟨k,_⟩
    · exact q
    · have k:X.env.scope.names.lookup x=some .cell∨X.env.scope.names.lookup x=some .free:=k
      rw [hx] at k; rcases k with k | k <;> cases k
  refine wpAny_unbindName_local hx hn hm hcls fun h' u hn' hs=>h _ ?_
  obtain ⟨oL,_,_,hoL,_⟩:=id hn
  refine ⟨I.ok,I.os,I.bare,⟨fun b o e n hb hx=>?_,fun b o e n hb hx=>?_,I.base.free,fun b o e hx=>?_,I.base.tups,I.base.frzs,I.base.tbls⟩,⟨_,hn',fun j y v' e1 e2 e3=>?_⟩,fun y c e=>?_,I.free,I.freeC,fun p hp=>?_,fun b ob e=>?_,by simpa using I.len⟩
  · exact (hs.2 b (Nat.ne_of_lt (Nat.lt_of_lt_of_le (Heap.lt_size e) I.ok.above))).trans (I.base.keep b o e n hb hx)
  · obtain ⟨sl,e1⟩:=I.base.slot b o e n hb hx
    exact ⟨sl,(hs.2 b (Nat.ne_of_lt (Nat.lt_of_lt_of_le (Heap.lt_size e) I.ok.above))).trans e1⟩
  · obtain ⟨o',e1⟩:=I.base.there b o e hx
    exact ⟨o',(hs.2 b (Nat.ne_of_lt (Nat.lt_of_lt_of_le (Heap.lt_size e) I.ok.above))).trans e1⟩
  · by_cases hj:j=i
    · subst hj
      have hlt:j < σ.length:=by rw [I.len]; exact (List.getElem?_eq_some_iff.mp hi).1
      rw [List.getElem?_set_self hlt] at e2
      cases e2
    · rw [List.getElem?_set_ne (Ne.symm hj)] at e2
      obtain ⟨u',r',q⟩:=hl j y v' e1 e2 e3
      refine ⟨u',r', ?_⟩
      rcases q with ⟨k,e⟩ | ⟨k,c,e,z⟩
      · refine .inl ⟨k, ?_⟩
        have:y≠x:=fun e=>hj (oK hN e1 (e▸hi))
        simp [this,e]
      · exact .inr ⟨k,c,e,z.sameBut hs (cne y c e)⟩
  · obtain ⟨w',z⟩:=I.cell y c e
    exact ⟨w',z.sameBut hs (cne y c e)⟩
  · obtain ⟨e,n,ne,nf,d⟩:=I.pin p hp
    exact ⟨(hs.2 p.1 ne).trans e,n,ne,nf,d⟩
  · refine (I.hok b ob e).stay (fun c w' hc q=>(hs.2 c ?_).trans q) (fun _ q=>q) fun _ _ q=>q
    intro z
    have:H c=none:=by rw [z]; exact I.free
    rcases hc with rfl | hc
    · rw [this] at e; cases e
    · rw [this] at hc; cases hc
end
end L2
namespace LX
open PySem PySem.W PyProof.Rows
noncomputable def aAT (K:Frag) (c:Addr):Bool:=(clsIn K c).isSome
noncomputable def jO (K:Frag) (c:Addr):Bool:=aAT K c && subIn K (.ref c) (.type "BaseException") == some true
noncomputable def iC (K:Frag) (Ca:Addr):List Addr→Option Bool
  | []=>some false
  | c :: r=>match subIn K (.ref Ca) (.ref c) with
    | some true=>some true
    | some false=>iC K Ca r
    | none=>none
section
variable {M:Model} {A:Around} {E:Value→Shared→Prop} {s:Shared} {K:Frag}
theorem GY {h:Heap} {c:Addr} (X:K.In h) (hc:jO K c=true):Looks M h (isExcClass (.ref c)) true:=by
  obtain ⟨h1,h2⟩:=Bool.and_eq_true_iff.mp hc
  obtain ⟨cd,hcd⟩:=Option.isSome_iff_exists.mp h1
  have t:Looks M h (isType (.ref c)) true:=by
    unfold clsIn at hcd
    split at hcd
    · rename_i o ho
      cases hcd
      exact (Looks.ld (X _ _ ho)).andThen .now
    · cases hcd
  exact t.andThen (looks_subIn X (beq_iff_eq.mp h2))
theorem ML:∀ {cs:List Addr} {Q:PUnit→Shared→Prop},K.In s.heap→(∀ c∈cs,jO K c=true)→Q PUnit.unit s→wpAny M A (forIn (cs.map Value.ref) PUnit.unit fun c (__s:PUnit)=>do
      let __do_lift ←isExcClass c
      if (!__do_lift)=true then do
          rule "try.except-non-exception-class"
          raiseErrorWords "TypeError" "catching classes that do not inherit from BaseException is not allowed"
          pure (ForInStep.yield PUnit.unit)
        else pure (ForInStep.yield PUnit.unit)) Q E s
  | [],Q,X,_,q=>wpAny_pure q
  | c :: r,Q,X,h,q=>by
    rw [List.map_cons,List.forIn_cons]
    refine wpAny_bind (wpAny_bind ((GY X (h c (List.mem_cons_self ..))).here ?_))
    rw [if_neg (by decide)]
    exact wpAny_pure (ML X (fun c' hc=>h c' (List.mem_cons_of_mem _ hc)) q)
theorem KM {Ca:Addr} {b:Bool}:∀ {cs:List Addr} {Q:Option Bool×Unit→Shared→Prop},K.In s.heap→iC K Ca cs=some b→Q ((if b=true then some true else none),()) s→wpAny M A (forIn (cs.map Value.ref) ((none,()):Option Bool×Unit) fun c __s=>do
      let __do_lift ←isSubtype (.ref Ca) c
      if __do_lift=true then pure (ForInStep.done (some true,())) else pure (ForInStep.yield (none,()))) Q E s
  | [],Q,X,h,q=>by cases h; exact wpAny_pure q
  | c :: r,Q,X,h,q=>by
    unfold iC at h
    rw [List.map_cons,List.forIn_cons]
    split at h
    · rename_i e
      cases h
      refine wpAny_bind (wpAny_bind ((looks_subIn X e).here ?_))
      rw [if_pos rfl]
      exact wpAny_pure (wpAny_pure q)
    · rename_i e
      refine wpAny_bind (wpAny_bind ((looks_subIn X e).here ?_))
      rw [if_neg (by decide)]
      exact wpAny_pure (KM X h q)
    · cases h
theorem xK {e p Ca:Addr} {cs:List Addr} {b:Bool} {oe:Obj} {Q:Bool→Shared→Prop} (X:K.In s.heap) (hp:IsTup s.heap p (cs.map Value.ref).toArray) (he:s.heap.get? e=some oe) (hc:oe.cls= .ref Ca) (h1:∀ c∈cs,jO K c=true) (h2:iC K Ca cs=some b) (q:Q b s) :
    wpAny M A (excMatches (.ref e) (.ref p)) Q E s:=by
  obtain ⟨o,ho,hoc,n,hd⟩:=hp
  have ht:Looks M s.heap (typeOf (.ref e)) (.ref Ca):=by
    rw [←hc]
    exact (Looks.ld he).andThen .now
  unfold excMatches
  refine wpAny_bind (wpAny_isInstance ⟨o,ho,hoc⟩ isSubtype_tuple_tuple ?_)
  dsimp only
  rw [if_pos rfl]
  refine wpAny_bind (wpAny_seqItems ho hd (wpAny_bind (wpAny_pure ?_)))
  dsimp only [Option.getD_some,Option.getD]
  refine wpAny_bind (ML X h1 (wpAny_bind (ht.here (wpAny_bind (KM X h2 ?_)))))
  cases b <;> exact wpAny_pure q
theorem yL {e c Ca:Addr} {b:Bool} {oe:Obj} {Q:Bool→Shared→Prop} (X:K.In s.heap) (he:s.heap.get? e=some oe) (hc:oe.cls= .ref Ca) (h1:jO K c=true) (ht0:subIn K (.type "type") (.type "tuple")=some false) (hty:typeIn K (.ref c)=some (.type "type")) (h2:iC K Ca [c]=some b) (q:Q b s) :
    wpAny M A (excMatches (.ref e) (.ref c)) Q E s:=by
  have ht:Looks M s.heap (typeOf (.ref e)) (.ref Ca):=by
    rw [←hc]
    exact (Looks.ld he).andThen .now
  have hi:Looks M s.heap (isInstance (.ref c) (.type "tuple")) false:=(looks_typeIn X hty).andThen (looks_subIn X ht0)
  unfold excMatches
  refine wpAny_bind (hi.here ?_)
  dsimp only
  rw [if_neg (by decide)]
  refine wpAny_bind (wpAny_pure ?_)
  refine wpAny_bind (ML (cs:=[c]) X (fun c' hc'=>by rw [List.mem_singleton.mp hc']; exact h1) (wpAny_bind (ht.here (wpAny_bind (KM (cs:=[c]) X h2 ?_)))))
  cases b <;> exact wpAny_pure q
end
end LX
namespace L2
open PySem PySem.Spec
open PyProof.Rows hiding St
noncomputable def XC (a:Addr) (C:Value) (d:Option Addr):Heap→Prop:=fun h=>∃ oe vs,h.get? a=some oe∧oe.cls=C∧oe.dict=d∧oe.data= .fields vs
theorem XC.ok {P:Program} {w:World} {H:Hp} {h:Heap} {a:Addr} {C:Value} {d:Option Addr} (x:XC a C d h):bJ P w H h a (.ext (XC a C d)):=⟨x,let ⟨o,_,q,_⟩:=x; ⟨o,q⟩,fun h1 h2 ⟨o,vs,q,r⟩ k=>⟨o,vs,k _ q,r⟩⟩
noncomputable def aDN (D:nL) (j:Nat):nL:=⟨fun σ H=>D.nx (σ.set j none) H,D.rt,fun σ H=>D.bk (σ.set j none) H,fun σ H=>D.ct (σ.set j none) H⟩
theorem wO:∀ {l:List Addr} {us:List Value},aJ (l.map V.ref) us→us=l.map Value.ref
  | [],_,r=>by cases r; rfl
  | a :: l,_,r=>by
    cases r with
    | cons r1 r2=>cases r1; rw [wO r2]; rfl
theorem AL {env:Env} {q:Str×Pos×Addr} {l:List (Str×Pos×Addr)}:starEach (.Name q.1 q.2.1 :: l.map fun q=>Expr.Name q.1 q.2.1) env=(false,eval (.Name q.1 q.2.1) env) :: starEach (l.map fun q=>Expr.Name q.1 q.2.1) env:=rfl
theorem wS {X:Cx}:∀ {l:List (Str×Pos×Addr)},(∀ q∈l,Gl X q.1∧X.mg q.1=some (.ref q.2.2)∧(q.1 == ("__debug__":Str))=false)→PA X (l.map fun q=>Expr.Name q.1 q.2.1) (fun σ H Q=>Q (l.map fun q=>V.ref q.2.2) H)
  | [],_=>eC
  | q :: l,h=>by
    have h1:=h q (List.mem_cons_self ..)
    exact bR (te:=tC (.ref q.2.2)) (fun pins s σ H Q I hq=>dG I h1.1 h1.2.1 ⟨.ref q.2.2,H,I,rfl,hq⟩ h1.2.2) (wS fun q' hq=>h q' (List.mem_cons_of_mem _ hq)) AL
inductive gO (X:Cx):Expr→List Addr→Prop
  | tup {l:List (Str×Pos×Addr)} {k:Nat} {pos:Pos}:(∀ q∈l,Gl X q.1∧X.mg q.1=some (.ref q.2.2)∧(q.1 == ("__debug__":Str))=false)→l.length≤sizeLine→gO X (.Tuple (l.map fun q=>Expr.Name q.1 q.2.1) k pos) (l.map (·.2.2))
  | one {x:Str} {p:Pos} {c:Addr}:Gl X x→X.mg x=some (.ref c)→(x == ("__debug__":Str))=false→W.typeIn X.K (.ref c)=some (.type "type")→W.subIn X.K (.type "type") (.type "tuple")=some false→gO X (.Name x p) [c]
theorem gO.mk2 {X:Cx} {t:Expr} {cs:List Addr} {e:Value} {pins:List (Addr×Obj)} (c:gO X t cs):gO ((X.pin pins).mk2 e) t cs:=by
  cases c with
  | tup h z=>exact .tup h z
  | one a b c d e=>exact .one a b c d e
theorem FN {X:Cx} {t:Expr} {cs:List Addr} {pins:List (Addr×Obj)} {σ:St} {H:Hp} {s:Shared} {a Ca:Addr} {oe:Obj} {b:Bool} {Q:Bool→Shared→Prop} {E:Value→Shared→Prop} (c:gO X t cs) (I:Inv X pins σ H s) (hx:X.xe=fun _ _=>False) (hp:(a,oe)∈pins) (hc:oe.cls= .ref Ca)
    (h1:∀ c∈cs,LX.jO X.K c=true) (h2:LX.iC X.K Ca cs=some b) (q:∀ s',Inv X pins σ H s'→Q b s') :
    wpAny (model X.prog X.w) X.A (eval t X.env) (fun v s₁=>wpAny (model X.prog X.w) X.A (excMatches (.ref a) v) Q E s₁) E s:=by
  have nx:∀ {α:Type} {f:Sem α} {Q1:α→Shared→Prop} {s:Shared},wpAny (model X.prog X.w) X.A f Q1 X.xe s→wpAny (model X.prog X.w) X.A f Q1 E s:=fun {α f Q1 s} h=>wpAny_mono h (fun _ _ z=>z) fun _ _ z=>by rw [hx] at z; exact z.elim
  cases c with
  | @tup l k pos h z =>
    refine wpAny_Tuple_spliced (nx (thn (wS h pos pins s σ H (fun vs H1=>vs=(l.map (·.2.2)).map V.ref∧H1=H) I ⟨by rw [List.map_map]; rfl,rfl⟩) fun us s1 ⟨vs,H1,I1,r,ev,eH⟩=>?_))
    subst ev eH
    have eu:=wO r
    subst eu
    refine ⟨by simpa using z, ?_⟩
    have I2:=I1.kept (t':=s1.toks) (h':=s1.heap.push { cls:=.type "tuple",data:=.seq ((l.map (·.2.2)).map Value.ref).toArray }) fun b o e=>Heap.get?_push_of_some _ e
    exact LX.xK I2.kIn (IsTup.new s1.heap _) (I2.pin _ (List.mem_append_right _ hp)).1 hc h1 h2 (q _ I2)
  | one g m d ty ht =>
    exact dG I g m (LX.yL I.kIn (I.pin _ (List.mem_append_right _ hp)).1 hc (h1 _ (List.mem_cons_self ..)) ht ty h2 (q _ I)) d
theorem fM.pins {X:Cx} {σ:St} {H:Hp} {s:Shared} {a:Addr} {C:Value} {d:Option Addr} (I:Inv X [] σ H s) (x:fM s.heap X.lo H a C d):∃ oe oT T,Inv X [(a,oe),(T,oT)] σ H s∧oe.cls=C∧
    ∀ h',h'.get? a=some oe→h'.get? T=some oT→fM h' X.lo H a C d:=by
  obtain ⟨le,he0,oe,vs,he,hc,hdd,hd,hsz,T,oT,ts,fl,h1,lT,hT0,hTe,hT,hdT,h3⟩:=x
  refine ⟨oe,oT,T,I.pins_of fun p hp=>?_,hc,fun h' e1 e2=>⟨le,he0,oe,vs,e1,hc,hdd,hd,hsz,T,oT,ts,fl,h1,lT,hT0,hTe,e2,hdT,h3⟩⟩
  have key:∀ b ob ws,s.heap.get? b=some ob→ob.data= .fields ws→H b=none→s.heap.get? b=some ob∧H b=none∧b≠X.env.locals∧b∉ X.fs∧∀ v,ob.data≠.cell v:=fun b ob ws e1 e2 e3=>by
    refine ⟨e1,e3,fun z=>?_,fun z=>?_,fun v z=>by rw [e2] at z; cases z⟩
    · obtain ⟨m,⟨o',es,ep,ho',hd',_⟩,_⟩:=I.loc
      rw [←z,e1] at ho'; cases ho'; rw [e2] at hd'; cases hd'
    · obtain ⟨_,o,ho,hnf⟩:=I.funs.mem z
      rw [e1] at ho; cases ho; exact hnf ws e2
  rcases List.mem_cons.mp hp with e | hp
  · subst e; exact key a oe vs he hd he0
  · rw [List.mem_singleton.mp hp]; exact key T oT ts hT hdT hT0
theorem aDP {X:Cx} (ow:Own X) {pins:List (Addr×Obj)} {s:Shared} {σ:St} {H:Hp} {D:nL} (I:Inv X pins σ H s) {EX:XK} {tb:TS} {body suite:List Stmt} {b0:Stmt} {t:Expr} {n:Str} {j:Nat} {hpos pos:Pos} {cs:List Addr}
    (nd:X.N.Nodup) (hj:X.N[j]? =some n) (hloc:X.env.scope.names.lookup n=some .local) (cl:gO X t cs) (hcs:∀ c∈cs,LX.jO X.K c=true)
    (hb:PSs ((X.pin pins).wish (xeO (X.pin pins) EX)) body tb) (h:tb D σ H)
    (hx:∀ C d H1,EX C d H1→∃ Ca,C= .ref Ca∧LX.iC X.K Ca cs=some true∧∀ a,H1 a=none→∃ th,PSs ((X.pin pins).mk2 (.ref a)) (b0 :: suite) th∧th (aDN D j) ((List.replicate X.N.length none).set j (some (.ref a))) (upd H1 a (.ext (XC a C d)))) :
    wpAny (model X.prog X.w) X.A (exec (.Try body [.ExceptHandler (some t) (some n) (b0 :: suite) hpos] [] [] pos) X.env) (SP X pins D) X.xe s:=by
  have ow':Own (X.pin pins):=⟨ow.st,ow.fr⟩
  refine wpAny_Try_except (wpAny_mono (hb [] s σ H D (I.pinX.wish _) h) (fun f s₁ q=>?_) fun e s₁ hxe=>?_)
  · have q:=q.unwish
    cases f with
    | next=>obtain ⟨σ',H',J,q⟩:=q; exact wpAny_execs_nil ⟨σ',H',J.unpinX I.ok,q⟩
    | brk=>obtain ⟨σ',H',J,q⟩:=q; exact ⟨σ',H',J.unpinX I.ok,q⟩
    | cont=>obtain ⟨σ',H',J,q⟩:=q; exact ⟨σ',H',J.unpinX I.ok,q⟩
    | ret u=>obtain ⟨v,σ',H',J,r,q⟩:=q; exact ⟨v,σ',H',J.unpinX I.ok,r,q⟩
  · obtain ⟨a,C,d,σ1,H1,rfl,I1,x,q⟩:=hxe
    obtain ⟨Ca,rfl,hit,hh⟩:=hx C d H1 q
    refine zW (X:=X.pin pins) ow' I1 x fun h2 I2 x2=>?_
    refine kQ (X:=X.pin pins) ow' I2 (.inr x2) fun h3 I3 _ x3=>?_
    replace x3:=x3 x2
    obtain ⟨oe,oT,T,I4,hcl,back⟩:=x3.pins I3
    refine wpAny_handleBy_cons (codeAny_handlers_test ?_) (by intro q; cases q)
    refine FN (X:=(X.pin pins).mk2 (.ref a)) (a:=a) (Ca:=Ca) (b:=true) cl.mk2 I4.marked rfl (List.mem_cons_self ..) hcl hcs hit fun s5 I5=>?_
    have I6:=I5.unmarked (I.ok.pin pins)
    have x6:fM s5.heap (X.pin pins).lo H1 a (.ref Ca) d:=back _ (I6.pin (a,oe) (List.mem_append_right _ (by simp))).1 (I6.pin (T,oT) (List.mem_append_right _ (by simp))).1
    show codeAny _ _ _ _ _
    refine codeAny_handlers_suite_as ?_
    refine kQ (X:=X.pin pins) ow' I6.nopins (.inr x6) fun h7 I7 _ x7=>?_
    replace x7:=x7 x6
    obtain ⟨le,he0,oe7,vs7,he7,hc7,hdd7,hd7,_⟩:=x7
    have I8:=I7.track (o:=.ext (XC a (.ref Ca) d)) le he0 (fun _=>XC.ok ⟨oe7,vs7,he7,hc7,hdd7,hd7⟩) ⟨oe7,vs7,he7,hd7⟩
    have I9:Inv (X.pin pins) [] (List.replicate X.N.length none) (upd H1 a (.ext (XC a (.ref Ca) d))) _:=I8.weak (by rw [List.length_replicate]; exact I8.len.symm) fun i v e=>by
      rw [List.getElem?_replicate] at e
      split at e <;> cases e
    obtain ⟨th,hth,hq⟩:=hh a he0
    refine iH (X:=X.pin pins) I9 nd hj (.inl hloc) (v:=.ref a) rfl (fun s10 I10=>?_) (.inr hloc)
    refine wpAny_mono (hth [] s10 _ _ _ I10.marked hq) (fun f s11 q11=>?_) fun _ _ z=>z.elim
    show wpAny _ _ (do bindName X.env n .none; unbindBehindTheSuite X.env n hpos) _ _ s11
    have fin:∀ {σ':St} {H':Hp} {Q:Unit→Shared→Prop},Inv ((X.pin pins).mk2 (.ref a)) [] σ' H' s11→(∀ s',Inv X pins (σ'.set j none) H' s'→Q () s')→wpAny (model X.prog X.w) X.A (do bindName X.env n .none; unbindBehindTheSuite X.env n hpos) Q X.xe s11:=fun {σ' H' Q} J k=>by
      have J1:=(J.unmarked (I.ok.pin pins)).unpinX I.ok
      refine wpAny_bind (wpAny_bindName (iH J1 nd hj (.inl hloc) (v:=.non) rfl (fun s12 J2=>?_) (.inr hloc)))
      unfold unbindBehindTheSuite
      refine wpAny_onRaise (FA J2 nd hj hloc (v:=.non) (by
        have hlt:j < σ'.length:=by rw [J.len]; exact (List.getElem?_eq_some_iff.mp hj).1
        rw [List.getElem?_set_self hlt]) fun s13 J3=>?_)
      rw [List.set_set] at J3
      exact k s13 J3
    cases f with
    | next=>obtain ⟨σ',H',J,q⟩:=q11; exact fin J fun s' K=>⟨_,H',K,q⟩
    | brk=>obtain ⟨σ',H',J,q⟩:=q11; exact fin J fun s' K=>⟨_,H',K,q⟩
    | cont=>obtain ⟨σ',H',J,q⟩:=q11; exact fin J fun s' K=>⟨_,H',K,q⟩
    | ret u=>obtain ⟨v,σ',H',J,r,q⟩:=q11; exact fin J fun s' K=>⟨v,_,H',K,r,q⟩
end L2
namespace LX
open PySem PySem.W PyProof.Rows
open PySem.Builtin PySem.Builtin.ObjectAttr
section
variable {prog:Program} {w:World} {A:Around} {E:Value→Shared→Prop} {s:Shared} {K:Frag} {x C:Addr}
theorem GH {ox:Obj} {od:Option Obj} {Q:Option Value→Shared→Prop} (hga:findIn K (.ref C) "__getattribute__"=some (some (.builtin "BaseException.__getattribute__"))) (hk:findIn K (.ref C) "__getattr__"=some none) (hp:eS K C=true)
    (hf:findObj K C od "__class__"=some (.bind (.builtin "getset_descriptor.__get__") (.builtin "object.__class__"))) (hm:mroIn K C (.type "object")=some true) (X:K.In s.heap) (I:InstAt s.heap x ox C od) (h:Q (some (.ref C)) { s with toks:=s.toks + 1 }) :
    wpAny (model prog w) A (getAttr? (.ref x) "__class__") Q E s:=by
  obtain ⟨cd,hc,ho⟩:=any_some hp
  have ne:cd.mro.isEmpty=false:=by cases q:cd.mro with | nil=>rw [q] at ho; cases ho | cons _ _=>rfl
  have sub:Looks (model prog w) s.heap (isInstance (.ref x) (.type "BaseException")) true:=I.type.andThen (looks_mroIn X (by unfold mroIn; rw [hc,Option.bind_some,if_neg (by rw [ne]; decide),oW ho]))
  have L0:=I.type (M:=model prog w)
  have L1:=looks_findIn (M:=model prog w) X hga
  have L2:=looks_findIn (M:=model prog w) X hk
  have L3:=looks_find (M:=model prog w) X I hf
  obtain ⟨hh',g,d,t,os⟩:=s
  unfold getAttr? getAttrBy? getAttrBy
  refine wpAny_bind (wpAny_mkText (wpAny_bind (wpAny_attempt (wpAny_holding (wpAny_bind (L0.at (wpAny_bind (L1.at ?_))))))))
  dsimp only
  rw [if_neg (by simp [onTheHeap])]
  unfold getAttrByItsOwn hookBefore
  rw [if_pos (show onTheHeap (Value.ref C)=true from rfl)]
  refine wpAny_bind (L2.at (wpAny_bind (wpAny_attempt (wpAny_holding ?_))))
  unfold callGetattribute
  rw [if_neg (by simp [onTheHeap])]
  unfold boundAndCalled
  rw [nA.bind]
  refine wpAny_bind (wpAny_pure (wpAny_call ?_))
  refine codeAny_call_builtin nA.plain PySem.F.entry_bexc_ga (@check_slot (model prog w) _ _ _ "BaseException.__getattribute__" "BaseException" "__getattribute__" (.ref x) [.str "__class__" _] [] _ (by decide +kernel) (by decide +kernel) sub (PySem.F.args_bexc_ga (.ref x) _) ?_)
  refine wpAny_bind (wpAny_pure (wpAny_bind (wpAny_pure (a:=("__class__":Str)) (wpAny_bind (L0.at (wpAny_bind (L3.at ?_)))))))
  show wpAny _ _ (holding [Value.builtin "object.__class__"] (call (.builtin "getset_descriptor.__get__") [.builtin "object.__class__",.ref x,.ref C]) >>= ret) _ _ _
  refine wpAny_bind (wpAny_holding (wpAny_call (class_get (s:=⟨hh',g,d,t + 1,os⟩) (ox:=ox) (od:=od) X I hm (wpAny_pure ?_))))
  show wpAny _ _ (handedOut (.ref C)) _ _ _
  exact handed_on rfl (wpAny_pure h)
theorem KS {ox:Obj} {od:Option Obj} (hd:hasDictIn K C=true) (hga:findIn K (.ref C) "__getattribute__"=some (some (.builtin "BaseException.__getattribute__"))) (hk:findIn K (.ref C) "__getattr__"=some none) (hp:eS K C=true)
    (hf:findObj K C od "__class__"=some (.bind (.builtin "getset_descriptor.__get__") (.builtin "object.__class__"))) (hm:mroIn K C (.type "object")=some true) :
    KitX K (.ref x) (.ref C) (fun h=>InstAt h x ox C od) where
  ty:=fun _ _ _ I=>I.type
  it :=fun _ _ X _=>by
    obtain ⟨cdD,hcD,_⟩:=any_some hd
    unfold clsIn at hcD
    split at hcD
    · rename_i c' d' cd' sl' ho
      intro A' Q' E' s' k q
      unfold isType loadHead
      exact wpAny_bind (wpAny_loadPart (k _ _ (X _ _ ho)) (wpAny_pure q))
    · cases hcD
  ne :=fun h tp dd its n sl X htp=>by
    obtain ⟨cdD,hcD,_⟩:=any_some hd
    refine Bool.eq_false_iff.mpr fun q=>?_
    have e:C=tp:=Value.ref.inj (beq_iff_eq.mp q)
    subst e
    unfold clsIn at hcD
    split at hcD
    · rename_i c' d' cd' sl' ho
      have z:=(X _ _ ho).symm.trans htp
      cases z
    · cases hcD
  ca:=fun X I k=>GH hga hk hp hf hm X I k
theorem pV {name:Str} {a g:Value} (hc:(clsIn K C).isSome=true) (ha:findIn K (.ref C) name=some (some a)) (hg:specialIn K a "__get__"=some (some g)) (ht:takesIn K a=some true):findObj K C none name=some (.bind g a):=by
  obtain ⟨cd,hc⟩:=Option.isSome_iff_exists.mp hc
  unfold findObj
  rw [hc,Option.bind_some,ha,Option.bind_some]
  simp only [hg,ht,Option.bind_some]
end
end LX
namespace L2
open PySem PySem.Spec
open PyProof.Rows hiding St
structure XAt (K:W.Frag) (C:Addr):Prop where
  ga:W.findIn K (.ref C) "__getattribute__"=some (some (.builtin "BaseException.__getattribute__"))
  gh:W.findIn K (.ref C) "__getattr__"=some none
  ov:LX.eS K C=true
  hd:W.hasDictIn K C=true
  ha:W.findIn K (.ref C) "__class__"=some (some (.builtin "object.__class__"))
  hn:W.specialIn K (.builtin "object.__class__") "__get__"=some (some (.builtin "getset_descriptor.__get__"))
  ht:W.takesIn K (.builtin "object.__class__")=some true
  hm:W.mroIn K C (.type "object")=some true
section
variable {X:Cx} {pins:List (Addr×Obj)} {σ:St} {H:Hp} {s:Shared} {a C:Addr} {A:Around} {E:Value→Shared→Prop}
theorem WO {d:Option Addr} {fs:List (Str×V)} (I:Inv X pins σ H s) (h1:H a=some (.ext (XC a (.ref C) d))) (h2:∀ dd,d=some dd→H dd=some (.xd fs)) :
    ∃ ox od,W.InstAt s.heap a ox C od∧(∀ dd,d=some dd→∃ (o:Obj) (mA:Str→Option Value),od=some o∧(∀ name,W.lookIn name o=some (mA name))∧∀ f,lJ (fs.lookup f) (mA f))∧(d=none→od=none):=by
  obtain ⟨⟨oe,vs,he,hc,hdd,hd⟩,_,_⟩:=I.hok _ _ h1
  have no:W.notCls oe=true:=by unfold W.notCls; rw [hd]
  cases d with
  | none=>exact ⟨oe,none,⟨he,hc,no,by rw [hdd]; trivial⟩,(fun dd z=>by cases z),fun _=>rfl⟩
  | some dd =>
    obtain ⟨mA,hn,hr⟩:=I.hok _ _ (h2 dd rfl)
    obtain ⟨od,ho,hl⟩:=sE hn
    exact ⟨oe,some od,⟨he,hc,no,by rw [hdd]; exact ho⟩,(fun dd' z=>⟨od,mA,rfl,hl,hr⟩),fun z=>by cases z⟩
theorem aF4 {d:Addr} {fs:List (Str×V)} {f:Str} {v:V} {expr:Bool} {Q:Value→Shared→Prop} (D:XAt X.K C) (hf:W.findIn X.K (.ref C) f=some none) (I:Inv X pins σ H s) (h1:H a=some (.ext (XC a (.ref C) (some d)))) (h2:H d=some (.xd fs)) (hl:fs.lookup f=some v)
    (h:∀ u s',Inv X pins σ H s'→aQ v u→Q u s'):wpAny (model X.prog X.w) A (getAttr (.ref a) f expr) Q E s:=by
  obtain ⟨ox,od,J,hx,_⟩:=WO (fs:=fs) I h1 fun dd z=>by cases z; exact h2
  obtain ⟨o,mA,rfl,hlk,hr⟩:=hx d rfl
  have r:=hr f
  rw [hl] at r
  cases em:mA f with
  | none=>rw [em] at r; exact r.elim
  | some u =>
    rw [em] at r
    exact LX.SL I.kIn J D.ga D.gh D.ov (W.findObj_own D.hd hf rfl (by rw [hlk,em])) (sC r) (h u _ (I.tok _) r)
theorem aF0 {d:Option Addr} {fs:List (Str×V)} {c:Value} {b:Bool} {Q:Value→Shared→Prop} (D:XAt X.K C) (I:Inv X pins σ H s) (h1:H a=some (.ext (XC a (.ref C) d))) (h2:∀ dd,d=some dd→H dd=some (.xd fs)) (e:W.kitOne X.K (.ref C) c=some b)
    (h:∀ tk,Q (.bool b) { s with toks:=tk }):wpAny (model X.prog X.w) A (call (.builtin "isinstance") [.ref a,c]) Q E s:=by
  obtain ⟨ox,od,J,hx,hn⟩:=WO (fs:=fs) I h1 h2
  have hc:(W.clsIn X.K C).isSome=true:=by obtain ⟨cd,hc,_⟩:=W.any_some D.hd; rw [hc]; rfl
  have hf:W.findObj X.K C od "__class__"=some (.bind (.builtin "getset_descriptor.__get__") (.builtin "object.__class__")):=by
    cases od with
    | none=>exact LX.pV hc D.ha D.hn D.ht
    | some o=>exact W.findObj_data hc D.ha D.hn D.ht
  exact W.kia_one (LX.KS D.hd D.ga D.gh D.ov hf D.hm) I.kIn J e (fun z=>nomatch z) h
end
end L2
namespace L3
open PySem PySem.Spec
open PyProof.Rows hiding St
open L2
inductive PV where
  | non | bl (b:Bool) | int (i:Int) | str (x:Str) | tup (xs:List PV) | lst (xs:List PV) | scr (ns:List Int)
  | ob (c:String) (ns:List Str) (xs:List PV) | ref (a:Addr) | ty (n:String) | cl (c:String) | fn (f:Str) | emp | dct (ks:List Key) (xs:List PV) | exc (c:String) (ns:List Str) (xs:List PV)
structure Ev where
  K:W.Frag
  cls:String→Addr
  fna:Str→Addr:=fun _=>0
  f0:Hp:=fun _=>none
  z0:Hp:=fun _=>none
mutual
noncomputable def RP (E:Ev) (Z:Hp):PV→V→Prop
  | .non=>fun v=>v= .non
  | .bl b=>fun v=>v= .bl b
  | .int i=>fun v=>v= .int i
  | .str x=>fun v=>v= .str x
  | .ty n=>fun v=>v= .ty n
  | .ref a=>fun v=>v= .ref a
  | .cl c=>fun v=>v= .ref (E.cls c)
  | .fn f=>fun v=>v= .ref (E.fna f)
  | .emp=>fun v=>∃ a,v= .ref a∧Z a=some (.dK [])
  | .scr ns=>fun v=>∃ a,v= .ref a∧SqL E.K Z a (ns.map V.int)
  | .tup xs=>fun v=>∃ a vs,v= .ref a∧SqT E.K Z a vs∧RPs E Z xs vs
  | .lst xs=>fun v=>∃ a vs,v= .ref a∧Z a=some (.lst vs)∧RPs E Z xs vs
  | .dct ks xs=>fun v=>∃ a vs,v= .ref a∧Z a=some (.dK (ks.zip vs))∧ks.length=vs.length∧RPs E Z xs vs
  | .ob c ns xs=>fun v=>∃ a dx vs,v= .ref a∧Z a=some (.ins (E.cls c) dx (ns.zip vs))∧ns.length=vs.length∧RPs E Z xs vs
  | .exc c ns xs=>fun v=>∃ a d vs,v= .ref a∧Z a=some (.ext (XC a (.ref (E.cls c)) d))∧ns.length=vs.length∧(∀ dd,d=some dd→Z dd=some (.xd (ns.zip vs)))∧(d=none→ns=[])∧RPs E Z xs vs
noncomputable def RPs (E:Ev) (Z:Hp):List PV→List V→Prop
  | []=>fun vs=>vs=[]
  | x :: xs=>fun vs=>∃ v r,vs=v :: r∧RP E Z x v∧RPs E Z xs r
end
theorem dE {K:W.Frag} {Z Z':Hp} {a:Addr} {xs:List V} (e:aM Z Z') (h:SqT K Z a xs):SqT K Z' a xs:=by
  rcases h with (h | ⟨o,h⟩) | h
  · exact .inl (.inl (e _ _ h))
  · exact .inl (.inr ⟨o,e _ _ h⟩)
  · exact .inr h
section
variable {E:Ev} {Z Z' Z1 Z2 H H':Hp}
mutual
theorem RP.mono (e:aM Z Z'):∀ {x:PV} {v:V},RP E Z x v→RP E Z' x v
  | .non,_,h=>h
  | .bl _,_,h=>h
  | .int _,_,h=>h
  | .str _,_,h=>h
  | .ty _,_,h=>h
  | .ref _,_,h=>h
  | .cl _,_,h=>h
  | .fn _,_,h=>h
  | .emp,_,⟨a,e1,h⟩=>⟨a,e1,e _ _ h⟩
  | .scr _,_,⟨a,e1,h⟩=>⟨a,e1,e.seq h⟩
  | .tup _,_,⟨a,vs,e1,h,r⟩=>⟨a,vs,e1,dE e h,RPs.mono e r⟩
  | .lst _,_,⟨a,vs,e1,h,r⟩=>⟨a,vs,e1,e _ _ h,RPs.mono e r⟩
  | .dct _ _,_,⟨a,vs,e1,h,l,r⟩=>⟨a,vs,e1,e _ _ h,l,RPs.mono e r⟩
  | .ob _ _ _,_,⟨a,dx,vs,e1,h,l,r⟩=>⟨a,dx,vs,e1,e _ _ h,l,RPs.mono e r⟩
  | .exc _ _ _,_,⟨a,d,vs,e1,h,l,hd,hn,r⟩=>⟨a,d,vs,e1,e _ _ h,l,fun dd q=>e _ _ (hd dd q),hn,RPs.mono e r⟩
theorem RPs.mono (e:aM Z Z'):∀ {xs:List PV} {vs:List V},RPs E Z xs vs→RPs E Z' xs vs
  | [],_,h=>h
  | _ :: _,_,⟨v,r,e1,h,t⟩=>⟨v,r,e1,RP.mono e h,RPs.mono e t⟩
end
theorem RPs.length:∀ {xs:List PV} {vs:List V},RPs E Z xs vs→xs.length=vs.length
  | [],_,h=>by cases h; rfl
  | _ :: _,_,⟨v,r,e1,_,t⟩=>by subst e1; rw [List.length_cons,List.length_cons,RPs.length t]
theorem RPs.get:∀ {xs:List PV} {vs:List V} {i:Nat} {x:PV},RPs E Z xs vs→xs[i]? =some x→∃ v,vs[i]? =some v∧RP E Z x v
  | [],_,_,_,_,e=>by simp at e
  | y :: _,_,0,x,⟨v,r,e1,h,t⟩,e=>by
    subst e1
    have:y=x:=by simpa using e
    subst this
    exact ⟨v,rfl,h⟩
  | _ :: _,_,i + 1,x,⟨v,r,e1,h,t⟩,e=>by
    subst e1
    obtain ⟨u,a,b⟩:=RPs.get (i:=i) t (by simpa using e)
    exact ⟨u,by simpa using a,b⟩
theorem RPs.append:∀ {xs ys:List PV} {vs us:List V},RPs E Z xs vs→RPs E Z ys us→RPs E Z (xs ++ ys) (vs ++ us)
  | [],_,_,_,h,q=>by cases h; exact q
  | _ :: _,_,_,us,⟨v,r,e1,h,t⟩,q=>by subst e1; exact ⟨v,r ++ us,rfl,h,RPs.append t q⟩
theorem RPs.set {y:PV} {u:V} (q:RP E Z y u):∀ {xs:List PV} {vs:List V} (i:Nat),RPs E Z xs vs→RPs E Z (xs.set i y) (vs.set i u)
  | [],_,_,h=>by cases h; exact rfl
  | _ :: _,_,0,⟨v,r,e1,h,t⟩=>by subst e1; exact ⟨u,r,rfl,q,t⟩
  | _ :: _,_,i + 1,⟨v,r,e1,h,t⟩=>by subst e1; exact ⟨v,r.set i u,rfl,h,RPs.set q i t⟩
theorem RPs.take:∀ {xs:List PV} {vs:List V} (n:Nat),RPs E Z xs vs→RPs E Z (xs.take n) (vs.take n)
  | _,_,0,_=>rfl
  | [],_,_ + 1,h=>by cases h; exact rfl
  | _ :: _,_,n + 1,⟨v,r,e1,h,t⟩=>by subst e1; exact ⟨v,r.take n,rfl,h,RPs.take n t⟩
theorem RPs.drop:∀ {xs:List PV} {vs:List V} (n:Nat),RPs E Z xs vs→RPs E Z (xs.drop n) (vs.drop n)
  | _,_,0,h=>h
  | [],_,_ + 1,h=>by cases h; exact rfl
  | _ :: _,_,n + 1,⟨v,r,e1,h,t⟩=>by subst e1; exact RPs.drop n t
theorem RPs.ofInts:∀ (ns:List Int),RPs E Z (ns.map PV.int) (ns.map V.int)
  | []=>rfl
  | n :: r=>⟨.int n,r.map V.int,rfl,rfl,RPs.ofInts r⟩
theorem RPs.reverse:∀ {xs:List PV} {vs:List V},RPs E Z xs vs→RPs E Z xs.reverse vs.reverse
  | [],_,h=>by cases h; exact rfl
  | x :: xs,_,⟨v,r,e1,h,t⟩=>by
    subst e1
    rw [List.reverse_cons,List.reverse_cons]
    exact RPs.append (RPs.reverse t) ⟨v,[],rfl,h,rfl⟩
end
inductive GO where
  | lst (xs:List PV) | ins (c:String) (ns:List Str) (xs:List PV)
noncomputable abbrev Gh:=Addr→Option GO
noncomputable def gup (G:Gh) (a:Addr) (o:GO):Gh:=fun b=>if b=a then some o else G b
noncomputable def GZ (G:Gh) (a:Addr):Gh:=fun b=>if b=a then none else G b
theorem aN {G:Gh} {a:Addr} {o:GO}:gup G a o a=some o:=if_pos rfl
theorem dX {G:Gh} {a b:Addr} {o:GO} (h:b≠a):gup G a o b=G b:=if_neg h
theorem eQ {G:Gh} {a:Addr} {o u:GO}:gup (gup G a o) a u=gup G a u:=by funext b; unfold gup; split <;> rfl
theorem tL {G:Gh} {a b:Addr} (h:b≠a):GZ G a b=G b:=if_neg h
theorem ED {G:Gh} {a:Addr}:GZ G a a=none:=if_pos rfl
theorem oU {G:Gh} {a:Addr} {o:GO} (h:G a=none):GZ (gup G a o) a=G:=by
  funext b; unfold GZ gup
  split
  · rename_i e; rw [e]; exact h.symm
  · rfl
noncomputable def RO (E:Ev) (Z:Hp):GO→HO→Prop
  | .lst xs,o=>∃ vs,o= .lst vs∧RPs E Z xs vs
  | .ins c ns xs,o=>∃ dx vs,o= .ins (E.cls c) dx (ns.zip vs)∧ns.length=vs.length∧RPs E Z xs vs
theorem RO.mono {E:Ev} {Z Z':Hp} (e:aM Z Z'):∀ {o:GO} {o':HO},RO E Z o o'→RO E Z' o o'
  | .lst _,_,⟨vs,a,b⟩=>⟨vs,a,b.mono e⟩
  | .ins _ _ _,_,⟨dx,vs,a,l,b⟩=>⟨dx,vs,a,l,b.mono e⟩
structure Sim (E:Ev) (F H Z:Hp) (G:Gh):Prop where
  z:aM Z H
  f:∀ a o,F a=some o→H a=some o∧Z a=none∧G a=none
  g:∀ a o,G a=some o→Z a=none∧∃ o',H a=some o'∧RO E Z o o'
  z0:aM E.z0 Z
  ff:aM E.f0 F
section
variable {E:Ev} {F H Z:Hp} {G G':Gh} {p:Addr} {o:HO} {go:GO}
theorem Sim.zn (S:Sim E F H Z G) (n:H p=none):Z p=none:=by
  cases e:Z p with
  | none=>rfl
  | some u=>rw [S.z _ _ e] at n; cases n
theorem Sim.gn (S:Sim E F H Z G) (n:H p=none):G p=none:=by
  cases e:G p with
  | none=>rfl
  | some u=>obtain ⟨_,o',e',_⟩:=S.g _ _ e; rw [e'] at n; cases n
theorem Sim.fn (S:Sim E F H Z G) (n:H p=none):F p=none:=by
  cases e:F p with
  | none=>rfl
  | some u=>rw [(S.f _ _ e).1] at n; cases n
theorem Sim.fz (S:Sim E F H Z G) (n:H p=none):Sim E F (upd H p o) (upd Z p o) G:=by
  have zn:=S.zn n
  have sub:aM Z (upd Z p o):=bA zn o
  refine ⟨fun a u q=>?_,fun a u q=>?_,fun a u q=>?_,S.z0.trans sub,S.ff⟩
  · by_cases e:a=p
    · subst e; rw [aH] at q ⊢; exact q
    · rw [aB e] at q ⊢; exact S.z _ _ q
  · obtain ⟨h1,h2,h3⟩:=S.f a u q
    have e:a≠p:=aG h1 n
    exact ⟨by rw [aB e]; exact h1,by rw [aB e]; exact h2,h3⟩
  · obtain ⟨a1,o',a2,r⟩:=S.g a u q
    have e:a≠p:=aG a2 n
    exact ⟨by rw [aB e]; exact a1,o',by rw [aB e]; exact a2,r.mono sub⟩
theorem Sim.new (S:Sim E F H Z G) (n:H p=none) (r:RO E Z go o):Sim E F (upd H p o) Z (gup G p go):=by
  refine ⟨fun a u q=>eX (S.z _ _ q) n,fun a u q=>?_,fun a u q=>?_,S.z0,S.ff⟩
  · obtain ⟨h1,h2,h3⟩:=S.f a u q
    have e:a≠p:=aG h1 n
    exact ⟨by rw [aB e]; exact h1,h2,by rw [dX e]; exact h3⟩
  by_cases e:a=p
  · subst e; rw [aN] at q; cases q; exact ⟨S.zn n,o,aH,r⟩
  · rw [dX e] at q
    obtain ⟨a1,o',a2,r'⟩:=S.g a u q
    exact ⟨a1,o',by rw [aB e]; exact a2,r'⟩
theorem Sim.other (S:Sim E F H Z G) (n:H p=none):Sim E F (upd H p o) Z G:=by
  refine ⟨fun a u q=>eX (S.z _ _ q) n,fun a u q=>⟨eX (S.f a u q).1 n,(S.f a u q).2⟩,fun a u q=>?_,S.z0,S.ff⟩
  obtain ⟨a1,o',a2,r'⟩:=S.g a u q
  exact ⟨a1,o',eX a2 n,r'⟩
theorem Sim.set {u:GO} (S:Sim E F H Z G) (n:G p=some u) (r:RO E Z go o):Sim E F (upd H p o) Z (gup G p go):=by
  obtain ⟨z,_,_,_⟩:=S.g _ _ n
  refine ⟨fun a u q=>?_,fun a u' q=>?_,fun a u q=>?_,S.z0,S.ff⟩
  · have e:a≠p:=aG q z
    rw [aB e]; exact S.z _ _ q
  · obtain ⟨h1,h2,h3⟩:=S.f a u' q
    have e:a≠p:=fun e=>by subst e; rw [n] at h3; cases h3
    exact ⟨by rw [aB e]; exact h1,h2,by rw [dX e]; exact h3⟩
  · by_cases e:a=p
    · subst e; rw [aN] at q; cases q; exact ⟨z,o,aH,r⟩
    · rw [dX e] at q
      obtain ⟨a1,o',a2,r'⟩:=S.g a u q
      exact ⟨a1,o',by rw [aB e]; exact a2,r'⟩
theorem Sim.frz {u:GO} (S:Sim E F H Z G) (n:G p=some u) (h:H p=some o):Sim E F H (upd Z p o) (GZ G p):=by
  obtain ⟨z,_,_,_⟩:=S.g _ _ n
  refine ⟨fun a u q=>?_,fun a u' q=>?_,fun a u q=>?_,S.z0.trans (bA z o),S.ff⟩
  · by_cases e:a=p
    · subst e; rw [aH] at q; rw [←q]; exact h
    · rw [aB e] at q; exact S.z _ _ q
  · obtain ⟨h1,h2,h3⟩:=S.f a u' q
    have e:a≠p:=fun e=>by subst e; rw [n] at h3; cases h3
    exact ⟨h1,by rw [aB e]; exact h2,by rw [tL e]; exact h3⟩
  · by_cases e:a=p
    · subst e; rw [ED] at q; cases q
    · rw [tL e] at q
      obtain ⟨a1,o',a2,r'⟩:=S.g a u q
      exact ⟨by rw [aB e]; exact a1,o',a2,r'.mono (bA z o)⟩
theorem Sim.weak (S:Sim E F H Z G) (h:∀ a o,G' a=some o→G a=some o):Sim E F H Z G':=⟨S.z,fun a o q=>⟨(S.f a o q).1,(S.f a o q).2.1,by
  cases e:G' a with
  | none=>rfl
  | some u=>exact absurd (h _ _ e) (by rw [(S.f a o q).2.2]; intro z; cases z)⟩,fun a o q=>S.g a o (h a o q),S.z0,S.ff⟩
theorem Sim.mine (S:Sim E F H Z G) (n:H p=none):Sim E (upd F p o) (upd H p o) Z G:=by
  refine ⟨fun a u q=>eX (S.z _ _ q) n,fun a u q=>?_,fun a u q=>?_,S.z0,S.ff.trans (bA (S.fn n) o)⟩
  · by_cases e:a=p
    · subst e; rw [aH] at q ⊢; exact ⟨q,S.zn n,S.gn n⟩
    · rw [aB e] at q ⊢; exact S.f a u q
  · obtain ⟨a1,o',a2,r'⟩:=S.g a u q
    exact ⟨a1,o',eX a2 n,r'⟩
theorem Sim.f0n (S:Sim E F H Z G) (n:H p=none):E.f0 p=none:=by
  cases e:E.f0 p with
  | none=>rfl
  | some u=>exact absurd (S.ff _ _ e) (by rw [S.fn n]; intro z; cases z)
theorem IW {F':Hp} (h:aM E.f0 (upd F p o)) (n:E.f0 p=none):aM E.f0 F:=fun a u q=>by
  have e:a≠p:=aG q n
  have:=h a u q
  rwa [aB e] at this
theorem Sim.turn {u:HO} (S:Sim E (upd F p u) H Z G) (nf:E.f0 p=none):Sim E (upd F p o) (upd H p o) Z G:=by
  obtain ⟨h1,h2,h3⟩:=S.f p u aH
  refine ⟨fun a v q=>?_,fun a v q=>?_,fun a v q=>?_,S.z0,fun a v q=>by
    have e:a≠p:=aG q nf
    have:=S.ff a v q
    rw [aB e] at this ⊢; exact this⟩
  · have e:a≠p:=aG q h2
    rw [aB e]; exact S.z _ _ q
  · by_cases e:a=p
    · subst e; rw [aH] at q ⊢; exact ⟨q,h2,h3⟩
    · rw [aB e] at q ⊢
      exact S.f a v (by rw [aB e]; exact q)
  · obtain ⟨a1,o',a2,r'⟩:=S.g a v q
    have e:a≠p:=fun e=>by subst e; rw [h3] at q; cases q
    exact ⟨a1,o',by rw [aB e]; exact a2,r'⟩
theorem Sim.mineZ (S:Sim E (upd F p o) H Z G) (n:F p=none) (nf:E.f0 p=none):Sim E F H (upd Z p o) G:=by
  obtain ⟨h1,h2,h3⟩:=S.f p o aH
  have sub:aM Z (upd Z p o):=bA h2 o
  refine ⟨fun a v q=>?_,fun a v q=>?_,fun a v q=>?_,S.z0.trans sub,IW (F':=F) S.ff nf⟩
  · by_cases e:a=p
    · subst e; rw [aH] at q; rw [←q]; exact h1
    · rw [aB e] at q; exact S.z _ _ q
  · have e:a≠p:=aG q n
    obtain ⟨b1,b2,b3⟩:=S.f a v (by rw [aB e]; exact q)
    exact ⟨b1,by rw [aB e]; exact b2,b3⟩
  · obtain ⟨a1,o',a2,r'⟩:=S.g a v q
    have e:a≠p:=fun e=>by subst e; rw [h3] at q; cases q
    exact ⟨by rw [aB e]; exact a1,o',a2,r'.mono sub⟩
theorem Sim.mineG (S:Sim E (upd F p o) H Z G) (n:F p=none) (nf:E.f0 p=none) (r:RO E Z go o):Sim E F H Z (gup G p go):=by
  obtain ⟨h1,h2,h3⟩:=S.f p o aH
  refine ⟨S.z,fun a v q=>?_,fun a v q=>?_,S.z0,IW (F':=F) S.ff nf⟩
  · have e:a≠p:=aG q n
    obtain ⟨b1,b2,b3⟩:=S.f a v (by rw [aB e]; exact q)
    exact ⟨b1,b2,by rw [dX e]; exact b3⟩
  · by_cases e:a=p
    · subst e; rw [aN] at q; cases q; exact ⟨h2,o,h1,r⟩
    · rw [dX e] at q; exact S.g a v q
theorem Sim.weakF (S:Sim E F H Z G):Sim E E.f0 H Z G:=⟨S.z,fun a o q=>S.f a o (S.ff a o q),S.g,S.z0,aM.refl _⟩
end
noncomputable abbrev Ev.at (E:Ev) (f z:Hp):Ev:={ E with f0:=f,z0:=z }
section
variable {E:Ev} {f z Z:Hp}
mutual
theorem RP.at:∀ {x:PV} {v:V},RP E Z x v→RP (E.at f z) Z x v
  | .non,_,h=>h
  | .bl _,_,h=>h
  | .int _,_,h=>h
  | .str _,_,h=>h
  | .ty _,_,h=>h
  | .ref _,_,h=>h
  | .cl _,_,h=>h
  | .fn _,_,h=>h
  | .emp,_,h=>h
  | .scr _,_,h=>h
  | .tup _,_,⟨a,vs,e1,h,r⟩=>⟨a,vs,e1,h,RPs.at r⟩
  | .lst _,_,⟨a,vs,e1,h,r⟩=>⟨a,vs,e1,h,RPs.at r⟩
  | .dct _ _,_,⟨a,vs,e1,h,l,r⟩=>⟨a,vs,e1,h,l,RPs.at r⟩
  | .ob _ _ _,_,⟨a,dx,vs,e1,h,l,r⟩=>⟨a,dx,vs,e1,h,l,RPs.at r⟩
  | .exc _ _ _,_,⟨a,d,vs,e1,h,l,hd,hn,r⟩=>⟨a,d,vs,e1,h,l,hd,hn,RPs.at r⟩
theorem RPs.at:∀ {xs:List PV} {vs:List V},RPs E Z xs vs→RPs (E.at f z) Z xs vs
  | [],_,h=>h
  | _ :: _,_,⟨v,r,e1,h,t⟩=>⟨v,r,e1,RP.at h,RPs.at t⟩
end
mutual
theorem RP.un:∀ {x:PV} {v:V},RP (E.at f z) Z x v→RP E Z x v
  | .non,_,h=>h
  | .bl _,_,h=>h
  | .int _,_,h=>h
  | .str _,_,h=>h
  | .ty _,_,h=>h
  | .ref _,_,h=>h
  | .cl _,_,h=>h
  | .fn _,_,h=>h
  | .emp,_,h=>h
  | .scr _,_,h=>h
  | .tup _,_,⟨a,vs,e1,h,r⟩=>⟨a,vs,e1,h,RPs.un r⟩
  | .lst _,_,⟨a,vs,e1,h,r⟩=>⟨a,vs,e1,h,RPs.un r⟩
  | .dct _ _,_,⟨a,vs,e1,h,l,r⟩=>⟨a,vs,e1,h,l,RPs.un r⟩
  | .ob _ _ _,_,⟨a,dx,vs,e1,h,l,r⟩=>⟨a,dx,vs,e1,h,l,RPs.un r⟩
  | .exc _ _ _,_,⟨a,d,vs,e1,h,l,hd,hn,r⟩=>⟨a,d,vs,e1,h,l,hd,hn,RPs.un r⟩
theorem RPs.un:∀ {xs:List PV} {vs:List V},RPs (E.at f z) Z xs vs→RPs E Z xs vs
  | [],_,h=>h
  | _ :: _,_,⟨v,r,e1,h,t⟩=>⟨v,r,e1,RP.un h,RPs.un t⟩
end
theorem RO.at:∀ {o:GO} {o':HO},RO E Z o o'→RO (E.at f z) Z o o'
  | .lst _,_,⟨vs,a,b⟩=>⟨vs,a,b.at⟩
  | .ins _ _ _,_,⟨dx,vs,a,l,b⟩=>⟨dx,vs,a,l,b.at⟩
theorem RO.un:∀ {o:GO} {o':HO},RO (E.at f z) Z o o'→RO E Z o o'
  | .lst _,_,⟨vs,a,b⟩=>⟨vs,a,b.un⟩
  | .ins _ _ _,_,⟨dx,vs,a,l,b⟩=>⟨dx,vs,a,l,b.un⟩
variable {F H:Hp} {G:Gh}
theorem Sim.at (S:Sim E F H Z G):Sim (E.at F Z) F H Z G:=⟨S.z,S.f,fun a o q=>let ⟨h1,o',h2,r⟩:=S.g a o q; ⟨h1,o',h2,r.at⟩,aM.refl _,aM.refl _⟩
theorem Sim.un {F1 H1 Z1:Hp} {G1:Gh} (S:Sim E F H Z G) (S1:Sim (E.at F Z) F H1 Z1 G1):Sim E F H1 Z1 G1:=⟨S1.z,S1.f,fun a o q=>let ⟨h1,o',h2,r⟩:=S1.g a o q; ⟨h1,o',h2,r.un⟩,S.z0.trans S1.z0,S.ff⟩
end
noncomputable abbrev PX:=String→List Str→List PV→Gh→Prop
noncomputable def WkX (x:PX):PX:=fun c ns xs G=>∃ G2:Gh,(∀ a o,G2 a=some o→G a=some o)∧x c ns xs G2
theorem WkX.here {x:PX} {c:String} {ns:List Str} {xs:List PV} {G:Gh} (h:x c ns xs G):WkX x c ns xs G:=⟨G,fun _ _ z=>z,h⟩
noncomputable def KX (E:Ev) (F Z:Hp) (x:PX) (EX:XK):Prop:= ∀ c ns xs d vs Z1 G1 H1,aM Z Z1→Sim E F H1 Z1 G1→ns.length=vs.length→RPs E Z1 xs vs→(∀ dd,d=some dd→Z1 dd=some (.xd (ns.zip vs)))→(d=none→ns=[])→x c ns xs G1→EX (.ref (E.cls c)) d H1
theorem KX.wk {E:Ev} {F Z:Hp} {x:PX} {EX:XK} (k:KX E F Z x EX):KX E F Z (WkX x) EX:=fun c ns xs d vs Z1 G1 H1 s S l r hd hn ⟨G2,hs,q⟩=>k c ns xs d vs Z1 G2 H1 s (S.weak hs) l r hd hn q
theorem KX.no {E:Ev} {F Z:Hp} {EX:XK}:KX E F Z (fun _ _ _ _=>False) EX:=fun c ns xs d vs Z1 G1 H1 s S l r hd hn q=>q.elim
noncomputable abbrev PSt:=List (Option PV)
noncomputable def RSl (E:Ev) (Z:Hp):Option PV→Option V→Prop
  | none,_=>True
  | some x,o=>∃ v,o=some v∧RP E Z x v
inductive RSt (E:Ev) (Z:Hp):PSt→St→Prop
  | nil:RSt E Z [] []
  | cons {o:Option PV} {u:Option V} {σ':PSt} {σ:St}:RSl E Z o u→RSt E Z σ' σ→RSt E Z (o :: σ') (u :: σ)
section
variable {E:Ev} {Z Z':Hp}
theorem RSl.mono (e:aM Z Z'):∀ {o:Option PV} {u:Option V},RSl E Z o u→RSl E Z' o u
  | none,_,_=>trivial
  | some _,_,⟨v,a,r⟩=>⟨v,a,r.mono e⟩
theorem RSt.mono (e:aM Z Z'):∀ {σ':PSt} {σ:St},RSt E Z σ' σ→RSt E Z' σ' σ
  | _,_,.nil=>.nil
  | _,_,.cons a b=>.cons (a.mono e) (RSt.mono e b)
theorem RSt.get:∀ {σ':PSt} {σ:St} {i:Nat} {x:PV},RSt E Z σ' σ→σ'[i]? =some (some x)→∃ v,σ[i]? =some (some v)∧RP E Z x v
  | _,_,_,_,.nil,e=>by simp at e
  | _,_,0,x,.cons a _,e=>by
    simp at e; subst e
    obtain ⟨v,e1,r⟩:=a
    subst e1
    exact ⟨v,rfl,r⟩
  | _,_,i + 1,x,.cons _ b,e=>by
    obtain ⟨v,e1,r⟩:=RSt.get (i:=i) b (by simpa using e)
    exact ⟨v,by simpa using e1,r⟩
theorem RSt.set {x:PV} {v:V} (r:RP E Z x v):∀ {σ':PSt} {σ:St} (i:Nat),RSt E Z σ' σ→RSt E Z (σ'.set i (some x)) (σ.set i (some v))
  | _,_,_,.nil=>.nil
  | _,_,0,.cons _ b=>.cons ⟨v,rfl,r⟩ b
  | _,_,i + 1,.cons a b=>.cons a (RSt.set r i b)
theorem RSt.unset:∀ {σ':PSt} {σ:St} (i:Nat),RSt E Z σ' σ→RSt E Z (σ'.set i none) (σ.set i none)
  | _,_,_,.nil=>.nil
  | _,_,0,.cons _ b=>.cons trivial b
  | _,_,i + 1,.cons a b=>.cons a (RSt.unset i b)
theorem RSt.nones:∀ (n:Nat),RSt E Z (List.replicate n none) (List.replicate n none)
  | 0=>.nil
  | n + 1=>.cons trivial (RSt.nones n)
theorem RSt.append:∀ {a b:PSt} {c d:St},RSt E Z a c→RSt E Z b d→RSt E Z (a ++ b) (c ++ d)
  | _,_,_,_,.nil,h=>h
  | _,_,_,_,.cons r t,h=>.cons r (RSt.append t h)
theorem RSt.vals:∀ {xs:List PV} {vs:List V},RPs E Z xs vs→RSt E Z (xs.map some) (vs.map some)
  | [],_,h=>by cases h; exact .nil
  | _ :: _,_,⟨v,r,e,h,t⟩=>by subst e; exact .cons ⟨v,rfl,h⟩ (RSt.vals t)
theorem RSl.at {f z:Hp}:∀ {o:Option PV} {u:Option V},RSl E Z o u→RSl (E.at f z) Z o u
  | none,_,_=>trivial
  | some _,_,⟨v,a,r⟩=>⟨v,a,r.at⟩
theorem RSl.un {f z:Hp}:∀ {o:Option PV} {u:Option V},RSl (E.at f z) Z o u→RSl E Z o u
  | none,_,_=>trivial
  | some _,_,⟨v,a,r⟩=>⟨v,a,r.un⟩
theorem RSt.at {f z:Hp}:∀ {σ':PSt} {σ:St},RSt E Z σ' σ→RSt (E.at f z) Z σ' σ
  | _,_,.nil=>.nil
  | _,_,.cons a b=>.cons a.at (RSt.at b)
theorem RSt.un {f z:Hp}:∀ {σ':PSt} {σ:St},RSt (E.at f z) Z σ' σ→RSt E Z σ' σ
  | _,_,.nil=>.nil
  | _,_,.cons a b=>.cons a.un (RSt.un b)
theorem RSt.length:∀ {σ':PSt} {σ:St},RSt E Z σ' σ→σ'.length=σ.length
  | _,_,.nil=>rfl
  | _,_,.cons _ b=>by rw [List.length_cons,List.length_cons,RSt.length b]
noncomputable def aL (n:Nat) (xs:List PV):PSt:=xs.map some ++ List.replicate (n - xs.length) none
theorem RSt.start {N:List Str} {xs:List PV} {vs:List V} (r:RPs E Z xs vs):RSt E Z (aL N.length xs) (L2.start N vs):=by
  unfold aL L2.start
  rw [r.length]
  exact RSt.append (RSt.vals r) (RSt.nones _)
end
noncomputable abbrev PK1:=PV→Gh→Prop
noncomputable abbrev PTE:=PSt→Gh→PK1→Prop
noncomputable abbrev PTT:=PSt→Gh→(Bool→Gh→Prop)→Prop
noncomputable abbrev PTA:=PSt→Gh→(List PV→Gh→Prop)→Prop
structure gZ where
  nx:PSt→Gh→Prop
  rt:PK1
  bk:PSt→Gh→Prop
  ct:PSt→Gh→Prop
noncomputable abbrev PTS:=gZ→PSt→Gh→Prop
noncomputable def Kq (E:Ev) (F Z:Hp) (Q':PK1) (Q:VK):Prop:= ∀ x v Z1 G1 H1,aM Z Z1→Sim E F H1 Z1 G1→RP E Z1 x v→Q' x G1→Q v H1
noncomputable def KA (E:Ev) (F:Hp) (n:Nat) (Z:Hp) (Q':List PV→Gh→Prop) (Q:List V→Hp→Prop):Prop:= ∀ xs vs Z1 G1 H1,xs.length=n→aM Z Z1→Sim E F H1 Z1 G1→RPs E Z1 xs vs→Q' xs G1→Q vs H1
noncomputable def KT (E:Ev) (F Z:Hp) (Q':Bool→Gh→Prop) (Q:Bool→Hp→Prop):Prop:= ∀ b Z1 G1 H1,aM Z Z1→Sim E F H1 Z1 G1→Q' b G1→Q b H1
noncomputable def KSt (E:Ev) (F Z:Hp) (Q':PSt→Gh→Prop) (Q:St→Hp→Prop):Prop:= ∀ σ' σ Z1 G1 H1,aM Z Z1→Sim E F H1 Z1 G1→RSt E Z1 σ' σ→Q' σ' G1→Q σ H1
structure KD (E:Ev) (F Z:Hp) (D':gZ) (D:nL):Prop where
  nx:KSt E F Z D'.nx D.nx
  rt:Kq E F Z D'.rt D.rt
  bk:KSt E F Z D'.bk D.bk
  ct:KSt E F Z D'.ct D.ct
theorem Kq.mono {E:Ev} {F Z Z2:Hp} {Q':PK1} {Q:VK} (e:aM Z Z2) (k:Kq E F Z Q' Q):Kq E F Z2 Q' Q:=fun x v Z1 G1 H1 s=>k x v Z1 G1 H1 (e.trans s)
theorem KT.mono {E:Ev} {F Z Z2:Hp} {Q':Bool→Gh→Prop} {Q:Bool→Hp→Prop} (e:aM Z Z2) (k:KT E F Z Q' Q):KT E F Z2 Q' Q:=fun x Z1 G1 H1 s=>k x Z1 G1 H1 (e.trans s)
theorem KSt.mono {E:Ev} {F Z Z2:Hp} {Q':PSt→Gh→Prop} {Q:St→Hp→Prop} (e:aM Z Z2) (k:KSt E F Z Q' Q):KSt E F Z2 Q' Q:=fun x v Z1 G1 H1 s=>k x v Z1 G1 H1 (e.trans s)
theorem KD.mono {E:Ev} {F Z Z2:Hp} {D':gZ} {D:nL} (e:aM Z Z2) (k:KD E F Z D' D):KD E F Z2 D' D:=⟨k.nx.mono e,k.rt.mono e,k.bk.mono e,k.ct.mono e⟩
noncomputable def low (E:Ev) (F:Hp) (t:PTE):TE:=fun σ H Q=>∃ σ' Z G Q',RSt E Z σ' σ∧Sim E F H Z G∧t σ' G Q'∧Kq E F Z Q' Q
noncomputable def uV (E:Ev) (F:Hp) (t:PTT):TT:=fun σ H Q=>∃ σ' Z G Q',RSt E Z σ' σ∧Sim E F H Z G∧t σ' G Q'∧KT E F Z Q' Q
noncomputable def rH (E:Ev) (F:Hp) (n:Nat) (t:PTA):TA:=fun σ H Q=>∃ σ' Z G Q',RSt E Z σ' σ∧Sim E F H Z G∧t σ' G Q'∧KA E F n Z Q' Q
noncomputable def aAy (E:Ev) (F:Hp) (t:PTS):TS:=fun D σ H=>∃ σ' Z G D',RSt E Z σ' σ∧Sim E F H Z G∧t D' σ' G∧KD E F Z D' D
noncomputable def bI (G:Gh):PV→Option (List PV)
  | .lst xs=>some xs
  | .ref a=>match G a with
    | some (.lst xs)=>some xs
    | _=>none
  | _=>none
section
variable {E:Ev} {F H Z:Hp} {G:Gh} {x:PV} {v:V} {xs:List PV}
theorem cF (S:Sim E F H Z G) (r:RP E Z x v) (h:bI G x=some xs):∃ a vs,v= .ref a∧H a=some (.lst vs)∧RPs E Z xs vs:=by
  cases x with
  | lst ys =>
    cases h
    obtain ⟨a,vs,e,q,t⟩:=r
    exact ⟨a,vs,e,S.z _ _ q,t⟩
  | ref a =>
    have e:v= .ref a:=r
    subst e
    unfold bI at h
    dsimp only at h
    split at h
    · rename_i ys e
      cases h
      obtain ⟨_,o',q,vs,e',t⟩:=S.g _ _ e
      subst e'
      exact ⟨a,vs,rfl,q,t⟩
    · cases h
  | _=>cases h
theorem dW (S:Sim E F H Z G) (r:RP E Z (.tup xs) v):∃ a vs,v= .ref a∧SqT E.K H a vs∧RPs E Z xs vs:=by
  obtain ⟨a,vs,e,q,t⟩:=r
  exact ⟨a,vs,e,dE S.z q,t⟩
theorem Kq.here {Q':PK1} {Q:VK} (k:Kq E F Z Q' Q) (S:Sim E F H Z G) (q:Q' x G) (r:RP E Z x v):Q v H:=k x v Z G H (aM.refl Z) S r q
theorem bB {i:Int}:RP E Z (.int i) (.int i):=rfl
theorem iS {i:Str}:RP E Z (.str i) (.str i):=rfl
theorem cN {i:Bool}:RP E Z (.bl i) (.bl i):=rfl
theorem kF:RP E Z .non .non:=rfl
theorem Kq.newZ {Q':PK1} {Q:VK} {p:Addr} {o:HO} (k:Kq E F Z Q' Q) (S:Sim E F H Z G) (n:H p=none) (r:RP E (upd Z p o) x (.ref p)) (q:Q' x G):Q (.ref p) (upd H p o) :=
  k x (.ref p) (upd Z p o) G _ (bA (S.zn n) o) (S.fz n) r q
theorem jB {vs:List V} {p:Addr} (n:Z p=none) (r:RPs E Z xs vs):RP E (upd Z p (.tup vs)) (.tup xs) (.ref p):=⟨p,vs,rfl,SqT.of aH,r.mono (bA n _)⟩
theorem eM {vs:List V} {p:Addr} (n:Z p=none) (r:RPs E Z xs vs):RP E (upd Z p (.lst vs)) (.lst xs) (.ref p):=⟨p,vs,rfl,aH,r.mono (bA n _)⟩
end
noncomputable abbrev P2:=PV→PV→Gh→PK1→Prop
noncomputable def fW (E:Ev) (F:Hp) (p:P2):R2:=fun v u H Q=>∃ x y Z G Q',RP E Z x v∧RP E Z y u∧Sim E F H Z G∧p x y G Q'∧Kq E F Z Q' Q
noncomputable def pI (C:Int→Int→Prop) (g:Int→Int→PV):P2:=fun x y G Q=>match x,y with
  | .int i,.int j=>C i j∧Q (g i j) G
  | _,_=>False
theorem gB {E:Ev} {F:Hp} {C:Int→Int→Prop} {g:Int→Int→V} {g':Int→Int→PV} (hg:∀ Z i j,RP E Z (g' i j) (g i j)) {v u:V} {H:Hp} {Q:VK} (h:fW E F (pI C g') v u H Q):rI C g v u H Q:=by
  obtain ⟨x,y,Z,G,Q',r1,r2,S,q,k⟩:=h
  unfold pI at q
  split at q
  · obtain ⟨c,q⟩:=q
    exact ⟨_,_,r1,r2,c,k.here S q (hg _ _ _)⟩
  · exact q.elim
noncomputable def rJ (x y:PV) (G:Gh) (Q:PK1):Prop:=match x,y with
  | .int i,.int j=>Q (.int (i + j)) G
  | .str i,.str j=>i.length + j.length≤sizeLine∧Q (.str (i ++ j)) G
  | .tup xs,.tup ys=>xs.length + ys.length≤sizeLine∧Q (.tup (xs ++ ys)) G
  | x,y=>∃ xs ys,bI G x=some xs∧bI G y=some ys∧xs.length + ys.length≤sizeLine∧Q (.lst (xs ++ ys)) G
theorem WG {E:Ev} {x y:PV} {xs ys:List PV} {v u:V} {F H Z:Hp} {G:Gh} {Q':PK1} {Q:VK} (r1:RP E Z x v) (r2:RP E Z y u) (S:Sim E F H Z G) (hx:bI G x=some xs) (hy:bI G y=some ys) (hz:xs.length + ys.length≤sizeLine) (q:Q' (.lst (xs ++ ys)) G) (k:Kq E F Z Q' Q):aEn v u H Q:=by
  obtain ⟨a,vs,rfl,ha,ta⟩:=cF S r1 hx
  obtain ⟨b,us,rfl,hb,tb⟩:=cF S r2 hy
  exact ⟨a,b,vs,us,rfl,rfl,ha,hb,by rw [←ta.length,←tb.length]; exact hz,fun p n=>k.newZ S n (eM (S.zn n) (ta.append tb)) q⟩
noncomputable def aBt (K:W.Frag):R2:=fun x y H Q=>∃ a b ys,x= .ref a∧y= .ref b∧SqT K H a []∧SqT K H b ys∧Q (.ref b) H
theorem JF {X:Cx}:OpR X (binaryOp .Add) (aBt X.K):=by
  intro pins s σ H x y v u Q I rx ry h
  obtain ⟨a,b,ys,rfl,rfl,ha,hb,q⟩:=h
  cases rx
  cases ry
  obtain ⟨its,r1,p1,_⟩:=I.tuple ha
  obtain ⟨its2,r2,p2,_⟩:=I.tuple hb
  obtain ⟨⟨cls,dd,data,sl⟩,ho,hc,n,hd⟩:=id p1
  obtain ⟨⟨cls2,dd2,data2,sl2⟩,ho2,hc2,n2,hd2⟩:=id p2
  simp only at hc hd hc2 hd2
  subst hc hd hc2 hd2
  cases r1
  exact concat_meets ⟨_,ho,rfl⟩ ⟨_,ho2,rfl⟩ noFill_tuple_add seq_tuple_add PySem.F.slot_tuple_add PySem.F.entry_tuple_add (PySem.F.args_tuple_add_2 _ _)
    (tuple_addW0 a b #[] its2.toArray n n2 dd dd2 sl sl2 rfl) ⟨ho,ho2,⟨.ref b,H,I,rfl,q⟩⟩
section
variable {X:Cx} {E:Ev} {F:Hp}
theorem QC (hK:E.K=X.K):OpR X (binaryOp .Add) (fW E F rJ):=by
  refine (aBd.or (yT.or ((TC.or JF).or aBi))).imp fun v u H Q h=>?_
  obtain ⟨x,y,Z,G,Q',r1,r2,S,q,k⟩:=h
  unfold rJ at q
  split at q
  · exact .inl ⟨_,_,r1,r2,k.here S q bB⟩
  · exact .inr (.inl ⟨_,_,r1,r2,q.1,k.here S q.2 iS⟩)
  · rename_i xs ys
    have r1':=r1
    have r2':=r2
    obtain ⟨a,vs,rfl,ha,ta⟩:=dW S r1
    obtain ⟨b,us,rfl,hb,tb⟩:=dW S r2
    obtain ⟨hz,q⟩:=q
    by_cases ev:vs=[]
    · subst ev
      have ex:xs=[]:=List.eq_nil_of_length_eq_zero ta.length
      subst ex
      exact .inr (.inr (.inl (.inr ⟨a,b,us,rfl,rfl,hK▸ha,hK▸hb,k.here S q r2'⟩)))
    · refine .inr (.inr (.inl (.inl ⟨a,b,vs,us,rfl,rfl,hK▸ha,hK▸hb,ev,by rw [←ta.length,←tb.length]; exact hz,fun e=>?_,fun _ p n=>k.newZ S n (jB (S.zn n) (ta.append tb)) q⟩)))
      subst e
      have ey:ys=[]:=List.eq_nil_of_length_eq_zero tb.length
      subst ey
      rw [List.append_nil] at q
      exact k.here S q r1'
  · obtain ⟨xs,ys,hx,hy,hz,q⟩:=q
    exact .inr (.inr (.inr (WG r1 r2 S hx hy hz q k)))
noncomputable def KN (_ j:Int):Prop:=0 < j
noncomputable def ZR (x y:PV) (G:Gh) (Q:PK1):Prop:=match x,y with
  | .int i,.int j=>wH i j∧Q (.int (i * j)) G
  | _,_=>False
noncomputable def wC:Operator→P2
  | .Add=>rJ
  | .Sub=>pI (fun _ _=>True) fun i j=>.int (i - j)
  | .Mult=>ZR
  | .FloorDiv=>pI mH fun i j=>.int (i / j)
  | .Mod=>pI KN fun i j=>.int (i % j)
  | .Pow=>pI MJ fun i j=>.int (i ^ j.toNat)
  | .LShift=>pI MJ fun i j=>.int (i * 2 ^ j.toNat)
  | _=>fun _ _ _ _=>False
theorem pC {g:Int→Int→V} {v u:V} {H:Hp} {Q:VK} (h:rI (fun _ _=>True) g v u H Q):rI0 g v u H Q:=by
  obtain ⟨i,j,a,b,_,q⟩:=h
  exact ⟨i,j,a,b,q⟩
theorem QT (hK:E.K=X.K):∀ (op:Operator),OpR X (binaryOp op) (fW E F (wC op))
  | .Add=>QC hK
  | .Sub=>aBD.imp fun _ _ _ _ h=>pC (gB (fun _ _ _=>bB) h)
  | .Mult=>RA.imp fun v u H Q h=>by
    obtain ⟨x,y,Z,G,Q',r1,r2,S,q,k⟩:=h
    replace q:ZR x y G Q':=q
    unfold ZR at q
    split at q
    · exact ⟨_,_,r1,r2,q.1,k.here S q.2 bB⟩
    · exact q.elim
  | .FloorDiv=>PB.imp fun _ _ _ _ h=>gB (fun _ _ _=>bB) h
  | .Mod=>aAD.imp fun _ _ _ _ h=>gB (fun _ _ _=>bB) h
  | .Pow=>aA3.imp fun _ _ _ _ h=>gB (fun _ _ _=>bB) h
  | .LShift=>aCY.imp fun _ _ _ _ h=>gB (fun _ _ _=>bB) h
  | .Div=>fun _ _ _ _ _ _ _ _ _ _ _ _ h=>(by obtain ⟨_,_,_,_,_,_,_,_,q,_⟩:=h; exact q.elim)
  | .RShift=>fun _ _ _ _ _ _ _ _ _ _ _ _ h=>(by obtain ⟨_,_,_,_,_,_,_,_,q,_⟩:=h; exact q.elim)
  | .BitOr=>fun _ _ _ _ _ _ _ _ _ _ _ _ h=>(by obtain ⟨_,_,_,_,_,_,_,_,q,_⟩:=h; exact q.elim)
  | .BitXor=>fun _ _ _ _ _ _ _ _ _ _ _ _ h=>(by obtain ⟨_,_,_,_,_,_,_,_,q,_⟩:=h; exact q.elim)
  | .BitAnd=>fun _ _ _ _ _ _ _ _ _ _ _ _ h=>(by obtain ⟨_,_,_,_,_,_,_,_,q,_⟩:=h; exact q.elim)
  | .MatMult=>fun _ _ _ _ _ _ _ _ _ _ _ _ h=>(by obtain ⟨_,_,_,_,_,_,_,_,q,_⟩:=h; exact q.elim)
end
mutual
noncomputable def peq:PV→PV→Bool
  | .non,y=>match y with | .non=>true | _=>false
  | .bl a,y=>match y with | .bl b=>a == b | .int j=>(if a then 1 else 0) == j | _=>false
  | .int i,y=>match y with | .int j=>i == j | .bl b=>i == (if b then 1 else 0) | _=>false
  | .str a,y=>match y with | .str b=>a == b | _=>false
  | .tup xs,y=>match y with | .tup ys=>vB xs ys | _=>false
  | .lst xs,y=>match y with | .lst ys=>vB xs ys | _=>false
  | _,_=>false
noncomputable def vB:List PV→List PV→Bool
  | [],ys=>match ys with | []=>true | _=>false
  | x :: xs,ys=>match ys with | y :: r=>peq x y && vB xs r | []=>false
end
mutual
noncomputable def dat:PV→Option PyData
  | .non=>some .none
  | .bl b=>some (.bool b)
  | .int i=>some (.int i)
  | .str x=>some (.str x)
  | .tup xs=>match kA xs with | some ds=>some (.tuple ds) | none=>none
  | .lst xs=>match kA xs with | some ds=>some (.list ds) | none=>none
  | _=>none
noncomputable def kA:List PV→Option (List PyData)
  | []=>some []
  | x :: xs=>match dat x,kA xs with | some d,some ds=>some (d :: ds) | _,_=>none
end
mutual
theorem uY:∀ {x y:PV} {d e:PyData},dat x=some d→dat y=some e→PyData.eqv d e=peq x y
  | .non,y,d,e,h,q=>by
    simp only [dat] at h; cases h
    cases y <;> simp only [dat] at q <;> (try split at q) <;> cases q <;> simp only [PyData.eqv,peq]
  | .bl _,y,d,e,h,q=>by
    simp only [dat] at h; cases h
    cases y <;> simp only [dat] at q <;> (try split at q) <;> cases q <;> simp only [PyData.eqv,peq]
  | .int _,y,d,e,h,q=>by
    simp only [dat] at h; cases h
    cases y <;> simp only [dat] at q <;> (try split at q) <;> cases q <;> simp only [PyData.eqv,peq]
  | .str _,y,d,e,h,q=>by
    simp only [dat] at h; cases h
    cases y <;> simp only [dat] at q <;> (try split at q) <;> cases q <;> simp only [PyData.eqv,peq]
  | .tup xs,y,d,e,h,q=>by
    simp only [dat] at h
    split at h
    · rename_i ds hd
      cases h
      cases y with
      | tup ys =>
        simp only [dat] at q
        split at q
        · rename_i es he
          cases q
          simp only [PyData.eqv,peq]; exact peqs_ok hd he
        · cases q
      | _=>simp only [dat] at q <;> (try split at q) <;> cases q <;> simp only [PyData.eqv,peq]
    · cases h
  | .lst xs,y,d,e,h,q=>by
    simp only [dat] at h
    split at h
    · rename_i ds hd
      cases h
      cases y with
      | lst ys =>
        simp only [dat] at q
        split at q
        · rename_i es he
          cases q
          simp only [PyData.eqv,peq]; exact peqs_ok hd he
        · cases q
      | _=>simp only [dat] at q <;> (try split at q) <;> cases q <;> simp only [PyData.eqv,peq]
    · cases h
  | .scr _,y,d,e,h,q=>by simp [dat] at h
  | .ob _ _ _,y,d,e,h,q=>by simp [dat] at h
  | .ref _,y,d,e,h,q=>by simp [dat] at h
  | .ty _,y,d,e,h,q=>by simp [dat] at h
  | .cl _,y,d,e,h,q=>by simp [dat] at h
  | .fn _,y,d,e,h,q=>by simp [dat] at h
  | .emp,y,d,e,h,q=>by simp [dat] at h
  | .dct _ _,y,d,e,h,q=>by simp [dat] at h
  | .exc _ _ _,y,d,e,h,q=>by simp [dat] at h
theorem peqs_ok:∀ {xs ys:List PV} {ds es:List PyData},kA xs=some ds→kA ys=some es→PyData.eqvAll ds es=vB xs ys
  | [],[],_,_,h,q=>by simp only [kA] at h q; cases h; cases q; simp only [PyData.eqvAll,vB]
  | [],y :: ys,_,_,h,q=>by
    simp only [kA] at h q; cases h
    split at q <;> cases q
    simp only [PyData.eqvAll,vB]
  | x :: xs,[],_,_,h,q=>by
    simp only [kA] at h q; cases q
    split at h <;> cases h
    simp only [PyData.eqvAll,vB]
  | x :: xs,y :: ys,_,_,h,q=>by
    simp only [kA] at h q
    split at h <;> cases h
    rename_i hd hds
    split at q <;> cases q
    rename_i he hes
    simp only [PyData.eqvAll,vB]
    rw [uY hd he,peqs_ok hds hes]
end
section
variable {X:Cx} {E:Ev} {pins:List (Addr×Obj)} {σ:L2.St} {F H Z:Hp} {s:Shared}
mutual
theorem iW (I:Inv X pins σ H s) (hK:E.K=X.K) (hz:aM Z H):∀ {x:PV} {v:V} {u:Value} {d:PyData},RP E Z x v→aQ v u→dat x=some d→∃ as,Reads s.heap u d as
  | .non,v,u,d,r,rv,h=>by
    simp only [dat] at h; cases h
    cases (show v= .non from r); cases rv; exact ⟨[],.none⟩
  | .bl b,v,u,d,r,rv,h=>by
    simp only [dat] at h; cases h
    cases (show v= .bl b from r); cases rv; exact ⟨[],.bool b⟩
  | .int i,v,u,d,r,rv,h=>by
    simp only [dat] at h; cases h
    cases (show v= .int i from r); obtain ⟨t,rfl⟩:=rv; exact ⟨[],.int i t⟩
  | .str x,v,u,d,r,rv,h=>by
    simp only [dat] at h; cases h
    cases (show v= .str x from r); obtain ⟨t,rfl⟩:=rv; exact ⟨[],.str x t⟩
  | .tup xs,v,u,d,r,rv,h=>by
    simp only [dat] at h
    split at h <;> cases h
    rename_i ds hd
    obtain ⟨a,vs,rfl,q,t⟩:=r
    cases rv
    obtain ⟨its,rv,ht,_⟩:=I.tuple (hK▸dE hz q)
    obtain ⟨o,ho,hc,n,hd'⟩:=ht
    obtain ⟨as,q'⟩:=dats_reads I hK hz t rv hd
    exact ⟨as,.tuple ho hc hd' (by simpa using q')⟩
  | .lst xs,v,u,d,r,rv,h=>by
    simp only [dat] at h
    split at h <;> cases h
    rename_i ds hd
    obtain ⟨a,vs,rfl,q,t⟩:=r
    cases rv
    obtain ⟨_,its,n,rv,ho⟩:=I.hok _ _ (hz _ _ q)
    obtain ⟨as,q'⟩:=dats_reads I hK hz t rv hd
    exact ⟨_ :: as,.list ho rfl rfl (by simpa using q')⟩
  | .scr _,v,u,d,r,rv,h=>by simp [dat] at h
  | .ob _ _ _,v,u,d,r,rv,h=>by simp [dat] at h
  | .ref _,v,u,d,r,rv,h=>by simp [dat] at h
  | .ty _,v,u,d,r,rv,h=>by simp [dat] at h
  | .cl _,v,u,d,r,rv,h=>by simp [dat] at h
  | .fn _,v,u,d,r,rv,h=>by simp [dat] at h
  | .emp,v,u,d,r,rv,h=>by simp [dat] at h
  | .dct _ _,v,u,d,r,rv,h=>by simp [dat] at h
  | .exc _ _ _,v,u,d,r,rv,h=>by simp [dat] at h
theorem dats_reads (I:Inv X pins σ H s) (hK:E.K=X.K) (hz:aM Z H):∀ {xs:List PV} {vs:List V} {us:List Value} {ds:List PyData},RPs E Z xs vs→aJ vs us→kA xs=some ds→∃ as,ReadsAll s.heap us ds as
  | [],_,_,_,r,rv,h=>by
    simp only [kA] at h; cases h
    cases r; cases rv; exact ⟨[],.nil⟩
  | x :: xs,_,_,_,r,rv,h=>by
    simp only [kA] at h
    split at h <;> cases h
    rename_i hd hds
    obtain ⟨v,r',rfl,r1,r2⟩:=r
    cases rv with
    | cons q1 q2 =>
      obtain ⟨as,a⟩:=iW I hK hz r1 q1 hd
      obtain ⟨bs,b⟩:=dats_reads I hK hz r2 q2 hds
      exact ⟨as ++ bs,.cons a b⟩
end
mutual
noncomputable def dte:PV→Option PyData
  | .non=>some .none
  | .bl b=>some (.bool b)
  | .int i=>some (.int i)
  | .str x=>some (.str x)
  | .tup xs=>match OR xs with | some ds=>some (.tuple ds) | none=>none
  | .emp=>some (.dict [])
  | _=>none
noncomputable def OR:List PV→Option (List PyData)
  | []=>some []
  | x :: xs=>match dte x,OR xs with | some d,some ds=>some (d :: ds) | _,_=>none
end
mutual
theorem GD (I:Inv X pins σ H s) (hK:E.K=X.K) (hz:aM Z H):∀ {x:PV} {v:V} {u:Value} {d:PyData},RP E Z x v→aQ v u→dte x=some d→∃ as,Reads s.heap u d as∧sysModules∉ as
  | .non,v,u,d,r,rv,h=>by
    simp only [dte] at h; cases h
    cases (show v= .non from r); cases rv; exact ⟨[],.none,by simp⟩
  | .bl b,v,u,d,r,rv,h=>by
    simp only [dte] at h; cases h
    cases (show v= .bl b from r); cases rv; exact ⟨[],.bool b,by simp⟩
  | .int i,v,u,d,r,rv,h=>by
    simp only [dte] at h; cases h
    cases (show v= .int i from r); obtain ⟨t,rfl⟩:=rv; exact ⟨[],.int i t,by simp⟩
  | .str x,v,u,d,r,rv,h=>by
    simp only [dte] at h; cases h
    cases (show v= .str x from r); obtain ⟨t,rfl⟩:=rv; exact ⟨[],.str x t,by simp⟩
  | .tup xs,v,u,d,r,rv,h=>by
    simp only [dte] at h
    split at h <;> cases h
    rename_i ds hd
    obtain ⟨a,vs,rfl,q,t⟩:=r
    cases rv
    obtain ⟨its,rv,ht,_⟩:=I.tuple (hK▸dE hz q)
    obtain ⟨o,ho,hc,n,hd'⟩:=ht
    obtain ⟨as,q',na⟩:=dtes_reads I hK hz t rv hd
    exact ⟨as,.tuple ho hc hd' (by simpa using q'),na⟩
  | .emp,v,u,d,r,rv,h=>by
    simp only [dte] at h; cases h
    obtain ⟨a,rfl,q⟩:=r
    cases rv
    obtain ⟨_,hs,vs,rel,o,es,ep,ho,⟨hc,hd⟩,hl⟩:=I.hok _ _ (hz _ _ q)
    have ev:vs=[]:=by cases vs with
      | nil=>rfl
      | cons _ _=>cases rel
    subst ev
    obtain ⟨hd1,_,hp,_⟩:=hl
    have ee:es.toList=[]:=by cases hh:es.toList with
      | nil=>rfl
      | cons _ _=>rw [hh] at hp; cases hp
    exact ⟨a :: [] ++ [],.dict ho hc hd1 (kvs:=[]) (by rw [ee]; exact .nil) (by rw [ee]; exact .nil),by
      simp only [List.append_nil,List.mem_singleton]
      intro z; subst z; rw [beq_self_eq_true] at hs; cases hs⟩
  | .lst _,v,u,d,r,rv,h=>by simp [dte] at h
  | .scr _,v,u,d,r,rv,h=>by simp [dte] at h
  | .ob _ _ _,v,u,d,r,rv,h=>by simp [dte] at h
  | .ref _,v,u,d,r,rv,h=>by simp [dte] at h
  | .ty _,v,u,d,r,rv,h=>by simp [dte] at h
  | .cl _,v,u,d,r,rv,h=>by simp [dte] at h
  | .fn _,v,u,d,r,rv,h=>by simp [dte] at h
  | .dct _ _,v,u,d,r,rv,h=>by simp [dte] at h
  | .exc _ _ _,v,u,d,r,rv,h=>by simp [dte] at h
theorem dtes_reads (I:Inv X pins σ H s) (hK:E.K=X.K) (hz:aM Z H):∀ {xs:List PV} {vs:List V} {us:List Value} {ds:List PyData},RPs E Z xs vs→aJ vs us→OR xs=some ds→∃ as,ReadsAll s.heap us ds as∧sysModules∉ as
  | [],_,_,_,r,rv,h=>by
    simp only [OR] at h; cases h
    cases r; cases rv; exact ⟨[],.nil,by simp⟩
  | x :: xs,_,_,_,r,rv,h=>by
    simp only [OR] at h
    split at h <;> cases h
    rename_i hd hds
    obtain ⟨v,r',rfl,r1,r2⟩:=r
    cases rv with
    | cons q1 q2 =>
      obtain ⟨as,a,na⟩:=GD I hK hz r1 q1 hd
      obtain ⟨bs,b,nb⟩:=dtes_reads I hK hz r2 q2 hds
      exact ⟨as ++ bs,.cons a b,fun z=>(List.mem_append.mp z).elim na nb⟩
end
noncomputable def pur (G:Gh):PV→PV
  | .ref a=>match G a with
    | some (.lst xs)=>.lst xs
    | _=>.ref a
  | x=>x
noncomputable def shp (x:PV):Bool:=match dat x with | some d=>SeqAt.shaped d | none=>false
theorem jA {G:Gh} (I:Inv X pins σ H s) (hK:E.K=X.K) (S:Sim E F H Z G) {x:PV} {v:V} {u:Value} {d:PyData} (r:RP E Z x v) (rv:aQ v u) (h:dat (pur G x)=some d):∃ as,Reads s.heap u d as:=by
  by_cases hx:∃ a,x= .ref a
  · obtain ⟨a,rfl⟩:=hx
    have e:v= .ref a:=r
    subst e
    cases rv
    unfold pur at h
    dsimp only at h
    split at h
    · rename_i xs e
      obtain ⟨_,o',q,vs,e',t⟩:=S.g _ _ e
      subst e'
      simp only [dat] at h
      split at h <;> cases h
      rename_i ds hd
      obtain ⟨_,its,n,rv,ho⟩:=I.hok _ _ q
      obtain ⟨as,q'⟩:=dats_reads I hK S.z t rv hd
      exact ⟨_ :: as,.list ho rfl rfl (by simpa using q')⟩
    · simp [dat] at h
  · have e:pur G x=x:=by
      unfold pur
      split
      · rename_i a; exact absurd ⟨a,rfl⟩ hx
      · rfl
    rw [e] at h
    exact iW I hK S.z r rv h
noncomputable def pEq (neg:Bool) (x y:PV) (G:Gh) (Q:PK1):Prop:=shp (pur G x)=true∧shp (pur G y)=true∧Q (.bl (if neg then !peq (pur G x) (pur G y) else peq (pur G x) (pur G y))) G
theorem lP {x:PV} (h:shp x=true):∃ d,dat x=some d∧SeqAt.shaped d=true:=by
  unfold shp at h
  split at h
  · rename_i d e; exact ⟨d,e,h⟩
  · cases h
theorem ZV {k:Nat} (hr:bC k X.A) (hK:E.K=X.K):OpR X (compareOp .Eq) (fW E F (pEq false)):=by
  intro pins s σ H v w u u' Q I rx ry ⟨x,y,Z,G,Q',r1,r2,S,⟨hx,hy,q⟩,kq⟩
  obtain ⟨d,e1,a1⟩:=lP hx
  obtain ⟨e,e2,a2⟩:=lP hy
  obtain ⟨as,q1⟩:=jA I hK S r1 rx e1
  obtain ⟨bs,q2⟩:=jA I hK S r2 ry e2
  refine eq_dataH q1 q2 a1 a2 hr.units ⟨.bl _,H,I,rfl, ?_⟩
  rw [uY e1 e2]
  exact kq.here S q cN
theorem aCm {k:Nat} (hr:bC k X.A) (hK:E.K=X.K):OpR X (compareOp .NotEq) (fW E F (pEq true)):=by
  intro pins s σ H v w u u' Q I rx ry ⟨x,y,Z,G,Q',r1,r2,S,⟨hx,hy,q⟩,kq⟩
  obtain ⟨d,e1,a1⟩:=lP hx
  obtain ⟨e,e2,a2⟩:=lP hy
  obtain ⟨as,q1⟩:=jA I hK S r1 rx e1
  obtain ⟨bs,q2⟩:=jA I hK S r2 ry e2
  refine ne_dataH q1 q2 a1 a2 hr.units ⟨.bl _,H,I,rfl, ?_⟩
  rw [uY e1 e2]
  exact kq.here S q cN
noncomputable def aCl (x y:PV) (G:Gh) (Q:PK1):Prop:= ∃ xs i,(x= .tup xs∨bI G x=some xs)∧(∀ z∈xs,shp z=true)∧shp y=true∧xs.findIdx? (fun z=>peq z y)=some i∧Q (.int i) G
theorem vL {k:Nat} (hr:bC k X.A) (hK:E.K=X.K) (I:Inv X pins σ H s) (hz:aM Z H) {xs:List PV} {vs:List V} {its:List Value} {y:PV} {v:V} {u:Value} {i:Nat} (t:RPs E Z xs vs) (rv:aJ vs its) (r:RP E Z y v) (ru:aQ v u) (hx:∀ z∈xs,shp z=true) (hy:shp y=true) (hi:xs.findIdx? (fun z=>peq z y)=some i) :
    ∃ e:Nat→Bool,i < its.toArray.size∧e i=true∧(∀ m,m < i→e m=false)∧∀ m (hm:m < its.toArray.size),m≤i→SeqAt.EqAt X.A.in1 s its.toArray[m] u (e m):=by
  have l1:=t.length
  have l2:=rv.length
  obtain ⟨h1,h2,h3⟩:=List.findIdx?_eq_some_iff_getElem.mp hi
  refine ⟨fun m=>match xs[m]? with | some z=>peq z y | none=>false,by rw [List.size_toArray]; omega, ?_,fun m hm=>?_,fun m hm _=>?_⟩
  · simp only [List.getElem?_eq_getElem h1]; exact h2
  · have hm':m < xs.length:=by omega
    simp only [List.getElem?_eq_getElem hm']
    simpa using h3 m hm
  · have hm1:m < its.length:=by simpa using hm
    have hm':m < xs.length:=by omega
    simp only [List.getElem?_eq_getElem hm']
    obtain ⟨w,ew,rw1⟩:=t.get (i:=m) (List.getElem?_eq_getElem hm')
    obtain ⟨u',eu,ru'⟩:=rv.get ew
    have e3:its.toArray[m]=u':=by
      have:its[m]? =some its[m]:=List.getElem?_eq_getElem hm1
      rw [this] at eu
      simpa using Option.some.inj eu
    rw [e3]
    obtain ⟨d,e1,a1⟩:=lP (hx _ (List.getElem_mem hm'))
    obtain ⟨d2,e2,a2⟩:=lP hy
    obtain ⟨as,q1⟩:=iW I hK hz rw1 ru' e1
    obtain ⟨bs,q2⟩:=iW I hK hz r ru e2
    rw [←uY e1 e2]
    exact SeqAt.eqAt_reads _ _ _ _ _ _ _ _ q1 q2 (SeqAt.canLay_of_shaped a1) (SeqAt.canLay_of_shaped a2) (SeqAt.room_of_shaped a1 (by have:=hr.un; first | (show X.A.units + 64 < cLine; omega) | (show X.A.units + 1 + 64 < cLine; omega)))
theorem RV {k:Nat} (hr:bC k X.A) (hK:E.K=X.K):IxM X "list.index" (fun v u H Q=>∃ x y Z G Q' xs,RP E Z x v∧RP E Z y u∧Sim E F H Z G∧bI G x=some xs∧aCl x y G Q'∧Kq E F Z Q' Q):=by
  intro pins s σ H v w u u' Q I rx ry ⟨x,y,Z,G,Q',xs0,r1,r2,S,hx,⟨xs,i,hor,hall,hy,hi,q⟩,kq⟩
  have hx':bI G x=some xs:=by
    rcases hor with rfl | h
    · cases hx
    · exact h
  obtain ⟨a,vs,rfl,ha,ta⟩:=cF S r1 hx'
  cases rx
  obtain ⟨hz,its,n,rv,ho⟩:=I.hok _ _ ha
  obtain ⟨e,h1,h2,h3,h4⟩:=vL hr hK I S.z ta rv r2 ry hall hy hi
  have hl:=rv.length
  have hs:=sizeLine_eq
  rw [List.size_toArray] at h1
  refine call_meets PySem.F.slot_list_index ⟨_,ho,rfl⟩ PySem.F.entry_list_index (PySem.F.args_list_index_2 _ _) (LE.xA a its.toArray n none #[] u' e i (by rw [List.size_toArray]; exact h1) (by omega) h2 h3) ⟨ho,h4,⟨.int i,H,I.tok _,⟨_,rfl⟩,kq.here S q bB⟩⟩
noncomputable def aGV:V→List V→Hp→VK→Prop:=fun x vs H Q=>∃ (l:Addr) (bs:List Bool) (b:Bool),x= .ref l∧vs=[.bl b]∧H l=some (.lst (bs.map V.bl))∧Q (.int ((bs.count b:Nat):Int)) H
noncomputable def aEO (b:Bool):Value→Bool
  | .bool c=>c == b
  | _=>false
theorem CZ {b:Bool}:∀ {bs:List Bool} {its:List Value},aJ (bs.map V.bl) its→its.countP (aEO b)=bs.count b
  | [],_,r=>by cases r; rfl
  | c :: bs,_,r=>by
    cases r with
    | cons r1 r2 =>
      cases r1
      rw [List.countP_cons,CZ r2,List.count_cons]
      rfl
theorem JX:∀ {bs:List Bool} {its:List Value},aJ (bs.map V.bl) its→∀ u∈its,∃ c,u= .bool c
  | [],_,r=>by cases r; intro u h; cases h
  | c :: bs,_,r=>by
    cases r with
    | cons r1 r2 =>
      cases r1
      intro u h
      rcases List.mem_cons.mp h with e | h
      · exact ⟨c,e⟩
      · exact JX r2 u h
theorem aAj:MtR X "list.count" aGV:=by
  intro pins s σ H x vs v us Q I rx rv h
  obtain ⟨l,bs,b,rfl,rfl,hH,q⟩:=h
  cases rx
  obtain ⟨u,rfl,ru⟩:=rv.one
  cases ru
  obtain ⟨hz,its,n,r,ho⟩:=I.hok _ _ hH
  refine call_meets PySem.F.slot_list_count ⟨_,ho,rfl⟩ PySem.F.entry_list_count (PySem.F.args_list_count_2 _ _) (SeqAt.list_countAt l its.toArray n none #[] (.bool b) (aEO b)) ⟨ho,fun y hy=>?_,⟨.int _,H,I.tok _,⟨_,by rw [CZ r]⟩,q⟩⟩
  obtain ⟨c,rfl⟩:=JX r y (by simpa using hy)
  exact SeqAt.EqAt.bool_bool c b
theorem UA {k:Nat} (hr:bC k X.A) (hK:E.K=X.K):IxM X "tuple.index" (fun v u H Q=>∃ x y Z G Q' xs,RP E Z x v∧RP E Z y u∧Sim E F H Z G∧x= .tup xs∧aCl x y G Q'∧Kq E F Z Q' Q):=by
  intro pins s σ H v w u u' Q I rx ry ⟨x,y,Z,G,Q',xs0,r1,r2,S,hx,⟨xs,i,hor,hall,hy,hi,q⟩,kq⟩
  have hx':x= .tup xs:=by
    rcases hor with h | h
    · exact h
    · subst hx; cases h
  subst hx'
  obtain ⟨a,vs,rfl,ha,ta⟩:=dW S r1
  cases rx
  obtain ⟨its,rv,⟨⟨o,ho,hc,n,hd⟩,hn⟩,hz⟩:=I.tupleN (hK▸ha)
  obtain ⟨e,h1,h2,h3,h4⟩:=vL hr hK I S.z ta rv r2 ry hall hy hi
  have hn':=hn _ ho
  obtain ⟨oc,od,odt,osl⟩:=o
  cases hc; cases hn'; cases hd
  refine call_meets PySem.F.slot_tuple_index ⟨_,ho,rfl⟩ PySem.F.entry_tuple_index (PySem.F.args_tuple_index_2 _ _) (LE.uA a its.toArray n none osl u' e i h1 h2 h3) ⟨ho,h4,⟨.int i,H,I.tok _,⟨_,rfl⟩,kq.here S q bB⟩⟩
end
section
variable {E:Ev} {F H Z:Hp} {G:Gh} {X:Cx}
theorem PF {xs:List PV} {vs:List V} {i:Int} {x:PV} (r:RPs E Z xs vs) (h:atI xs i=some x):∃ v,atI vs i=some v∧RP E Z x v:=by
  unfold atI at *
  rw [←r.length]
  cases e:ixN xs.length i with
  | none=>rw [e] at h; cases h
  | some j=>rw [e] at h; exact r.get h
noncomputable def sF:List Key→List PV→Key→Option PV
  | j :: ks,x :: xs,k=>if j=k then some x else sF ks xs k
  | _,_,_=>none
noncomputable def mU (x y:PV) (G:Gh) (Q:PK1):Prop:=match x,y with
  | .tup xs,.int i=>∃ v,atI xs i=some v∧Q v G
  | .scr ns,.int i=>∃ n,atI ns i=some n∧Q (.int n) G
  | .str z,.int i=>z.length≤sizeLine∧∃ c,atI z.cps.toList i=some c∧Q (.str ⟨#[c]⟩) G
  | .dct ks xs,.int i=>∃ v,sF ks xs (.inl i)=some v∧Q v G
  | .dct ks xs,.str z=>∃ v,sF ks xs (.inr z)=some v∧Q v G
  | x,.int i=>∃ xs v,bI G x=some xs∧atI xs i=some v∧Q v G
  | _,_=>False
theorem pF {k:Key} {x:PV}:∀ {ks:List Key} {xs:List PV} {vs:List V},RPs E Z xs vs→sF ks xs k=some x→∃ v,valV (ks.zip vs) k=some v∧RP E Z x v
  | [],_,_,_,h=>by cases h
  | _ :: _,[],_,_,h=>by cases h
  | j :: ks,y :: ys,_,⟨v,r,e,r1,r2⟩,h=>by
    subst e
    unfold sF at h
    rw [List.zip_cons_cons]
    split at h
    · rename_i ej; cases h; exact ⟨v,nR ej,r1⟩
    · rename_i ej
      rw [nJ ej]
      exact pF (ks:=ks) r2 h
theorem TY {α β:Type} {f:α→β} {xs:List α} {i:Int} {x:α} (h:atI xs i=some x):atI (xs.map f) i=some (f x):=by
  unfold atI at *
  rw [List.length_map]
  cases e:ixN xs.length i with
  | none=>rw [e] at h; cases h
  | some j =>
    rw [e] at h
    have h':xs[j]? =some x:=h
    show (xs.map f)[j]? =some (f x)
    rw [List.getElem?_map,h']; rfl
theorem aCo {k:Nat} (hr:bC k X.A) (hK:E.K=X.K):IxR X (fW E F mU):=by
  refine (aBA.or (WA hr)).imp fun v u H Q h=>?_
  obtain ⟨x,y,Z,G,Q',r1,r2,S,q,k⟩:=h
  unfold mU at q
  split at q
  · obtain ⟨y,e,q⟩:=q
    obtain ⟨a,vs,rfl,ha,ta⟩:=dW S r1
    obtain ⟨w,e',rw'⟩:=PF ta e
    exact .inl (.inr (.inl ⟨a,vs,_,w,rfl,r2,hK▸ha,e',k.here S q rw'⟩))
  · obtain ⟨n,e,q⟩:=q
    obtain ⟨a,rfl,ha⟩:=r1
    exact .inl (.inl ⟨a,_,_,_,rfl,r2,hK▸S.z.seq ha,TY e,k.here S q bB⟩)
  · obtain ⟨hz,c,e,q⟩:=q
    exact .inl (.inr (.inr ⟨_,_,c,r1,r2,hz,e,k.here S q iS⟩))
  · obtain ⟨y,e,q⟩:=q
    obtain ⟨a,vs,rfl,ha,_,ta⟩:=r1
    obtain ⟨w,e',rw'⟩:=pF ta e
    have r2:u=kV (.inl _):=r2
    rw [r2]
    refine .inr ⟨a,w,rfl, ?_,k.here S q rw'⟩
    rw [←e']; exact .k (S.z _ _ ha)
  · obtain ⟨y,e,q⟩:=q
    obtain ⟨a,vs,rfl,ha,_,ta⟩:=r1
    obtain ⟨w,e',rw'⟩:=pF ta e
    have r2:u=kV (.inr _):=r2
    rw [r2]
    refine .inr ⟨a,w,rfl, ?_,k.here S q rw'⟩
    rw [←e']; exact .k (S.z _ _ ha)
  · obtain ⟨xs,y,e0,e,q⟩:=q
    obtain ⟨a,vs,rfl,ha,ta⟩:=cF S r1 e0
    obtain ⟨w,e',rw'⟩:=PF ta e
    exact .inl (.inl ⟨a,vs,_,w,rfl,r2,SqL.of ha,e',k.here S q rw'⟩)
  · exact q.elim
noncomputable def SC (o i v:PV) (G:Gh) (Q:Gh→Prop):Prop:= ∃ a xs k j,o= .ref a∧i= .int k∧G a=some (.lst xs)∧ixN xs.length k=some j∧Q (gup G a (.lst (xs.set j v)))
noncomputable def aCF (E:Ev) (F:Hp) (p:PV→PV→PV→Gh→(Gh→Prop)→Prop):WE:=fun o i v H Q=>∃ o' i' v' Z G Q',RP E Z o' o∧RP E Z i' i∧RP E Z v' v∧Sim E F H Z G∧p o' i' v' G Q'∧∀ G1 H1,Sim E F H1 Z G1→Q' G1→Q H1
theorem RD:aAJ X (aCF E F SC):=by
  intro pins s σ H o i v ov iv u Q I ro ri rv ⟨o',i',v',Z,G,Q',r1,r2,r3,S,⟨a,xs,k,j,e1,e2,hG,ix,q⟩,kq⟩
  subst e1 e2
  have e1:o= .ref a:=r1
  have e2:i= .int k:=r2
  subst e1 e2
  obtain ⟨_,o',hH,vs,e,t⟩:=S.g _ _ hG
  subst e
  exact IO pins s σ H (.ref a) (.int k) v ov iv u Q I ro ri rv ⟨a,vs,k,j,rfl,rfl,hH,by rw [←t.length]; exact ix,kq _ _ (S.set (go:=.lst (xs.set j v')) hG ⟨_,rfl,t.set r3 j⟩) q⟩
noncomputable def uL (xs:List PV) (lo hi:Option Int):List PV:=(xs.drop (HT.sIx xs.length 0 lo)).take (HT.sIx xs.length xs.length hi - HT.sIx xs.length 0 lo)
theorem AQ {xs:List PV} {vs:List V} {lo hi:Option Int} (r:RPs E Z xs vs):RPs E Z (uL xs lo hi) (wI vs lo hi):=by
  unfold uL wI
  rw [r.length]
  exact (r.drop _).take _
noncomputable def VW (x:PV) (lo hi:Option Int) (G:Gh) (Q:PK1):Prop:=match x with
  | .tup xs=>Q (.tup (uL xs lo hi)) G
  | .scr ns=>Q (.lst (uL (ns.map .int) lo hi)) G
  | x=>∃ xs,bI G x=some xs∧Q (.lst (uL xs lo hi)) G
noncomputable def aFq (E:Ev) (F:Hp) (p:PV→Option Int→Option Int→Gh→PK1→Prop):V→Option Int→Option Int→Hp→VK→Prop:=fun v lo hi H Q=>∃ x Z G Q',RP E Z x v∧Sim E F H Z G∧p x lo hi G Q'∧Kq E F Z Q' Q
theorem SlR.imp {r r':V→Option Int→Option Int→Hp→VK→Prop} (h:SlR X r) (f:∀ x l u H Q,r' x l u H Q→r x l u H Q):SlR X r':=fun pins s σ H x v vl vu lo hi sl Q I rx hs pl pu q=>h pins s σ H x v vl vu lo hi sl Q I rx hs pl pu (f _ _ _ _ _ q)
theorem aDd (hK:E.K=X.K):SlR X (aFq E F VW):=by
  refine SlR.imp (SlR.or (SlR.or aBx QJ) UP) fun v lo hi H Q h=>?_
  obtain ⟨x,Z,G,Q',r1,S,q,k⟩:=h
  unfold VW at q
  split at q
  · rename_i xs
    have r0:=r1
    obtain ⟨a,vs,rfl,ha,ta⟩:=dW S r1
    by_cases w:HT.sIx vs.length 0 lo=0∧HT.sIx vs.length vs.length hi=vs.length
    · refine .inl (.inr ⟨a,vs,rfl,hK▸ha,w, ?_⟩)
      have e:uL xs lo hi=xs:=by
        unfold uL
        rw [ta.length,w.1,w.2,List.drop_zero,Nat.sub_zero,←ta.length,List.take_length]
      rw [e] at q
      exact k _ _ _ _ _ (aM.refl _) S r0 q
    · exact .inl (.inl ⟨a,vs,rfl,hK▸ha,w,fun p n=>k.newZ S n (jB (S.zn n) (AQ ta)) q⟩)
  · obtain ⟨a,rfl,ha⟩:=r1
    exact .inr ⟨a,_,rfl,hK▸S.z.seq ha,fun p n=>k.newZ S n (eM (S.zn n) (AQ (RPs.ofInts _))) q⟩
  · obtain ⟨xs,e0,q⟩:=q
    obtain ⟨a,vs,rfl,ha,ta⟩:=cF S r1 e0
    exact .inr ⟨a,vs,rfl,SqL.of ha,fun p n=>k.newZ S n (eM (S.zn n) (AQ ta)) q⟩
noncomputable def pO (x:PV) (G:Gh) (Q:Bool→Gh→Prop):Prop:=match x with
  | .non=>Q false G
  | .bl b=>Q b G
  | .int i=>Q (i != 0) G
  | .str y=>y.length≤sizeLine∧Q ((y.length:Int) != 0) G
  | .tup xs=>Q (!xs.isEmpty) G
  | x=>∃ xs,bI G x=some xs∧Q (!xs.isEmpty) G
theorem rS {xs:List PV} {vs:List V} (r:RPs E Z xs vs):xs.isEmpty=vs.isEmpty:=by
  cases xs with
  | nil=>cases r; rfl
  | cons x xs=>obtain ⟨_,_,e,_,_⟩:=r; subst e; rfl
theorem nB {x:PV} {v:V} {Q':Bool→Gh→Prop} (hK:E.K=X.K) (S:Sim E F H Z G) (r:RP E Z x v) (q:pO x G Q'):∃ b,FR X.K v H b∧Q' b G:=by
  unfold pO at q
  split at q
  · cases (show v= .non from r); exact ⟨_,rfl,q⟩
  · cases (show v= .bl _ from r); exact ⟨_,rfl,q⟩
  · cases (show v= .int _ from r); exact ⟨_,rfl,q⟩
  · cases (show v= .str _ from r); exact ⟨_,⟨q.1,rfl⟩,q.2⟩
  · obtain ⟨a,vs,rfl,ha,ta⟩:=dW S r
    exact ⟨_,.inr (.inl ⟨vs,hK▸ha,by rw [rS ta]⟩),q⟩
  · obtain ⟨xs,e0,q⟩:=q
    obtain ⟨a,vs,rfl,ha,ta⟩:=cF S r e0
    exact ⟨_,.inl ⟨vs,SqL.of ha,by rw [rS ta]⟩,q⟩
inductive Bn where
  | len | abs | max | min | int | str | isi | tuple | list | all | any | sum | bool | repr | divmod
  deriving DecidableEq
noncomputable abbrev Sp3:=List PV→Gh→PK1→Prop
noncomputable def MM (E:Ev) (F:Hp) (p:List PV→Gh→PK1→Prop):List V→Hp→VK→Prop:=fun vs H Q=>∃ xs Z G Q',RPs E Z xs vs∧Sim E F H Z G∧p xs G Q'∧Kq E F Z Q' Q
noncomputable def jY:PV→Gh→Option String
  | .non,_=>some "NoneType"
  | .bl _,_=>some "bool"
  | .int _,_=>some "int"
  | .str _,_=>some "str"
  | .tup _,_=>some "tuple"
  | .lst _,_=>some "list"
  | .emp,_=>some "dict"
  | .dct _ _,_=>some "dict"
  | .ref a,G=>match G a with
    | some (.lst _)=>some "list"
    | _=>none
  | _,_=>none
noncomputable def zS:PV→Gh→Option String
  | .ob c _ _,_=>some c
  | .ref a,G=>match G a with
    | some (.ins c _ _)=>some c
    | _=>none
  | _,_=>none
structure IZ (E:Ev) (cs:List String):Prop where
  own:∀ c∈cs,UW E.K (E.cls c)
  plain:∀ c∈cs,∀ n∈JL,W.kitOne E.K (.type n) (.ref (E.cls c))=some false
  other:∀ c∈cs,∀ T∈jJ,W.kitOne E.K (.ref (E.cls c)) (.type T)=some false
  apart:∀ c∈cs,∀ c'∈cs,c≠c'→W.kitOne E.K (.ref (E.cls c)) (.ref (E.cls c'))=some false
theorem RPs.bools:∀ {bs:List Bool} {vs:List V},RPs E Z (bs.map PV.bl) vs→vs=bs.map V.bl
  | [],_,h=>h
  | _ :: _,_,⟨v,r,e1,h,t⟩=>by
    have h':v=V.bl _:=h
    subst e1 h'; rw [RPs.bools t]; rfl
noncomputable def dN (cs:List String):Bn→List PV→Gh→PK1→Prop
  | .len,[x],G,Q=>(∃ xs,x= .tup xs∧Q (.int xs.length) G)∨(∃ ns,x= .scr ns∧Q (.int ns.length) G)∨(∃ z,x= .str z∧z.length≤sizeLine∧Q (.int z.length) G)∨∃ xs,bI G x=some xs∧Q (.int xs.length) G
  | .abs,[.int i],G,Q=>Q (.int (i.natAbs:Int)) G
  | .max,[.int i,.int j],G,Q=>Q (.int (max i j)) G
  | .min,[.int i,.int j],G,Q=>Q (.int (min i j)) G
  | .int,[.int i],G,Q=>Q (.int i) G
  | .int,[.bl b],G,Q=>Q (.int (if b then 1 else 0)) G
  | .str,[.int i],G,Q=>i.natAbs.log2 < 1920∧Q (.str (toString i)) G
  | .isi,[x,.ty T],G,Q=>T∈jJ∧((∃ n,jY x G=some n∧Q (.bl (kM n T)) G)∨∃ c,zS x G=some c∧c∈cs∧Q (.bl false) G)
  | .isi,[x,.cl c],G,Q=>c∈cs∧((∃ n,jY x G=some n∧Q (.bl false) G)∨∃ c',zS x G=some c'∧c'∈cs∧Q (.bl (decide (c'=c))) G)
  | .tuple,[x],G,Q=>(∃ xs,x= .tup xs∧Q x G)∨∃ xs,bI G x=some xs∧Q (.tup xs) G
  | .list,[x],G,Q=>(∃ xs,x= .tup xs∧Q (.lst xs) G)∨∃ xs,bI G x=some xs∧Q (.lst xs) G
  | _,_,_,_=>False
noncomputable def JZ:Bn→Value
  | .len=>.builtin "len"
  | .abs=>.builtin "abs"
  | .max=>.builtin "max"
  | .min=>.builtin "min"
  | .int=>.type "int"
  | .str=>.type "str"
  | .isi=>.builtin "isinstance"
  | .tuple=>.type "tuple"
  | .list=>.type "list"
  | .all=>.builtin "all"
  | .any=>.builtin "any"
  | .sum=>.builtin "sum"
  | .bool=>.type "bool"
  | .repr=>.builtin "repr"
  | .divmod=>.builtin "divmod"
theorem vR {x:PV} {vs:List V} (r:RPs E Z [x] vs):∃ v,vs=[v]∧RP E Z x v:=by
  obtain ⟨v,t,e,r1,r2⟩:=r
  have e2:t=[]:=r2
  subst e2
  exact ⟨v,e,r1⟩
theorem SU {x y:PV} {vs:List V} (r:RPs E Z [x,y] vs):∃ v u,vs=[v,u]∧RP E Z x v∧RP E Z y u:=by
  obtain ⟨v,t,e,r1,u,t',e',r2,r3⟩:=r
  have e2:t'=[]:=r3
  subst e2 e'
  exact ⟨v,u,e,r1,r2⟩
theorem uE {x:PV} {v:V} {n:String} (S:Sim E F H Z G) (r:RP E Z x v) (h:jY x G=some n):n∈JL∧(tyN H v=some n∨(n="tuple"∧∃ a vs,v= .ref a∧SqT E.K H a vs)):=by
  cases x with
  | non=>cases h; cases (show v= .non from r); exact ⟨by decide,.inl rfl⟩
  | bl b=>cases h; cases (show v= .bl b from r); exact ⟨by decide,.inl rfl⟩
  | int b=>cases h; cases (show v= .int b from r); exact ⟨by decide,.inl rfl⟩
  | str b=>cases h; cases (show v= .str b from r); exact ⟨by decide,.inl rfl⟩
  | tup xs =>
    cases h
    obtain ⟨a,vs,rfl,ha,_⟩:=dW S r
    exact ⟨by decide,.inr ⟨rfl,a,vs,rfl,ha⟩⟩
  | lst xs =>
    cases h
    obtain ⟨a,vs,rfl,ha,_⟩:=cF (xs:=xs) S r rfl
    exact ⟨by decide,.inl (by simp only [tyN,ha])⟩
  | emp =>
    cases h
    obtain ⟨a,rfl,ha⟩:=r
    exact ⟨by decide,.inl (by simp only [tyN,S.z _ _ ha])⟩
  | dct ks xs =>
    cases h
    obtain ⟨a,vs,rfl,ha,_,_⟩:=r
    exact ⟨by decide,.inl (by simp only [tyN,S.z _ _ ha])⟩
  | ref a =>
    unfold jY at h
    dsimp only at h
    split at h
    · rename_i xs e
      cases h
      obtain ⟨a',vs,rfl,ha,_⟩:=cF (xs:=xs) S r (by unfold bI; dsimp only; rw [e])
      exact ⟨by decide,.inl (by simp only [tyN,ha])⟩
    · cases h
  | _=>cases h
theorem CL {pins:List (Addr×Obj)} {σ:L2.St} {s:Shared} {x:PV} {v:V} {u c:Value} {n:String} {b:Bool} {Q:VK} (hK:E.K=X.K) (I:Inv X pins σ H s) (S:Sim E F H Z G) (r:RP E Z x v) (rv:aQ v u) (h:jY x G=some n)
    (e:W.kitOne X.K (.type n) c=some b) (q:Q (.bl b) H):wpAny (model X.prog X.w) X.A (call (.builtin "isinstance") [u,c]) (EP X pins σ Q) X.xe s:=by
  obtain ⟨_,t | ⟨hn,a,vs,hv,ha⟩⟩:=uE S r h
  · exact tG I rv (aBX t) e fun tk=>⟨.bl b,H,I.tok tk,rfl,q⟩
  · subst hn hv
    cases rv
    obtain ⟨its,_,⟨o,h1,h2,_⟩,_⟩:=I.tuple (hK▸ha)
    exact W.kia_one W.kitx_tuple I.kIn ⟨o,h1,h2⟩ e (fun z=>nomatch z) fun tk=>⟨.bl b,H,I.tok tk,rfl,q⟩
theorem SY {x:PV} {v:V} {c:String} (S:Sim E F H Z G) (r:RP E Z x v) (h:zS x G=some c):∃ a dx fs,v= .ref a∧H a=some (.ins (E.cls c) dx fs):=by
  cases x with
  | ob c' ns xs =>
    cases h
    obtain ⟨a,dx,vs,rfl,q,_,_⟩:=r
    exact ⟨a,dx,_,rfl,S.z _ _ q⟩
  | ref a =>
    unfold zS at h
    dsimp only at h
    split at h
    · rename_i c' ns xs e
      cases h
      have e1:v= .ref a:=r
      subst e1
      obtain ⟨_,o',q,dx,vs,e',_,_⟩:=S.g _ _ e
      subst e'
      exact ⟨a,dx,_,rfl,q⟩
    · cases h
  | _=>cases h
theorem uF {pins:List (Addr×Obj)} {σ:L2.St} {s:Shared} {x:PV} {v:V} {u t:Value} {c:String} {b:Bool} {Q:VK} (hK:E.K=X.K) (I:Inv X pins σ H s) (S:Sim E F H Z G) (r:RP E Z x v) (rv:aQ v u) (h:zS x G=some c) (O:UW E.K (E.cls c))
    (e:W.kitOne X.K (.ref (E.cls c)) t=some b) (q:Q (.bl b) H):wpAny (model X.prog X.w) X.A (call (.builtin "isinstance") [u,t]) (EP X pins σ Q) X.xe s:=by
  obtain ⟨a,dx,fs,rfl,ha⟩:=SY S r h
  have O:UW X.K (E.cls c):=hK▸O
  exact tG I rv (.ins ha O.cl O.ha O.hn O.htk O.hm) e fun tk=>⟨.bl b,H,I.tok tk,rfl,q⟩
theorem bQ.or {f:Value} {r r':List V→Hp→VK→Prop} (h:bQ X f r) (h':bQ X f r'):bQ X f (fun xs H Q=>r xs H Q∨r' xs H Q):=by
  intro pins s σ H xs us Q I rs q
  rcases q with q | q
  · exact h pins s σ H xs us Q I rs q
  · exact h' pins s σ H xs us Q I rs q
theorem noC {f:Value} {p:List PV→Gh→PK1→Prop} (h:∀ xs G Q,¬p xs G Q):bQ X f (MM E F p):=fun _ _ _ _ _ _ _ _ _ ⟨_,_,_,_,_,_,q,_⟩=>absurd q (h _ _ _)
noncomputable def FV:Bn→Bool
  | .max=>true
  | .min=>true
  | .all=>true
  | .any=>true
  | .sum=>true
  | .len=>false
  | .abs=>false
  | .int=>false
  | .str=>false
  | .isi=>false
  | .tuple=>false
  | .list=>false
  | .bool=>false
  | .repr=>false
  | .divmod=>false
theorem CI {cs:List String} (hK:E.K=X.K) (C:IZ E cs):∀ b,(FV b=true→X.calm=true)→bQ X (JZ b) (MM E F (dN cs b))
  | .len,hc=>by
    refine (bQ.or uW uG).imp fun vs H Q h=>?_
    obtain ⟨xs,Z,G,Q',r,S,q,k⟩:=h
    match xs,q with
    | [x],q =>
      obtain ⟨v,rfl,rr⟩:=vR r
      rcases q with ⟨ys,rfl,q⟩ | ⟨ns,rfl,q⟩ | ⟨z,rfl,hz,q⟩ | ⟨ys,e,q⟩
      · obtain ⟨a,vs,rfl,ha,ta⟩:=dW S rr
        exact .inl ⟨a,vs,rfl,.inr (hK▸ha),k.here S q (by rw [ta.length]; exact bB)⟩
      · obtain ⟨a,rfl,ha⟩:=rr
        exact .inl ⟨a,_,rfl,.inl (hK▸S.z.seq ha),k.here S q (by rw [List.length_map]; exact bB)⟩
      · exact .inr ⟨z,by rw [show v= .str z from rr],hz,k.here S q bB⟩
      · obtain ⟨a,vs,rfl,ha,ta⟩:=cF S rr e
        exact .inl ⟨a,vs,rfl,.inl (SqL.of ha),k.here S q (by rw [ta.length]; exact bB)⟩
  | .abs,hc=>by
    refine EG.imp fun vs H Q h=>?_
    obtain ⟨xs,Z,G,Q',r,S,q,k⟩:=h
    match xs,q with
    | [.int i],q =>
      obtain ⟨v,rfl,rr⟩:=vR r
      exact ⟨i,by rw [show v= .int i from rr],k.here S q bB⟩
  | .max,hc=>by
    refine (HQ (hc rfl)).imp fun vs H Q h=>?_
    obtain ⟨xs,Z,G,Q',r,S,q,k⟩:=h
    match xs,q with
    | [.int i,.int j],q =>
      obtain ⟨v,u,rfl,r1,r2⟩:=SU r
      have e:max i j=if j > i then j else i:=by split <;> omega
      exact ⟨i,j,by rw [show v= .int i from r1,show u= .int j from r2],k.here S q (by rw [e]; exact bB)⟩
  | .min,hc=>by
    refine (GI (hc rfl)).imp fun vs H Q h=>?_
    obtain ⟨xs,Z,G,Q',r,S,q,k⟩:=h
    match xs,q with
    | [.int i,.int j],q =>
      obtain ⟨v,u,rfl,r1,r2⟩:=SU r
      have e:min i j=if j < i then j else i:=by split <;> omega
      exact ⟨i,j,by rw [show v= .int i from r1,show u= .int j from r2],k.here S q (by rw [e]; exact bB)⟩
  | .int,hc=>by
    refine FE.imp fun vs H Q h=>?_
    obtain ⟨xs,Z,G,Q',r,S,q,k⟩:=h
    match xs,q with
    | [.int i],q =>
      obtain ⟨v,rfl,rr⟩:=vR r
      exact .inl ⟨i,by rw [show v= .int i from rr],k.here S q bB⟩
    | [.bl i],q =>
      obtain ⟨v,rfl,rr⟩:=vR r
      exact .inr ⟨i,by rw [show v= .bl i from rr],k.here S q bB⟩
  | .str,hc=>by
    refine uH.imp fun vs H Q h=>?_
    obtain ⟨xs,Z,G,Q',r,S,q,k⟩:=h
    match xs,q with
    | [.int i],q =>
      obtain ⟨v,rfl,rr⟩:=vR r
      exact ⟨i,by rw [show v= .int i from rr],q.1,k.here S q.2 iS⟩
  | .isi, hc=>by
    intro pins s σ H vs us Q I rv h
    obtain ⟨xs,Z,G,Q',r,S,q,k⟩:=h
    match xs,q with
    | [x,.ty T],q =>
      obtain ⟨v,w',rfl,r1,r2⟩:=SU r
      obtain ⟨u,u',rfl,rv1,rv2⟩:=xS rv
      have e:w'= .ty T:=r2
      subst e
      have e2:u'= .type T:=rv2
      subst e2
      obtain ⟨hT,⟨n,hn,q⟩ | ⟨c,hcn,hcs,q⟩⟩:=q
      · exact CL hK I S r1 rv1 hn (aAV X.K n (uE S r1 hn).1 T hT) (k.here S q cN)
      · exact uF hK I S r1 rv1 hcn (C.own c hcs) (hK▸C.other c hcs T hT) (k.here S q cN)
    | [x, .cl c],q =>
      obtain ⟨v,w',rfl,r1,r2⟩:=SU r
      obtain ⟨u,u',rfl,rv1,rv2⟩:=xS rv
      have e:w'= .ref (E.cls c):=r2
      subst e
      have e2:u'= .ref (E.cls c):=rv2
      subst e2
      obtain ⟨hcs,⟨n,hn,q⟩ | ⟨c',hcn,hcs',q⟩⟩:=q
      · exact CL hK I S r1 rv1 hn (hK▸C.plain c hcs n (uE S r1 hn).1) (k.here S q cN)
      · by_cases e:c'=c
        · subst e
          rw [decide_eq_true rfl] at q
          exact uF hK I S r1 rv1 hcn (C.own _ hcs') (by unfold W.kitOne; rw [if_pos (beq_self_eq_true _)]) (k.here S q cN)
        · rw [decide_eq_false e] at q
          exact uF hK I S r1 rv1 hcn (C.own _ hcs') (hK▸C.apart c' hcs' c hcs e) (k.here S q cN)
  | .tuple,hc=>by
    refine rG.imp fun vs H Q h=>?_
    obtain ⟨xs,Z,G,Q',r,S,q,k⟩:=h
    match xs,q with
    | [x],q =>
      obtain ⟨v,rfl,rr⟩:=vR r
      rcases q with ⟨ys,rfl,q⟩ | ⟨ys,e,q⟩
      · obtain ⟨a,vs,e,ha,ta⟩:=dW S rr
        subst e
        exact ⟨a,vs,rfl,.inr ⟨hK▸ha,k.here S q rr⟩⟩
      · obtain ⟨a,vs,rfl,ha,ta⟩:=cF S rr e
        exact ⟨a,vs,rfl,.inl ⟨SqL.of ha,fun l n=>k.newZ S n (jB (S.zn n) ta) q⟩⟩
  | .list,hc=>by
    refine tN.imp fun vs H Q h=>?_
    obtain ⟨xs,Z,G,Q',r,S,q,k⟩:=h
    match xs,q with
    | [x],q =>
      obtain ⟨v,rfl,rr⟩:=vR r
      rcases q with ⟨ys,rfl,q⟩ | ⟨ys,e,q⟩
      · obtain ⟨a,vs,rfl,ha,ta⟩:=dW S rr
        exact ⟨a,vs,rfl,.inr (hK▸ha),fun l n=>k.newZ S n (eM (S.zn n) ta) q⟩
      · obtain ⟨a,vs,rfl,ha,ta⟩:=cF S rr e
        exact ⟨a,vs,rfl,.inl (SqL.of ha),fun l n=>k.newZ S n (eM (S.zn n) ta) q⟩
  | .divmod,hc=>noC fun xs G Q q=>by unfold dN at q; exact q
  | .all,hc=>noC fun xs G Q q=>by unfold dN at q; exact q
  | .any,hc=>noC fun xs G Q q=>by unfold dN at q; exact q
  | .sum,hc=>noC fun xs G Q q=>by unfold dN at q; exact q
  | .bool,hc=>noC fun xs G Q q=>by unfold dN at q; exact q
  | .repr,hc=>noC fun xs G Q q=>by unfold dN at q; exact q
end
inductive Ar where
  | arg (i:Nat) | non | bl (b:Bool) | int (i:Int) | str (x:Str)
  deriving DecidableEq
noncomputable def Ar.val (xs:List PV):Ar→PV
  | .arg i=>xs.getD i .non
  | .non=>.non
  | .bl b=>.bl b
  | .int i=>.int i
  | .str x=>.str x
inductive CE where
  | var (i:Nat) | int (i:Int) | bl (b:Bool) | non | str (x:Str) | glo (x:Str)
  | bin (op:Operator) (a b:CE) | neg (a:CE) | no (a:CE)
  | cmp (op:CmpOp) (a b:CE) | chn (op op':CmpOp) (a b c:CE)
  | an (a b:CE) | oo (a b:CE) | tst (a:CE) | tsb (a:CE)
  | tup (es:CE) | lst (m:Bool) (es:CE) | nil | cons (a b:CE)
  | idx (a i:CE) | sli (a lo hi:CE) | rev (a:CE) | att (a:CE) (f:Str)
  | cal (f:Str) (es:CE) | cak (f:Str) (es ks:CE) (ar:List Ar) | blt (b:Bn) (es:CE) | app (a e:CE)
  | cmpr (m:Bool) (tg it ts el:CE) (js:List (Option Nat))
  | isq (e:CE) | irg (es:CE) | ien (e:CE) | izp (es:CE)
  | gn (i:Nat) | gt (n:Nat) (gs:CE)
  | ceq (eqs:List (String×Str)) (a b:CE) | emp | dct (es:CE) | ixo (a e:CE) | bow (b:Bn) (ls:List (String×Str)) (es:CE) | joi (a e:CE) | fst (es:CE) | gl (n:Nat) (gs:CE) | rpr (e:CE) | cex (op:CmpOp) (eqs:List (String×Str)) (a b:CE) | gix (ks:List (Str×Str)) (e:CE) | gin (neg:Bool) (ks:List (Str×Str)) (e:CE) | cav (fs:List (Str×Nat×List Ar)) (i:Nat) (es:CE) | isx (a:CE) (n:Str) | atx (a:CE) (f:Str) | cnt (a e:CE)
inductive CS where
  | nil | seq (a b:CS) | ex (e:CE) | asg (g e:CE) | par (i j:Nat) (a b:CE) | par3 (i j l:Nat) (a b c:CE) | sub (o i e:CE) | fld (o:CE) (f:Str) (e:CE)
  | iff (c:CE) (a b:CS) | wh (c:CE) (b:CS) | fr (g it:CE) (b:CS) | ret (e:CE) | retN | nev
  | tri (b:CS) (i:Nat) (cs:List String) | trh (b:CS) (j:Nat) (h:CS) (cs:List String)
structure Tb where
  S:Str→Sp3
  gv:Str→PV
  cs:List String
  fl:List (String×Str)
  fam:PX→Str→Sp3:=fun _ _ _ _ _=>False
  xp:PX:=fun _ _ _ _=>False
  xi:List (String×Str×Bool):=[]
  fx:List (String×Str):=[]
noncomputable abbrev Tb.at (T:Tb) (x:PX):Tb:={ T with S:=T.fam x,xp:=x }
noncomputable def aCL (x:PV) (G:Gh) (Q:PK1):Prop:=match x with
  | .int i=>Q (.int (-i)) G
  | _=>False
noncomputable def pIs (neg:Bool) (x y:PV) (G:Gh) (Q:PK1):Prop:=match y with
  | .non=>(x= .non∧Q (.bl (!neg)) G)∨(x≠.non∧Q (.bl neg) G)
  | .bl b=>∃ c,x= .bl c∧Q (.bl (if neg then !(c == b) else c == b)) G
  | _=>False
noncomputable def flP:PV→Bool
  | .non=>true
  | .bl _=>true
  | .int _=>true
  | .str _=>true
  | _=>false
noncomputable def pIn (neg:Bool) (x y:PV) (G:Gh) (Q:PK1):Prop:= ∃ xs,(y= .tup xs∨bI G y=some xs)∧flP x=true∧xs.all flP=true∧Q (.bl (if neg=true then !(xs.any fun z=>peq z x) else xs.any fun z=>peq z x)) G
noncomputable def kC:CmpOp→P2
  | .Lt=>pI (fun _ _=>True) fun i j=>.bl (decide (i < j))
  | .LtE=>pI (fun _ _=>True) fun i j=>.bl (decide (i≤j))
  | .Gt=>pI (fun _ _=>True) fun i j=>.bl (decide (j < i))
  | .GtE=>pI (fun _ _=>True) fun i j=>.bl (decide (j≤i))
  | .Eq=>pEq false
  | .NotEq=>pEq true
  | .Is=>pIs false
  | .IsNot=>pIs true
  | .In=>pIn false
  | .NotIn=>pIn true
noncomputable def OT (T:Tb) (x:PV) (f:Str) (G:Gh) (Q:PK1):Prop:= ∃ c ns xs v,(x= .ob c ns xs∨∃ a,x= .ref a∧G a=some (.ins c ns xs))∧(c,f)∈T.fl∧(ns.zip xs).lookup f=some v∧Q v G
noncomputable abbrev PTG:=PV→PSt→Gh→(PSt→Gh→Prop)→Prop
noncomputable abbrev PTI:=PSt→Gh→((Gh→Prop)→List PV→Gh→Prop)→Prop
noncomputable def HH (js:List (Option Nat)) (σ:PSt):PSt:=js.map fun o=>match o with | none=>none | some j=>(σ[j]?).getD none
noncomputable def hJ (chk:Gh→Prop) (g:PTG) (ts:PTT) (te:PTE):List PV→List PV→PSt→Gh→(List PV→Gh→Prop)→Prop
  | [],acc,_,G,Q=>chk G∧Q acc G
  | x :: r,acc,σ,G,Q=>chk G∧g x σ G fun σ2 G2=>ts σ2 G2 fun ok G3=>if ok=true then te σ2 G3 fun y G4=>hJ chk g ts te r (acc ++ [y]) σ2 G4 Q else hJ chk g ts te r acc σ2 G3 Q
noncomputable def lW (chk:Gh→Prop) (g:PTG) (tb:PTS) (D:gZ):List PV→PSt→Gh→Prop
  | [],σ,G=>chk G∧D.nx σ G
  | x :: r,σ,G=>chk G∧g x σ G fun σ2 G2=>tb { D with nx:=lW chk g tb D r,ct:=lW chk g tb D r,bk:=D.nx } σ2 G2
noncomputable def pK (m:Bool) (G:Gh) (xs:List PV) (Q:PK1):Prop:=if m=true then ∀ p,G p=none→Q (.ref p) (gup G p (.lst xs)) else Q (.lst xs) G
noncomputable def pQ (lo:Int) (n:Nat):List PV:=(List.range n).map fun (k:Nat)=>PV.int (lo + (k:Int))
noncomputable def wD (xs:List PV):List PV:=xs.zipIdx.map fun p=>PV.tup [.int (p.2:Int),p.1]
noncomputable def aET:PV→Option (List PV)
  | .tup ys=>some ys
  | .lst ys=>some ys
  | _=>none
noncomputable def aGG (n:Nat) (yss:List (List PV)):List PV:=(List.range n).map fun i=>PV.tup (yss.map fun ys=>ys.getD i .non)
noncomputable def NV (x:PV) (G:Gh) (R:(Gh→Prop)→List PV→Gh→Prop):Prop:=match x with
  | .tup xs=>R (fun _=>True) xs G
  | .lst xs=>R (fun _=>True) xs G
  | .scr ns=>R (fun _=>True) (ns.map .int) G
  | .ref a=>∃ xs,G a=some (.lst xs)∧R (fun G'=>G' a=some (.lst xs)) xs G
  | _=>False
noncomputable def aFR (T:Tb) (eqs:List (String×Str)) (x y:PV) (G:Gh) (Q:PK1):Prop :=
  (∃ c m ns xs ns' ys,(c,m)∈eqs∧x= .ob c ns xs∧y= .ob c ns' ys∧T.S m [x,y] G fun v G'=>∃ b,v= .bl b∧Q (.bl b) G')∨pEq false x y G Q
noncomputable def aG4 (T:Tb) (eqs:List (String×Str)) (x y:PV) (G:Gh) (Q:PK1):Prop :=
  (∃ c m ns xs ns' ys,(c,m)∈eqs∧x= .ob c ns xs∧y= .ob c ns' ys∧T.S m [x,y] G fun v G'=>∃ b,v= .bl b∧Q (.bl (!b)) G')∨pEq true x y G Q
noncomputable def aFn (b:Bn) (v:PV) (G:Gh) (Q:PK1):Prop:=match b with
  | .len=>∃ n:Int,v= .int n∧0≤n∧n < 2 ^ 63∧Q (.int n) G
  | .bool=>∃ n:Int,v= .int n∧0≤n∧n < 2 ^ 63∧Q (.bl (n != 0)) G
  | .str=>∃ x,v= .str x∧Q (.str x) G
  | .repr=>∃ x,v= .str x∧Q (.str x) G
  | _=>False
noncomputable def SS (T:Tb) (b:Bn) (ls:List (String×Str)) (xs:List PV) (G:Gh) (Q:PK1):Prop :=
  (∃ c m ns ys,(c,m)∈ls∧xs=[.ob c ns ys]∧T.S m xs G fun v G'=>aFn b v G' Q)∨dN T.cs b xs G Q
noncomputable def aHv (x:PV) (G:Gh) (Q:PK1):Prop:= ∃ d,(dat x=some d∨dte x=some d)∧d.showable=true∧d.depth≤64∧d.shown.length≤sizeLine∧(∀ i:Int,x= .int i→i.natAbs.log2 < 1920)∧Q (.str d.shown) G
noncomputable def buP:PV→Gh→Prop
  | .non,_=>True
  | .bl _,_=>True
  | .int _,_=>True
  | .str _,_=>True
  | .tup _,_=>True
  | .lst _,_=>True
  | .scr _,_=>True
  | .emp,_=>True
  | .dct _ _,_=>True
  | .ref p,G=>∃ xs,bI G (.ref p)=some xs
  | _,_=>False
noncomputable def anP (T:Tb) (c:String) (y:PV) (G:Gh):Prop:=buP y G∨∃ d ns ys,y= .ob d ns ys∧d∈T.cs∧d≠c
noncomputable def aGC (T:Tb) (eqs:List (String×Str)) (x y:PV) (G:Gh) (Q:PK1):Prop:= ∃ c m ns xs,(c,m)∈eqs∧x= .ob c ns xs∧anP T c y G∧T.S m [x,y] G fun v G'=>∃ b,v= .bl b∧Q (.bl b) G'
noncomputable def aHn (T:Tb) (eqs:List (String×Str)) (x y:PV) (G:Gh) (Q:PK1):Prop:= ∃ c m ns ys,(c,m)∈eqs∧y= .ob c ns ys∧anP T c x G∧T.S m [y,x] G fun v G'=>∃ b,v= .bl b∧Q (.bl b) G'
noncomputable def aGj (T:Tb) (eqs:List (String×Str)) (x y:PV) (G:Gh) (Q:PK1):Prop:= ∃ c m ns xs,(c,m)∈eqs∧x= .ob c ns xs∧anP T c y G∧T.S m [x,y] G fun v G'=>∃ b,v= .bl b∧Q (.bl (!b)) G'
noncomputable def inP (T:Tb) (c:String) (m:Str) (x:PV) (Q:Bool→Gh→Prop):List PV→Gh→Prop
  | [],G=>Q false G
  | y :: r,G=>((∃ ns ys,y= .ob c ns ys)∧Q true G∧T.S m [y,x] G fun v G'=>∃ b,v= .bl b∧if b=true then Q true G' else inP T c m x Q r G')∨
      (anP T c y G∧T.S m [x,y] G fun v G'=>∃ b,v= .bl b∧if b=true then Q true G' else inP T c m x Q r G')
noncomputable def aEq (T:Tb) (eqs:List (String×Str)) (neg:Bool) (x y:PV) (G:Gh) (Q:PK1):Prop :=
  ∃ c m ns xs ys,(c,m)∈eqs∧x= .ob c ns xs∧(y= .lst ys∨(neg=false∧y= .tup ys))∧inP T c m x (fun b G'=>Q (.bl (if neg=true then !b else b)) G') ys G
noncomputable def pX (T:Tb) (op:CmpOp) (eqs:List (String×Str)) (x y:PV) (G:Gh) (Q:PK1):Prop:=match op with
  | .Eq=>aFR T eqs x y G Q∨aGC T eqs x y G Q∨aHn T eqs x y G Q
  | .NotEq=>aG4 T eqs x y G Q∨aGj T eqs x y G Q
  | .In=>aEq T eqs false x y G Q
  | .NotIn=>aEq T eqs true x y G Q
  | _=>False
noncomputable def kP:Key→PV
  | .inl i=>.int i
  | .inr x=>.str x
noncomputable def flK:List (Key×PV)→List PV
  | []=>[]
  | p :: r=>kP p.1 :: p.2 :: flK r
mutual
noncomputable def wpE (T:Tb):CE→PTE
  | .var i=>fun σ G Q=>∃ v,σ[i]? =some (some v)∧Q v G
  | .int i=>fun _ G Q=>Q (.int i) G
  | .bl b=>fun _ G Q=>Q (.bl b) G
  | .non=>fun _ G Q=>Q .non G
  | .str x=>fun _ G Q=>Q (.str x) G
  | .glo x=>fun _ G Q=>Q (T.gv x) G
  | .bin op a b=>fun σ G Q=>wpE T a σ G fun x G1=>wpE T b σ G1 fun y G2=>wC op x y G2 Q
  | .neg a=>fun σ G Q=>wpE T a σ G fun x G1=>aCL x G1 Q
  | .no a=>fun σ G Q=>wpE T a σ G fun x G1=>pO x G1 fun b G2=>Q (.bl (!b)) G2
  | .cmp op a b=>fun σ G Q=>wpE T a σ G fun x G1=>wpE T b σ G1 fun y G2=>kC op x y G2 Q
  | .chn op op' a b c=>fun σ G Q=>wpE T a σ G fun x G1=>wpE T b σ G1 fun y G2=>kC op x y G2 fun z G3=>∃ k,z= .bl k∧if k=true then wpE T c σ G3 fun w G4=>kC op' y w G4 Q else Q (.bl false) G3
  | .emp=>fun _ G Q=>Q .emp G
  | .dct es=>fun σ G Q=>wpL T es σ G fun xs G1=>∃ kvs:List (Key×PV),xs=flK kvs∧(kvs.map (·.1)).Nodup∧kvs.length≤15∧Q (.dct (kvs.map (·.1)) (kvs.map (·.2))) G1
  | .ixo a b=>fun σ G Q=>wpE T a σ G fun x G1=>(∃ xs,x= .tup xs∨bI G1 x=some xs)∧wpE T b σ G1 fun y G2=>aCl x y G2 Q
  | .cnt a b=>fun σ G Q=>wpE T a σ G fun x G1=>(∃ xs,bI G1 x=some xs)∧wpE T b σ G1 fun y G2=>∃ (bs:List Bool) (b:Bool),bI G2 x=some (bs.map PV.bl)∧y= .bl b∧Q (.int (bs.count b)) G2
  | .bow b ls es=>fun σ G Q=>wpL T es σ G fun xs G1=>SS T b ls xs G1 Q
  | .joi a b=>fun σ G Q=>wpE T a σ G fun x G1=>∃ sep,x= .str sep∧wpE T b σ G1 fun y G2=>∃ ys:List Str,bI G2 y=some (ys.map PV.str)∧(ys.map (·.length)).sum + ys.length * sep.length≤16777216∧Q (.str (Txt.join sep ys)) G2
  | .fst es=>fun σ G Q=>wpJ T es Str.empty σ G Q
  | .ceq eqs a b=>fun σ G Q=>wpE T a σ G fun x G1=>wpE T b σ G1 fun y G2=>aFR T eqs x y G2 Q
  | .an a b=>fun σ G Q=>wpE T a σ G fun x G1=>pO x G1 fun c G2=>if c=true then wpE T b σ G2 Q else Q x G2
  | .oo a b=>fun σ G Q=>wpE T a σ G fun x G1=>pO x G1 fun c G2=>if c=true then Q x G2 else wpE T b σ G2 Q
  | .tup es=>fun σ G Q=>wpL T es σ G fun xs G1=>xs.length≤sizeLine∧Q (.tup xs) G1
  | .lst m es=>fun σ G Q=>wpL T es σ G fun xs G1=>xs.length≤sizeLine∧pK m G1 xs Q
  | .idx a i=>fun σ G Q=>wpE T a σ G fun x G1=>wpE T i σ G1 fun y G2=>mU x y G2 Q
  | .sli a lo hi=>fun σ G Q=>wpE T a σ G fun x G1=>wpO T lo σ G1 fun l G2=>wpO T hi σ G2 fun h G3=>VW x l h G3 Q
  | .rev a=>fun σ G Q=>wpE T a σ G fun x G1=>(∃ xs,bI G1 x=some xs∧Q (.lst xs.reverse) G1)∨∃ xs,x= .tup xs∧Q (.tup xs.reverse) G1
  | .att a f=>fun σ G Q=>wpE T a σ G fun x G1=>OT T x f G1 Q
  | .cal f es=>fun σ G Q=>wpL T es σ G fun xs G1=>T.S f xs G1 Q
  | .cak f es ks ar=>fun σ G Q=>wpL T es σ G fun xs G1=>wpL T ks σ G1 fun zs G2=>T.S f (ar.map (Ar.val (xs ++ zs))) G2 Q
  | .blt b es=>fun σ G Q=>wpL T es σ G fun xs G1=>dN T.cs b xs G1 Q
  | .app a e=>fun σ G Q=>wpE T a σ G fun x G1=>(∃ ys,bI G1 x=some ys)∧wpE T e σ G1 fun y G2=>∃ p xs,x= .ref p∧G2 p=some (.lst xs)∧xs.length < sizeLine∧Q .non (gup G2 p (.lst (xs ++ [y])))
  | .cmpr m tg it ts el js=>fun σ G Q=>wpI T it σ G fun chk xs G1=>xs.length≤sizeLine∧hJ chk (wpG T tg) (wpT T ts) (wpE T el) xs [] (HH js σ) G1 fun ys G2=>pK m G2 ys Q
  | .cex op eqs a b=>fun σ G Q=>wpE T a σ G fun x G1=>wpE T b σ G1 fun y G2=>pX T op eqs x y G2 Q
  | .rpr e=>fun σ G Q=>wpE T e σ G fun x G1=>aHv x G1 Q
  | .gix ks e=>fun σ G Q=>wpE T e σ G fun y G1=>∃ z f,y= .str z∧ks.lookup z=some f∧Q (.fn f) G1
  | .gin neg ks e=>fun σ G Q=>wpE T e σ G fun y G1=>∃ z,y= .str z∧Q (.bl (if neg=true then !(ks.lookup z).isSome else (ks.lookup z).isSome)) G1
  | .cav fs i es=>fun σ G Q=>∃ f n ar,σ[i]? =some (some (.fn f))∧(f,n,ar)∈fs∧wpL T es σ G fun xs G1=>T.S f (ar.map (Ar.val xs)) G1 Q
  | .isx a n=>fun σ G Q=>wpE T a σ G fun x G1=>∃ c ns xs r,x= .exc c ns xs∧(c,n,r)∈T.xi∧Q (.bl r) G1
  | .atx a f=>fun σ G Q=>wpE T a σ G fun x G1=>∃ c ns xs v,x= .exc c ns xs∧(c,f)∈T.fx∧(ns.zip xs).lookup f=some v∧Q v G1
  | .tst _=>fun _ _ _=>False
  | .tsb _=>fun _ _ _=>False
  | .nil=>fun _ _ _=>False
  | .cons _ _=>fun _ _ _=>False
  | .isq _=>fun _ _ _=>False
  | .irg _=>fun _ _ _=>False
  | .ien _=>fun _ _ _=>False
  | .izp _=>fun _ _ _=>False
  | .gn _=>fun _ _ _=>False
  | .gt _ _=>fun _ _ _=>False
  | .gl _ _=>fun _ _ _=>False
noncomputable def wpJ (T:Tb):CE→Str→PTE
  | .nil=>fun out _ G Q=>out.length≤sizeLine∧Q (.str out) G
  | .cons a b=>fun out σ G Q=>wpE T a σ G fun x G1=>∃ y,x= .str y∧y.length≤sizeLine∧(out ++ y).length≤sizeLine∧wpJ T b (out ++ y) σ G1 Q
  | _=>fun _ _ _ _=>False
noncomputable def wpL (T:Tb):CE→PTA
  | .nil=>fun _ G Q=>Q [] G
  | .cons a b=>fun σ G Q=>wpE T a σ G fun x G1=>wpL T b σ G1 fun xs G2=>Q (x :: xs) G2
  | _=>fun _ _ _=>False
noncomputable def wpT (T:Tb):CE→PTT
  | .an a b=>fun σ G Q=>wpT T a σ G fun c G1=>if c=true then wpT T b σ G1 Q else Q false G1
  | .oo a b=>fun σ G Q=>wpT T a σ G fun c G1=>if c=true then Q true G1 else wpT T b σ G1 Q
  | .no a=>fun σ G Q=>wpT T a σ G fun c G1=>Q (!c) G1
  | .tst a=>fun σ G Q=>wpE T a σ G fun x G1=>pO x G1 Q
  | .tsb a=>fun σ G Q=>wpE T a σ G fun x G1=>∃ k,x= .bl k∧Q k G1
  | .nil=>fun _ G Q=>Q true G
  | _=>fun _ _ _=>False
noncomputable def wpO (T:Tb):CE→PSt→Gh→(Option Int→Gh→Prop)→Prop
  | .nil=>fun _ G Q=>Q none G
  | .tst e=>fun σ G Q=>wpE T e σ G fun x G1=>∃ i,x= .int i∧Q (some i) G1
  | _=>fun _ _ _=>False
noncomputable def wpI (T:Tb):CE→PTI
  | .isq e=>fun σ G R=>wpE T e σ G fun x G1=>NV x G1 R
  | .irg es=>fun σ G R=>wpL T es σ G fun xs G1=>(∃ j,xs=[.int j]∧ -(2 ^ 62)≤j∧j < 2 ^ 62∧R (fun _=>True) (pQ 0 j.toNat) G1)∨(∃ i j,xs=[.int i,.int j]∧(-(2 ^ 62)≤i∧i < 2 ^ 62∧ -(2 ^ 62)≤j∧j < 2 ^ 62)∧R (fun _=>True) (pQ i (j - i).toNat) G1)
  | .ien e=>fun σ G R=>wpE T e σ G fun x G1=>∃ xs,x= .tup xs∧R (fun _=>True) (wD xs) G1
  | .izp es=>fun σ G R=>wpL T es σ G fun xs G1=>(xs.length=2∨xs.length=3)∧∃ n yss,xs.map aET=yss.map some∧(∀ ys∈yss,ys.length=n)∧R (fun _=>True) (aGG n yss) G1
  | _=>fun _ _ _=>False
noncomputable def wpG (T:Tb):CE→PTG
  | .gn i=>fun x σ G Q=>Q (σ.set i (some x)) G
  | .gt n gs=>fun x σ G Q=>(∃ xs,x= .tup xs∧xs.length=n∧gU T gs xs σ G Q)
  | .gl n gs=>fun x σ G Q=>(∃ xs,bI G x=some xs∧xs.length=n∧gU T gs xs σ G Q)
  | _=>fun _ _ _ _=>False
noncomputable def gU (T:Tb):CE→List PV→PSt→Gh→(PSt→Gh→Prop)→Prop
  | .nil=>fun xs σ G Q=>xs=[]∧Q σ G
  | .cons a b=>fun xs σ G Q=>∃ x r,xs=x :: r∧wpG T a x σ G fun σ1 G1=>gU T b r σ1 G1 Q
  | _=>fun _ _ _ _=>False
end
noncomputable def HN (f:Str):List Str→List Str
  | []=>[f]
  | n :: r=>if n=f then n :: r else n :: HN f r
noncomputable def rE {α:Type} (f:Str) (v:α):List Str→List α→List α
  | [],_=>[v]
  | n :: r,x :: xs=>if n=f then v :: xs else x :: rE f v r xs
  | _ :: _,[]=>[]
noncomputable def wpS:Tb→CS→PTS
  | T,.nil=>fun D σ G=>D.nx σ G
  | T,.seq a b=>fun D σ G=>wpS T a { D with nx:=wpS T b D } σ G
  | T,.ex e=>fun D σ G=>wpE T e σ G fun _ G1=>D.nx σ G1
  | T,.asg g e=>fun D σ G=>wpE T e σ G fun x G1=>wpG T g x σ G1 D.nx
  | T,.par i j a b=>fun D σ G=>wpE T a σ G fun x G1=>wpE T b σ G1 fun y G2=>D.nx ((σ.set i (some x)).set j (some y)) G2
  | T,.par3 i j l a b c=>fun D σ G=>wpE T a σ G fun x G1=>wpE T b σ G1 fun y G2=>wpE T c σ G2 fun z G3=>D.nx (((σ.set i (some x)).set j (some y)).set l (some z)) G3
  | T,.sub o i e=>fun D σ G=>wpE T e σ G fun v G1=>wpE T o σ G1 fun x G2=>wpE T i σ G2 fun y G3=>SC x y v G3 fun G4=>D.nx σ G4
  | T,.fld o f e=>fun D σ G=>wpE T e σ G fun v G1=>wpE T o σ G1 fun x G2=>∃ p c ns xs,x= .ref p∧G2 p=some (.ins c ns xs)∧(c,f)∈T.fl∧ns.length < 1000∧D.nx σ (gup G2 p (.ins c (HN f ns) (rE f v ns xs)))
  | T,.iff c a b=>fun D σ G=>wpT T c σ G fun k G1=>if k=true then wpS T a D σ G1 else wpS T b D σ G1
  | T,.wh c b=>fun D σ G=>∃ W:Nat→PSt→Gh→Prop,(∃ m,W m σ G)∧∀ m σ G,W m σ G→wpT T c σ G fun k G1=>if k=true then wpS T b { D with nx:=fun σ' G'=>∃ m',m' < m∧W m' σ' G',ct:=fun σ' G'=>∃ m',m' < m∧W m' σ' G',bk:=D.nx } σ G1 else D.nx σ G1
  | T,.fr g it b=>fun D σ G=>wpI T it σ G fun chk xs G1=>lW chk (wpG T g) (wpS T b) D xs σ G1
  | T,.ret e=>fun D σ G=>wpE T e σ G D.rt
  | T,.retN=>fun D _ G=>D.rt .non G
  | T,.nev=>fun _ _ _=>False
  | T,.tri b i cs=>fun D σ G=>wpS (T.at (WkX fun c ns xs G1=>c∈cs∧D.nx ((List.replicate σ.length none).set i (some (.exc c ns xs))) G1)) b D σ G
  | T,.trh b j h cs=>fun D σ G=>wpS (T.at (WkX fun c ns xs G1=>c∈cs∧wpS T h ⟨fun σ2 G2=>D.nx (σ2.set j none) G2,D.rt,fun σ2 G2=>D.bk (σ2.set j none) G2,fun σ2 G2=>D.ct (σ2.set j none) G2⟩ ((List.replicate σ.length none).set j (some (.exc c ns xs))) G1)) b D σ G
noncomputable def JE (X:Cx) (E:Ev) (e:Expr) (t:PTE):Prop:= ∀ F,PE X e (low E F t)
noncomputable def JT (X:Cx) (E:Ev) (e:Expr) (t:PTT):Prop:= ∀ F,PT X e (uV E F t)
noncomputable def JW (X:Cx) (E:Ev) (e:Expr) (t:PTT):Prop:= ∀ F,PW X e (uV E F t)
noncomputable def JA (X:Cx) (E:Ev) (es:List Expr) (t:PTA):Prop:= ∀ F,PA X es (rH E F es.length t)
noncomputable def JS (X:Cx) (E:Ev) (s:Stmt) (t:PTS):Prop:= ∀ F,PS X s (aAy E F t)
noncomputable def JSs (X:Cx) (E:Ev) (s:List Stmt) (t:PTS):Prop:= ∀ F,PSs X s (aAy E F t)
noncomputable def aCN (E:Ev) (F:Hp) (t:PTG):TG:=fun v σ H Q=>∃ x σ' Z G Q',RP E Z x v∧RSt E Z σ' σ∧Sim E F H Z G∧t x σ' G Q'∧KSt E F Z Q' Q
noncomputable def JG (X:Cx) (E:Ev) (e:Expr) (t:PTG):Prop:= ∀ F,PG X e (aCN E F t)
noncomputable def aEW (E:Ev) (F:Hp) (t:List PV→PSt→Gh→(PSt→Gh→Prop)→Prop):TGs:=fun vs σ H Q=>∃ xs σ' Z G Q',RPs E Z xs vs∧RSt E Z σ' σ∧Sim E F H Z G∧t xs σ' G Q'∧KSt E F Z Q' Q
noncomputable def JGs (X:Cx) (E:Ev) (es:List Expr) (t:List PV→PSt→Gh→(PSt→Gh→Prop)→Prop):Prop:= ∀ F,PGs X es (aEW E F t)
theorem PT.imp {X:Cx} {e:Expr} {t t':TT} (h:PT X e t) (g:∀ σ H Q,t' σ H Q→t σ H Q):PT X e t':=fun pins s σ H Q I q=>h pins s σ H Q I (g _ _ _ q)
theorem PW.imp {X:Cx} {e:Expr} {t t':TT} (h:PW X e t) (g:∀ σ H Q,t' σ H Q→t σ H Q):PW X e t':=fun wh pins s σ H Q I q=>h wh pins s σ H Q I (g _ _ _ q)
theorem PA.imp {X:Cx} {es:List Expr} {t t':TA} (h:PA X es t) (g:∀ σ H Q,t' σ H Q→t σ H Q):PA X es t':=fun pos pins s σ H Q I q=>h pos pins s σ H Q I (g _ _ _ q)
theorem PSs.imp {X:Cx} {st:List Stmt} {t t':TS} (h:PSs X st t) (g:∀ D σ H,t' D σ H→t D σ H):PSs X st t':=fun pins s σ H D I q=>h pins s σ H D I (g _ _ _ q)
theorem PGs.imp {X:Cx} {es:List Expr} {t t':TGs} (h:PGs X es t) (g:∀ vs σ H Q,t' vs σ H Q→t vs σ H Q):PGs X es t':=fun pins s σ H v u Q I r q=>h pins s σ H v u Q I r (g _ _ _ _ q)
section
variable {X:Cx} {E:Ev} {T:Tb} {k:Nat} {pos:Pos} {a b c:Expr} {ta tb tc:PTE}
structure Pl (X:Cx) (E:Ev) (T:Tb) (k:Nat):Prop where
  hK:E.K=X.K
  calm:40≤k→X.calm=true
  room:bC k X.A
  cls:IZ E T.cs
  fld:∀ c f,(c,f)∈T.fl→Cls X.K (E.cls c)∧eG X.K (E.cls c) f
theorem Kq.go {F Z Z1 H1:Hp} {G1:Gh} {Q':PK1} {Q:VK} (k:Kq E F Z Q' Q) {x:PV} {v:V} (s:aM Z Z1) (S:Sim E F H1 Z1 G1) (r:RP E Z1 x v) (q:Q' x G1):Q v H1:=k x v Z1 G1 H1 s S r q
theorem aBR {i:Nat} {x:Str} (hN:X.N[i]? =some x) (hv:Vis X.env.scope x) (hd:(x == ("__debug__":Str))=false) (hcd:(x == ("__classdict__":Str))=false):JE X E (.Name x pos) (wpE T (.var i)):=fun F =>
  (pS hN hv hd hcd).imp fun σ H Q ⟨σ',Z,G,Q',rs,S,h,kq⟩=>by
    rw [wpE] at h
    obtain ⟨x,e,q⟩:=h
    obtain ⟨v,e',r⟩:=rs.get e
    exact ⟨v,e',kq.here S q r⟩
theorem aAP {i:Int} {j:Nat}:JE X E (.Constant (.int i) j pos) (wpE T (.int i)):=fun F=>KI.imp fun σ H Q ⟨σ',Z,G,Q',rs,S,h,kq⟩=>by rw [wpE] at h; exact kq.here S h bB
theorem aDp {i:Bool} {j:Nat}:JE X E (.Constant (.bool i) j pos) (wpE T (.bl i)):=fun F=>aER.imp fun σ H Q ⟨σ',Z,G,Q',rs,S,h,kq⟩=>by rw [wpE] at h; exact kq.here S h cN
theorem aCQ {j:Nat}:JE X E (.Constant .none j pos) (wpE T .non):=fun F=>ZZ.imp fun σ H Q ⟨σ',Z,G,Q',rs,S,h,kq⟩=>by rw [wpE] at h; exact kq.here S h kF
theorem KR {i:Str} {j:Nat}:JE X E (.Constant (.str i) j pos) (wpE T (.str i)):=fun F=>LI.imp fun σ H Q ⟨σ',Z,G,Q',rs,S,h,kq⟩=>by rw [wpE] at h; exact kq.here S h iS
theorem aA5 {x:Str} {u:Value} {v:V} (hg:Gl X x) (hm:X.mg x=some u) (r:aQ v u) (hr:RP E (fun _=>none) (T.gv x) v) (hd:(x == ("__debug__":Str))=false):JE X E (.Name x pos) (wpE T (.glo x)):=fun F =>
  (VH hg hm r hd).imp fun σ H Q ⟨σ',Z,G,Q',rs,S,h,kq⟩=>by rw [wpE] at h; exact kq.here S h (hr.mono fun _ _ z=>by cases z)
theorem aD7 {x:Str} {n:String} (hg:Gl X x) (hm:X.mg x=none) (hv:bootBuiltins x=some (.type n)) (hgv:T.gv x= .ty n) (hn:x≠"__name__") (hd:(x == ("__debug__":Str))=false):JE X E (.Name x pos) (wpE T (.glo x)):=fun F =>
  (UG (v:=.ty n) hg hm hv rfl hn hd).imp fun σ H Q ⟨σ',Z,G,Q',rs,S,h,kq⟩=>by rw [wpE] at h; rw [hgv] at h; exact kq.here S h rfl
theorem UY {F:Hp} {p:P2} {σ:L2.St} {H:Hp} {Q:VK} (h:low E F (fun σ G Q=>ta σ G fun x G1=>tb σ G1 fun y G2=>p x y G2 Q) σ H Q):tOp (fW E F p) (low E F ta) (low E F tb) σ H Q:=by
  obtain ⟨σ',Z,G,Q',rs,S,h,kq⟩:=h
  refine ⟨σ',Z,G,_,rs,S,h,fun x v Z1 G1 H1 s1 S1 r1 q1=>⟨σ',Z1,G1,_,rs.mono s1,S1,q1,fun y u Z2 G2 H2 s2 S2 r2 q2=>?_⟩⟩
  exact ⟨x,y,Z2,G2,Q',r1.mono s2,r2,S2,q2,kq.mono (s1.trans s2)⟩
theorem aBG {op:Operator} {a' b':CE} (P:Pl X E T k) (ha:JE X E a (wpE T a')) (hb:JE X E b (wpE T b')):JE X E (.BinOp a op b pos) (wpE T (.bin op a' b')):=fun F =>
  (aED (QT P.hK op) (ha F) (hb F)).imp fun σ H Q h=>UY (by rw [wpE] at h; exact h)
theorem aDc {a':CE} (ha:JE X E a (wpE T a')):JE X E (.UnaryOp .USub a pos) (wpE T (.neg a')):=fun F =>
  (XR OD (ha F)).imp fun σ H Q ⟨σ',Z,G,Q',rs,S,h,kq⟩=>by
    rw [wpE] at h
    refine ⟨σ',Z,G,_,rs,S,h,fun x v Z1 G1 H1 s1 S1 r1 q1=>?_⟩
    unfold aCL at q1
    split at q1
    · exact ⟨_,r1,kq.go s1 S1 bB q1⟩
    · exact q1.elim
theorem UJ {te:TE} (he:PE X a te):PE X (.UnaryOp .Not a pos) (fun σ H Q=>te σ H fun x H1=>∃ b,FR X.K x H1 b∧Q (.bl (!b)) H1):=by
  intro pins s σ H Q I h
  refine UnaryOp_ (thn (he pins s σ H _ I h) fun v s1 ⟨x,H1,I1,r1,b,tv,q⟩=>?_)
  exact not_of (thn (tR pins s1 σ H1 x v (fun c H2=>Q (.bl (!c)) H2) I1 r1 ⟨b,tv,q⟩) fun c s2 ⟨H2,I2,q2⟩=>⟨.bl (!c),H2,I2,rfl,q2⟩)
theorem aDK {a':CE} (P:Pl X E T k) (ha:JE X E a (wpE T a')):JE X E (.UnaryOp .Not a pos) (wpE T (.no a')):=fun F =>
  (UJ (ha F)).imp fun σ H Q ⟨σ',Z,G,Q',rs,S,h,kq⟩=>by
    rw [wpE] at h
    refine ⟨σ',Z,G,_,rs,S,h,fun x v Z1 G1 H1 s1 S1 r1 q1=>?_⟩
    obtain ⟨c,tv,q⟩:=nB P.hK S1 r1 q1
    exact ⟨c,tv,kq.go s1 S1 cN q⟩
theorem WH {aY:List Expr} {te tf:TE} (ha:PE X a te) (hb:PE X (.BoolOp .And (b :: aY) pos) tf):PE X (.BoolOp .And (a :: b :: aY) pos) (fun σ H Q=>te σ H fun x H1=>∃ c,FR X.K x H1 c∧if c=true then tf σ H1 Q else Q x H1):=by
  intro pins s σ H Q I h
  refine BoolOp_and (thn (ha pins s σ H _ I h) fun v s1 ⟨x,H1,I1,r1,c,tv,q1⟩=>?_)
  refine thn (tR pins s1 σ H1 x v (fun d H2=>d=c∧H2=H1) I1 r1 ⟨c,tv,rfl,rfl⟩) fun d s2 ⟨H2,I2,e1,e2⟩=>?_
  subst e1 e2
  cases d with
  | true=>exact hb pins s2 σ H2 Q I2 q1
  | false=>exact ⟨x,H2,I2,r1,q1⟩
theorem aBK {aY:List Expr} {te tf:TE} (ha:PE X a te) (hb:PE X (.BoolOp .Or (b :: aY) pos) tf):PE X (.BoolOp .Or (a :: b :: aY) pos) (fun σ H Q=>te σ H fun x H1=>∃ c,FR X.K x H1 c∧if c=true then Q x H1 else tf σ H1 Q):=by
  intro pins s σ H Q I h
  refine BoolOp_or (thn (ha pins s σ H _ I h) fun v s1 ⟨x,H1,I1,r1,c,tv,q1⟩=>?_)
  refine thn (tR pins s1 σ H1 x v (fun d H2=>d=c∧H2=H1) I1 r1 ⟨c,tv,rfl,rfl⟩) fun d s2 ⟨H2,I2,e1,e2⟩=>?_
  subst e1 e2
  cases d with
  | false=>exact hb pins s2 σ H2 Q I2 q1
  | true=>exact ⟨x,H2,I2,r1,q1⟩
theorem aEi {aY:List Expr} {a' b':CE} (P:Pl X E T k) (ha:JE X E a (wpE T a')) (hb:JE X E (.BoolOp .And (b :: aY) pos) (wpE T b')):JE X E (.BoolOp .And (a :: b :: aY) pos) (wpE T (.an a' b')):=fun F =>
  (WH (ha F) (hb F)).imp fun σ H Q ⟨σ',Z,G,Q',rs,S,h,kq⟩=>by
    rw [wpE] at h
    refine ⟨σ',Z,G,_,rs,S,h,fun x v Z1 G1 H1 s1 S1 r1 q1=>?_⟩
    obtain ⟨c,tv,q⟩:=nB P.hK S1 r1 q1
    refine ⟨c,tv, ?_⟩
    cases c with
    | true=>rw [if_pos rfl] at q ⊢; exact ⟨σ',Z1,G1,Q',rs.mono s1,S1,q,kq.mono s1⟩
    | false=>rw [if_neg Bool.false_ne_true] at q ⊢; exact kq.go s1 S1 r1 q
theorem aEZ {aY:List Expr} {a' b':CE} (P:Pl X E T k) (ha:JE X E a (wpE T a')) (hb:JE X E (.BoolOp .Or (b :: aY) pos) (wpE T b')):JE X E (.BoolOp .Or (a :: b :: aY) pos) (wpE T (.oo a' b')):=fun F =>
  (aBK (ha F) (hb F)).imp fun σ H Q ⟨σ',Z,G,Q',rs,S,h,kq⟩=>by
    rw [wpE] at h
    refine ⟨σ',Z,G,_,rs,S,h,fun x v Z1 G1 H1 s1 S1 r1 q1=>?_⟩
    obtain ⟨c,tv,q⟩:=nB P.hK S1 r1 q1
    refine ⟨c,tv, ?_⟩
    cases c with
    | false=>rw [if_neg Bool.false_ne_true] at q ⊢; exact ⟨σ',Z1,G1,Q',rs.mono s1,S1,q,kq.mono s1⟩
    | true=>rw [if_pos rfl] at q ⊢; exact kq.go s1 S1 r1 q
theorem aAv {op:BoolOp} {t:PTE} (ha:JE X E a t):JE X E (.BoolOp op [a] pos) t:=fun F=>aAN (ha F)
theorem gQ {Z:Hp} {x:PV} {v:V} (r:RP E Z x v):(v= .non)↔x= .non:=by
  cases x with
  | non=>exact ⟨fun _=>rfl,fun _=>r⟩
  | bl b=>rw [show v= .bl b from r]; exact ⟨(fun z=>nomatch z),(fun z=>nomatch z)⟩
  | int b=>rw [show v= .int b from r]; exact ⟨(fun z=>nomatch z),(fun z=>nomatch z)⟩
  | str b=>rw [show v= .str b from r]; exact ⟨(fun z=>nomatch z),(fun z=>nomatch z)⟩
  | ty b=>rw [show v= .ty b from r]; exact ⟨(fun z=>nomatch z),(fun z=>nomatch z)⟩
  | ref b=>rw [show v= .ref b from r]; exact ⟨(fun z=>nomatch z),(fun z=>nomatch z)⟩
  | cl b=>rw [show v= .ref _ from r]; exact ⟨(fun z=>nomatch z),(fun z=>nomatch z)⟩
  | fn b=>rw [show v= .ref _ from r]; exact ⟨(fun z=>nomatch z),(fun z=>nomatch z)⟩
  | emp=>obtain ⟨a,rfl,_⟩:=r; exact ⟨(fun z=>nomatch z),(fun z=>nomatch z)⟩
  | dct ks xs=>obtain ⟨_,_,rfl,_⟩:=r; exact ⟨(fun z=>nomatch z),(fun z=>nomatch z)⟩
  | tup xs=>obtain ⟨_,_,rfl,_⟩:=r; exact ⟨(fun z=>nomatch z),(fun z=>nomatch z)⟩
  | lst xs=>obtain ⟨_,_,rfl,_⟩:=r; exact ⟨(fun z=>nomatch z),(fun z=>nomatch z)⟩
  | scr xs=>obtain ⟨_,rfl,_⟩:=r; exact ⟨(fun z=>nomatch z),(fun z=>nomatch z)⟩
  | ob _ _ xs=>obtain ⟨_,_,_,rfl,_⟩:=r; exact ⟨(fun z=>nomatch z),(fun z=>nomatch z)⟩
  | exc _ _ xs=>obtain ⟨_,_,_,rfl,_⟩:=r; exact ⟨(fun z=>nomatch z),(fun z=>nomatch z)⟩
theorem aBm:OpR X (compareOp .Is) (fun x y H Q=>∃ i j,x= .bl i∧y= .bl j∧Q (.bl (i == j)) H):=by
  intro pins s σ H x y v u Q I rx ry ⟨i,j,e1,e2,q⟩
  subst e1 e2; cases rx; cases ry
  exact is_bool ⟨.bl _,H,I,rfl,q⟩
theorem VF:OpR X (compareOp .IsNot) (fun x y H Q=>∃ i j,x= .bl i∧y= .bl j∧Q (.bl (!(i == j))) H):=by
  intro pins s σ H x y v u Q I rx ry ⟨i,j,e1,e2,q⟩
  subst e1 e2; cases rx; cases ry
  exact isnot_bool ⟨.bl _,H,I,rfl,q⟩
theorem ZW {F:Hp}:OpR X (compareOp .Is) (fW E F (pIs false)):=by
  refine (aCS.or aBm).imp fun v u H Q h=>?_
  obtain ⟨x,y,Z,G,Q',r1,r2,S,q,k⟩:=h
  unfold pIs at q
  split at q
  · refine .inl ⟨r2, ?_⟩
    rcases q with ⟨e,q⟩ | ⟨e,q⟩
    · rw [decide_eq_true ((gQ r1).mpr e)]; exact k.here S q cN
    · rw [decide_eq_false fun z=>e ((gQ r1).mp z)]; exact k.here S q cN
  · obtain ⟨c,e,q⟩:=q
    subst e
    exact .inr ⟨_,_,r1,r2,k.here S q cN⟩
  · exact q.elim
theorem QM {F:Hp}:OpR X (compareOp .IsNot) (fW E F (pIs true)):=by
  refine (RX.or VF).imp fun v u H Q h=>?_
  obtain ⟨x,y,Z,G,Q',r1,r2,S,q,k⟩:=h
  unfold pIs at q
  split at q
  · refine .inl ⟨r2, ?_⟩
    rcases q with ⟨e,q⟩ | ⟨e,q⟩
    · rw [decide_eq_true ((gQ r1).mpr e)]; exact k.here S q cN
    · rw [decide_eq_false fun z=>e ((gQ r1).mp z)]; exact k.here S q cN
  · obtain ⟨c,e,q⟩:=q
    subst e
    exact .inr ⟨_,_,r1,r2,k.here S q cN⟩
  · exact q.elim
theorem XL {Z:Hp} {x:PV} {v:V} (r:RP E Z x v) (h:flP x=true):jN v=true:=by
  cases x <;> first | (cases h; done) | skip
  · rw [show v= .non from r]; rfl
  · rw [show v= .bl _ from r]; rfl
  · rw [show v= .int _ from r]; rfl
  · rw [show v= .str _ from r]; rfl
theorem aEu {Z:Hp} {x y:PV} {v u:V} (r:RP E Z x v) (ry:RP E Z y u) (h:flP x=true) (hy:flP y=true):eqV v u=peq x y:=by
  cases x <;> first | (cases h; done) | skip
  all_goals (cases y <;> first | (cases hy; done) | skip)
  all_goals
    first
    | rw [show v= .non from r]
    | rw [show v= .bl _ from r]
    | rw [show v= .int _ from r]
    | rw [show v= .str _ from r]
  all_goals
    first
    | rw [show u= .non from ry]
    | rw [show u= .bl _ from ry]
    | rw [show u= .int _ from ry]
    | rw [show u= .str _ from ry]
  all_goals simp only [eqV,peq]
theorem XG {Z:Hp} {x:PV} {v:V} (r:RP E Z x v) (h:flP x=true):∀ {xs:List PV} {vs:List V},RPs E Z xs vs→xs.all flP=true→vs.all jN=true∧inV v vs=xs.any fun z=>peq z x
  | [],_,hr,_=>by cases hr; exact ⟨rfl,rfl⟩
  | y :: ys,_,⟨u,us,e,r1,r2⟩,ha=>by
    subst e
    rw [List.all_cons,Bool.and_eq_true] at ha
    obtain ⟨a,b⟩:=XG r h r2 ha.2
    refine ⟨by rw [List.all_cons,XL r1 ha.1,a]; rfl, ?_⟩
    unfold inV at b ⊢
    rw [List.any_cons,List.any_cons,b,aEu r1 r ha.1 h]
theorem NU {F:Hp} {neg:Bool} (hK:E.K=X.K) {v u:V} {H:Hp} {Q:VK} (h:fW E F (pIn neg) v u H Q):rIn X.K neg v u H Q:=by
  obtain ⟨x,y,Z,G,Q',r1,r2,S,⟨xs,hx,h1,h2,q⟩,k⟩:=h
  have key:∀ {a:Addr} {vs:List V},RPs E Z xs vs→(SqL X.K H a vs∨SqT X.K H a vs)→u= .ref a→rIn X.K neg v u H Q:=fun {a vs} t hs e=>by
    obtain ⟨a1,a2⟩:=XG r1 h1 t h2
    refine ⟨a,vs,e,hs,XL r1 h1,a1, ?_⟩
    rw [a2]
    exact k.here S q cN
  rcases hx with rfl | hx
  · obtain ⟨a,vs,rfl,ha,ta⟩:=dW S r2
    exact key ta (.inr (hK▸ha)) rfl
  · obtain ⟨a,vs,rfl,ha,ta⟩:=cF S r2 hx
    exact key ta (.inl (SqL.of ha)) rfl
theorem iX {F:Hp} (P:Pl X E T k):∀ op,OpR X (compareOp op) (fW E F (kC op))
  | .Lt=>aEl.imp fun _ _ _ _ h=>pC (gB (fun _ _ _=>cN) h)
  | .LtE=>aD3.imp fun _ _ _ _ h=>pC (gB (fun _ _ _=>cN) h)
  | .Gt=>aDO.imp fun _ _ _ _ h=>pC (gB (fun _ _ _=>cN) h)
  | .GtE=>aEb.imp fun _ _ _ _ h=>pC (gB (fun _ _ _=>cN) h)
  | .Eq=>ZV P.room P.hK
  | .NotEq=>aCm P.room P.hK
  | .Is=>ZW
  | .IsNot=>QM
  | .In=>HF.imp fun _ _ _ _ h=>NU P.hK h
  | .NotIn=>tM.imp fun _ _ _ _ h=>NU P.hK h
theorem aB9 {op:CmpOp} {a' b':CE} (P:Pl X E T k) (hm:behindInMarks op b=false) (ha:JE X E a (wpE T a')) (hb:JE X E b (wpE T b')):JE X E (.Compare a [op] [b] pos) (wpE T (.cmp op a' b')):=fun F =>
  (SV (iX P op) (ha F) (hb F) hm).imp fun σ H Q h=>UY (by rw [wpE] at h; exact h)
theorem aCJ {op:CmpOp} {a' b':CE} (P:Pl X E T k) (hm:behindInMarks op b=false) (ha:JE X E a (wpE T a')) (hb:JE X E b (wpE T b')):JT X E (.Compare a [op] [b] pos) (wpT T (.tsb (.cmp op a' b'))):=fun F =>
  PT.imp (UR (iX P op) (ha F) (hb F) hm) fun σ H Q h=>UY (by
    obtain ⟨σ',Z,G,Q',rs,S,h,kq⟩:=h
    rw [wpT,wpE] at h
    exact ⟨σ',Z,G,_,rs,S,h,fun x v Z1 G1 H1 s1 S1 r1 ⟨kk,e,q⟩=>by subst e; exact ⟨kk,r1,kq _ Z1 G1 H1 s1 S1 q⟩⟩)
theorem DS {F:Hp} {op op':CmpOp} {a' b' c':CE} {σ:L2.St} {H:Hp} {Q:VK} (h:low E F (wpE T (.chn op op' a' b' c')) σ H Q):zH (fW E F (kC op)) (fW E F (kC op')) (low E F (wpE T a')) (low E F (wpE T b')) (low E F (wpE T c')) σ H Q:=by
  obtain ⟨σ',Z,G,Q',rs,S,h,kq⟩:=h
  rw [wpE] at h
  refine ⟨σ',Z,G,_,rs,S,h,fun x v Z1 G1 H1 s1 S1 r1 q1=>⟨σ',Z1,G1,_,rs.mono s1,S1,q1,fun y u Z2 G2 H2 s2 S2 r2 q2=>⟨x,y,Z2,G2,_,r1.mono s2,r2,S2,q2, ?_⟩⟩⟩
  rintro z w Z3 G3 H3 s3 S3 r3 ⟨kk,e,q3⟩
  subst e
  refine ⟨kk,r3, ?_⟩
  have sz:=(s1.trans s2).trans s3
  cases kk with
  | true =>
    rw [if_pos rfl] at q3 ⊢
    exact ⟨σ',Z3,G3,_,rs.mono sz,S3,q3,fun z' w' Z4 G4 H4 s4 S4 r4 q4=>⟨y,z',Z4,G4,Q',(r2.mono s3).mono s4,r4,S4,q4,kq.mono (sz.trans s4)⟩⟩
  | false =>
    rw [if_neg Bool.false_ne_true] at q3 ⊢
    exact kq.go sz S3 cN q3
theorem aB8 {op op':CmpOp} {a' b' c':CE} (P:Pl X E T k) (hm:lastMarks [op,op'] [b,c]=false) (ha:JE X E a (wpE T a')) (hb:JE X E b (wpE T b')) (hc:JE X E c (wpE T c')):JE X E (.Compare a [op,op'] [b,c] pos) (wpE T (.chn op op' a' b' c')):=fun F =>
  (LL (iX P op) (iX P op') (ha F) (hb F) (hc F) hm).imp fun σ H Q h=>DS h
theorem aAp {op op':CmpOp} {a' b' c':CE} (P:Pl X E T k) (hm:lastMarks [op,op'] [b,c]=false) (ha:JE X E a (wpE T a')) (hb:JE X E b (wpE T b')) (hc:JE X E c (wpE T c')):JT X E (.Compare a [op,op'] [b,c] pos) (wpT T (.tsb (.chn op op' a' b' c'))):=fun F =>
  PT.imp (MT (iX P op) (iX P op') (ha F) (hb F) (hc F) hm) fun σ H Q h=>DS (by
    obtain ⟨σ',Z,G,Q',rs,S,h,kq⟩:=h
    rw [wpT] at h
    exact ⟨σ',Z,G,_,rs,S,h,fun x v Z1 G1 H1 s1 S1 r1 ⟨kk,e,q⟩=>by subst e; exact ⟨kk,r1,kq _ Z1 G1 H1 s1 S1 q⟩⟩)
theorem uX {a':CE} (P:Pl X E T k) (ha:JE X E a (wpE T a')) (he:∀ whole,isTrue a X.env whole=(do let v ←whole; standAt a.pos; holding [v] (truthy v))):JT X E a (wpT T (.tst a')):=fun F =>
  PT.imp (ME (ha F) he) fun σ H Q ⟨σ',Z,G,Q',rs,S,h,kq⟩=>by
    rw [wpT] at h
    refine ⟨σ',Z,G,_,rs,S,h,fun x v Z1 G1 H1 s1 S1 r1 q1=>?_⟩
    obtain ⟨c,tv,q⟩:=nB P.hK S1 r1 q1
    exact ⟨c,tv,kq _ Z1 G1 H1 s1 S1 q⟩
theorem aA1 {a':CE} (ha:JT X E a (wpT T a')):JW X E (.BoolOp .And [a] pos) (wpT T a'):=fun F=>SE (ha F)
theorem aAc {a':CE} (ha:JT X E a (wpT T a')):JW X E (.BoolOp .Or [a] pos) (wpT T a'):=fun F=>aCC (ha F)
theorem aEH {F:Hp} {a' b':CE} {σ:L2.St} {H:Hp} {Q:Bool→Hp→Prop} (h:uV E F (wpT T (.an a' b')) σ H Q):aFs (uV E F (wpT T a')) (uV E F (wpT T b')) σ H Q:=by
  obtain ⟨σ',Z,G,Q',rs,S,h,kq⟩:=h
  rw [wpT] at h
  refine ⟨σ',Z,G,_,rs,S,h,fun d Z1 G1 H1 s1 S1 q=>?_⟩
  cases d with
  | true=>rw [if_pos rfl] at q ⊢; exact ⟨σ',Z1,G1,Q',rs.mono s1,S1,q,kq.mono s1⟩
  | false=>rw [if_neg Bool.false_ne_true] at q ⊢; exact kq _ _ _ _ s1 S1 q
theorem aD1 {F:Hp} {a' b':CE} {σ:L2.St} {H:Hp} {Q:Bool→Hp→Prop} (h:uV E F (wpT T (.oo a' b')) σ H Q):tOr (uV E F (wpT T a')) (uV E F (wpT T b')) σ H Q:=by
  obtain ⟨σ',Z,G,Q',rs,S,h,kq⟩:=h
  rw [wpT] at h
  refine ⟨σ',Z,G,_,rs,S,h,fun d Z1 G1 H1 s1 S1 q=>?_⟩
  cases d with
  | false=>rw [if_neg Bool.false_ne_true] at q ⊢; exact ⟨σ',Z1,G1,Q',rs.mono s1,S1,q,kq.mono s1⟩
  | true=>rw [if_pos rfl] at q ⊢; exact kq _ _ _ _ s1 S1 q
theorem aFk {aY:List Expr} {a' b':CE} (ha:JT X E a (wpT T a')) (hb:JW X E (.BoolOp .And (b :: aY) pos) (wpT T b')):JW X E (.BoolOp .And (a :: b :: aY) pos) (wpT T (.an a' b')):=fun F=>PW.imp (aAE (ha F) (hb F)) fun _ _ _ h=>aEH h
theorem aFa {aY:List Expr} {a' b':CE} (ha:JT X E a (wpT T a')) (hb:JW X E (.BoolOp .Or (b :: aY) pos) (wpT T b')):JW X E (.BoolOp .Or (a :: b :: aY) pos) (wpT T (.oo a' b')):=fun F=>PW.imp (aEg (ha F) (hb F)) fun _ _ _ h=>aD1 h
theorem JW.jt {e:Expr} {t:PTT} (h:JW X E e t):JT X E e t:=fun F=>(h F).pt
theorem aEE {a':CE} (ha:JT X E a (wpT T a')):JT X E (.UnaryOp .Not a pos) (wpT T (.no a')):=fun F =>
  PT.imp (aAU (ha F)) fun σ H Q ⟨σ',Z,G,Q',rs,S,h,kq⟩=>by
    rw [wpT] at h
    exact ⟨σ',Z,G,_,rs,S,h,fun d Z1 G1 H1 s1 S1 q=>kq _ _ _ _ s1 S1 q⟩
theorem aCw:JA X E [] (wpL T .nil):=fun F=>PA.imp eC fun σ H Q ⟨σ',Z,G,Q',rs,S,h,kq⟩=>by rw [wpL] at h; exact kq [] [] Z G H rfl (aM.refl Z) S rfl h
theorem WB {e:Expr} {es:List Expr} {a' b':CE} (ha:JE X E e (wpE T a')) (hr:JA X E es (wpL T b')) (hs:starEach (e :: es) X.env=(false,eval e X.env) :: starEach es X.env):JA X E (e :: es) (wpL T (.cons a' b')):=fun F =>
  PA.imp (bR (ha F) (hr F) hs) fun σ H Q ⟨σ',Z,G,Q',rs,S,h,kq⟩=>by
    rw [wpL] at h
    exact ⟨σ',Z,G,_,rs,S,h,fun x v Z1 G1 H1 s1 S1 r1 q1=>⟨σ',Z1,G1,_,rs.mono s1,S1,q1,fun xs vs Z2 G2 H2 l2 s2 S2 r2 q2=>kq (x :: xs) (v :: vs) _ _ _ (by rw [List.length_cons,l2]; rfl) (s1.trans s2) S2 ⟨v,vs,rfl,r1.mono s2,r2⟩ q2⟩⟩
theorem aBs {es:List Expr} {x1:Nat} {es':CE} (h:JA X E es (wpL T es')):JE X E (.Tuple es x1 pos) (wpE T (.tup es')):=fun F =>
  (aCn (h F)).imp fun σ H Q ⟨σ',Z,G,Q',rs,S,h,kq⟩=>by
    rw [wpE] at h
    refine ⟨σ',Z,G,_,rs,S,h,fun xs vs Z1 G1 H1 l1 s1 S1 r1 q1=>⟨by rw [←r1.length]; exact q1.1,fun p n=>(kq.mono s1).newZ S1 n (jB (S1.zn n) r1) q1.2⟩⟩
theorem MW {F Z H:Hp} {G:Gh} {m:Bool} {xs:List PV} {vs:List V} {Q':PK1} {Q:VK} {p:Addr} (S:Sim E F H Z G) (n:H p=none) (r:RPs E Z xs vs) (q:pK m G xs Q') (kq:Kq E F Z Q' Q):Q (.ref p) (upd H p (.lst vs)):=by
  unfold pK at q
  cases m with
  | true =>
    rw [if_pos rfl] at q
    exact kq (.ref p) _ _ _ _ (aM.refl Z) (S.new (go:=.lst xs) n ⟨vs,rfl,r⟩) rfl (q p (S.gn n))
  | false =>
    rw [if_neg Bool.false_ne_true] at q
    exact kq.newZ S n (eM (S.zn n) r) q
theorem aBW {es:List Expr} {es':CE} {m:Bool} (h:JA X E es (wpL T es')):JE X E (.List es pos) (wpE T (.lst m es')):=fun F =>
  (aB4 (h F)).imp fun σ H Q ⟨σ',Z,G,Q',rs,S,h,kq⟩=>by
    rw [wpE] at h
    refine ⟨σ',Z,G,_,rs,S,h,fun xs vs Z1 G1 H1 l1 s1 S1 r1 q1=>⟨by rw [←r1.length]; exact q1.1,fun p n=>MW S1 n r1 q1.2 (kq.mono s1)⟩⟩
theorem aC1 {a' b':CE} (P:Pl X E T k) (ha:JE X E a (wpE T a')) (hb:JE X E b (wpE T b')) (hs:uT b):JE X E (.Subscript a b pos) (wpE T (.idx a' b')):=fun F =>
  (aFC (aCo P.room P.hK) (ha F) (hb F) hs).imp fun σ H Q h=>UY (by rw [wpE] at h; exact h)
noncomputable def aGu (E:Ev) (F:Hp) (t:PSt→Gh→(Option Int→Gh→Prop)→Prop):TO:=fun σ H Q=>∃ σ' Z G Q',RSt E Z σ' σ∧Sim E F H Z G∧t σ' G Q'∧∀ o Z1 G1 H1,aM Z Z1→Sim E F H1 Z1 G1→Q' o G1→Q o H1
noncomputable def JO (X:Cx) (E:Ev) (e:Option Expr) (t:PSt→Gh→(Option Int→Gh→Prop)→Prop):Prop:= ∀ F,PO X e (aGu E F t)
theorem PO.imp {e:Option Expr} {t t':TO} (h:PO X e t) (g:∀ σ H Q,t' σ H Q→t σ H Q):PO X e t':=fun pins s σ H Q I q=>h pins s σ H Q I (g _ _ _ q)
theorem aAh:JO X E none (wpO T .nil):=fun F=>PO.imp VC fun σ H Q ⟨σ',Z,G,Q',rs,S,h,kq⟩=>by rw [wpO] at h; exact kq _ _ _ _ (aM.refl Z) S h
theorem QG {a':CE} (ha:JE X E a (wpE T a')):JO X E (some a) (wpO T (.tst a')):=fun F=>PO.imp (CV (ha F)) fun σ H Q ⟨σ',Z,G,Q',rs,S,h,kq⟩=>by
  rw [wpO] at h
  exact ⟨σ',Z,G,_,rs,S,h,fun x v Z1 G1 H1 s1 S1 r1 ⟨i,e,q⟩=>by subst e; exact ⟨i,r1,kq _ _ _ _ s1 S1 q⟩⟩
theorem aBb {lo hi:Option Expr} {p2:Pos} {a' l' h':CE} (P:Pl X E T k) (ha:JE X E a (wpE T a')) (hl:JO X E lo (wpO T l')) (hu:JO X E hi (wpO T h')):JE X E (.Subscript a (.Slice lo hi none p2) pos) (wpE T (.sli a' l' h')):=fun F =>
  (MN (aDd P.hK) (ha F) (hl F) (hu F)).imp fun σ H Q ⟨σ',Z,G,Q',rs,S,h,kq⟩=>by
    rw [wpE] at h
    refine ⟨σ',Z,G,_,rs,S,h,fun x v Z1 G1 H1 s1 S1 r1 q1=>⟨σ',Z1,G1,_,rs.mono s1,S1,q1,fun o Z2 G2 H2 s2 S2 q2=>⟨σ',Z2,G2,_,(rs.mono s1).mono s2,S2,q2,fun o' Z3 G3 H3 s3 S3 q3=>?_⟩⟩⟩
    exact ⟨x,Z3,G3,Q',(r1.mono s2).mono s3,S3,q3,kq.mono ((s1.trans s2).trans s3)⟩
theorem aB2 {p1 p2 p3:Pos} {k1:Nat} {a':CE} (P:Pl X E T k) (ha:JE X E a (wpE T a')):JE X E (.Subscript a (.Slice none none (some (.UnaryOp .USub (.Constant (.int 1) k1 p1) p2)) p3) pos) (wpE T (.rev a')):=fun F =>
  (TQ (ha F)).imp fun σ H Q ⟨σ',Z,G,Q',rs,S,h,kq⟩=>by
    rw [wpE] at h
    refine ⟨σ',Z,G,_,rs,S,h,fun x v Z1 G1 H1 s1 S1 r1 hq=>?_⟩
    rcases hq with ⟨xs,e,q1⟩ | ⟨xs,e,q1⟩
    · obtain ⟨a,vs,rfl,ha,ta⟩:=cF S1 r1 e
      exact ⟨a,vs,rfl,.inl ⟨ha,fun p n=>(kq.mono s1).newZ S1 n (eM (S1.zn n) ta.reverse) q1⟩⟩
    · subst e
      obtain ⟨a,vs,rfl,ha,ta⟩:=dW S1 r1
      exact ⟨a,vs,rfl,.inr ⟨P.hK▸ha,fun p n=>(kq.mono s1).newZ S1 n (jB (S1.zn n) ta.reverse) q1⟩⟩
theorem gW {ns:List Str} {f:Str} {x:PV} {Z:Hp}:∀ {ns:List Str} {xs:List PV} {vs:List V},RPs E Z xs vs→(ns.zip xs).lookup f=some x→∃ v,(ns.zip vs).lookup f=some v∧RP E Z x v
  | [],_,_,_,h=>by cases h
  | _ :: _,[],_,_,h=>by cases h
  | n :: ns,y :: ys,_,⟨v,r,e,r1,r2⟩,h=>by
    subst e
    rw [List.zip_cons_cons,List.lookup_cons] at h
    rw [List.zip_cons_cons,List.lookup_cons]
    cases hb:f == n with
    | true=>rw [hb] at h; cases h; exact ⟨v,rfl,r1⟩
    | false=>rw [hb] at h; exact gW (ns:=ns) r2 h
theorem aBh {f:Str} {a':CE} (P:Pl X E T k) (ha:JE X E a (wpE T a')) (hb:attributeBase a f X.env (eval a X.env)=eval a X.env):JE X E (.Attribute a f pos) (wpE T (.att a' f)):=fun F =>
  (aBa (ha F) hb).imp fun σ H Q ⟨σ',Z,G,Q',rs,S,h,kq⟩=>by
    rw [wpE] at h
    refine ⟨σ',Z,G,_,rs,S,h,fun x v Z1 G1 H1 s1 S1 r1 ⟨c,ns,xs,y,hx,hf,hl,q⟩=>?_⟩
    obtain ⟨h1,h2⟩:=P.fld c f hf
    rcases hx with e | ⟨a,e,hG⟩
    · subst e
      obtain ⟨p,dx,vs,e,hp,_,t⟩:=r1
      obtain ⟨w,e1,e2⟩:=gW (ns:=ns) t hl
      exact ⟨p,_,dx,_,w,e,S1.z _ _ hp,h1,h2,e1,kq.go s1 S1 e2 q⟩
    · subst e
      obtain ⟨_,o',hp,dx,vs,e',_,t⟩:=S1.g _ _ hG
      subst e'
      obtain ⟨w,e1,e2⟩:=gW (ns:=ns) t hl
      exact ⟨a,_,dx,_,w,r1,hp,h1,h2,e1,kq.go s1 S1 e2 q⟩
theorem aCs {x:Str} {p:Pos} {e:Expr} {es:List Expr} {bb:Bn} {es':CE} (P:Pl X E T k) (h40:FV bb=true→40≤k) (hg:Gl X x) (hm:X.mg x=none) (hv:bootBuiltins x=some (JZ bb)) (hn:x≠"__name__") (hd:(x == ("__debug__":Str))=false)
    (ha:JA X E (e :: es) (wpL T es')) (he:starEach (e :: es) X.env=(false,eval e X.env) :: starEach es X.env) (hpl:(backTo pos (starEach es X.env)).any (·.1)=false):JE X E (.Call (.Name x p) (e :: es) [] pos) (wpE T (.blt bb es')):=fun F=>by
  have main:PE X (.Call (.Name x p) (e :: es) [] pos) (tCB (MM E F (dN T.cs bb)) (rH E F (e :: es).length (wpL T es'))):=by
    have hc:=CI (F:=F) (cs:=T.cs) P.hK P.cls bb fun z=>P.calm (h40 z)
    cases bb <;> first
      | exact xD hc hg hm hv (ha F) hn hd he hpl
      | exact sL hc hg hm hv (ha F) hn hd he hpl
  exact main.imp fun σ H Q ⟨σ',Z,G,Q',rs,S,h,kq⟩=>by
    rw [wpE] at h
    exact ⟨σ',Z,G,_,rs,S,h,fun xs vs Z1 G1 H1 l1 s1 S1 r1 q1=>⟨xs,Z1,G1,Q',r1,S1,q1,kq.mono s1⟩⟩
noncomputable def jK (E:Ev) (sp:Sp3):Sp:=fun vs H Q _=>∃ xs Z G F Q',RPs E Z xs vs∧Sim E F H Z G∧sp xs G Q'∧Kq E F Z Q' Q
noncomputable abbrev SpX:=List PV→Gh→PX→Prop
noncomputable def nQ (E:Ev) (sp:Sp3) (spx:SpX):Sp:=fun vs H Q EX=>∃ xs Z G F,RPs E Z xs vs∧Sim E F H Z G∧((∃ Q',sp xs G Q'∧Kq E F Z Q' Q)∨∃ x,spx xs G x∧KX E F Z x EX)
theorem uU {P:Program} {w:World} {K:W.Frag} {mg:Str→Option Value} {base:Heap} {ad:Addr} {fd:FuncData} {ps:List Str} {sp:Sp3} {spx:SpX} (F:bL P w K mg base (CXo P w) k ad fd ps (nQ E sp spx)):bL P w K mg base CX0 k ad fd ps (jK E sp):=by
  refine ⟨fun vs H Q EX ⟨xs,Z,G,F',Q',r,S,q,kq⟩=>F.len vs H Q EX ⟨xs,Z,G,F',r,S,.inl ⟨Q',q,kq⟩⟩,fun A outer s H args us vs Q EX hr he hb hv ⟨xs,Z,G,F',Q',r,S,q,kq⟩=>?_⟩
  refine codeAny_mono (F.run A outer s H args us vs Q E0 hr he hb hv ⟨xs,Z,G,F',r,S,.inl ⟨Q',q,kq⟩⟩) fun r s' hq=>?_
  cases r with
  | ok fl=>cases fl <;> exact hq
  | error e=>obtain ⟨_,_,_,_,_,_,_,_,_,_,z⟩:=hq; exact z.elim
theorem aFp {X:Cx} {EX:XK} (h:∀ e s',xeO X EX e s'→X.xe e s'):gG (CXo X.prog X.w) X EX:=by
  intro pins σ H s e s' I ⟨a,C,d,H',ee,ho,hb,un,hok,x,q⟩
  have J:=I.call' ho un hok hb fun b z=>nomatch z
  exact h _ _ ⟨a,C,d,σ,H',ee,J.nopins,.inr (x.mono I.lo_le),q⟩
noncomputable def Co (X:Cx) (E:Ev) (sp3:Sp3) (k:Nat) (ad:Addr) (fd:FuncData) (ps:List Str):Prop:= ∃ (CX:CXT) (sp:Sp) (EX:XK),bL X.prog X.w X.K X.mg X.base CX k ad fd ps sp∧gG CX X EX∧∀ vs H Q,jK E sp3 vs H Q E0→sp vs H Q EX
theorem Co.of {sp3:Sp3} {ad:Addr} {fd:FuncData} {ps:List Str} (K:bL X.prog X.w X.K X.mg X.base CX0 k ad fd ps (jK E sp3)):Co X E sp3 k ad fd ps:=⟨CX0,_,E0,K,WS,fun _ _ _ h=>h⟩
theorem Co.ofX {sp3 sp:Sp3} {spx:SpX} {ad:Addr} {fd:FuncData} {ps:List Str} {x:PX} {EX:XK} (K:bL X.prog X.w X.K X.mg X.base (CXo X.prog X.w) k ad fd ps (nQ E sp spx)) (h:∀ xs G Q,sp3 xs G Q→sp xs G Q∨spx xs G x)
    (hx:∀ e s',xeO X EX e s'→X.xe e s') (kx:KX E E.f0 E.z0 x EX):Co X E sp3 k ad fd ps:=by
  refine ⟨_,_,EX,K,aFp hx,fun vs H Q ⟨xs,Z,G,F,Q',r,S,q,kq⟩=>⟨xs,Z,G,F,r,S, ?_⟩⟩
  rcases h _ _ _ q with q | q
  · exact .inl ⟨Q',q,kq⟩
  · exact .inr ⟨x,q,fun c ns ys d vs Z1 G1 H1 s1 S1 l r hd hn q=>kx c ns ys d vs Z1 G1 H1 S1.z0 S1.weakF l r hd hn q⟩
theorem LA {f:Str} {x:Str} {p:Pos} {e:Expr} {es:List Expr} {es':CE} {ad:Addr} {fd:FuncData} {ps:List Str} (K:Co X E (T.S f) k ad fd ps) (hr:bC k X.A) (hg:Gl X x) (hm:X.mg x=some (.ref ad)) (hk:W.keepIn X.K (.ref ad)=true)
    (hb:aR X.K fd ps []) (hd:(x == ("__debug__":Str))=false) (ha:JA X E (e :: es) (wpL T es')) (he:starEach (e :: es) X.env=(false,eval e X.env) :: starEach es X.env) (hpl:(backTo pos (starEach es X.env)).any (·.1)=false) :
    JE X E (.Call (.Name x p) (e :: es) [] pos) (wpE T (.cal f es')):=fun F=>by
  obtain ⟨CX,sp,EX,K,hp,hl⟩:=K
  exact (VX K hr hg hm hk hb .nil hp (ha F) hd he hpl).imp fun σ H Q ⟨σ',Z,G,Q',rs,S,h,kq⟩=>by
    rw [wpE] at h
    exact ⟨σ',Z,G,_,rs,S,h,fun xs vs Z1 G1 H1 l1 s1 S1 r1 q1=>by
      show sp (vs ++ []) H1 Q EX
      rw [List.append_nil]
      exact hl _ _ _ ⟨xs,Z1,G1,F,Q',r1,S1,q1,kq.mono s1⟩⟩
structure aC3 (X:Cx) (E:Ev) (T:Tb):Prop where
  xi:∀ c n r,(c,n,r)∈T.xi→XAt X.K (E.cls c)∧((∃ a,X.mg n=some (.ref a)∧W.kitOne X.K (.ref (E.cls c)) (.ref a)=some r)∨∃ t,X.mg n=none∧bootBuiltins n=some (.type t)∧n≠"__name__"∧W.kitOne X.K (.ref (E.cls c)) (.type t)=some r)
  fx:∀ c f,(c,f)∈T.fx→XAt X.K (E.cls c)∧W.findIn X.K (.ref (E.cls c)) f=some none
theorem aBy {p p2:Pos} {n:Str} {a':CE} (D:aC3 X E T) (ha:JE X E a (wpE T a')) (hg:Gl X "isinstance") (hm:X.mg "isinstance"=none) (hn:Gl X n) (hdn:(n == ("__debug__":Str))=false) (he:starEach [a,.Name n p2] X.env=(false,eval a X.env) :: starEach [.Name n p2] X.env) :
    JE X E (.Call (.Name "isinstance" p) [a,.Name n p2] [] pos) (wpE T (.isx a' n)):=fun F pins s σ H Q I ⟨σ',Z,G,Q',rs,S,h,kq⟩=>by
  rw [wpE] at h
  have hs2:starEach [.Name n p2] X.env=(false,eval (.Name n p2) X.env) :: starEach [] X.env:=rfl
  refine wpAny_Call_Name_kw (iO I hg hm (by first | exact PyProof.Rows.boot_isinstance | (with_unfolding_all rfl)) ?_ (by decide) (by decide))
  refine callWith_builtin1 ?_ he (by rfl)
  rw [he]
  show wpAny _ _ (spliced ((false,eval a X.env) :: backTo pos (starEach [.Name n p2] X.env))) _ _ s
  refine Calls.spliced_cons (thn (ha F pins s σ H (fun v H1=>∃ x Z1 G1,aM Z Z1∧Sim E F H1 Z1 G1∧RP E Z1 x v∧∃ c ns xs r,x= .exc c ns xs∧(c,n,r)∈T.xi∧Q' (.bl r) G1) I ⟨σ',Z,G,_,rs,S,h,fun x v Z1 G1 H1 s1 S1 r1 q=>⟨x,Z1,G1,s1,S1,r1,q⟩⟩) fun u s1 ⟨v,H1,I1,ru,x,Z1,G1,sz,S1,rx,c,ns,xs,r,ex,hi,q⟩=>?_)
  subst ex
  obtain ⟨b,d,vs,e,hz,hl,hd,hn0,rr⟩:=rx
  subst e
  cases ru
  obtain ⟨X1,kk⟩:=D.xi c n r hi
  have fin:∀ (t:Value),W.kitOne X.K (.ref (E.cls c)) t=some r→wpAny (model X.prog X.w) X.A (call (.builtin "isinstance") [.ref b,t]) (EP X pins σ Q) X.xe s1:=fun t hk =>
    aF0 (fs:=ns.zip vs) X1 I1 (S1.z _ _ hz) (fun dd z=>S1.z _ _ (hd dd z)) hk fun tk=>⟨.bl r,H1,I1.tok tk,rfl,kq _ _ Z1 G1 H1 sz S1 cN q⟩
  refine Calls.spliced_cons ?_
  rcases kk with ⟨cc,hm1,hk⟩ | ⟨t,hm1,hb,hnn,hk⟩
  · exact dG I1 hn hm1 (Calls.spliced_nil (fin _ hk)) hdn
  · exact iO I1 hn hm1 hb (Calls.spliced_nil (fin _ hk)) hnn hdn
theorem aAY {f:Str} {a':CE} (D:aC3 X E T) (ha:JE X E a (wpE T a')) (hb:attributeBase a f X.env (eval a X.env)=eval a X.env):JE X E (.Attribute a f pos) (wpE T (.atx a' f)):=fun F pins s σ H Q I ⟨σ',Z,G,Q',rs,S,h,kq⟩=>by
  rw [wpE] at h
  refine CB hb (thn (ha F pins s σ H (fun v H1=>∃ x Z1 G1,aM Z Z1∧Sim E F H1 Z1 G1∧RP E Z1 x v∧∃ c ns xs w,x= .exc c ns xs∧(c,f)∈T.fx∧(ns.zip xs).lookup f=some w∧Q' w G1) I ⟨σ',Z,G,_,rs,S,h,fun x v Z1 G1 H1 s1 S1 r1 q=>⟨x,Z1,G1,s1,S1,r1,q⟩⟩) fun u s1 ⟨v,H1,I1,ru,x,Z1,G1,sz,S1,rx,c,ns,xs,w,ex,hi,hl,q⟩=>?_)
  subst ex
  obtain ⟨b,d,vs,e,hz,hlen,hd,hn0,rr⟩:=rx
  subst e
  cases ru
  obtain ⟨X1,hf⟩:=D.fx c f hi
  obtain ⟨w',e1,e2⟩:=gW (ns:=ns) rr hl
  cases d with
  | none=>rw [hn0 rfl] at hl; cases hl
  | some dd=>exact aF4 (fs:=ns.zip vs) X1 hf I1 (S1.z _ _ hz) (S1.z _ _ (hd dd rfl)) e1 fun u2 s2 I2 r2=>⟨w',H1,I2,r2,kq _ _ Z1 G1 H1 sz S1 e2 q⟩
theorem aBv:JE X E (.Dict [] [] pos) (wpE T .emp):=fun F=>aC0.imp fun σ H Q ⟨σ',Z,G,Q',rs,S,h,kq⟩=>by
  rw [wpE] at h
  exact fun p n=>kq.newZ (x:=.emp) S n ⟨p,rfl,aH⟩ h
theorem aCj {e:Expr} {apos:Pos} {a' b':CE} (ha:JE X E a (wpE T a')) (hb:JE X E e (wpE T b')) (hbase:attributeBase a "append" X.env (eval a X.env)=eval a X.env)
    (hs:starEach [e] X.env=[(false,eval e X.env)]) (hline:(apos.endLine == pos.line)=true):JE X E (.Call (.Attribute a "append" apos) [e] [] pos) (wpE T (.app a' b')):=fun F=>by
  refine (MO PySem.F.plainAttrs_list PySem.F.slot_list_append PySem.F.type_list_append sO (ha F) (bR (hb F) eC hs) hbase (by rw [hs]; rfl) hline hs rfl).imp fun σ H Q ⟨σ',Z,G,Q',rs,S,h,kq⟩=>?_
  rw [wpE] at h
  refine ⟨σ',Z,G,_,rs,S,h,fun x v Z1 G1 H1 s1 S1 r1 ⟨⟨ys,hy⟩,q1⟩=>?_⟩
  obtain ⟨a1,vs,rfl,hH,ta⟩:=cF S1 r1 hy
  refine ⟨.inl ⟨rfl,vs,SqL.of hH⟩,σ',Z1,G1,_,rs.mono s1,S1,q1,fun y u Z2 G2 H2 s2 S2 r2 ⟨p,xs,ex,hG,hz,q⟩=>?_⟩
  subst ex
  have e1:V.ref a1= .ref p:=r1
  cases e1
  obtain ⟨_,o',hp,us,e',t⟩:=S2.g _ _ hG
  subst e'
  refine ⟨a1,us,u,rfl,rfl,hp,by rw [←t.length]; exact hz,kq.go (s1.trans s2) (S2.set (go:=.lst (xs ++ [y])) hG ⟨us ++ [u],rfl,t.append ⟨u,[],rfl,r2,rfl⟩⟩) kF q⟩
theorem aB3 {e:Expr} {apos:Pos} {a' b':CE} (P:Pl X E T k) (ha:JE X E a (wpE T a')) (hb:JE X E e (wpE T b')) (hbase:attributeBase a "index" X.env (eval a X.env)=eval a X.env)
    (hs:starEach [e] X.env=[(false,eval e X.env)]) (hline:(apos.endLine == pos.line)=true):JE X E (.Call (.Attribute a "index" apos) [e] [] pos) (wpE T (.ixo a' b')):=fun F=>by
  refine (IH (RV (F:=F) P.room P.hK) (UA (F:=F) P.room P.hK) (ha F) (hb F) (fun σ H Q Q2 hm ⟨σ',Z,G,Q',rs,S,h,kq⟩=>⟨σ',Z,G,Q',rs,S,h,fun x v Z1 G1 H1 s1 S1 r1 q=>hm _ _ (kq x v Z1 G1 H1 s1 S1 r1 q)⟩) hbase hline hs).imp fun σ H Q ⟨σ',Z,G,Q',rs,S,h,kq⟩=>?_
  rw [wpE] at h
  refine ⟨σ',Z,G,_,rs,S,h,fun x v Z1 G1 H1 s1 S1 r1 ⟨⟨xs,hx⟩,q1⟩=>?_⟩
  rcases hx with hx | hx
  · subst hx
    obtain ⟨a1,vs,rfl,hH,ta⟩:=dW S1 r1
    refine ⟨a1,rfl,.inr ⟨⟨vs,P.hK▸hH⟩,σ',Z1,G1,_,rs.mono s1,S1,q1,fun y u Z2 G2 H2 s2 S2 r2 q=>?_⟩⟩
    exact ⟨_,y,Z2,G2,Q',xs,RP.mono s2 r1,r2,S2,rfl,q,kq.mono (s1.trans s2)⟩
  · obtain ⟨a1,vs,rfl,hH,ta⟩:=cF S1 r1 hx
    refine ⟨a1,rfl,.inl ⟨⟨vs,SqL.of hH⟩,σ',Z1,G1,_,rs.mono s1,S1,q1,fun y u Z2 G2 H2 s2 S2 r2 q=>?_⟩⟩
    have q0:=q
    obtain ⟨xs',i,hor,_⟩:=q
    rcases hor with e | e
    · subst e; cases hx
    · exact ⟨_,y,Z2,G2,Q',xs',RP.mono s2 r1,r2,S2,e,q0,kq.mono (s1.trans s2)⟩
theorem aAL {e:Expr} {apos:Pos} {a' b':CE} (ha:JE X E a (wpE T a')) (hb:JE X E e (wpE T b')) (hbase:attributeBase a "count" X.env (eval a X.env)=eval a X.env)
    (hs:starEach [e] X.env=[(false,eval e X.env)]) (hline:(apos.endLine == pos.line)=true):JE X E (.Call (.Attribute a "count" apos) [e] [] pos) (wpE T (.cnt a' b')):=fun F=>by
  refine (MO PySem.F.plainAttrs_list PySem.F.slot_list_count PySem.F.type_list_count aAj (ha F) (bR (hb F) eC hs) hbase (by rw [hs]; rfl) hline hs rfl).imp fun σ H Q ⟨σ',Z,G,Q',rs,S,h,kq⟩=>?_
  rw [wpE] at h
  refine ⟨σ',Z,G,_,rs,S,h,fun x v Z1 G1 H1 s1 S1 r1 ⟨⟨ys,hy⟩,q1⟩=>?_⟩
  obtain ⟨a1,vs,rfl,hH,ta⟩:=cF S1 r1 hy
  refine ⟨.inl ⟨rfl,vs,SqL.of hH⟩,σ',Z1,G1,_,rs.mono s1,S1,q1,fun y u Z2 G2 H2 s2 S2 r2 ⟨bs,b,hl,hb,q⟩=>?_⟩
  subst hb
  have eu:u= .bl b:=r2
  subst eu
  obtain ⟨a2,vs2,ea,hH2,ta2⟩:=cF S2 (RP.mono s2 r1) hl
  cases ea
  rw [RPs.bools ta2] at hH2
  exact ⟨a1,bs,b,rfl,rfl,hH2,kq.go (s1.trans s2) S2 bB q⟩
theorem RPs.strs {Z:Hp}:∀ {ns:List Str} {vs:List V},RPs E Z (ns.map PV.str) vs→vs=ns.map V.str
  | [],_,h=>h
  | _ :: _,_,⟨v,r,e1,h,t⟩=>by
    have h':v=V.str _:=h
    subst e1 h'; rw [RPs.strs t]; rfl
theorem ZQ {e:Expr} {apos:Pos} {a' b':CE} (ha:JE X E a (wpE T a')) (hb:JE X E e (wpE T b')) (hbase:attributeBase a "join" X.env (eval a X.env)=eval a X.env)
    (hs:starEach [e] X.env=[(false,eval e X.env)]) (hline:(apos.endLine == pos.line)=true):JE X E (.Call (.Attribute a "join" apos) [e] [] pos) (wpE T (.joi a' b')):=fun F=>by
  refine (MO PySem.F.plainAttrs_str PySem.F.slot_str_join PySem.F.type_str_join TN (ha F) (bR (hb F) eC hs) hbase (by rw [hs]; rfl) hline hs rfl).imp fun σ H Q ⟨σ',Z,G,Q',rs,S,h,kq⟩=>?_
  rw [wpE] at h
  refine ⟨σ',Z,G,_,rs,S,h,fun x v Z1 G1 H1 s1 S1 r1 ⟨sep,ex,q1⟩=>?_⟩
  subst ex
  have ev:v= .str sep:=r1
  subst ev
  refine ⟨rfl,σ',Z1,G1,_,rs.mono s1,S1,q1,fun y u Z2 G2 H2 s2 S2 r2 ⟨ys,hy,hz,q⟩=>?_⟩
  obtain ⟨a1,vs,rfl,hH,ta⟩:=cF S2 r2 hy
  have:=ta.strs
  subst this
  exact ⟨sep,a1,ys,rfl,rfl,hH,hz,(kq.mono (s1.trans s2)).here S2 q iS⟩
noncomputable def JJ (X:Cx) (E:Ev) (parts:List Expr) (t:Str→PTE):Prop:= ∀ F,PJ X parts (fun out=>low E F (t out))
theorem ZM:JJ X E [] (wpJ T .nil):=fun F out pins s σ H Q I ⟨σ',Z,G,Q',rs,S,h,kq⟩=>by
  rw [wpJ] at h
  exact aCr out pins s σ H Q I ⟨h.1,kq.here S h.2 iS⟩
theorem aBO {e:Expr} {es:List Expr} {a' b':CE} (ha:JE X E e (wpE T a')) (hb:JJ X E es (wpJ T b')) (he:evalEach (e :: es) X.env=eval e X.env :: evalEach es X.env):JJ X E (e :: es) (wpJ T (.cons a' b')):=fun F out pins s σ H Q I ⟨σ',Z,G,Q',rs,S,h,kq⟩=>by
  rw [wpJ] at h
  refine DB (ha F) (hb F) he out pins s σ H Q I ⟨σ',Z,G,_,rs,S,h,fun x v Z1 G1 H1 s1 S1 r1 ⟨y,ex,_,hz,q⟩=>?_⟩
  subst ex
  exact ⟨y,r1,hz,σ',Z1,G1,Q',rs.mono s1,S1,q,kq.mono s1⟩
theorem aES {e:Expr} {es:List Expr} {p:Pos} {a' b':CE} (ha:JE X E e (wpE T a')) (hb:JJ X E es (wpJ T b')) (he:evalEach (.FormattedValue e (-1) none p :: es) X.env=eval (.FormattedValue e (-1) none p) X.env :: evalEach es X.env):JJ X E (.FormattedValue e (-1) none p :: es) (wpJ T (.cons a' b')):=fun F out pins s σ H Q I ⟨σ',Z,G,Q',rs,S,h,kq⟩=>by
  rw [wpJ] at h
  refine DB (aEf (ha F)) (hb F) he out pins s σ H Q I ⟨σ',Z,G,_,rs,S,h,fun x v Z1 G1 H1 s1 S1 r1 ⟨y,ex,hy,hz,q⟩=>?_⟩
  subst ex
  exact ⟨y,r1,hy,y,rfl,hz,σ',Z1,G1,Q',rs.mono s1,S1,q,kq.mono s1⟩
theorem aCh {v1 v2:Expr} {aY:List Expr} {c':CE} (h:JJ X E (v1 :: v2 :: aY) (wpJ T c')):JE X E (.JoinedStr (v1 :: v2 :: aY) pos) (wpE T (.fst c')):=fun F=>(RQ (h F)).imp fun σ H Q ⟨σ',Z,G,Q',rs,S,h,kq⟩=>by
  rw [wpE] at h
  exact ⟨σ',Z,G,Q',rs,S,h,kq⟩
noncomputable def bwN:Bn→Option Str
  | .str=>some "__str__"
  | _=>none
structure OwM (X:Cx) (E:Ev) (T:Tb) (k:Nat) (b:Bn) (c:String) (m:Str):Prop where
  ex:∃ ad fd k0 nm,k0 + 2≤k∧bwN b=some nm∧NeC X.K (E.cls c)∧wF X.K (E.cls c) nm ad∧bL X.prog X.w X.K X.mg X.base CX0 k0 ad fd ["self"] (jK E (T.S m))∧aR X.K fd ["self"] []
theorem QY {F:Hp} {b:Bn} {ls:List (String×Str)} (P:Pl X E T (k + 1)) (h40:FV b=true→40≤k) (he:∀ y∈ls,OwM X E T k b y.1 y.2):bQ X (JZ b) (MM E F (SS T b ls)):=by
  intro pins s σ H vs us Q I rv ⟨xs,Z,G,Q',r,S,q,kq⟩
  rcases q with ⟨c,m,ns,ys,hm,ex,q⟩ | q
  · subst ex
    obtain ⟨ad,fd,k0,nm,hk,en,N,M,Fn,hb⟩:=(he _ hm).ex
    obtain ⟨v,rfl,rp⟩:=vR r
    have rp':=rp
    obtain ⟨p,dx,ws,ea,hz,_,_⟩:=rp'
    subst ea
    cases b <;> simp only [bwN,Option.some.injEq,reduceCtorEq] at en
    case str =>
      subst en
      exact HA M Fn (P.room.mono (by omega)) hb pins s σ H _ us Q I rv ⟨p,dx,_,rfl,S.z _ _ hz,[.ob c ns ys],Z,G,F,_,⟨_,_,rfl,rp,rfl⟩,S,q,fun x v Z2 G2 H2 s2 S2 r3 ⟨n,e,q3⟩=>by subst e; have e:v= .str n:=r3; exact ⟨n,e,kq _ _ Z2 G2 H2 s2 S2 iS q3⟩⟩
  · exact CI (F:=F) (cs:=T.cs) P.hK P.cls b (fun z=>P.calm (Nat.le_succ_of_le (h40 z))) pins s σ H vs us Q I rv ⟨xs,Z,G,Q',r,S,q,kq⟩
theorem aCv {x:Str} {p:Pos} {e:Expr} {es:List Expr} {bb:Bn} {ls:List (String×Str)} {es':CE} (P:Pl X E T (k + 1)) (h40:FV bb=true→40≤k) (ho:∀ y∈ls,OwM X E T k bb y.1 y.2) (hg:Gl X x) (hm:X.mg x=none) (hv:bootBuiltins x=some (JZ bb)) (hn:x≠"__name__") (hd:(x == ("__debug__":Str))=false)
    (ha:JA X E (e :: es) (wpL T es')) (he:starEach (e :: es) X.env=(false,eval e X.env) :: starEach es X.env) (hpl:(backTo pos (starEach es X.env)).any (·.1)=false):JE X E (.Call (.Name x p) (e :: es) [] pos) (wpE T (.bow bb ls es')):=fun F=>by
  have main:PE X (.Call (.Name x p) (e :: es) [] pos) (tCB (MM E F (SS T bb ls)) (rH E F (e :: es).length (wpL T es'))):=by
    have hc:=QY (F:=F) P h40 ho
    cases bb <;> first
      | exact xD hc hg hm hv (ha F) hn hd he hpl
      | exact sL hc hg hm hv (ha F) hn hd he hpl
  exact main.imp fun σ H Q ⟨σ',Z,G,Q',rs,S,h,kq⟩=>by
    rw [wpE] at h
    exact ⟨σ',Z,G,_,rs,S,h,fun xs vs Z1 G1 H1 l1 s1 S1 r1 q1=>⟨xs,Z1,G1,Q',r1,S1,q1,kq.mono s1⟩⟩
mutual
theorem aCG:∀ {x:PV} {d:PyData},dat x=some d→d.hasDict=false
  | .non,d,h=>by simp only [dat] at h; cases h; rfl
  | .bl _,d,h=>by simp only [dat] at h; cases h; rfl
  | .int _,d,h=>by simp only [dat] at h; cases h; rfl
  | .str _,d,h=>by simp only [dat] at h; cases h; rfl
  | .tup xs,d,h=>by
    simp only [dat] at h
    split at h
    · rename_i ds e; cases h; unfold PyData.hasDict; exact dats_nd e
    · cases h
  | .lst xs,d,h=>by
    simp only [dat] at h
    split at h
    · rename_i ds e; cases h; unfold PyData.hasDict; exact dats_nd e
    · cases h
  | .scr _,d,h=>by simp [dat] at h
  | .ob _ _ _,d,h=>by simp [dat] at h
  | .ref _,d,h=>by simp [dat] at h
  | .ty _,d,h=>by simp [dat] at h
  | .cl _,d,h=>by simp [dat] at h
  | .fn _,d,h=>by simp [dat] at h
  | .emp,d,h=>by simp [dat] at h
  | .dct _ _,d,h=>by simp [dat] at h
theorem dats_nd:∀ {xs:List PV} {ds:List PyData},kA xs=some ds→PyData.hasDictAll ds=false
  | [],ds,h=>by simp only [kA] at h; cases h; rfl
  | x :: xs,ds,h=>by
    simp only [kA] at h
    split at h
    · rename_i d ds' e1 e2
      cases h
      unfold PyData.hasDictAll
      rw [aCG e1,dats_nd e2]; rfl
    · cases h
end
end
section
variable {X:Cx} {E:Ev} {T:Tb} {k:Nat} {F H Z:Hp} {G:Gh}
variable {a b:Expr} {pos:Pos}
end
section
variable {X:Cx} {E:Ev} {T:Tb} {k:Nat} {pos:Pos} {a b c e:Expr}
theorem uP {i:Nat} {x:Str} (hN:X.N.Nodup) (hi:X.N[i]? =some x) (hx:Loc X.env.scope x) (hf:X.fn x=true∨X.env.scope.names.lookup x=some .local):JG X E (.Name x pos) (wpG T (.gn i)):=fun F =>
  (BZ hN hi hx hf).imp fun v σ H Q ⟨x,σ',Z,G,Q',r,rs,S,h,kq⟩=>by
    rw [wpG] at h
    exact kq _ _ _ _ _ (aM.refl Z) S (rs.set r i) h
theorem TZ:JGs X E [] (gU T .nil):=fun F=>PGs.imp RB fun vs σ H Q ⟨xs,σ',Z,G,Q',r,rs,S,h,kq⟩=>by
  rw [gU] at h
  obtain ⟨e,h⟩:=h
  subst e
  exact ⟨r,kq _ _ _ _ _ (aM.refl Z) S rs h⟩
theorem OL {e:Expr} {es:List Expr} {a' b':CE} (h1:JG X E e (wpG T a')) (h2:JGs X E es (gU T b')) (hs:(assignEach (e :: es) X.env).map (·.2)=assign e X.env :: (assignEach es X.env).map (·.2)):JGs X E (e :: es) (gU T (.cons a' b')):=fun F =>
  PGs.imp (KU (h1 F) (h2 F) hs) fun vs σ H Q ⟨xs,σ',Z,G,Q',r,rs,S,h,kq⟩=>by
    rw [gU] at h
    obtain ⟨x,t,e,h⟩:=h
    subst e
    obtain ⟨v,u,e,r1,r2⟩:=r
    exact ⟨v,u,e,x,σ',Z,G,_,r1,rs,S,h,fun σ1 σ2 Z1 G1 H1 s1 S1 rs1 q1=>⟨t,σ1,Z1,G1,Q',r2.mono s1,rs1,S1,q1,kq.mono s1⟩⟩
theorem aB0 {es:List Expr} {x1 n:Nat} {gs:CE} (P:Pl X E T k) (h40:40≤k) (h:JGs X E es (gU T gs)) (hn:(assignEach es X.env).length=n) (hst:(assignEach es X.env).findIdx? (·.1)=none):JG X E (.Tuple es x1 pos) (wpG T (.gt n gs)):=fun F =>
  (aCd (P.calm h40) (h F) hn hst).imp fun v σ H Q ⟨x,σ',Z,G,Q',r,rs,S,h,kq⟩=>by
    rw [wpG] at h
    obtain ⟨xs,e,hl,h⟩:=h
    subst e
    obtain ⟨a,vs,e,ha,t⟩:=dW S r
    exact ⟨a,vs,e,P.hK▸ha,by rw [←t.length]; exact hl,xs,σ',Z,G,Q',t,rs,S,h,kq⟩
noncomputable def rD (E:Ev) (J:It) (Z:Hp) (chk:Gh→Prop) (xs:List PV):Prop:= ∀ F (i:Nat) Z1 G1 H1,aM Z Z1→Sim E F H1 Z1 G1→chk G1→
  (∀ x,xs[i]? =some x→J.go i H1∧∀ v H2,J.yld i H1 v H2→∃ Z2,aM Z1 Z2∧Sim E F H2 Z2 G1∧RP E Z2 x v)∧(i=xs.length→J.stop i H1)
noncomputable def aFK (E:Ev) (F:Hp) (t:PTI):TI:=fun σ H R=>∃ σ' Z G R',RSt E Z σ' σ∧Sim E F H Z G∧t σ' G R'∧∀ J chk xs Z1 G1 H1,aM Z Z1→Sim E F H1 Z1 G1→rD E J Z1 chk xs→R' chk xs G1→R J H1
noncomputable def JI (X:Cx) (E:Ev) (tg iter:Expr) (t:PTI):Prop:= ∀ F,PI X tg iter (aFK E F t)
theorem aAz {tg l:Expr} {tl:TE} (hl:PE X l tl):PI X tg l (fun σ H R=>tl σ H fun x H1=>∃ a,x= .ref a∧(((∃ xs,SqL X.K H1 a xs)∧R (Itl X.K a) H1)∨((∃ xs,SqT X.K H1 a xs)∧R (Itt X.K a) H1))):=by
  intro pins s σ H R I h
  have hw:=hl pins s σ H _ I h
  refine thn hw fun v s1 ⟨x,H1,I1,r1,a,e,q1⟩=>?_
  subst e
  have r1':v= .ref a:=r1
  subst r1'
  rcases q1 with ⟨⟨xs,hq⟩,q⟩ | ⟨⟨xs,hq⟩,q⟩
  · obtain ⟨its,rv,p,hz⟩:=I1.list hq
    refine wpAny_pyIter_list p.isList ?_
    refine ⟨s1.heap.objs.size,[s1.heap.objs.size],_,_,H1,rfl,I1.kept (t':=s1.toks) fun b o e=>Heap.get?_push_of_some _ e,FZ a _,⟨_,Heap.get?_push_size _ rfl,rfl,rfl⟩,fun b hb=>?_,q⟩
    have e:b=s1.heap.objs.size:=by simpa using hb
    subst e
    exact I1.fpOk (Nat.le_refl _) (I1.hok.fresh (Nat.le_refl _))
  · obtain ⟨its,rv,p,hz⟩:=I1.tuple hq
    refine wpAny_pyIter_tuple (show s1.heap.IsTuple a its.toArray from p) ?_
    refine ⟨s1.heap.objs.size,[s1.heap.objs.size],_,_,H1,rfl,I1.kept (t':=s1.toks) fun b o e=>Heap.get?_push_of_some _ e,AK a _,⟨_,Heap.get?_push_size _ rfl,rfl,rfl⟩,fun b hb=>?_,q⟩
    have e:b=s1.heap.objs.size:=by simpa using hb
    subst e
    exact I1.fpOk (Nat.le_refl _) (I1.hok.fresh (Nat.le_refl _))
theorem tP {a:Addr} {Z:Hp} {chk:Gh→Prop} {xs:List PV} (h:∀ F Z1 G1 H1,aM Z Z1→Sim E F H1 Z1 G1→chk G1→∃ vs,SqL E.K H1 a vs∧RPs E Z1 xs vs):rD E (Itl E.K a) Z chk xs:=by
  intro F i Z1 G1 H1 s1 S1 c1
  obtain ⟨vs,hs,t⟩:=h F Z1 G1 H1 s1 S1 c1
  refine ⟨fun x ex=>?_,fun e=>⟨vs,hs,by rw [e,t.length]; exact Nat.le_refl _⟩⟩
  obtain ⟨v,ev,rv⟩:=t.get ex
  refine ⟨⟨vs,v,hs,ev⟩,fun w H2 ⟨e,y⟩=>?_⟩
  subst e
  have:=y vs hs
  rw [ev] at this
  cases this
  exact ⟨Z1,aM.refl _,S1,rv⟩
theorem aCU {a:Addr} {Z:Hp} {chk:Gh→Prop} {xs:List PV} (h:∀ F Z1 G1 H1,aM Z Z1→Sim E F H1 Z1 G1→chk G1→∃ vs,SqT E.K H1 a vs∧RPs E Z1 xs vs):rD E (Itt E.K a) Z chk xs:=by
  intro F i Z1 G1 H1 s1 S1 c1
  obtain ⟨vs,hs,t⟩:=h F Z1 G1 H1 s1 S1 c1
  refine ⟨fun x ex=>?_,fun e=>⟨vs,hs,by rw [e,t.length]; exact Nat.le_refl _⟩⟩
  obtain ⟨v,ev,rv⟩:=t.get ex
  refine ⟨⟨vs,v,hs,ev⟩,fun w H2 ⟨e,y⟩=>?_⟩
  subst e
  have:=y vs hs
  rw [ev] at this
  cases this
  exact ⟨Z1,aM.refl _,S1,rv⟩
theorem aCk {a:Addr} {Z:Hp} {vs:List V} {xs:List PV} (hz:SqT E.K Z a vs) (t:RPs E Z xs vs):rD E (Ite E.K a) Z (fun _=>True) (wD xs):=by
  intro F i Z1 G1 H1 s1 S1 _
  have hs:=dE S1.z (dE s1 hz)
  have hl:(wD xs).length=xs.length:=by unfold wD; rw [List.length_map,List.length_zipIdx]
  refine ⟨fun x ex=>?_,fun e=>⟨vs,hs,by rw [e,hl,t.length]; exact Nat.le_refl _⟩⟩
  unfold wD at ex
  rw [List.getElem?_map,List.getElem?_zipIdx] at ex
  cases ey:xs[i]? with
  | none=>rw [ey] at ex; cases ex
  | some y =>
    rw [ey] at ex
    have ex':x= .tup [.int ((0 + i:Nat):Int),y]:=by
      have:=Option.some.inj ex
      exact this.symm
    obtain ⟨v,ev,rv⟩:=t.get ey
    refine ⟨⟨vs,v,hs,ev⟩,fun w H2 ⟨p,u,e,n,e2,y'⟩=>?_⟩
    subst e e2
    have:=y' vs hs
    rw [ev] at this
    cases this
    refine ⟨upd Z1 p (.tup [.int i,v]),bA (S1.zn n) _,S1.fz n, ?_⟩
    rw [ex',Nat.zero_add]
    exact jB (xs:=[.int (i:Int),y]) (S1.zn n) ⟨_,_,rfl,bB,_,_,rfl,rv.mono s1,rfl⟩
theorem HW {lo:Int} {n:Nat} {Z:Hp}:rD E (Itr lo n) Z (fun _=>True) (pQ lo n):=by
  intro F i Z1 G1 H1 s1 S1 _
  have hl:(pQ lo n).length=n:=by unfold pQ; rw [List.length_map,List.length_range]
  refine ⟨fun x ex=>?_,fun e=>by rw [hl] at e; exact Nat.le_of_eq e.symm⟩
  have hi:i < n:=by
    have:=(List.getElem?_eq_some_iff.mp ex).1
    rw [hl] at this; exact this
  have ex':x= .int (lo + i):=by
    unfold pQ at ex
    rw [List.getElem?_map,List.getElem?_range hi] at ex
    exact (Option.some.inj ex).symm
  refine ⟨hi,fun w H2 ⟨e,y⟩=>?_⟩
  subst e y
  exact ⟨Z1,aM.refl _,S1,by rw [ex']; exact bB⟩
theorem tT {tg:Expr} {a':CE} (P:Pl X E T k) (ha:JE X E a (wpE T a')):JI X E tg a (wpI T (.isq a')):=fun F =>
  (aAz (ha F)).imp fun σ H R ⟨σ',Z,G,R',rs,S,h,kr⟩=>by
    rw [wpI] at h
    refine ⟨σ',Z,G,_,rs,S,h,fun x v Z1 G1 H1 s1 S1 r1 q1=>?_⟩
    unfold NV at q1
    split at q1
    · obtain ⟨a,vs,e,ha,t⟩:=r1
      have ok:rD E (Itt E.K a) Z1 (fun _=>True) _:=aCU fun F2 Z2 G2 H2 s2 S2 _=>⟨vs,dE S2.z (dE s2 ha),t.mono s2⟩
      exact ⟨a,e,.inr ⟨⟨vs,P.hK▸dE S1.z ha⟩,P.hK▸kr _ _ _ _ _ _ s1 S1 ok q1⟩⟩
    · obtain ⟨a,vs,e,ha,t⟩:=r1
      have ok:rD E (Itl E.K a) Z1 (fun _=>True) _:=tP fun F2 Z2 G2 H2 s2 S2 _=>⟨vs,SqL.of (S2.z _ _ (s2 _ _ ha)),t.mono s2⟩
      exact ⟨a,e,.inl ⟨⟨vs,SqL.of (S1.z _ _ ha)⟩,P.hK▸kr _ _ _ _ _ _ s1 S1 ok q1⟩⟩
    · obtain ⟨a,e,ha⟩:=r1
      have ok:rD E (Itl E.K a) Z1 (fun _=>True) _:=tP fun F2 Z2 G2 H2 s2 S2 _=>⟨_,S2.z.seq (s2.seq ha),RPs.ofInts _⟩
      exact ⟨a,e,.inl ⟨⟨_,P.hK▸S1.z.seq ha⟩,P.hK▸kr _ _ _ _ _ _ s1 S1 ok q1⟩⟩
    · rename_i a
      obtain ⟨xs,hG,q1⟩:=q1
      obtain ⟨_,o',hp,vs,e',t⟩:=S1.g _ _ hG
      subst e'
      have ok:rD E (Itl E.K a) Z1 (fun G'=>G' a=some (.lst xs)) xs:=tP fun F2 Z2 G2 H2 s2 S2 c2=>by
        obtain ⟨_,o',hp,vs,e',t⟩:=S2.g _ _ c2
        subst e'
        exact ⟨vs,SqL.of hp,t⟩
      exact ⟨a,r1,.inl ⟨⟨vs,SqL.of hp⟩,P.hK▸kr _ _ _ _ _ _ s1 S1 ok q1⟩⟩
    · exact q1.elim
theorem QL {tg:Expr} {p:Pos} {a':CE} (hg:Gl X "range") (hm:X.mg "range"=none) (ha:JE X E a (wpE T a')) (hs:starEach [a] X.env=[(false,eval a X.env)]):JI X E tg (.Call (.Name "range" p) [a] [] pos) (wpI T (.irg (.cons a' .nil))):=fun F =>
  (HJ hg hm (bR (ha F) eC hs) hs).imp fun σ H R ⟨σ',Z,G,R',rs,S,h,kr⟩=>by
    rw [wpI,wpL,wpL] at h
    refine ⟨σ',Z,G,_,rs,S,h,fun x v Z1 G1 H1 s1 S1 r1 q1=>?_⟩
    rcases q1 with ⟨j,e,h1,h2,q⟩ | ⟨i,j,e,_⟩
    · cases e
      exact ⟨j,by rw [show v= .int j from r1],h1,h2,kr _ _ _ _ _ _ s1 S1 HW q⟩
    · cases e
theorem SI {tg:Expr} {p:Pos} {a' b':CE} (hg:Gl X "range") (hm:X.mg "range"=none) (ha:JE X E a (wpE T a')) (hb:JE X E b (wpE T b')) (hs:starEach [a,b] X.env=[(false,eval a X.env),(false,eval b X.env)]) (hs2:starEach [b] X.env=[(false,eval b X.env)]) :
    JI X E tg (.Call (.Name "range" p) [a,b] [] pos) (wpI T (.irg (.cons a' (.cons b' .nil)))):=fun F =>
  (GC hg hm (bR (ha F) (bR (hb F) eC hs2) (by rw [hs,hs2])) hs hs2).imp fun σ H R ⟨σ',Z,G,R',rs,S,h,kr⟩=>by
    rw [wpI,wpL,wpL,wpL] at h
    refine ⟨σ',Z,G,_,rs,S,h,fun x v Z1 G1 H1 s1 S1 r1 q1=>⟨σ',Z1,G1,_,rs.mono s1,S1,q1,fun y u Z2 G2 H2 s2 S2 r2 q2=>?_⟩⟩
    rcases q2 with ⟨j,e,h1,h2,q⟩ | ⟨i,j,e,hb,q⟩
    · cases e
    · cases e
      exact ⟨i,j,by rw [show v= .int i from r1,show u= .int j from r2],hb,kr _ _ _ _ _ _ (s1.trans s2) S2 HW q⟩
theorem ZS {es:List Expr} {x1:Nat} {tp p:Pos} {a':CE} (P:Pl X E T k) (hg:Gl X "enumerate") (hm:X.mg "enumerate"=none) (ha:JE X E a (wpE T a')) (hs:starEach [a] X.env=[(false,eval a X.env)]):JI X E (.Tuple es x1 tp) (.Call (.Name "enumerate" p) [a] [] pos) (wpI T (.ien a')):=fun F =>
  (UV hg hm (bR (ha F) eC hs) hs).imp fun σ H R ⟨σ',Z,G,R',rs,S,h,kr⟩=>by
    rw [wpI] at h
    refine ⟨σ',Z,G,_,rs,S,h,fun x v Z1 G1 H1 s1 S1 r1 ⟨xs,e,q1⟩=>?_⟩
    subst e
    obtain ⟨a,vs,e,ha,t⟩:=r1
    exact ⟨a,by rw [e],⟨vs,P.hK▸dE S1.z ha⟩,P.hK▸kr _ _ _ _ _ _ s1 S1 (aCk ha t) q1⟩
theorem aCc {tg iter:Expr} {body:List Stmt} {g' i':CE} {b':CS} (P:Pl X E T k) (h40:40≤k) (hp:PassesOwn (model X.prog X.w) X.A X.env X.xe) (hi:JI X E tg iter (wpI T i')) (hg:JG X E tg (wpG T g')) (hb:JSs X E body (wpS T b'))
    (hs:∀ x,foldedSetIterable iter X.env x=pure x):JS X E (.For tg iter body [] pos) (wpS T (.fr g' i' b')):=fun F =>
  (aCR hp (P.calm h40) (hi F) (hg F) (hb F) hs).imp fun D σ H ⟨σ',Z,G,D',rs,S,h,kd⟩=>by
    rw [wpS] at h
    refine ⟨σ',Z,G,_,rs,S,h,fun J chk xs Z1 G1 H1 s1 S1 ok q=>?_⟩
    refine ⟨fun i m σ H=>m=xs.length - i∧i≤xs.length∧∃ σ' Z2 G2,aM Z1 Z2∧Sim E F H Z2 G2∧RSt E Z2 σ' σ∧lW chk (wpG T g') (wpS T b') D' (xs.drop i) σ' G2,⟨xs.length,by simp,Nat.zero_le _,σ',Z1,G1,aM.refl _,S1,rs.mono s1,q⟩, ?_⟩
    rintro i m σ2 H2 ⟨rfl,hi,σ3,Z2,G2,s2,S2,rs2,q2⟩
    have sz:=s1.trans s2
    by_cases hlt:i < xs.length
    · have hd:xs.drop i=xs[i] :: xs.drop (i + 1):=List.drop_eq_getElem_cons hlt
      rw [hd] at q2
      unfold lW at q2
      obtain ⟨c2,q2⟩:=q2
      obtain ⟨go,yl⟩:=(ok F i Z2 G2 H2 s2 S2 c2).1 xs[i] (by simp [hlt])
      refine .inr ⟨go,fun σ4 H4=>∃ σ5 Z4 G4,aM Z2 Z4∧Sim E F H4 Z4 G4∧RSt E Z4 σ5 σ4∧lW chk (wpG T g') (wpS T b') D' (xs.drop (i + 1)) σ5 G4,fun σ4 H4 ⟨σ5,Z4,G4,s4,S4,rs4,q4⟩=>⟨xs.length - (i + 1),by omega,rfl,hlt,σ5,Z4,G4,s2.trans s4,S4,rs4,q4⟩,fun v H3 y=>?_⟩
      obtain ⟨Z3,s3,S3,r3⟩:=yl v H3 y
      refine ⟨xs[i],σ3,Z3,G2,_,r3,rs2.mono s3,S3,q2,fun σ6 σ7 Z5 G5 H5 s5 S5 rs5 q5=>⟨σ6,Z5,G5,_,rs5,S5,q5, ?_⟩⟩
      have s35:=s3.trans s5
      exact ⟨fun σ8 σ9 Z6 G6 H6 s6 S6 rs6 q6=>⟨σ8,Z6,G6,s35.trans s6,S6,rs6,q6⟩,kd.rt.mono (sz.trans s35),kd.nx.mono (sz.trans s35),fun σ8 σ9 Z6 G6 H6 s6 S6 rs6 q6=>⟨σ8,Z6,G6,s35.trans s6,S6,rs6,q6⟩⟩
    · have e:i=xs.length:=by omega
      rw [e,List.drop_length] at q2
      unfold lW at q2
      obtain ⟨c2,q2⟩:=q2
      exact .inl ⟨(ok F i Z2 G2 H2 s2 S2 c2).2 e,kd.nx _ _ _ _ _ sz S2 rs2 q2⟩
theorem aDy {body:List Stmt} {c':CE} {b':CS} (hp:PassesOwn (model X.prog X.w) X.A X.env X.xe) (hc:JT X E c (wpT T c')) (hb:JSs X E body (wpS T b')):JS X E (.While c body [] pos) (wpS T (.wh c' b')):=fun F =>
  (KK hp (hc F) (hb F)).imp fun D σ H ⟨σ',Z,G,D',rs,S,h,kd⟩=>by
    rw [wpS] at h
    obtain ⟨W,⟨m0,w0⟩,turn⟩:=h
    refine ⟨fun m σ H=>∃ σ' Z2 G2,aM Z Z2∧Sim E F H Z2 G2∧RSt E Z2 σ' σ∧W m σ' G2,⟨m0,σ',Z,G,aM.refl _,S,rs,w0⟩, ?_⟩
    rintro m σ2 H2 ⟨σ3,Z2,G2,s2,S2,rs2,w2⟩
    refine ⟨σ3,Z2,G2,_,rs2,S2,turn m σ3 G2 w2,fun d Z3 G3 H3 s3 S3 q3=>?_⟩
    have s23:=s2.trans s3
    dsimp only
    cases d with
    | true =>
      rw [if_pos rfl] at q3 ⊢
      refine ⟨fun σ4 H4=>∃ σ5 Z4 G4 m',m' < m∧aM Z Z4∧Sim E F H4 Z4 G4∧RSt E Z4 σ5 σ4∧W m' σ5 G4,fun σ4 H4 ⟨σ5,Z4,G4,m',lt,s4,S4,rs4,w4⟩=>⟨m',lt,σ5,Z4,G4,s4,S4,rs4,w4⟩,σ3,Z3,G3,_,rs2.mono s3,S3,q3, ?_⟩
      exact ⟨fun σ8 σ9 Z6 G6 H6 s6 S6 rs6 ⟨m',lt,w6⟩=>⟨σ8,Z6,G6,m',lt,s23.trans s6,S6,rs6,w6⟩,kd.rt.mono s23,kd.nx.mono s23,fun σ8 σ9 Z6 G6 H6 s6 S6 rs6 ⟨m',lt,w6⟩=>⟨σ8,Z6,G6,m',lt,s23.trans s6,S6,rs6,w6⟩⟩
    | false =>
      rw [if_neg Bool.false_ne_true] at q3 ⊢
      exact kd.nx _ _ _ _ _ s23 S3 (rs2.mono s3) q3
theorem aAX {st:Stmt} {aY:List Stmt} {a' b':CS} (h1:JS X E st (wpS T a')) (h2:JSs X E aY (wpS T b')):JSs X E (st :: aY) (wpS T (.seq a' b')):=fun F =>
  PSs.imp (vN (h1 F) (h2 F)) fun D σ H ⟨σ',Z,G,D',rs,S,h,kd⟩=>by
    rw [wpS] at h
    exact ⟨σ',Z,G,_,rs,S,h,⟨fun σ1 σ2 Z1 G1 H1 s1 S1 rs1 q1=>⟨σ1,Z1,G1,D',rs1,S1,q1,kd.mono s1⟩,kd.rt,kd.bk,kd.ct⟩⟩
theorem ZN {st:Stmt} {a':CS} (h1:JS X E st (wpS T a')):JSs X E [st] (wpS T a'):=fun F=>BY (h1 F)
theorem aCP:JSs X E [] (wpS T .nil):=fun F=>PSs.imp VT fun D σ H ⟨σ',Z,G,D',rs,S,h,kd⟩=>by
  rw [wpS] at h
  exact kd.nx _ _ _ _ _ (aM.refl Z) S rs h
theorem VV:JS X E (.Pass pos) (wpS T .nil):=fun F=>QU.imp fun D σ H ⟨σ',Z,G,D',rs,S,h,kd⟩=>by
  rw [wpS] at h
  exact kd.nx _ _ _ _ _ (aM.refl Z) S rs h
theorem aB6 {x:Str} {j:Nat} {pos':Pos}:JS X E (.Expr (.Constant (.str x) j pos) pos') (wpS T .nil):=fun F=>ZP.imp fun D σ H ⟨σ',Z,G,D',rs,S,h,kd⟩=>by
  rw [wpS] at h
  exact kd.nx _ _ _ _ _ (aM.refl Z) S rs h
theorem aDI {e':CE} (he:JE X E e (wpE T e')) (hs:swapsWith e none pos.line X.env=pure false):JS X E (.Expr e pos) (wpS T (.ex e')):=fun F =>
  (CC (he F) hs).imp fun D σ H ⟨σ',Z,G,D',rs,S,h,kd⟩=>by
    rw [wpS] at h
    exact ⟨σ',Z,G,_,rs,S,h,fun x v Z1 G1 H1 s1 S1 r1 q1=>kd.nx _ _ _ _ _ s1 S1 (rs.mono s1) q1⟩
theorem aBr {e':CE} (he:JE X E e (wpE T e')):JS X E (.Return (some e) pos) (wpS T (.ret e')):=fun F =>
  (aBV (he F)).imp fun D σ H ⟨σ',Z,G,D',rs,S,h,kd⟩=>by
    rw [wpS] at h
    exact ⟨σ',Z,G,_,rs,S,h,kd.rt⟩
theorem SA:JS X E (.Return none pos) (wpS T .retN):=fun F=>UI.imp fun D σ H ⟨σ',Z,G,D',rs,S,h,kd⟩=>by
  rw [wpS] at h
  exact kd.rt _ _ _ _ _ (aM.refl Z) S kF h
theorem ZY {st:Stmt}:JS X E st (wpS T .nev):=fun F=>JV.imp fun D σ H ⟨σ',Z,G,D',rs,S,h,kd⟩=>by
  rw [wpS] at h
  exact h
theorem UM {sts:List Stmt}:JSs X E sts (wpS T .nev):=fun F=>PSs.imp FX fun D σ H ⟨σ',Z,G,D',rs,S,h,kd⟩=>by
  rw [wpS] at h
  exact h
theorem aEz {x y:List Stmt} {c':CE} {a' b':CS} (hc:JT X E c (wpT T c')) (ha:JSs X E x (wpS T a')) (hb:JSs X E y (wpS T b')):JS X E (.If c x y pos) (wpS T (.iff c' a' b')):=fun F =>
  (aDr (hc F) (ha F) (hb F)).imp fun D σ H ⟨σ',Z,G,D',rs,S,h,kd⟩=>by
    rw [wpS] at h
    refine ⟨σ',Z,G,_,rs,S,h,fun d Z1 G1 H1 s1 S1 q=>?_⟩
    cases d with
    | true=>rw [if_pos rfl] at q ⊢; exact ⟨σ',Z1,G1,D',rs.mono s1,S1,q,kd.mono s1⟩
    | false=>rw [if_neg Bool.false_ne_true] at q ⊢; exact ⟨σ',Z1,G1,D',rs.mono s1,S1,q,kd.mono s1⟩
theorem UE {F:Hp} {g' e':CE} {D:nL} {σ:L2.St} {H:Hp} (h:aAy E F (wpS T (.asg g' e')) D σ H):aAI (low E F (wpE T e')) (aCN E F (wpG T g')) D σ H:=by
  obtain ⟨σ',Z,G,D',rs,S,h,kd⟩:=h
  rw [wpS] at h
  exact ⟨σ',Z,G,_,rs,S,h,fun x v Z1 G1 H1 s1 S1 r1 q1=>⟨x,σ',Z1,G1,_,r1,rs.mono s1,S1,q1,kd.nx.mono s1⟩⟩
theorem BE {tg:Expr} {g' e':CE} (he:JE X E e (wpE T e')) (hg:JG X E tg (wpG T g')) (hs:swapsWithSole [tg] e pos.line X.env=pure false) (hw:swappedStores [tg] e X.env=pure none) (h1:(assignEach [tg] X.env).map (·.2)=[assign tg X.env]) :
    JS X E (.Assign [tg] e pos) (wpS T (.asg g' e')):=fun F=>(LN (he F) (hg F) hs hw h1).imp fun D σ H h=>UE h
theorem ZX {i j:Nat} {x y:Str} {a' b':CE} {px py pt pt2:Pos} {kt k2:Nat} (P:Pl X E T k) (h40:40≤k) (hN:X.N.Nodup) (hi:X.N[i]? =some x) (hj:X.N[j]? =some y) (hij:i≠j) (hx:X.env.scope.names.lookup x=some .local) (hy:X.env.scope.names.lookup y=some .local)
    (ha:JE X E a (wpE T a')) (hb:JE X E b (wpE T b')) (s1:starEach [a,b] X.env=(false,eval a X.env) :: starEach [b] X.env) (s2:starEach [b] X.env=(false,eval b X.env) :: starEach [] X.env)
    (hw:swappedStores [.Tuple [.Name x px,.Name y py] kt pt] (.Tuple [a,b] k2 pt2) X.env=pure (some [x,y])) (hs:swapsWithSole [.Tuple [.Name x px,.Name y py] kt pt] (.Tuple [a,b] k2 pt2) pos.line X.env=pure false) :
    JS X E (.Assign [.Tuple [.Name x px,.Name y py] kt pt] (.Tuple [a,b] k2 pt2) pos) (wpS T (.par i j a' b')):=fun F =>
  (aAH (P.calm h40) hN hi hj hij hx hy (bR (ha F) (bR (hb F) eC s2) s1) hw hs).imp fun D σ H ⟨σ',Z,G,D',rs,S,h,kd⟩=>by
    rw [wpS] at h
    refine ⟨σ',Z,G,_,rs,S,h,fun x v Z1 G1 H1 s1 S1 r1 q1=>⟨σ',Z1,G1,_,rs.mono s1,S1,q1,fun y u Z2 G2 H2 s2 S2 r2 q2=>?_⟩⟩
    exact ⟨v,u,rfl,kd.nx _ _ _ _ _ (s1.trans s2) S2 ((((rs.mono s1).mono s2).set (r1.mono s2) i).set r2 j) q2⟩
theorem aBg {o i:Expr} {pos':Pos} {o' i' e':CE} (he:JE X E e (wpE T e')) (ho:JE X E o (wpE T o')) (hi:JE X E i (wpE T i'))
    (ha:∀ v,assign (.Subscript o i pos') X.env v=(do
      let ov ←holding [v] (eval o X.env)
      let iv ←holding [v,ov] (eval i X.env)
      standAt pos'
      holding [v,ov,iv] (setItem ov iv v)
      release [v,ov,iv] []))
    (hs:swapsWithSole [.Subscript o i pos'] e pos.line X.env=pure false) (hw:swappedStores [.Subscript o i pos'] e X.env=pure none):JS X E (.Assign [.Subscript o i pos'] e pos) (wpS T (.sub o' i' e')):=fun F =>
  (LN (he F) (aAn (ho F) (hi F) (RD (E:=E) (F:=F)) ha) hs hw rfl).imp fun D σ H ⟨σ',Z,G,D',rs,S,h,kd⟩=>by
    rw [wpS] at h
    refine ⟨σ',Z,G,_,rs,S,h,fun v v' Z1 G1 H1 s1 S1 r1 q1=>⟨σ',Z1,G1,_,rs.mono s1,S1,q1,fun x x' Z2 G2 H2 s2 S2 r2 q2=>⟨σ',Z2,G2,_,(rs.mono s1).mono s2,S2,q2,fun y y' Z3 G3 H3 s3 S3 r3 q3=>?_⟩⟩⟩
    have s13:=(s1.trans s2).trans s3
    exact ⟨x,y,v,Z3,G3,_,r2.mono s3,r3,(r1.mono s2).mono s3,S3,q3,fun G4 H4 S4 q4=>kd.nx _ _ _ _ _ s13 S4 (rs.mono s13) q4⟩
theorem vH (f:Str) (v:V):∀ (ns:List Str) (vs:List V),ns.length=vs.length→hV f v (ns.zip vs)=(HN f ns).zip (rE f v ns vs)∧(HN f ns).length=(rE f v ns vs).length
  | [],[],_=>⟨rfl,rfl⟩
  | [],_ :: _,h=>by cases h
  | _ :: _,[],h=>by cases h
  | n :: ns,u :: us,h=>by
    obtain ⟨a,b⟩:=vH f v ns us (by simpa using h)
    rw [List.zip_cons_cons]
    unfold hV HN rE
    split
    · exact ⟨by rw [List.zip_cons_cons],by simpa using h⟩
    · exact ⟨by rw [List.zip_cons_cons,a],by simpa using b⟩
theorem DL {Z:Hp} {f:Str} {y:PV} {u:V} (r:RP E Z y u):∀ {ns:List Str} {xs:List PV} {vs:List V},RPs E Z xs vs→RPs E Z (rE f y ns xs) (rE f u ns vs)
  | [],_,_,_=>⟨u,[],rfl,r,rfl⟩
  | _ :: _,[],_,h=>by cases h; exact rfl
  | n :: ns,x :: xs,_,⟨v,t,e,r1,r2⟩=>by
    subst e
    unfold rE
    split
    · exact ⟨u,t,rfl,r,r2⟩
    · exact ⟨v,_,rfl,r1,DL r r2⟩
theorem aCy {o:Expr} {f:Str} {pos':Pos} {o' e':CE} (P:Pl X E T k) (ho:JE X E o (wpE T o')) (he:JE X E e (wpE T e')) (hs:swapsWith e (some (.Attribute o f pos')) pos.line X.env=pure false):JS X E (.Assign [.Attribute o f pos'] e pos) (wpS T (.fld o' f e')):=fun F =>
  (aCz (ho F) (he F) hs).imp fun D σ H ⟨σ',Z,G,D',rs,S,h,kd⟩=>by
    rw [wpS] at h
    refine ⟨σ',Z,G,_,rs,S,h,fun v v' Z1 G1 H1 s1 S1 r1 q1=>⟨σ',Z1,G1,_,rs.mono s1,S1,q1,fun x x' Z2 G2 H2 s2 S2 r2 ⟨p,c,ns,xs,e,hG,hf,hl,q2⟩=>?_⟩⟩
    subst e
    have e:x'= .ref p:=r2
    subst e
    obtain ⟨_,o',hp,dx,vs,e',l,t⟩:=S2.g _ _ hG
    subst e'
    obtain ⟨h1,h2⟩:=P.fld c f hf
    obtain ⟨e1,e2⟩:=vH f v' ns vs l
    refine ⟨p,_,dx,_,rfl,hp,h1,h2,by rw [List.length_zip,←l,Nat.min_self]; exact hl,kd.nx _ _ _ _ _ (s1.trans s2) (S2.set (go:=.ins c (HN f ns) (rE f v ns xs)) hG ⟨dx,rE f v' ns vs,by rw [e1],e2,DL (r1.mono s2) t⟩) ((rs.mono s1).mono s2) q2⟩
end
section
variable {X:Cx} {E:Ev} {T:Tb} {k:Nat} {pos:Pos} {a b c e:Expr}
theorem aAZ {Z:Hp} {js:List (Option Nat)} {σ':PSt} {σ:L2.St} (rs:RSt E Z σ' σ):RSt E Z (HH js σ') (OV js σ):=by
  induction js with
  | nil=>exact .nil
  | cons o r ih =>
    refine .cons ?_ ih
    cases o with
    | none=>exact trivial
    | some j =>
      show RSl E Z ((σ'[j]?).getD none) ((σ[j]?).getD none)
      cases e:σ'[j]? with
      | none=>exact trivial
      | some u =>
        cases u with
        | none=>exact trivial
        | some x =>
          obtain ⟨v,e',r⟩:=rs.get e
          rw [e']
          exact ⟨v,rfl,r⟩
noncomputable def aBq (E:Ev) (t:PTE):TE:=fun σ H Q=>∃ F,low E F t σ H Q
noncomputable def UK (E:Ev) (t:PTT):TT:=fun σ H Q=>∃ F,uV E F t σ H Q
noncomputable def aBI (E:Ev) (t:PTG):TG:=fun v σ H Q=>∃ F,aCN E F t v σ H Q
theorem JE.any {t:PTE} (h:JE X E e t):PE X e (aBq E t):=fun pins s σ H Q I ⟨F,q⟩=>h F pins s σ H Q I q
theorem JT.any {t:PTT} (h:JT X E e t):PT X e (UK E t):=fun pins s σ H Q I ⟨F,q⟩=>h F pins s σ H Q I q
theorem JG.any {t:PTG} (h:JG X E e t):PG X e (aBI E t):=fun pins s σ H v u Q I r ⟨F,q⟩=>h F pins s σ H v u Q I r q
theorem IA {F:Hp} {J:It} {Z1 H1:Hp} {G1:Gh} {chk:Gh→Prop} {xs:List PV} {g':PTG} {ts':PTT} {te':PTE} {σ':PSt} {σ:L2.St} {m:Bool} {Q':PK1} {Q:VK} {D:Addr}
    (S1:Sim E F H1 Z1 G1) (ok:rD E J Z1 chk xs) (rs:RSt E Z1 σ' σ) (hz:xs.length≤sizeLine) (n:H1 D=none) (q:hJ chk g' ts' te' xs [] σ' G1 fun ys G2=>pK m G2 ys Q') (kq:Kq E F Z1 Q' Q) :
    IR J D (aBI E g') (UK E ts') (aBq E te') Q σ (upd H1 D (.lst [])):=by
  have fD:F D=none:=S1.fn n
  refine ⟨fun i m' σ H=>m'=xs.length - i∧i≤xs.length∧∃ σ' Z2 G2 acc vs,aM Z1 Z2∧Sim E (upd F D (.lst vs)) H Z2 G2∧RPs E Z2 acc vs∧RSt E Z2 σ' σ∧acc.length≤i∧hJ chk g' ts' te' (xs.drop i) acc σ' G2 fun ys G2=>pK m G2 ys Q',
    ⟨xs.length,by simp,Nat.zero_le _,σ',Z1,G1,[],[],aM.refl _,S1.mine n,rfl,rs,Nat.le_refl _,q⟩, ?_⟩
  rintro i m' σ2 H2 ⟨rfl,hi,σ3,Z2,G2,acc,vs,s2,S2,ra,rs2,la,q2⟩
  by_cases hlt:i < xs.length
  · have hd:xs.drop i=xs[i] :: xs.drop (i + 1):=List.drop_eq_getElem_cons hlt
    rw [hd] at q2
    unfold hJ at q2
    obtain ⟨c2,q2⟩:=q2
    obtain ⟨go,yl⟩:=(ok _ i Z2 G2 H2 s2 S2 c2).1 xs[i] (by simp [hlt])
    refine .inr ⟨go,fun σ4 H4=>∃ σ5 Z4 G4 acc4 vs4,aM Z1 Z4∧Sim E (upd F D (.lst vs4)) H4 Z4 G4∧RPs E Z4 acc4 vs4∧RSt E Z4 σ5 σ4∧acc4.length≤i + 1∧hJ chk g' ts' te' (xs.drop (i + 1)) acc4 σ5 G4 fun ys G2=>pK m G2 ys Q',
      fun σ4 H4 ⟨σ5,Z4,G4,acc4,vs4,s4,S4,ra4,rs4,l4,q4⟩=>⟨xs.length - (i + 1),by omega,rfl,hlt,σ5,Z4,G4,acc4,vs4,s4,S4,ra4,rs4,l4,q4⟩,fun v H3 y=>?_⟩
    obtain ⟨Z3,s3,S3,r3⟩:=yl v H3 y
    refine ⟨_,xs[i],σ3,Z3,G2,_,r3,rs2.mono s3,S3,q2,fun σ6 σ7 Z5 G5 H5 s5 S5 rs5 q5=>⟨_,σ6,Z5,G5,_,rs5,S5,q5,fun ok' Z6 G6 H6 s6 S6 q6=>?_⟩⟩
    have s26:=(s3.trans s5).trans s6
    dsimp only
    cases ok' with
    | true =>
      rw [if_pos rfl] at q6 ⊢
      refine ⟨_,σ6,Z6,G6,_,rs5.mono s6,S6,q6,fun y' u Z7 G7 H7 s7 S7 r7 q7=>?_⟩
      refine ⟨vs,(S7.f D _ aH).1, ?_, ?_⟩
      · have:=ra.length; omega
      · have s27:=s26.trans s7
        exact ⟨σ6,Z7,G7,acc ++ [y'],vs ++ [u],s2.trans s27,S7.turn (S1.f0n n),(ra.mono s27).append ⟨u,[],rfl,r7,rfl⟩,(rs5.mono s6).mono s7,by rw [List.length_append]; exact Nat.succ_le_succ la,q7⟩
    | false =>
      rw [if_neg Bool.false_ne_true] at q6 ⊢
      exact ⟨σ6,Z6,G6,acc,vs,s2.trans s26,S6,ra.mono s26,rs5.mono s6,Nat.le_succ_of_le la,q6⟩
  · have e:i=xs.length:=by omega
    rw [e,List.drop_length] at q2
    unfold hJ at q2
    obtain ⟨c2,q2⟩:=q2
    refine .inl ⟨(ok _ i Z2 G2 H2 s2 S2 c2).2 e, ?_⟩
    unfold pK at q2
    cases m with
    | true =>
      rw [if_pos rfl] at q2
      exact kq (.ref D) _ Z2 _ _ s2 (S2.mineG fD (S1.f0n n) (go:=.lst acc) ⟨vs,rfl,ra⟩) rfl (q2 D (S2.f D _ aH).2.2)
    | false =>
      rw [if_neg Bool.false_ne_true] at q2
      have zn:=(S2.f D _ aH).2.1
      exact kq (.lst acc) _ (upd Z2 D (.lst vs)) _ _ (s2.trans (bA zn _)) (S2.mineZ fD (S1.f0n n)) (eM zn ra) q2
theorem wP {F:Hp} {m:Bool} {tg' it' ts' el':CE} {js:List (Option Nat)} {σ:L2.St} {H:Hp} {Q:VK} (h:low E F (wpE T (.cmpr m tg' it' ts' el' js)) σ H Q):JH (aFK E F (wpI T it')) (aBI E (wpG T tg')) (UK E (wpT T ts')) (aBq E (wpE T el')) js σ H Q:=by
  obtain ⟨σ',Z,G,Q',rs,S,h,kq⟩:=h
  rw [wpE] at h
  refine ⟨σ',Z,G,_,rs,S,h,fun J chk xs Z1 G1 H1 s1 S1 ok q D n=>?_⟩
  exact IA S1 ok (aAZ (rs.mono s1)) q.1 n q.2 (kq.mono s1)
noncomputable def EU (X:Cx) (E:Ev) (ifs:List Expr) (t:PTT):Prop:=PTs X ifs (UK E t)
theorem aF9:EU X E [] (wpT T .nil):=fun pins s σ H Q I ⟨F,σ',Z,G,Q',rs,S,h,kt⟩=>by
  rw [wpT] at h
  exact US pins s σ H Q I (kt _ _ _ _ (aM.refl Z) S h)
theorem aF6 {t:PTT} (h:JT X E c t):EU X E [c] t:=TD h.any
section
variable {N:List Str} {scope:Scope} {cl:List (Str×Addr)} {js:List (Option Nat)} {tg iter elt:Expr} {ifs:List Expr} {m:Bool} {tg' it' ts' el':CE}
theorem RK (S:gP X N scope cl js) (P:Pl X E T k) (h40:40≤k) (hi:JI X E tg iter (wpI T it')) (hg:∀ C s₀ H₀ ex,JG (cxC X N scope cl C s₀ H₀ ex) E tg (wpG T tg')) (ht:∀ C s₀ H₀ ex,EU (cxC X N scope cl C s₀ H₀ ex) E ifs (wpT T ts'))
    (he:∀ C s₀ H₀ ex,JE (cxC X N scope cl C s₀ H₀ ex) E elt (wpE T el')) (hs:∀ x,foldedSetIterable iter X.env x=pure x):JE X E (.ListComp elt [⟨tg,iter,ifs,0⟩] scope pos) (wpE T (.cmpr m tg' it' ts' el' js)):=fun F =>
  (UD S (P.calm h40) (hi F) (fun C s₀ H₀ ex=>(hg C s₀ H₀ ex).any) ht (fun C s₀ H₀ ex=>(he C s₀ H₀ ex).any) hs).imp fun σ H Q h=>wP h
theorem RT {i:Nat} {y:Str} {py spos:Pos} (S:gP X N scope cl js) (P:Pl X E T k) (h40:40≤k) (hN:X.N.Nodup) (hi':X.N[i]? =some y) (hy:X.env.scope.names.lookup y=some .local) (hi:JI X E tg iter (wpI T it')) (hg:∀ C s₀ H₀ ex,JG (cxC X N scope cl C s₀ H₀ ex) E tg (wpG T tg'))
    (ht:∀ C s₀ H₀ ex,EU (cxC X N scope cl C s₀ H₀ ex) E ifs (wpT T ts')) (he:∀ C s₀ H₀ ex,JE (cxC X N scope cl C s₀ H₀ ex) E elt (wpE T el'))
    (hsw:swapsWith (.ListComp elt [⟨tg,iter,ifs,0⟩] scope pos) (some (.Name y py)) spos.line X.env=pure true) (hs:∀ x,foldedSetIterable iter X.env x=pure x) :
    JS X E (.Assign [.Name y py] (.ListComp elt [⟨tg,iter,ifs,0⟩] scope pos) spos) (wpS T (.asg (.gn i) (.cmpr m tg' it' ts' el' js))):=fun F =>
  (VM S (P.calm h40) hN hi' hy (hi F) (fun C s₀ H₀ ex=>(hg C s₀ H₀ ex).any) ht (fun C s₀ H₀ ex=>(he C s₀ H₀ ex).any) hsw hs).imp fun D σ H ⟨σ',Z,G,D',rs,S,h,kd⟩=>by
    rw [wpS] at h
    refine wP (m:=m) ⟨σ',Z,G,_,rs,S,h,fun x v Z1 G1 H1 s1 S1 r1 q1=>?_⟩
    unfold wpG at q1
    exact kd.nx _ _ _ _ _ s1 S1 ((rs.mono s1).set r1 i) q1
end
noncomputable def uN (T:Tb) (c:String) (x xi:Str):Prop:= ∀ xs G Q,T.S x xs G Q→∀ p,G p=none→T.S xi (.ref p :: xs) (gup G p (.ins c [] [])) fun r G1=>r= .non∧∃ ns ys,G1 p=some (.ins c ns ys)∧Q (.ob c ns ys) (GZ G1 p)
theorem zF {F:Hp} {c:String} {x xi:Str} {Z1 H1:Hp} {G1:Gh} {xs:List PV} {vs:List V} {Q':PK1} {Q:VK} {p dx:Addr} {us:List V} (hu:us= .ref p :: vs) (M:uN T c x xi) (S1:Sim E F H1 Z1 G1) (r:RPs E Z1 xs vs) (q:T.S x xs G1 Q') (kq:Kq E F Z1 Q' Q) (n:H1 p=none) (nd:H1 dx=none) (ne:dx≠p) :
    jK E (T.S xi) us (upd (upd H1 dx (.own p)) p (.ins (E.cls c) dx [])) (fun v H2=>v= .non∧Q (.ref p) H2) E0:=by
  subst hu
  have S2:Sim E F (upd H1 dx (.own p)) Z1 G1:=S1.other nd
  have n2:upd H1 dx (.own p) p=none:=by rw [aB (Ne.symm ne)]; exact n
  have S3:Sim E F (upd (upd H1 dx (.own p)) p (.ins (E.cls c) dx [])) Z1 (gup G1 p (.ins c [] [])):=S2.new n2 ⟨dx,[],rfl,rfl,rfl⟩
  refine ⟨.ref p :: xs,Z1,_,F,_,⟨.ref p,vs,rfl,rfl,r⟩,S3,M xs G1 Q' q p (S1.gn n), ?_⟩
  rintro z v Z4 G4 H4 s4 S4 r4 ⟨e,ns,ys,hG,q4⟩
  subst e
  obtain ⟨zn,o',hp,dx',vs',e',l,t⟩:=S4.g _ _ hG
  subst e'
  exact ⟨r4,kq (.ob c ns ys) _ (upd Z4 p _) _ _ (s4.trans (bA zn _)) (S4.frz hG hp) ⟨p,dx',vs',rfl,aH,l,t.mono (bA zn _)⟩ q4⟩
theorem ON {c:String} {y x xi:Str} {p:Pos} {e:Expr} {es:List Expr} {es':CE} {f:Addr} {fd:FuncData} {ps:List Str} (M:Mk X.K (E.cls c) f) (K:Co X E (T.S xi) k f fd ps) (hr:bC (k + 1) X.A) (hg:Gl X x) (hm:X.mg x=some (.ref (E.cls c)))
    (hb:aR X.K fd ps []) (ms:uN T c y xi) (hd:(x == ("__debug__":Str))=false) (ha:JA X E (e :: es) (wpL T es')) (he:starEach (e :: es) X.env=(false,eval e X.env) :: starEach es X.env) (hpl:(backTo pos (starEach es X.env)).any (·.1)=false) :
    JE X E (.Call (.Name x p) (e :: es) [] pos) (wpE T (.cal y es')):=fun F=>by
  obtain ⟨CX,sp,EX,K,hp,hl⟩:=K
  exact (SR M K hr hg hm hb .nil hp (ha F) hd he hpl).imp fun σ H Q ⟨σ',Z,G,Q',rs,S,h,kq⟩=>by
    rw [wpE] at h
    exact ⟨σ',Z,G,_,rs,S,h,fun xs vs Z1 G1 H1 l1 s1 S1 r1 q1 p dx n nd ne=>hl _ _ _ (zF (by rw [List.append_nil]) ms S1 r1 q1 (kq.mono s1) n nd ne)⟩
noncomputable def JK (X:Cx) (E:Ev) (kws:List Keyword) (t:PTA):Prop:= ∀ F,PK X kws (rH E F kws.length t)
theorem PK.imp {kws:List Keyword} {t t':TA} (h:PK X kws t) (g:∀ σ H Q,t' σ H Q→t σ H Q):PK X kws t':=fun pos pins s σ H Q I q=>h pos pins s σ H Q I (g _ _ _ q)
theorem PM:JK X E [] (wpL T .nil):=fun F=>PK.imp aBu fun σ H Q ⟨σ',Z,G,Q',rs,S,h,kq⟩=>by rw [wpL] at h; exact kq [] [] Z G H rfl (aM.refl Z) S rfl h
theorem TM {n:Option Str} {v:Expr} {p:Pos} {kws:List Keyword} {a' b':CE} (ha:JE X E v (wpE T a')) (hr:JK X E kws (wpL T b')):JK X E (⟨n,v,p⟩ :: kws) (wpL T (.cons a' b')):=fun F =>
  PK.imp (TW (ha F) (hr F)) fun σ H Q ⟨σ',Z,G,Q',rs,S,h,kq⟩=>by
    rw [wpL] at h
    exact ⟨σ',Z,G,_,rs,S,h,fun x v Z1 G1 H1 s1 S1 r1 q1=>⟨σ',Z1,G1,_,rs.mono s1,S1,q1,fun xs vs Z2 G2 H2 l2 s2 S2 r2 q2=>kq (x :: xs) (v :: vs) _ _ _ (by rw [List.length_cons,l2]; rfl) (s1.trans s2) S2 ⟨v,vs,rfl,r1.mono s2,r2⟩ q2⟩⟩
noncomputable def Ar.valV (vs:List V):Ar→V
  | .arg i=>vs.getD i .non
  | .non=>.non
  | .bl b=>.bl b
  | .int i=>.int i
  | .str x=>.str x
theorem xY {Z:Hp} {xs:List PV} {vs:List V} (r:RPs E Z xs vs):∀ ar:List Ar,RPs E Z (ar.map (Ar.val xs)) (ar.map (Ar.valV vs))
  | []=>rfl
  | a :: l=>by
    refine ⟨_,_,rfl, ?_,xY r l⟩
    cases a with
    | arg i =>
      show RP E Z (xs.getD i .non) (vs.getD i .non)
      rw [List.getD_eq_getElem?_getD,List.getD_eq_getElem?_getD]
      cases e:xs[i]? with
      | none =>
        have:vs[i]? =none:=List.getElem?_eq_none_iff.mpr (by rw [←r.length]; exact List.getElem?_eq_none_iff.mp e)
        rw [this]; exact kF
      | some x =>
        obtain ⟨v,e',rr⟩:=r.get e
        rw [e']; exact rr
    | non=>exact kF
    | bl b=>exact cN
    | int i=>exact bB
    | str x=>exact iS
structure jU (K:W.Frag) (fd:FuncData) (ps:List Str) (n:Nat) (ks:List Str) (ar:List Ar):Prop where
  len:ar.length=ps.length
  to:∀ (s:Shared) (us ws:List Value),K.In s.heap→us.length=n→ws.length=ks.length→∃ bs,BindsTo s fd ⟨us,ks.zip ws⟩ (ps.zip bs)∧∀ vs zs,aJ vs us→aJ zs ws→aJ (ar.map (Ar.valV (vs ++ zs))) bs
theorem LV {pins:List (Addr×Obj)} {σ:L2.St} {H:Hp} {s:Shared} {Q:VK} {us ws:List Value} {vs zs:List V} {f:Addr} {fd:FuncData} {ps ks:List Str} {n:Nat} {ar:List Ar} {sp:Sp} {A':Around} {CX:CXT} {EX:XK}
    (K:bL X.prog X.w X.K X.mg X.base CX k f fd ps sp) (hx:gG CX X EX) (hr:bC k A') (e0:mS X.prog X.w X.K X.mg X.base A' X.stack s H) (hb:jU X.K fd ps n ks ar) (I:Inv X pins σ H s) (r:aJ vs us) (rz:aJ zs ws) (l1:vs.length=n) (l2:zs.length=ks.length) (h:sp (ar.map (Ar.valV (vs ++ zs))) H Q EX) :
    wpAny (model X.prog X.w) A' (call (.ref f) us (ks.zip ws)) (EP X pins σ Q) X.xe s:=by
  obtain ⟨bs,hbs,hv⟩:=hb.to s us ws I.kIn (by rw [←r.length]; exact l1) (by rw [←rz.length]; exact l2)
  refine wpAny_call (codeAny_mono (K.run A' X.stack s H ⟨us,ks.zip ws⟩ bs _ Q EX hr e0 hbs (hv vs zs r rz) h) fun r s' hq=>?_)
  cases r with
  | error e=>exact hx pins σ H s e s' I hq
  | ok fl =>
    cases fl with
    | ret u=>exact I.after hq
    | next=>exact False.elim hq
    | brk=>exact False.elim hq
    | cont=>exact False.elim hq
theorem KY {y f:Str} {p:Pos} {e:Expr} {es:List Expr} {kws:List Keyword} {es' ks':CE} {ad:Addr} {fd:FuncData} {ps ks:List Str} {n:Nat} {ar:List Ar} (K:Co X E (T.S y) k ad fd ps) (hr:bC k X.A) (hg:Gl X f) (hm:X.mg f=some (.ref ad))
    (hk:W.keepIn X.K (.ref ad)=true) (hb:jU X.K fd ps n ks ar) (hd:(f == ("__debug__":Str))=false) (ha:JA X E (e :: es) (wpL T es')) (hkw:JK X E kws (wpL T ks')) (hn:(e :: es).length=n) (hkn:kws.length=ks.length)
    (hall:(backToKw pos (keywordEach kws X.env)).all (·.1.isSome)=true) (hks:(backToKw pos (keywordEach kws X.env)).filterMap (·.1)=ks) (he:starEach (e :: es) X.env=(false,eval e X.env) :: starEach es X.env)
    (hpl:((backTo pos (starEach (e :: es) X.env)).any (·.1) || (backToKw pos (keywordEach kws X.env)).any (·.1.isNone))=false) :
    JE X E (.Call (.Name f p) (e :: es) kws pos) (wpE T (.cak y es' ks' ar)):=fun F=>by
  obtain ⟨CX,sp,EX,K,hp,hl⟩:=K
  have main:PE X (.Call (.Name f p) (e :: es) kws pos) (fun σ H Q=>rH E F (e :: es).length (wpL T es') σ H fun vs H1=>vs.length=n∧rH E F kws.length (wpL T ks') σ H1 fun zs H2=>zs.length=ks.length∧sp (ar.map (Ar.valV (vs ++ zs))) H2 Q EX):=by
    intro pins s σ H Q I h
    refine wpAny_Call_Name_kw (dG I hg hm ?_ hd)
    refine W.callWith_KW (h₀:=X.base) I.ok.mod.kin hk hall (thn (ha F pos pins s σ H _ I h) fun us s1 ⟨vs,H1,I1,r,l1,q⟩=>?_) hpl he
    refine thn (hkw F pos pins s1 σ H1 _ I1 q) fun ws s2 ⟨zs,H2,I2,rz,l2,q2⟩=>⟨I2.kIn, ?_⟩
    rw [hks]
    exact LV K hp hr I2.env0 hb I2 r rz l1 l2 q2
  refine main.imp fun σ H Q ⟨σ',Z,G,Q',rs,S,h,kq⟩=>?_
  rw [wpE] at h
  exact ⟨σ',Z,G,_,rs,S,h,fun xs vs Z1 G1 H1 l1 s1 S1 r1 q1=>⟨by rw [←r1.length,l1]; exact hn,σ',Z1,G1,_,rs.mono s1,S1,q1,fun zs us Z2 G2 H2 l2 s2 S2 r2 q2 =>
    ⟨by rw [←r2.length,l2]; exact hkn,hl _ _ _ ⟨_,Z2,G2,F,Q',xY ((r1.mono s2).append r2) ar,S2,q2,kq.mono (s1.trans s2)⟩⟩⟩⟩
theorem DN {y f:Str} {p:Pos} {kws:List Keyword} {ks':CE} {ad:Addr} {fd:FuncData} {ps ks:List Str} {ar:List Ar} (K:Co X E (T.S y) k ad fd ps) (hr:bC k X.A) (hg:Gl X f) (hm:X.mg f=some (.ref ad))
    (hk:W.keepIn X.K (.ref ad)=true) (hb:jU X.K fd ps 0 ks ar) (hd:(f == ("__debug__":Str))=false) (hkw:JK X E kws (wpL T ks')) (hkn:kws.length=ks.length)
    (hall:(backToKw pos (keywordEach kws X.env)).all (·.1.isSome)=true) (hks:(backToKw pos (keywordEach kws X.env)).filterMap (·.1)=ks)
    (hpl:((backTo pos (starEach [] X.env)).any (·.1) || (backToKw pos (keywordEach kws X.env)).any (·.1.isNone))=false) :
    JE X E (.Call (.Name f p) [] kws pos) (wpE T (.cak y .nil ks' ar)):=fun F=>by
  obtain ⟨CX,sp,EX,K,hp,hl⟩:=K
  have main:PE X (.Call (.Name f p) [] kws pos) (fun σ H Q=>rH E F kws.length (wpL T ks') σ H fun zs H2=>zs.length=ks.length∧sp (ar.map (Ar.valV ([] ++ zs))) H2 Q EX):=by
    intro pins s σ H Q I h
    refine wpAny_Call_Name_kw (dG I hg hm ?_ hd)
    refine W.callWith_KW0 (h₀:=X.base) (first:=[]) I.ok.mod.kin hk hall ?_ hpl
    refine thn (hkw F pos pins s σ H _ I h) fun ws s2 ⟨zs,H2,I2,rz,l2,q2⟩=>⟨I2.kIn, ?_⟩
    rw [hks]
    exact LV (us:=[]) (vs:=[]) K hp hr I2.env0 hb I2 .nil rz rfl l2 q2
  refine main.imp fun σ H Q ⟨σ',Z,G,Q',rs,S,h,kq⟩=>?_
  rw [wpE,wpL] at h
  exact ⟨σ',Z,G,_,rs,S,h,fun zs us Z2 G2 H2 l2 s2 S2 r2 q2=>⟨by rw [←r2.length,l2]; exact hkn,hl _ _ _ ⟨_,Z2,G2,F,Q',xY r2 ar,S2,q2,kq.mono s2⟩⟩⟩
theorem DW {c:String} {w x xi:Str} {p:Pos} {kws:List Keyword} {ks':CE} {f:Addr} {fd:FuncData} {ps ks:List Str} {ar:List Ar} (M:Mk X.K (E.cls c) f) (K:Co X E (T.S xi) k f fd ps) (hr:bC (k + 1) X.A) (hg:Gl X x) (hm:X.mg x=some (.ref (E.cls c)))
    (hb:jU X.K fd ps 1 ks (.arg 0 :: ar.map fun a=>match a with | .arg i=>.arg (i + 1) | a=>a)) (ms:uN T c w xi) (hd:(x == ("__debug__":Str))=false) (hkw:JK X E kws (wpL T ks')) (hkn:kws.length=ks.length)
    (hall:(backToKw pos (keywordEach kws X.env)).all (·.1.isSome)=true) (hks:(backToKw pos (keywordEach kws X.env)).filterMap (·.1)=ks)
    (hpl:((backTo pos (starEach [] X.env)).any (·.1) || (backToKw pos (keywordEach kws X.env)).any (·.1.isNone))=false) :
    JE X E (.Call (.Name x p) [] kws pos) (wpE T (.cak w .nil ks' ar)):=fun F=>by
  obtain ⟨CX,sp,EX,K,hp,hl⟩:=K
  have main:PE X (.Call (.Name x p) [] kws pos) (fun σ H Q=>rH E F kws.length (wpL T ks') σ H fun zs H2=>zs.length=ks.length∧∀ y dx,H2 y=none→H2 dx=none→dx≠y→
      sp (.ref y :: ar.map (Ar.valV zs)) (upd (upd H2 dx (.own y)) y (.ins (E.cls c) dx [])) (fun v H3=>v= .non∧Q (.ref y) H3) EX):=by
    intro pins s σ H Q I h
    refine wpAny_Call_Name_kw (dG I hg hm ?_ hd)
    refine W.callWith_KW0 (h₀:=X.base) (first:=[]) I.ok.mod.kin M.kp hall ?_ hpl
    refine thn (hkw F pos pins s σ H _ I h) fun ws s2 ⟨zs,H2,I2,rz,l2,q2⟩=>⟨I2.kIn, ?_⟩
    rw [hks]
    have hq:=q2 (s2.heap.objs.size + 1) s2.heap.objs.size (I2.hok.fresh (Nat.le_succ _)) (I2.hok.fresh (Nat.le_refl _)) (Nat.ne_of_lt (Nat.lt_succ_self _))
    have I3:=Inv.made (C:=E.cls c) I2
    have e:V.ref (s2.heap.objs.size + 1) :: ar.map (Ar.valV zs)=(Ar.arg 0 :: ar.map fun a=>match a with | .arg i=>.arg (i + 1) | a=>a).map (Ar.valV ([V.ref (s2.heap.objs.size + 1)] ++ zs)):=by
      rw [List.map_cons,List.map_map]
      refine congr (congrArg List.cons rfl) (List.map_congr_left fun a _=>?_)
      cases a <;> rfl
    rw [e] at hq
    obtain ⟨bs,hbs,hv⟩:=hb.to { s2 with heap:=(s2.heap.push _).push _ } [Value.ref (s2.heap.objs.size + 1)] ws I3.kIn rfl (by rw [←rz.length]; exact l2)
    refine wpAny_call (pB (f:=f) (vs:=[]) (kw:=ks.zip ws) I2.kIn M.makes M.init (beq_iff_eq.mp M.fn) (codeAny_mono (K.run _ X.stack _ _ ⟨[Value.ref (s2.heap.objs.size + 1)],ks.zip ws⟩ bs _ _ EX (hr.make (E.cls c) [] (ks.zip ws))
      (I3.env0.make (E.cls c) [] (ks.zip ws)) hbs (hv [V.ref (s2.heap.objs.size + 1)] zs (.cons rfl .nil) rz) hq) fun r s' hq'=>?_))
    cases r with
    | error e=>exact hp pins σ _ _ e s' I3 hq'
    | ok fl =>
      cases fl with
      | ret u =>
        obtain ⟨v,H',I4,rv,ev,q3⟩:=I3.after hq'
        subst ev
        exact ⟨rv,⟨V.ref (s2.heap.objs.size + 1),H',I4,rfl,q3⟩⟩
      | next=>exact False.elim hq'
      | brk=>exact False.elim hq'
      | cont=>exact False.elim hq'
  refine main.imp fun σ H Q ⟨σ',Z,G,Q',rs,S,h,kq⟩=>?_
  rw [wpE,wpL] at h
  exact ⟨σ',Z,G,_,rs,S,h,fun zs us Z2 G2 H2 l2 s2 S2 r2 q2=>⟨by rw [←r2.length,l2]; exact hkn,fun y dx n nd ne=>hl _ _ _ (zF rfl ms S2 (xY r2 ar) q2 (kq.mono s2) n nd ne)⟩⟩
theorem CY {c:String} {w x xi:Str} {p:Pos} {e:Expr} {es:List Expr} {kws:List Keyword} {es' ks':CE} {f:Addr} {fd:FuncData} {ps ks:List Str} {n:Nat} {ar:List Ar} (M:Mk X.K (E.cls c) f) (K:Co X E (T.S xi) k f fd ps) (hr:bC (k + 1) X.A) (hg:Gl X x) (hm:X.mg x=some (.ref (E.cls c)))
    (hb:jU X.K fd ps (n + 1) ks (.arg 0 :: ar.map fun a=>match a with | .arg i=>.arg (i + 1) | a=>a)) (ms:uN T c w xi) (hd:(x == ("__debug__":Str))=false) (ha:JA X E (e :: es) (wpL T es')) (hkw:JK X E kws (wpL T ks')) (hn:(e :: es).length=n) (hkn:kws.length=ks.length)
    (hall:(backToKw pos (keywordEach kws X.env)).all (·.1.isSome)=true) (hks:(backToKw pos (keywordEach kws X.env)).filterMap (·.1)=ks) (he:starEach (e :: es) X.env=(false,eval e X.env) :: starEach es X.env)
    (hpl:((backTo pos (starEach (e :: es) X.env)).any (·.1) || (backToKw pos (keywordEach kws X.env)).any (·.1.isNone))=false) :
    JE X E (.Call (.Name x p) (e :: es) kws pos) (wpE T (.cak w es' ks' ar)):=fun F=>by
  obtain ⟨CX,sp,EX,K,hp,hl⟩:=K
  have main:PE X (.Call (.Name x p) (e :: es) kws pos) (fun σ H Q=>rH E F (e :: es).length (wpL T es') σ H fun vs H1=>vs.length=n∧rH E F kws.length (wpL T ks') σ H1 fun zs H2=>zs.length=ks.length∧∀ y dx,H2 y=none→H2 dx=none→dx≠y→
      sp (.ref y :: ar.map (Ar.valV (vs ++ zs))) (upd (upd H2 dx (.own y)) y (.ins (E.cls c) dx [])) (fun v H3=>v= .non∧Q (.ref y) H3) EX):=by
    intro pins s σ H Q I h
    refine wpAny_Call_Name_kw (dG I hg hm ?_ hd)
    refine W.callWith_KW (h₀:=X.base) I.ok.mod.kin M.kp hall (thn (ha F pos pins s σ H _ I h) fun us s1 ⟨vs,H1,I1,r,l1,q⟩=>?_) hpl he
    refine thn (hkw F pos pins s1 σ H1 _ I1 q) fun ws s2 ⟨zs,H2,I2,rz,l2,q2⟩=>⟨I2.kIn, ?_⟩
    rw [hks]
    have hq:=q2 (s2.heap.objs.size + 1) s2.heap.objs.size (I2.hok.fresh (Nat.le_succ _)) (I2.hok.fresh (Nat.le_refl _)) (Nat.ne_of_lt (Nat.lt_succ_self _))
    have I3:=Inv.made (C:=E.cls c) I2
    have e:V.ref (s2.heap.objs.size + 1) :: ar.map (Ar.valV (vs ++ zs))=(Ar.arg 0 :: ar.map fun a=>match a with | .arg i=>.arg (i + 1) | a=>a).map (Ar.valV ((V.ref (s2.heap.objs.size + 1) :: vs) ++ zs)):=by
      rw [List.map_cons,List.map_map]
      refine congr (congrArg List.cons rfl) (List.map_congr_left fun a _=>?_)
      cases a <;> rfl
    rw [e] at hq
    obtain ⟨bs,hbs,hv⟩:=hb.to { s2 with heap:=(s2.heap.push _).push _ } (Value.ref (s2.heap.objs.size + 1) :: us) ws I3.kIn (by rw [List.length_cons,←r.length,l1]) (by rw [←rz.length]; exact l2)
    refine wpAny_call (pB (f:=f) (vs:=us) (kw:=ks.zip ws) I2.kIn M.makes M.init (beq_iff_eq.mp M.fn) (codeAny_mono (K.run _ X.stack _ _ ⟨Value.ref (s2.heap.objs.size + 1) :: us,ks.zip ws⟩ bs _ _ EX (hr.make (E.cls c) us (ks.zip ws))
      (I3.env0.make (E.cls c) us (ks.zip ws)) hbs (hv (V.ref (s2.heap.objs.size + 1) :: vs) zs (.cons rfl r) rz) hq) fun r s' hq'=>?_))
    cases r with
    | error e=>exact hp pins σ _ _ e s' I3 hq'
    | ok fl =>
      cases fl with
      | ret u =>
        obtain ⟨v,H',I4,rv,ev,q3⟩:=I3.after hq'
        subst ev
        exact ⟨rv,⟨V.ref (s2.heap.objs.size + 1),H',I4,rfl,q3⟩⟩
      | next=>exact False.elim hq'
      | brk=>exact False.elim hq'
      | cont=>exact False.elim hq'
  refine main.imp fun σ H Q ⟨σ',Z,G,Q',rs,S,h,kq⟩=>?_
  rw [wpE] at h
  exact ⟨σ',Z,G,_,rs,S,h,fun xs vs Z1 G1 H1 l1 s1 S1 r1 q1=>⟨by rw [←r1.length,l1]; exact hn,σ',Z1,G1,_,rs.mono s1,S1,q1,fun zs us Z2 G2 H2 l2 s2 S2 r2 q2 =>
    ⟨by rw [←r2.length,l2]; exact hkn,fun y dx n nd ne=>hl _ _ _ (zF rfl ms S2 (xY ((r1.mono s2).append r2) ar) q2 (kq.mono (s1.trans s2)) n nd ne)⟩⟩⟩
end
noncomputable def clos (cells:List (Str×Addr)):List (Str×NameKind)→List (Str×Addr)→List (Str×Addr)
  | [],acc=>acc
  | (n,k) :: r,acc=>clos cells r (if k= .free then (n,(cells.lookup n).getD 0) :: acc else acc)
theorem QE {scope:Scope} {env:Env} (h:∀ y∈scope.names,y.2= .free→∃ c,env.cells.lookup y.1=some c):closureFor scope env=pure (clos env.cells scope.names []):=by
  unfold closureFor
  have main:∀ (l:List (Str×NameKind)) (acc:List (Str×Addr)),(∀ y∈l,y.2= .free→∃ c,env.cells.lookup y.1=some c)→
      (forIn l acc (fun x r=>if (x.2 == NameKind.free)=true then do let c ←cellOf env x.1; pure (ForInStep.yield ((x.1,c) :: r)) else pure (ForInStep.yield r)):Sem (List (Str×Addr)))=pure (clos env.cells l acc):=by
    intro l
    induction l with
    | nil=>intro acc _; rfl
    | cons y r ih =>
      intro acc hy
      obtain ⟨n,k⟩:=y
      rw [List.forIn_cons]
      have ihr:=fun acc=>ih acc fun z hz=>hy z (List.mem_cons_of_mem _ hz)
      by_cases hk:k= .free
      · subst hk
        obtain ⟨c,hc⟩:=hy (n,.free) (List.mem_cons_self ..) rfl
        have e:cellOf env n=pure c:=by unfold cellOf; rw [hc]
        simp only [beq_self_eq_true,if_true,e]
        unfold clos
        rw [if_pos rfl,hc]
        exact ihr _
      · have e:((n,k).2 == NameKind.free)=false:=beq_eq_false_iff_ne.mpr hk
        simp only [e]
        unfold clos
        rw [if_neg hk]
        exact ihr _
  have:=main scope.names [] h
  have e:(forIn scope.names ([]:List (Str×Addr)) (fun x r=>match x with
      | (name,kind)=>if (kind == NameKind.free)=true then do let c ←cellOf env name; pure (ForInStep.yield ((name,c) :: r)) else pure (ForInStep.yield r)):Sem (List (Str×Addr)))=pure (clos env.cells scope.names []):=by
    rw [←this]
  show ((forIn scope.names ([]:List (Str×Addr)) (fun x r=>match x with
      | (name,kind)=>if (kind == NameKind.free)=true then do let c ←cellOf env name; pure (ForInStep.yield ((name,c) :: r)) else pure (ForInStep.yield r)):Sem (List (Str×Addr))) >>= pure)=_
  rw [e]
  rfl
theorem BV {cells:List (Str×Addr)}:∀ {l:List (Str×NameKind)} {acc:List (Str×Addr)},(∀ y∈l,y.2= .free→∃ c,cells.lookup y.1=some c)→rC cells acc→rC cells (clos cells l acc)
  | [],_,_,h=>h
  | (n,k) :: r,acc,hy,h=>by
    unfold clos
    refine BV (fun z hz=>hy z (List.mem_cons_of_mem _ hz)) ?_
    split
    · rename_i hk
      obtain ⟨c,hc⟩:=hy (n,k) (List.mem_cons_self ..) hk
      exact ⟨by rw [hc]; rfl,h⟩
    · exact h
theorem nN {cells:List (Str×Addr)}:∀ {l:List (Str×NameKind)} {acc:List (Str×Addr)} {n:Str},((∃ c,(n,c)∈acc)∨(n,NameKind.free)∈l)→∃ c,(n,c)∈clos cells l acc
  | [],_,_,h=>by
    rcases h with h | h
    · exact h
    · cases h
  | (m, k) :: r,acc,n,h=>by
    unfold clos
    refine nN ?_
    rcases h with ⟨c,h⟩ | h
    · refine .inl ?_
      split
      · exact ⟨c,List.mem_cons_of_mem _ h⟩
      · exact ⟨c,h⟩
    · rcases List.mem_cons.mp h with e | h
      · cases e
        exact .inl ⟨_,by rw [if_pos rfl]; exact List.mem_cons_self ..⟩
      · exact .inr h
theorem uI {cells:List (Str×Addr)}:∀ {cl:List (Str×Addr)} {n:Str},rC cells cl→(∃ c,(n,c)∈cl)→∃ c,cl.lookup n=some c∧cells.lookup n=some c
  | [],_,_,⟨_,h⟩=>by cases h
  | (m,d) :: r,n,ok,⟨c,h⟩=>by
    rw [List.lookup_cons]
    cases hb:n == m with
    | true =>
      rw [beq_iff_eq.mp hb]
      exact ⟨d,rfl,ok.1⟩
    | false =>
      rcases List.mem_cons.mp h with e | h
      · cases e; rw [beq_self_eq_true] at hb; cases hb
      · exact uI ok.2 ⟨c,h⟩
theorem DC {cl cells:List (Str×Addr)} (hcl:rC cells cl):∀ {l:List (Str×NameKind)},(∀ n,(n,NameKind.free)∈l→∃ c,(n,c)∈cl)→kB cl cells l
  | [],_=>trivial
  | (n,k) :: r,h=>⟨fun e=>by subst e; exact uI hcl (h n (List.mem_cons_self ..)),DC hcl fun m hm=>h m (List.mem_cons_of_mem _ hm)⟩
structure Cfg where
  N:List Str
  names:List (Str×NameKind)
  blk:Bool:=false
  fns:List Str:=[]
  mks:List Str:=[]
  shs:List (Str×Nat×List Str×List Ar):=[]
  mkk:List (Str×List Str×List Ar):=[]
  gls:List Str:=[]
  tys:List Str:=[]
  blt:List Str:=[]
  M:List Str:=[]
  rm:Bool:=false
  eqs:List (String×Str):=[]
  own:List Str:=[]
  ls:List Str:=[]
  nes:List (String×Str):=[]
  lns:List (String×Str):=[]
  ows:List (Str×List (String×Str)):=[]
  gds:List (Str×List (Str×Str)):=[]
  fvs:List (Str×Nat×List Ar):=[]
  mkp:List (Str×Nat×List Str×List Ar):=[]
  rp:Bool:=false
  exs:List (String×Str):=[]
  ky:List (Str×Str):=[]
  rz:Bool:=false
  xcl:List (Str×Str):=[]
  xis:List Str:=[]
  xat:List Str:=[]
  tr:Bool:=false
  tky:List (Str×Str):=[]
  cat:List String:=[]
  cln:List Str:=[]
  cm:Bool:=true
  hs:Bool:=false
  hfn:List Str:=[]
noncomputable def Cfg.key (C:Cfg) (x:Str):Str:=(C.ky.lookup x).getD x
noncomputable def Cfg.inT (C:Cfg):Cfg:={ C with ky:=C.tky,rz:=true,tr:=false }
noncomputable def Cfg.inH (C:Cfg):Cfg:={ C with fns:=C.hfn,mks:=[],shs:=[],mkk:=[],mkp:=[],eqs:=[],nes:=[],lns:=[],ows:=[],fvs:=[],exs:=[],ky:=[],rz:=false,xcl:=[],tr:=false,cm:=false }
noncomputable def slot:List Str→Str→Option Nat
  | [],_=>none
  | y :: r,x=>if y=x then some 0 else (slot r x).map (· + 1)
theorem dI:∀ {N:List Str} {x:Str} {i:Nat},slot N x=some i→N[i]? =some x
  | [],_,_,h=>by cases h
  | y :: r,x,i,h=>by
    unfold slot at h
    split at h
    · rename_i e; cases h; rw [e]; rfl
    · cases e:slot r x with
      | none=>rw [e] at h; cases h
      | some j =>
        rw [e] at h
        cases h
        rw [List.getElem?_cons_succ]
        exact dI e
noncomputable def aCB (C:Cfg) (x:Str):Bool:=match C.names.lookup x with
  | some .local=>true
  | some .cell=>true
  | some .free=>true
  | _=>false
noncomputable def OA (C:Cfg) (x:Str):Bool:=match C.names.lookup x with
  | some .local=>true
  | some .cell=> !C.blk || C.own.contains x
  | _=>false
noncomputable def glB (C:Cfg) (x:Str):Bool:=C.names.lookup x == some .globalImplicit
noncomputable def gM (x:Str):Bool:= !(x == ("__debug__":Str)) && !(x == ("__classdict__":Str))
noncomputable def bS:Expr→Bool
  | .Starred .. =>true
  | _=>false
noncomputable def jV:Expr→Bool
  | .Call (.Name _ _) [] [] _=>true
  | _=>false
noncomputable def nP:Expr→Bool
  | .Set .. =>true
  | _=>false
noncomputable def QB:Expr→Bool
  | .Slice .. =>true
  | _=>false
noncomputable def pM:Expr→Bool
  | .ListComp .. | .SetComp .. | .DictComp .. =>true
  | _=>false
noncomputable def OS:List (Str×Bn):=[("len",.len),("abs",.abs),("max",.max),("min",.min),("int",.int),("str",.str),("isinstance",.isi),("tuple",.tuple),("list",.list),("all",.all),("any",.any),("sum",.sum),("bool",.bool),("repr",.repr),("divmod",.divmod)]
noncomputable def kwN:List Keyword→Option (List Str)
  | []=>some []
  | ⟨some n,_,_⟩ :: r=>(kwN r).map (n :: ·)
  | ⟨none,_,_⟩ :: _=>none
noncomputable def fU (C:Cfg) (sc:Scope):List (Str×NameKind):=sc.names.map fun (n,k)=>if (k == .free && C.names.lookup n == some .cell) then (n,.cell) else (n,k)
noncomputable def jG (C:Cfg):List (Str×NameKind)→List (Str×Option Nat)
  | []=>[]
  | (n,k) :: r=>match k with
    | .local=>(n,none) :: jG C r
    | .cell=>(n,none) :: jG C r
    | .free=>match slot C.N n with
      | some j=>if C.names.lookup n=some .cell then (n,some j) :: jG C r else jG C r
      | none=>jG C r
    | _=>jG C r
noncomputable def rV (C:Cfg) (sc:Scope):Bool:=C.cm && sc.kind == .function && sc.names.all (fun y=>(y.2 != .cell || !sc.names.contains (y.1,.free)) && (y.2 != .local || sc.names.lookup y.1 == some .local) && (y.2 != .free || C.names.lookup y.1 == some .cell)) && decide (((jG C sc.names).map (·.1)).Nodup)
  && (jG C sc.names).all (fun p=>p.2.isNone || ((fU C sc).lookup p.1 == some .cell))
noncomputable def yO (C:Cfg) (sc:Scope):Cfg:={ C with N:=(jG C sc.names).map (·.1),names:=fU C sc,blk:=true,own:=(sc.names.filter (fun y=>y.2 == .cell)).map (·.1),ky:=[],rz:=false,xcl:=[],tr:=false }
mutual
noncomputable def xE:Nat→Cfg→Bool→Expr→Option CE
  | 0,_,_,_=>none
  | n + 1,C,m,e=>match e with
    | .Dict [] [] _=>some .emp
    | _=>none
noncomputable def vE:Nat→Cfg→Expr→Option CE
  | 0,_,_=>none
  | n + 1,C,e=>match e with
    | .Call (.Name x _) [a,.Name y _] [] _=>if x == ("isinstance":Str) && C.xis.contains y && glB C x && C.blt.contains x && glB C y && gM y && !bS a then (cE n C false a).bind fun a'=>some (.isx a' y) else none
    | .Attribute a f _=>if C.xat.contains f && !jV a then (cE n C false a).bind fun a'=>some (.atx a' f) else none
    | _=>none
noncomputable def zE:Nat→Cfg→Expr→Option CE
  | 0,_,_=>none
  | n + 1,C,e=>match e with
    | .Call (.Name x _) (e :: r) (kw :: kws) _=>if glB C x then (kwN (kw :: kws)).bind fun ks=>(match C.mkp.find? (fun s=>s.1 == x && s.2.1 == (e :: r).length && s.2.2.1 == ks) with
        | some s=>(cL n C (e :: r)).bind fun es'=>(cK n C (kw :: kws)).bind fun ks'=>some (.cak (C.key x) es' ks' s.2.2.2)
        | none=>none) else none
    | _=>none
noncomputable def cE:Nat→Cfg→Bool→Expr→Option CE
  | 0,_,_,_=>none
  | n + 1,C,m,e=>match vE n C e with
  | some c=>some c
  | none=>match zE n C e with
  | some c=>some c
  | none=>match xE n C m e with
  | some c=>some c
  | none => match e with
    | .Name x _=>if gM x then (match slot C.N x with
      | some i=>if aCB C x then some (.var i) else none
      | none=>if glB C x && (C.gls.contains x || C.tys.contains x) then some (.glo x) else none) else none
    | .Constant v _ _=>(match v with
      | .int i=>some (.int i)
      | .bool b=>some (.bl b)
      | .none=>some .non
      | .str s=>some (.str s)
      | _=>none)
    | .BinOp a op b _=>(cE n C false a).bind fun a'=>(cE n C false b).bind fun b'=>some (.bin op a' b')
    | .UnaryOp op a _=>(match op with
      | .USub=>(cE n C false a).bind fun a'=>some (.neg a')
      | .Not=>(cE n C false a).bind fun a'=>some (.no a')
      | _=>none)
    | .BoolOp op vs _=>cB n C op vs
    | .Compare a ops bs _=>(match ops,bs with
      | [op],[b]=>if nP b then none else (cE n C false a).bind fun a'=>(cE n C false b).bind fun b'=>some (.cmp op a' b')
      | [op,op'],[b,c]=>if nP c then none else (cE n C false a).bind fun a'=>(cE n C false b).bind fun b'=>(cE n C false c).bind fun c'=>some (.chn op op' a' b' c')
      | _,_=>none)
    | .Tuple es _ _=>(cL n C es).bind fun es'=>some (.tup es')
    | .List es _=>(cL n C es).bind fun es'=>some (.lst m es')
    | .Subscript a s _=>(match s with
      | .Slice lo hi none _=>(cE n C false a).bind fun a'=>(cO n C lo).bind fun l'=>(cO n C hi).bind fun h'=>some (.sli a' l' h')
      | .Slice none none (some (.UnaryOp .USub (.Constant (.int 1) _ _) _)) _=>(cE n C false a).bind fun a'=>some (.rev a')
      | s=>if QB s then none else (cE n C false a).bind fun a'=>(cE n C false s).bind fun i'=>some (.idx a' i'))
    | .Attribute a f _=>if jV a then none else (cE n C false a).bind fun a'=>some (.att a' f)
    | .Call f es kws pos=>(match f,es,kws with
      | .Name x _,e :: r,[]=>if glB C x then (match OS.lookup x with
          | some b=>if C.blt.contains x && (C.cm || !FV b) then (cL n C (e :: r)).bind fun es'=>some (match C.ows.lookup x with | some ls=>.bow b ls es' | none=>.blt b es') else none
          | none=>(match C.shs.find? (fun s=>s.1 == x && s.2.1 == (e :: r).length && s.2.2.1 == []) with
            | some s=>(cL n C (e :: r)).bind fun es'=>some (.cak (C.key x) es' .nil s.2.2.2)
            | none=>if C.fns.contains x || C.mks.contains x then (cL n C (e :: r)).bind fun es'=>some (.cal (C.key x) es') else none)) else none
      | .Name x _,e :: r,kw :: kws=>if glB C x then (kwN (kw :: kws)).bind fun ks=>(match C.shs.find? (fun s=>s.1 == x && s.2.1 == (e :: r).length && s.2.2.1 == ks) with
          | some s=>(cL n C (e :: r)).bind fun es'=>(cK n C (kw :: kws)).bind fun ks'=>some (.cak (C.key x) es' ks' s.2.2.2)
          | none=>none) else none
      | .Name x _,[],kw :: kws=>if glB C x then (kwN (kw :: kws)).bind fun ks=>(match C.shs.find? (fun s=>s.1 == x && s.2.1 == 0 && s.2.2.1 == ks) with
          | some s=>(cK n C (kw :: kws)).bind fun ks'=>some (.cak (C.key x) .nil ks' s.2.2.2)
          | none=>(match C.mkk.find? (fun s=>s.1 == x && s.2.1 == ks) with
            | some s=>(cK n C (kw :: kws)).bind fun ks'=>some (.cak (C.key x) .nil ks' s.2.2)
            | none=>none)) else none
      | .Attribute o mth ap,[e],[]=>if mth="join" && !jV o && !bS e && ap.endLine == pos.line then (cE n C false o).bind fun o'=>(cE n C false e).bind fun e'=>some (.joi o' e') else if mth="index" && !jV o && !bS e && ap.endLine == pos.line then (cE n C false o).bind fun o'=>(cE n C false e).bind fun e'=>some (.ixo o' e') else if mth="append" && !jV o && !bS e && ap.endLine == pos.line then (cE n C false o).bind fun o'=>(cE n C false e).bind fun e'=>some (.app o' e') else if mth="count" && !jV o && !bS e && ap.endLine == pos.line then (cE n C false o).bind fun o'=>(cE n C false e).bind fun e'=>some (.cnt o' e') else none
      | _,_,_=>none)
    | .ListComp elt gens sc _=>(match gens with
      | [⟨tg,iter,ifs,0⟩]=>if rV C sc && !nP iter then (cI n C tg iter).bind fun it'=>(cG n (yO C sc) tg).bind fun tg'=>(cTs n (yO C sc) ifs).bind fun ts'=>(cE n (yO C sc) false elt).bind fun el'=>some (.cmpr m tg' it' ts' el' ((jG C sc.names).map (·.2))) else none
      | _=>none)
    | .JoinedStr (a :: b :: r) _=>(cJ n C (a :: b :: r)).bind fun es'=>some (.fst es')
    | _=>none
noncomputable def cJ:Nat→Cfg→List Expr→Option CE
  | 0,_,_=>none
  | n + 1,C,es=>match es with
    | []=>some .nil
    | e :: r=>(match e with
      | .FormattedValue e (-1) none _=>(cE n C false e).bind fun e'=>(cJ n C r).bind fun r'=>some (.cons e' r')
      | .Constant (.str s) _ _=>(cJ n C r).bind fun r'=>some (.cons (.str s) r')
      | _=>none)
noncomputable def cL:Nat→Cfg→List Expr→Option CE
  | 0,_,_=>none
  | n + 1,C,es=>match es with
    | []=>some .nil
    | e :: r=>if bS e then none else (cE n C false e).bind fun e'=>(cL n C r).bind fun r'=>some (.cons e' r')
noncomputable def cK:Nat→Cfg→List Keyword→Option CE
  | 0,_,_=>none
  | n + 1,C,ks=>match ks with
    | []=>some .nil
    | ⟨_,v,_⟩ :: r=>(cE n C false v).bind fun e'=>(cK n C r).bind fun r'=>some (.cons e' r')
noncomputable def cB:Nat→Cfg→BoolOp→List Expr→Option CE
  | 0,_,_,_=>none
  | n + 1,C,op,vs=>match vs with
    | []=>none
    | [a]=>cE n C false a
    | a :: b :: r=>(cE n C false a).bind fun a'=>(cB n C op (b :: r)).bind fun b'=>some (match op with | .And=>.an a' b' | .Or=>.oo a' b')
noncomputable def xT:Nat→Cfg→Expr→Option CE
  | 0,_,_=>none
  | n + 1,C,e=>match e with
    | _=>none
noncomputable def cT:Nat→Cfg→Expr→Option CE
  | 0,_,_=>none
  | n + 1,C,e=>match xT n C e with
  | some c=>some c
  | none=>match e with
    | .BoolOp op vs _=>cW n C op vs
    | .UnaryOp .Not a _=>(cT n C a).bind fun a'=>some (.no a')
    | .Compare a ops bs _=>(match ops,bs with
      | [op],[b]=>if nP b then none else (cE n C false a).bind fun a'=>(cE n C false b).bind fun b'=>some (.tsb (.cmp op a' b'))
      | [op,op'],[b,c]=>if nP c then none else (cE n C false a).bind fun a'=>(cE n C false b).bind fun b'=>(cE n C false c).bind fun c'=>some (.tsb (.chn op op' a' b' c'))
      | _,_=>none)
    | .Name .. | .Call .. | .Subscript .. | .Attribute .. =>(cE n C false e).bind fun e'=>some (.tst e')
    | _=>none
noncomputable def cW:Nat→Cfg→BoolOp→List Expr→Option CE
  | 0,_,_,_=>none
  | n + 1,C,op,vs=>match vs with
    | []=>none
    | [a]=>cT n C a
    | a :: b :: r=>(cT n C a).bind fun a'=>(cW n C op (b :: r)).bind fun b'=>some (match op with | .And=>.an a' b' | .Or=>.oo a' b')
noncomputable def cO:Nat→Cfg→Option Expr→Option CE
  | 0,_,_=>none
  | n + 1,C,o=>match o with
    | none=>some .nil
    | some e=>(cE n C false e).bind fun e'=>some (.tst e')
noncomputable def cTs:Nat→Cfg→List Expr→Option CE
  | 0,_,_=>none
  | n + 1,C,l=>match l with
    | []=>some .nil
    | [c]=>cT n C c
    | _=>none
noncomputable def cG:Nat→Cfg→Expr→Option CE
  | 0,_,_=>none
  | n + 1,C,e=>match e with
    | .Name x _=>if OA C x then (slot C.N x).bind fun i=>some (.gn i) else none
    | .Tuple es _ _=>if C.cm then (cGs n C es).bind fun g=>some (.gt es.length g) else none
    | _=>none
noncomputable def cGs:Nat→Cfg→List Expr→Option CE
  | 0,_,_=>none
  | n + 1,C,es=>match es with
    | []=>some .nil
    | e :: r=>if bS e then none else (cG n C e).bind fun g=>(cGs n C r).bind fun r'=>some (.cons g r')
noncomputable def cI:Nat→Cfg→Expr→Expr→Option CE
  | 0,_,_,_=>none
  | n + 1, C,tg,e=>match e with
    | .Call (.Name x p) es kws pos=>if x="zip" then none
      else (match kws,es with
      | [],[a]=>if bS a then none else if x="range" then (if glB C x && C.blt.contains x then (cE n C false a).bind fun a'=>some (.irg (.cons a' .nil)) else none)
        else if x="enumerate" then (match tg with
          | .Tuple .. =>if glB C x && C.blt.contains x then (cE n C false a).bind fun a'=>some (.ien a') else none
          | _=>none)
        else (cE n C false (.Call (.Name x p) es kws pos)).bind fun e'=>some (.isq e')
      | [],[a,b]=>if bS a || bS b then none else if x="range" then (if glB C x && C.blt.contains x then (cE n C false a).bind fun a'=>(cE n C false b).bind fun b'=>some (.irg (.cons a' (.cons b' .nil))) else none)
        else (cE n C false (.Call (.Name x p) es kws pos)).bind fun e'=>some (.isq e')
      | _,_=>(cE n C false (.Call (.Name x p) es kws pos)).bind fun e'=>some (.isq e'))
    | e=>if nP e then none else (cE n C false e).bind fun e'=>some (.isq e')
end
structure Fk (P:Program) (w:World) (K:W.Frag) (mg:Str→Option Value) (base:Heap) (E:Ev) (T:Tb) (k:Nat) (f:Str) (ad:Addr) (fd:FuncData) (ps:List Str):Prop where
  ok:bL P w K mg base CX0 k ad fd ps (jK E (T.S f))
  mg:mg f=some (.ref ad)
  kp:W.keepIn K (.ref ad)=true
  db:(f == ("__debug__":Str))=false
structure Mf (P:Program) (w:World) (K:W.Frag) (mg:Str→Option Value) (base:Heap) (E:Ev) (T:Tb) (k:Nat) (x:Str) (c:String) (xi:Str) (ad:Addr) (fd:FuncData) (ps:List Str):Prop where
  mkr:Mk K (E.cls c) ad
  ok:bL P w K mg base CX0 k ad fd ps (jK E (T.S xi))
  mg:mg x=some (.ref (E.cls c))
  ms:uN T c x xi
  db:(x == ("__debug__":Str))=false
noncomputable def up1:Ar→Ar
  | .arg i=>.arg (i + 1)
  | a=>a
structure FkX (P:Program) (w:World) (K:W.Frag) (mg:Str→Option Value) (base:Heap) (E:Ev) (T:Tb) (k:Nat) (f y:Str) (ad:Addr) (fd:FuncData) (ps:List Str):Prop where
  ok:∃ S0 X0,bL P w K mg base (CXo P w) k ad fd ps (nQ E S0 X0)∧∀ xs G Q,T.S y xs G Q→S0 xs G Q∨X0 xs G T.xp
  mg:mg f=some (.ref ad)
  kp:W.keepIn K (.ref ad)=true
  db:(f == ("__debug__":Str))=false
structure MfX (P:Program) (w:World) (K:W.Frag) (mg:Str→Option Value) (base:Heap) (E:Ev) (T:Tb) (k:Nat) (x y:Str) (c:String) (xi:Str) (ad:Addr) (fd:FuncData) (ps:List Str):Prop where
  mkr:Mk K (E.cls c) ad
  ok:∃ S0 X0,bL P w K mg base (CXo P w) k ad fd ps (nQ E S0 X0)∧∀ xs G Q,T.S xi xs G Q→S0 xs G Q∨X0 xs G T.xp
  mg:mg x=some (.ref (E.cls c))
  ms:uN T c y xi
  db:(x == ("__debug__":Str))=false
noncomputable def aE5 (P:Program) (w:World) (K:W.Frag) (mg:Str→Option Value) (base:Heap) (E:Ev) (T:Tb) (k:Nat) (x y:Str):Prop :=
  (∃ c f fd ps Bn fld,XIn K mg (E.cls c) f Bn fld∧mg x=some (.ref (E.cls c))∧bL P w K mg base CX0 k f fd ps (spI (E.cls c) fld)∧L2.aR K fd ps []∧∀ xs G Q,T.S y xs G Q→∃ v,xs=[v]∧T.xp c [fld] [v] G)∨False
structure Gf (P:Program) (w:World) (K:W.Frag) (mg:Str→Option Value) (base:Heap) (E:Ev) (T:Tb) (k:Nat) (C:Cfg):Prop where
  fns:∀ f∈C.fns,∃ ad fd ps,Fk P w K mg base E T k f ad fd ps∧L2.aR K fd ps []
  mks:∀ x∈C.mks,∃ c xi ad fd ps,Mf P w K mg base E T k x c xi ad fd ps∧L2.aR K fd ps []
  shs:∀ s∈C.shs,∃ ad fd ps,Fk P w K mg base E T k s.1 ad fd ps∧jU K fd ps s.2.1 s.2.2.1 s.2.2.2
  mkk:∀ s∈C.mkk,∃ c xi ad fd ps,Mf P w K mg base E T k s.1 c xi ad fd ps∧jU K fd ps 1 s.2.1 (.arg 0 :: s.2.2.map up1)
  gls:∀ x∈C.gls,∃ u v,mg x=some u∧aQ v u∧RP E (fun _=>none) (T.gv x) v
  tys:∀ x∈C.tys,mg x=none∧(∃ n,bootBuiltins x=some (.type n)∧T.gv x= .ty n)∧x≠"__name__"
  blt:∀ x∈C.blt,mg x=none
  eqs:∀ y∈C.eqs,∃ ad fd,wF K (E.cls y.1) "__eq__" ad∧bL P w K mg base CX0 k ad fd ["self","other"] (jK E (T.S y.2))∧L2.aR K fd ["self","other"] []
  nes:∀ y∈C.nes,∃ ad fd,NeC K (E.cls y.1)∧wF K (E.cls y.1) "__eq__" ad∧bL P w K mg base CX0 k ad fd ["self","other"] (jK E (T.S y.2))∧L2.aR K fd ["self","other"] []
  lns:∀ y∈C.lns,∃ ad fd,NeC K (E.cls y.1)∧wF K (E.cls y.1) "__len__" ad∧bL P w K mg base CX0 k ad fd ["self"] (jK E (T.S y.2))∧L2.aR K fd ["self"] []
  ows:∀ y∈C.ows,∀ b,OS.lookup y.1=some b→∀ z∈y.2,∃ ad fd k0 nm,k0 + 2≤k∧bwN b=some nm∧NeC K (E.cls z.1)∧wF K (E.cls z.1) nm ad∧bL P w K mg base CX0 k0 ad fd ["self"] (jK E (T.S z.2))∧L2.aR K fd ["self"] []
  gds:∀ y∈C.gds,∃ a es n,mg y.1=some (.ref a)∧K.lookup a=some ⟨.type "dict",none,.dict es n, #[]⟩∧W.KeysLit w.params es.toList∧(a == sysModules)=false∧∀ z,findBy Value.isStrOf es z=(y.2.lookup z).map fun f=>.ref (E.fna f)
  fvs:∀ y∈C.fvs,∃ fd ps,bL P w K mg base CX0 k (E.fna y.1) fd ps (jK E (T.S y.1))∧W.keepIn K (.ref (E.fna y.1))=true∧jU K fd ps y.2.1 [] y.2.2
  mkp:∀ s∈C.mkp,∃ c xi ad fd ps,Mf P w K mg base E T k s.1 c xi ad fd ps∧jU K fd ps (s.2.1 + 1) s.2.2.1 (.arg 0 :: s.2.2.2.map up1)
  exs:∀ y∈C.exs,∃ ad fd,NeC K (E.cls y.1)∧wF K (E.cls y.1) "__eq__" ad∧bL P w K mg base CX0 k ad fd ["self","other"] (jK E (T.S y.2))∧L2.aR K fd ["self","other"] []∧EqL K (E.cls y.1)∧∀ d∈T.cs,d≠y.1→EqD K (E.cls y.1) (E.cls d)
  kr:∀ y∈C.ky,C.rz=true
  kf:∀ y∈C.ky,(y.1∈C.fns→∃ ad fd ps,FkX P w K mg base E T k y.1 y.2 ad fd ps∧L2.aR K fd ps [])∧(y.1∈C.mks→∃ c xi ad fd ps,MfX P w K mg base E T k y.1 y.2 c xi ad fd ps∧L2.aR K fd ps [])
  ks:∀ s∈C.shs,∀ y∈C.ky,y.1=s.1→∃ ad fd ps,FkX P w K mg base E T k s.1 y.2 ad fd ps∧jU K fd ps s.2.1 s.2.2.1 s.2.2.2
  km:∀ s∈C.mkk,∀ y∈C.ky,y.1=s.1→∃ c xi ad fd ps,MfX P w K mg base E T k s.1 y.2 c xi ad fd ps∧jU K fd ps 1 s.2.1 (.arg 0 :: s.2.2.map up1)
  kp:∀ s∈C.mkp,∀ y∈C.ky,y.1=s.1→∃ c xi ad fd ps,MfX P w K mg base E T k s.1 y.2 c xi ad fd ps∧jU K fd ps (s.2.1 + 1) s.2.2.1 (.arg 0 :: s.2.2.2.map up1)
  xc:∀ y∈C.xcl,aE5 P w K mg base E T k y.1 y.2
noncomputable def LP (K:W.Frag) (mg:Str→Option Value) (E:Ev) (cat:List String) (ns:List Str):Prop:= ∃ cs:List Addr,(∀ p∈ns.zip cs,mg p.1=some (.ref p.2))∧ns.length=cs.length∧(∀ c∈cs,LX.jO K c=true∧W.typeIn K (.ref c)=some (.type "type"))∧W.subIn K (.type "type") (.type "tuple")=some false∧∀ c∈cat,LX.iC K (E.cls c) cs=some true
structure Tf (P:Program) (w:World) (K:W.Frag) (mg:Str→Option Value) (base:Heap) (E:Ev) (T:Tb) (k:Nat) (C:Cfg):Prop where
  tr:C.tr=true→∀ x f z,Gf P w K mg base (E.at f z) (T.at x) k C.inT
  ca:C.tr=true→LP K mg E C.cat C.cln
  hh:C.tr=true→C.hs=true→∃ kh,kh + 1 < 40∧kh≤k∧Gf P w K mg base E T kh C.inH
structure Kn (X:Cx) (E:Ev) (T:Tb) (k:Nat) (C:Cfg):Prop where
  pl:Pl X E T (k + 1)
  N:X.N=C.N
  nd:C.N.Nodup
  nm:X.env.scope.names=C.names
  kd:X.env.scope.kind= .function
  fn:∀ x,(C.blk=false∨x∈C.own)→X.fn x=true
  ce:∀ x,C.names.lookup x=some .cell→∃ c,X.env.cells.lookup x=some c
  ps:PassesOwn (model X.prog X.w) X.A X.env X.xe
  gf:Gf X.prog X.w X.K X.mg X.base E T k C
  ow:(C.rz=true∨C.tr=true)→Own X
  xk:C.rz=true→∃ EX,(∀ e s',xeO X EX e s'→X.xe e s')∧KX E E.f0 E.z0 T.xp EX
  xi:aC3 X E T
  cm:C.cm=true→40≤k
  gu:C.rp=true→X.A.guards=some []
  tf:Tf X.prog X.w X.K X.mg X.base E T k C
theorem VB:∀ y∈OS,bootBuiltins y.1=some (JZ y.2)∧y.1≠"__name__"∧(y.1 == ("__debug__":Str))=false:=by
  intro y hy
  simp only [OS,List.mem_cons,List.not_mem_nil,or_false] at hy
  rcases hy with rfl | rfl | rfl | rfl | rfl | rfl | rfl | rfl | rfl | rfl | rfl | rfl | rfl | rfl | rfl <;> exact ⟨by first | exact PySem.boot_len | (with_unfolding_all rfl),by decide,by decide⟩
theorem aU {α β:Type} [BEq α] [LawfulBEq α]:∀ {l:List (α×β)} {x:α} {b:β},l.lookup x=some b→(x,b)∈l
  | [],_,_,h=>by cases h
  | (y,c) :: r,x,b,h=>by
    rw [List.lookup_cons] at h
    cases e:x == y with
    | true=>rw [e] at h; cases h; rw [beq_iff_eq.mp e]; exact List.mem_cons_self ..
    | false=>rw [e] at h; exact List.mem_cons_of_mem _ (aU h)
section
variable {X:Cx} {E:Ev} {T:Tb} {k:Nat} {C:Cfg}
theorem Kn.vis (K:Kn X E T k C) {x:Str} (h:aCB C x=true):Vis X.env.scope x:=by
  unfold aCB at h
  unfold Vis
  rw [K.nm]
  split at h
  · rename_i e; exact .inl e
  · rename_i e; exact .inr (.inl e)
  · rename_i e; exact .inr (.inr e)
  · cases h
theorem Kn.loc (K:Kn X E T k C) {x:Str} (h:OA C x=true):L2.Loc X.env.scope x∧(X.fn x=true∨X.env.scope.names.lookup x=some .local):=by
  unfold OA at h
  unfold L2.Loc
  rw [K.nm]
  split at h
  · rename_i e; exact ⟨.inl e,.inr e⟩
  · rename_i e
    exact ⟨.inr e,.inl (K.fn x (by
      rw [Bool.or_eq_true] at h
      exact h.imp (fun z=>by simpa using z) fun z=>List.contains_iff_mem.mp z))⟩
  · cases h
theorem Kn.gl (K:Kn X E T k C) {x:Str} (h:glB C x=true):Gl X x:=by
  unfold glB at h
  unfold Gl Env.kindOf
  rw [K.nm]
  exact beq_iff_eq.mp h
theorem iM {x:Str} (h:C.ky.lookup x=none):C.key x=x:=by unfold Cfg.key; rw [h]; rfl
theorem iE {x y:Str} (h:C.ky.lookup x=some y):C.key x=y:=by unfold Cfg.key; rw [h]; rfl
theorem Kn.co (K:Kn X E T k C) (hz:C.rz=true) {y:Str} {ad:Addr} {fd:FuncData} {ps:List Str} {j:Nat} (F:∃ S0 X0,bL X.prog X.w X.K X.mg X.base (CXo X.prog X.w) j ad fd ps (nQ E S0 X0)∧∀ xs G Q,T.S y xs G Q→S0 xs G Q∨X0 xs G T.xp):Co X E (T.S y) j ad fd ps:=by
  obtain ⟨S0,X0,F,h⟩:=F
  obtain ⟨EX,hx,kx⟩:=K.xk hz
  exact Co.ofX F h hx kx
theorem aO {e:Expr} {es:List Expr} {env:Env} (h:bS e=false):starEach (e :: es) env=(false,eval e env) :: starEach es env:=by
  cases e <;> first | rfl | (cases h)
theorem xJ {e:Expr} {es:List Expr} {env:Env} (h:bS e=false):assignEach (e :: es) env=(false,assign e env) :: assignEach es env:=by
  cases e <;> first | rfl | (cases h)
theorem eU {o:Expr} {f:Str} {env:Env} {w:Sem Value} (h:jV o=false):attributeBase o f env w=w:=by
  unfold attributeBase
  split
  · cases h
  · rfl
theorem nZ {op:CmpOp} {b:Expr} (h:nP b=false):behindInMarks op b=false:=by
  cases b <;> first | rfl | (cases h)
theorem lX {e:Expr} {env:Env} (h:nP e=false):∀ x,foldedSetIterable e env x=pure x:=by
  intro x
  cases e <;> first | rfl | (cases h)
theorem BM {e:Expr} (h:QB e=false):uT e:=by
  intro o i
  cases e <;> first | rfl | (cases h)
theorem pH (K:Kn X E T k C) (sc:Scope):(relabel sc X.env).names=fU C sc:=by
  unfold relabel fU Env.kindOf
  rw [K.nm,K.kd]
  simp
theorem zV {cl:List (Str×Addr)} {sc:Scope} (K:Kn X E T k C):∀ {l:List (Str×Option Nat)},(∀ p∈l,∀ j,p.2=some j→X.N[j]? =some p.1∧X.env.kindOf p.1=some .cell∧(relabel sc X.env).names.lookup p.1=some .cell∧∃ c,cl.lookup p.1=some c∧X.env.cells.lookup p.1=some c)→eY X sc cl (l.map (·.1)) (l.map (·.2))
  | [],_=>trivial
  | (n,none) :: r,h=>by
    show eY X sc cl (r.map (·.1)) (r.map (·.2))
    exact zV K fun p hp=>h p (List.mem_cons_of_mem _ hp)
  | (n,some j) :: r,h=>⟨h _ (List.mem_cons_self ..) j rfl,zV K fun p hp=>h p (List.mem_cons_of_mem _ hp)⟩
theorem fB {C:Cfg}:∀ {l:List (Str×NameKind)} {p:Str×Option Nat} {j:Nat},p∈jG C l→p.2=some j→(p.1,NameKind.free)∈l∧slot C.N p.1=some j∧C.names.lookup p.1=some .cell
  | [],_,_,h,_=>by cases h
  | (n, kk) :: r,p,j,h,e=>by
    unfold jG at h
    split at h
    · rcases List.mem_cons.mp h with z | z
      · subst z; cases e
      · obtain ⟨a,b⟩:=fB z e; exact ⟨List.mem_cons_of_mem _ a,b⟩
    · rcases List.mem_cons.mp h with z | z
      · subst z; cases e
      · obtain ⟨a,b⟩:=fB z e; exact ⟨List.mem_cons_of_mem _ a,b⟩
    · split at h
      · rename_i j' hs
        split at h
        · rename_i hc
          rcases List.mem_cons.mp h with z | z
          · subst z; cases e; exact ⟨List.mem_cons_self ..,hs,hc⟩
          · obtain ⟨a,b⟩:=fB z e; exact ⟨List.mem_cons_of_mem _ a,b⟩
        · obtain ⟨a,b⟩:=fB h e; exact ⟨List.mem_cons_of_mem _ a,b⟩
      · obtain ⟨a,b⟩:=fB h e; exact ⟨List.mem_cons_of_mem _ a,b⟩
    · obtain ⟨a,b⟩:=fB h e; exact ⟨List.mem_cons_of_mem _ a,b⟩
theorem DP {cells:List (Str×Addr)}:∀ {l:List (Str×NameKind)} {acc:List (Str×Addr)} {n:Str} {c:Addr},(n,c)∈clos cells l acc→(n,c)∈acc∨(n,NameKind.free)∈l
  | [],_,_,_,h=>.inl h
  | (m, k) :: r,acc,n,c,h=>by
    unfold clos at h
    rcases DP h with z | z
    · split at z
      · rename_i hk
        rcases List.mem_cons.mp z with e | z
        · cases e; subst hk; exact .inr (List.mem_cons_self ..)
        · exact .inl z
      · exact .inl z
    · exact .inr (List.mem_cons_of_mem _ z)
theorem KZ {sc:Scope} (h:rV C sc=true):C.cm=true:=by
  unfold rV at h
  simp only [Bool.and_eq_true] at h
  exact h.1.1.1.1
theorem Kn.block (K:Kn X E T k C) {sc:Scope} (h:rV C sc=true):∃ cl,gP X ((jG C sc.names).map (·.1)) sc cl ((jG C sc.names).map (·.2))∧∀ C0 s₀ H₀ ex,Kn (cxC X ((jG C sc.names).map (·.1)) sc cl C0 s₀ H₀ ex) E T k (yO C sc):=by
  unfold rV at h
  simp only [Bool.and_eq_true,List.all_eq_true,decide_eq_true_eq] at h
  obtain ⟨⟨⟨⟨_,hk⟩,hn⟩,hd⟩,hc⟩:=h
  have hk:sc.kind= .function:=beq_iff_eq.mp hk
  have fr:∀ y∈sc.names,y.2= .free→C.names.lookup y.1=some .cell:=fun y hy e=>by
    have:=(hn y hy).2
    rw [e] at this
    simpa using this
  have ncell:∀ x,(x,NameKind.cell)∈sc.names→(x,NameKind.free)∉ sc.names:=fun x hx hf=>by
    have:=(hn _ hx).1.1
    simp [hf] at this
  have hf:∀ y∈sc.names,y.2= .free→∃ c,X.env.cells.lookup y.1=some c:=fun y hy e=>K.ce y.1 (fr y hy e)
  have hcl:rC X.env.cells (clos X.env.cells sc.names []):=BV hf trivial
  have look:∀ n,(n,NameKind.free)∈sc.names→∃ c,(clos X.env.cells sc.names []).lookup n=some c∧X.env.cells.lookup n=some c:=fun n hn=>uI hcl (nN (.inr hn))
  refine ⟨clos X.env.cells sc.names [],⟨QE hf,(fun x hx=>by
    cases e:(clos X.env.cells sc.names []).lookup x with
    | none=>rfl
    | some c =>
      rcases DP (aU e) with z | z
      · cases z
      · exact absurd z (ncell x hx)),hk,fun y hy e=>?_,DC hcl fun n hn=>nN (.inr hn),hcl,zV K fun p hp j e=>?_⟩,fun C0 s₀ H₀ ex=>⟨⟨K.pl.hK,K.pl.calm,K.pl.room,K.pl.cls,K.pl.fld⟩,rfl,hd,pH K sc,hk,(fun x z=>by
    rcases z with z | z
    · cases z
    · obtain ⟨y,hy,e⟩:=List.mem_map.mp z
      obtain ⟨h1,h2⟩:=List.mem_filter.mp hy
      subst e
      refine List.contains_iff_mem.mpr ?_
      rw [show (y.1,NameKind.cell)=y from by rw [←beq_iff_eq.mp h2]]
      exact h1),fun x hx=>?_,PassesOwn.never,⟨K.gf.fns,K.gf.mks,K.gf.shs,K.gf.mkk,K.gf.gls,K.gf.tys,K.gf.blt,K.gf.eqs,K.gf.nes,K.gf.lns,K.gf.ows,K.gf.gds,K.gf.fvs,K.gf.mkp,K.gf.exs,(fun _ h=>nomatch h),(fun _ h=>nomatch h),(fun _ _ _ h=>nomatch h),(fun _ _ _ h=>nomatch h),(fun _ _ _ h=>nomatch h),(fun _ h=>nomatch h)⟩,(fun h=>by rcases h with h | h <;> cases h),(fun h=>by cases h),⟨K.xi.xi,K.xi.fx⟩,K.cm,K.gu,⟨(fun h=>by cases h),(fun h=>by cases h),(fun h=>by cases h)⟩⟩⟩
  · have:=(hn y hy).1.2
    rw [e] at this
    simpa using this
  · obtain ⟨hm,hs,hcell⟩:=fB hp e
    refine ⟨by rw [K.N]; exact dI hs,by unfold Env.kindOf; rw [K.nm]; exact hcell, ?_,look _ hm⟩
    rw [pH K sc]
    have:=hc p hp
    rw [e] at this
    simpa using this
  · have hx:(fU C sc).lookup x=some .cell:=hx
    have hm:=aU hx
    unfold fU at hm
    obtain ⟨⟨n,kk⟩,hy,e⟩:=List.mem_map.mp hm
    have e':(if (kk == NameKind.free && C.names.lookup n == some NameKind.cell)=true then (n,NameKind.cell) else (n,kk))=(x,NameKind.cell):=e
    split at e'
    · rename_i hcond
      cases e'
      have:kk= .free:=by
        rw [Bool.and_eq_true] at hcond
        exact beq_iff_eq.mp hcond.1
      subst this
      obtain ⟨c,h1,_⟩:=look x hy
      exact ⟨c,mF (fun z=>ncell x z hy) h1⟩
    · cases e'
      obtain ⟨c,h1,_⟩:=sK (n:=C0 + 1) (cl:=clos X.env.cells sc.names []) hy
      exact ⟨c,h1⟩
theorem kL {pos:Pos} {env:Env}:∀ {kws:List Keyword} {ks:List Str},kwN kws=some ks→(backToKw pos (keywordEach kws env)).all (·.1.isSome)=true∧(backToKw pos (keywordEach kws env)).filterMap (·.1)=ks∧(backToKw pos (keywordEach kws env)).any (·.1.isNone)=false∧kws.length=ks.length
  | [],ks,h=>by cases h; exact ⟨rfl,rfl,rfl,rfl⟩
  | ⟨some n,v,p⟩ :: r,ks,h=>by
    unfold kwN at h
    cases e:kwN r with
    | none=>rw [e] at h; cases h
    | some l =>
      rw [e] at h
      cases h
      obtain ⟨a,b,c,d⟩:=kL (pos:=pos) (env:=env) e
      refine ⟨?_, ?_, ?_,by rw [List.length_cons,List.length_cons,d]⟩
      · show (true && (backToKw pos (keywordEach r env)).all (·.1.isSome))=true
        rw [a]; rfl
      · show n :: (backToKw pos (keywordEach r env)).filterMap (·.1)=n :: l
        rw [b]
      · show (false || (backToKw pos (keywordEach r env)).any (·.1.isNone))=false
        rw [c]; rfl
  | ⟨none,v,p⟩ :: r,ks,h=>by cases h
end
structure Snd (E:Ev) (T:Tb) (k:Nat) (n:Nat):Prop where
  e:∀ X C m e c,Kn X E T k C→cE n C m e=some c→JE X E e (wpE T c)
  xe:∀ X C m e c,Kn X E T k C→xE n C m e=some c→JE X E e (wpE T c)
  ve:∀ X C e c,Kn X E T k C→vE n C e=some c→JE X E e (wpE T c)
  ze:∀ X C e c,Kn X E T k C→zE n C e=some c→JE X E e (wpE T c)
  xt:∀ X C e c,Kn X E T k C→xT n C e=some c→JT X E e (wpT T c)
  l:∀ X C es c,Kn X E T k C→cL n C es=some c→JA X E es (wpL T c)∧∀ e∈es,bS e=false
  j:∀ X C es c,Kn X E T k C→cJ n C es=some c→JJ X E es (wpJ T c)
  kk:∀ X C ks c,Kn X E T k C→cK n C ks=some c→JK X E ks (wpL T c)
  b:∀ X C op vs c pos,Kn X E T k C→cB n C op vs=some c→JE X E (.BoolOp op vs pos) (wpE T c)
  t:∀ X C e c,Kn X E T k C→cT n C e=some c→JT X E e (wpT T c)
  w:∀ X C op vs c pos,Kn X E T k C→cW n C op vs=some c→JW X E (.BoolOp op vs pos) (wpT T c)
  o:∀ X C o c,Kn X E T k C→cO n C o=some c→JO X E o (wpO T c)
  ts:∀ X C l c,Kn X E T k C→cTs n C l=some c→EU X E l (wpT T c)
  g:∀ X C e c,Kn X E T k C→cG n C e=some c→JG X E e (wpG T c)
  gs:∀ X C es c,Kn X E T k C→cGs n C es=some c→JGs X E es (gU T c)∧∀ e∈es,bS e=false
  i:∀ X C tg e c,Kn X E T k C→cI n C tg e=some c→JI X E tg e (wpI T c)
section
variable {E:Ev} {T:Tb} {k n:Nat}
theorem bnd {α β:Type} {o:Option α} {f:α→Option β} {b:β} (h:o.bind f=some b):∃ a,o=some a∧f a=some b:=Option.bind_eq_some_iff.mp h
theorem dM {pos:Pos} {env:Env}:∀ {es:List Expr},(∀ e∈es,bS e=false)→(backTo pos (starEach es env)).any (·.1)=false
  | [],_=>rfl
  | e :: r,h=>by
    rw [aO (h e (List.mem_cons_self ..))]
    show (false || (backTo pos (starEach r env)).any (·.1))=false
    rw [dM fun x hx=>h x (List.mem_cons_of_mem _ hx)]; rfl
theorem DG {env:Env}:∀ {es:List Expr},(∀ e∈es,bS e=false)→(assignEach es env).length=es.length∧(assignEach es env).findIdx? (·.1)=none
  | [],_=>⟨rfl,rfl⟩
  | e :: r,h=>by
    obtain ⟨a,b⟩:=DG (env:=env) (es:=r) fun x hx=>h x (List.mem_cons_of_mem _ hx)
    rw [xJ (h e (List.mem_cons_self ..))]
    refine ⟨by rw [List.length_cons,List.length_cons,a], ?_⟩
    rw [List.findIdx?_cons]
    simp only [b]
    rfl
theorem XU {op op':CmpOp} {b c:Expr} (h:nP c=false):lastMarks [op,op'] [b,c]=false:=by
  show lastMarks [op'] [c]=false
  exact nZ h
theorem nC {α:Type} {l:List α} {p:α→Bool} {s:α} (h:l.find? p=some s):s∈l∧p s=true:=⟨List.mem_of_find?_eq_some h,List.find?_some h⟩
theorem fY {x:Str} (h:gM x=true):(x == ("__debug__":Str))=false∧(x == ("__classdict__":Str))=false:=by
  unfold gM at h
  rw [Bool.and_eq_true,Bool.not_eq_true',Bool.not_eq_true'] at h
  exact h
theorem or2 {a b:Bool} (h:¬(a || b)=true):a=false∧b=false:=by cases a <;> cases b <;> simp at h ⊢
theorem aHe:Snd E T k 0:=by
  constructor <;> (intros; rename_i h; first | (unfold vE at h; cases h) | (unfold zE at h; cases h) | (unfold cJ at h; cases h) | (unfold cE at h; cases h) | (unfold cL at h; cases h) | (unfold cK at h; cases h) | (unfold cB at h; cases h) | (unfold cT at h; cases h) | (unfold cW at h; cases h) | (unfold cO at h; cases h) | (unfold cTs at h; cases h) | (unfold cG at h; cases h) | (unfold cGs at h; cases h) | (unfold cI at h; cases h))
theorem aEL (S:Snd E T k n):∀ X C es c,Kn X E T k C→cL (n + 1) C es=some c→JA X E es (wpL T c)∧∀ e∈es,bS e=false:=by
  intro X C es c K h
  cases es with
  | nil=>unfold cL at h; cases h; exact ⟨aCw,fun e he=>nomatch he⟩
  | cons e r =>
    unfold cL at h
    dsimp only at h
    split at h
    · cases h
    · rename_i hs
      obtain ⟨e',h1,h⟩:=bnd h
      obtain ⟨r',h2,h⟩:=bnd h
      cases h
      have hs:bS e=false:=by simpa using hs
      obtain ⟨a,b⟩:=S.l X C r r' K h2
      refine ⟨WB (S.e X C false e e' K h1) a (aO hs),fun x hx=>?_⟩
      rcases List.mem_cons.mp hx with z | z
      · rw [z]; exact hs
      · exact b x z
theorem aFh (S:Snd E T k n):∀ X C es c,Kn X E T k C→cJ (n + 1) C es=some c→JJ X E es (wpJ T c):=by
  intro X C es c K h
  cases es with
  | nil=>unfold cJ at h; cases h; exact ZM
  | cons e r =>
    unfold cJ at h
    dsimp only at h
    split at h
    · obtain ⟨e',h1,h⟩:=bnd h
      obtain ⟨r',h2,h⟩:=bnd h
      cases h
      exact aES (S.e X C false _ e' K h1) (S.j X C r r' K h2) rfl
    · obtain ⟨r',h2,h⟩:=bnd h
      cases h
      exact aBO KR (S.j X C r r' K h2) rfl
    · cases h
theorem aDS (S:Snd E T k n):∀ X C ks c,Kn X E T k C→cK (n + 1) C ks=some c→JK X E ks (wpL T c):=by
  intro X C ks c K h
  cases ks with
  | nil=>unfold cK at h; cases h; exact PM
  | cons e r =>
    obtain ⟨nm,v,p⟩:=e
    unfold cK at h
    dsimp only at h
    obtain ⟨e',h1,h⟩:=bnd h
    obtain ⟨r',h2,h⟩:=bnd h
    cases h
    exact TM (S.e X C false v e' K h1) (S.kk X C r r' K h2)
theorem aDJ (S:Snd E T k n):∀ X C op vs c pos,Kn X E T k C→cB (n + 1) C op vs=some c→JE X E (.BoolOp op vs pos) (wpE T c):=by
  intro X C op vs c pos K h
  unfold cB at h
  split at h
  · cases h
  · exact aAv (S.e X C false _ c K h)
  · obtain ⟨a',h1,h⟩:=bnd h
    obtain ⟨b',h2,h⟩:=bnd h
    cases op with
    | And=>cases h; exact aEi K.pl (S.e X C false _ a' K h1) (S.b X C .And _ b' pos K h2)
    | Or=>cases h; exact aEZ K.pl (S.e X C false _ a' K h1) (S.b X C .Or _ b' pos K h2)
theorem aEY (S:Snd E T k n):∀ X C op vs c pos,Kn X E T k C→cW (n + 1) C op vs=some c→JW X E (.BoolOp op vs pos) (wpT T c):=by
  intro X C op vs c pos K h
  unfold cW at h
  split at h
  · cases h
  · cases op with
    | And=>exact aA1 (S.t X C _ c K h)
    | Or=>exact aAc (S.t X C _ c K h)
  · obtain ⟨a',h1,h⟩:=bnd h
    obtain ⟨b',h2,h⟩:=bnd h
    cases op with
    | And=>cases h; exact aFk (S.t X C _ a' K h1) (S.w X C .And _ b' pos K h2)
    | Or=>cases h; exact aFa (S.t X C _ a' K h1) (S.w X C .Or _ b' pos K h2)
theorem aEd (S:Snd E T k n):∀ X C o c,Kn X E T k C→cO (n + 1) C o=some c→JO X E o (wpO T c):=by
  intro X C o c K h
  unfold cO at h
  split at h
  · cases h; exact aAh
  · obtain ⟨e',h1,h⟩:=bnd h
    cases h
    exact QG (S.e X C false _ e' K h1)
theorem aBN (S:Snd E T k n):∀ X C l c,Kn X E T k C→cTs (n + 1) C l=some c→EU X E l (wpT T c):=by
  intro X C l c K h
  unfold cTs at h
  split at h
  · cases h; exact aF9
  · exact aF6 (S.t X C _ c K h)
  · cases h
theorem aDL (S:Snd E T k n):∀ X C e c,Kn X E T k C→cG (n + 1) C e=some c→JG X E e (wpG T c):=by
  intro X C e c K h
  unfold cG at h
  split at h
  · split at h
    · rename_i hl
      obtain ⟨i,h1,h⟩:=bnd h
      cases h
      obtain ⟨a,b⟩:=K.loc hl
      exact uP (by rw [K.N]; exact K.nd) (by rw [K.N]; exact dI h1) a b
    · cases h
  · split at h
    · rename_i hcm
      obtain ⟨g,h1,h⟩:=bnd h
      cases h
      obtain ⟨a,b⟩:=S.gs X C _ g K h1
      obtain ⟨l1,l2⟩:=DG (env:=X.env) b
      exact aB0 K.pl (Nat.le_succ_of_le (K.cm hcm)) a l1 l2
    · cases h
  · cases h
theorem aAM (S:Snd E T k n):∀ X C es c,Kn X E T k C→cGs (n + 1) C es=some c→JGs X E es (gU T c)∧∀ e∈es,bS e=false:=by
  intro X C es c K h
  cases es with
  | nil=>unfold cGs at h; cases h; exact ⟨TZ,fun e he=>nomatch he⟩
  | cons e r =>
    unfold cGs at h
    dsimp only at h
    split at h
    · cases h
    · rename_i hs
      obtain ⟨e',h1,h⟩:=bnd h
      obtain ⟨r',h2,h⟩:=bnd h
      cases h
      have hs:bS e=false:=by simpa using hs
      obtain ⟨a,b⟩:=S.gs X C r r' K h2
      refine ⟨OL (S.g X C e e' K h1) a (by rw [xJ hs]; rfl),fun x hx=>?_⟩
      rcases List.mem_cons.mp hx with z | z
      · rw [z]; exact hs
      · exact b x z
theorem aDD (S:Snd E T k n):∀ X C e c,Kn X E T k C→cT (n + 1) C e=some c→JT X E e (wpT T c):=by
  intro X C e c K h
  unfold cT at h
  split at h
  · rename_i c2 hx
    cases h
    exact S.xt X C e _ K hx
  split at h
  · exact (S.w X C _ _ c _ K h).jt
  · obtain ⟨a',h1,h⟩:=bnd h
    cases h
    exact aEE (S.t X C _ a' K h1)
  · split at h
    · split at h
      · cases h
      · rename_i hs
        obtain ⟨a',h1,h⟩:=bnd h
        obtain ⟨b',h2,h⟩:=bnd h
        cases h
        exact aCJ K.pl (nZ (by simpa using hs)) (S.e X C false _ a' K h1) (S.e X C false _ b' K h2)
    · split at h
      · cases h
      · rename_i hs
        obtain ⟨a',h1,h⟩:=bnd h
        obtain ⟨b',h2,h⟩:=bnd h
        obtain ⟨c',h3,h⟩:=bnd h
        cases h
        exact aAp K.pl (XU (by simpa using hs)) (S.e X C false _ a' K h1) (S.e X C false _ b' K h2) (S.e X C false _ c' K h3)
    · cases h
  · obtain ⟨e',h1,h⟩:=bnd h
    cases h
    exact uX K.pl (S.e X C false _ e' K h1) fun _=>rfl
  · obtain ⟨e',h1,h⟩:=bnd h
    cases h
    exact uX K.pl (S.e X C false _ e' K h1) fun _=>rfl
  · obtain ⟨e',h1,h⟩:=bnd h
    cases h
    exact uX K.pl (S.e X C false _ e' K h1) fun _=>rfl
  · obtain ⟨e',h1,h⟩:=bnd h
    cases h
    exact uX K.pl (S.e X C false _ e' K h1) fun _=>rfl
  · cases h
theorem aEP (S : Snd E T k n):∀ X C tg e c,Kn X E T k C→cI (n + 1) C tg e=some c→JI X E tg e (wpI T c):=by
  intro X C tg e c K h
  unfold cI at h
  split at h
  · split at h
    · cases h
    · split at h
      · split at h
        · cases h
        · rename_i hs
          split at h
          · rename_i hx
            split at h
            · rename_i hb
              rw [Bool.and_eq_true] at hb
              obtain ⟨a',h1,h⟩:=bnd h
              cases h
              subst hx
              exact QL (K.gl hb.1) (K.gf.blt _ (by simpa using hb.2)) (S.e X C false _ a' K h1) (aO (by simpa using hs))
            · cases h
          · split at h
            · rename_i hx
              split at h
              · split at h
                · rename_i hb
                  rw [Bool.and_eq_true] at hb
                  obtain ⟨a',h1,h⟩:=bnd h
                  cases h
                  subst hx
                  exact ZS K.pl (K.gl hb.1) (K.gf.blt _ (by simpa using hb.2)) (S.e X C false _ a' K h1) (aO (by simpa using hs))
                · cases h
              · cases h
            · obtain ⟨e',h1,h⟩:=bnd h
              cases h
              exact tT K.pl (S.e X C false _ e' K h1)
      · split at h
        · cases h
        · rename_i hs
          have hs':=or2 hs
          split at h
          · rename_i hx
            split at h
            · rename_i hb
              rw [Bool.and_eq_true] at hb
              obtain ⟨a',h1,h⟩:=bnd h
              obtain ⟨b',h2,h⟩:=bnd h
              cases h
              subst hx
              exact SI (K.gl hb.1) (K.gf.blt _ (by simpa using hb.2)) (S.e X C false _ a' K h1) (S.e X C false _ b' K h2) (by rw [aO hs'.1,aO hs'.2]; rfl) (aO hs'.2)
            · cases h
          · obtain ⟨e',h1,h⟩:=bnd h
            cases h
            exact tT K.pl (S.e X C false _ e' K h1)
      · obtain ⟨e',h1,h⟩:=bnd h
        cases h
        exact tT K.pl (S.e X C false _ e' K h1)
  · split at h
    · cases h
    · obtain ⟨e',h1,h⟩:=bnd h
      cases h
      exact tT K.pl (S.e X C false _ e' K h1)
theorem LC (S:Snd E T k n) {X:Cx} {C:Cfg} {x:Str} {p pos:Pos} {e:Expr} {r:List Expr} {es':CE} (K:Kn X E T k C) (hg:glB C x=true) (hc:C.fns.contains x=true∨C.mks.contains x=true) (h:cL n C (e :: r)=some es'):JE X E (.Call (.Name x p) (e :: r) [] pos) (wpE T (.cal (C.key x) es')):=by
  obtain ⟨a,b⟩:=S.l X C _ es' K h
  have s1:=aO (env:=X.env) (es:=r) (b e (List.mem_cons_self ..))
  have s2:=dM (pos:=pos) (env:=X.env) fun y hy=>b y (List.mem_cons_of_mem _ hy)
  cases hy:C.ky.lookup x with
  | none =>
    rw [iM hy]
    rcases hc with hc | hc
    · obtain ⟨ad,fd,ps,F,hb⟩:=K.gf.fns x (by simpa using hc)
      exact LA (.of F.ok) (K.pl.room.mono (Nat.le_succ _)) (K.gl hg) F.mg F.kp hb F.db a s1 s2
    · obtain ⟨c,xi,ad,fd,ps,F,hb⟩:=K.gf.mks x (by simpa using hc)
      exact ON F.mkr (.of F.ok) K.pl.room (K.gl hg) F.mg hb F.ms F.db a s1 s2
  | some y =>
    rw [iE hy]
    have hz:=K.gf.kr _ (aU hy)
    obtain ⟨f1,f2⟩:=K.gf.kf _ (aU hy)
    rcases hc with hc | hc
    · obtain ⟨ad,fd,ps,F,hb⟩:=f1 (by simpa using hc)
      exact LA (K.co hz F.ok) (K.pl.room.mono (Nat.le_succ _)) (K.gl hg) F.mg F.kp hb F.db a s1 s2
    · obtain ⟨c,xi,ad,fd,ps,F,hb⟩:=f2 (by simpa using hc)
      exact ON F.mkr (K.co hz F.ok) K.pl.room (K.gl hg) F.mg hb F.ms F.db a s1 s2
theorem NQ (S:Snd E T k n) {X:Cx} {C:Cfg} {x:Str} {p pos:Pos} {e:Expr} {r:List Expr} {kws:List Keyword} {ks:List Str} {s:Str×Nat×List Str×List Ar} {es' ks':CE} (K:Kn X E T k C) (hg:glB C x=true) (hk:kwN kws=some ks)
    (hf:C.shs.find? (fun s=>s.1 == x && s.2.1 == (e :: r).length && s.2.2.1 == ks)=some s) (h:cL n C (e :: r)=some es') (h2:JK X E kws (wpL T ks')):JE X E (.Call (.Name x p) (e :: r) kws pos) (wpE T (.cak (C.key x) es' ks' s.2.2.2)):=by
  obtain ⟨a,b⟩:=S.l X C _ es' K h
  have s1:=aO (env:=X.env) (es:=r) (b e (List.mem_cons_self ..))
  have s2:=dM (pos:=pos) (env:=X.env) (es:=e :: r) b
  obtain ⟨hm,hp⟩:=nC hf
  simp only [Bool.and_eq_true,beq_iff_eq] at hp
  obtain ⟨⟨e1,e2⟩,e3⟩:=hp
  obtain ⟨k1,k2,k3,k4⟩:=kL (pos:=pos) (env:=X.env) hk
  cases hy:C.ky.lookup x with
  | none =>
    rw [iM hy]
    obtain ⟨ad,fd,ps,F,hb⟩:=K.gf.shs s hm
    rw [e1] at F
    exact KY (.of F.ok) (K.pl.room.mono (Nat.le_succ _)) (K.gl hg) F.mg F.kp hb F.db a h2 e2.symm (by rw [e3]; exact k4) k1 (by rw [e3]; exact k2) s1 (by rw [s2,k3]; rfl)
  | some y =>
    rw [iE hy]
    obtain ⟨ad,fd,ps,F,hb⟩:=K.gf.ks s hm _ (aU hy) e1.symm
    rw [e1] at F
    exact KY (K.co (K.gf.kr _ (aU hy)) F.ok) (K.pl.room.mono (Nat.le_succ _)) (K.gl hg) F.mg F.kp hb F.db a h2 e2.symm (by rw [e3]; exact k4) k1 (by rw [e3]; exact k2) s1 (by rw [s2,k3]; rfl)
theorem aA0 (S:Snd E T k n):∀ X C e c,Kn X E T k C→vE (n + 1) C e=some c→JE X E e (wpE T c):=by
  intro X C e c K h
  unfold vE at h
  split at h
  · split at h
    · rename_i hc
      simp only [Bool.and_eq_true,beq_iff_eq,Bool.not_eq_true'] at hc
      obtain ⟨⟨⟨⟨⟨⟨e1,_⟩,g1⟩,b1⟩,g2⟩,p2⟩,st⟩:=hc
      obtain ⟨a',h1,h⟩:=bnd h
      cases h
      subst e1
      exact aBy K.xi (S.e X C false _ a' K h1) (K.gl g1) (K.gf.blt _ (by simpa using b1)) (K.gl g2) (fY p2).1 (aO st)
    · cases h
  · split at h
    · rename_i hc
      simp only [Bool.and_eq_true,Bool.not_eq_true'] at hc
      obtain ⟨a',h1,h⟩:=bnd h
      cases h
      exact aAY K.xi (S.e X C false _ a' K h1) (eU hc.2)
    · cases h
  · cases h
theorem aBZ (S:Snd E T k n):∀ X C e c,Kn X E T k C→zE (n + 1) C e=some c→JE X E e (wpE T c):=by
  intro X C e c K h
  unfold zE at h
  split at h
  · split at h
    · rename_i hg
      obtain ⟨ks,h0,h⟩:=bnd h
      split at h
      · rename_i s hf
        obtain ⟨es',h1,h⟩:=bnd h
        obtain ⟨ks',h2,h⟩:=bnd h
        cases h
        obtain ⟨a,b⟩:=S.l X C _ es' K h1
        obtain ⟨hm,hp⟩:=nC hf
        simp only [Bool.and_eq_true,beq_iff_eq] at hp
        obtain ⟨⟨e1,e2⟩,e3⟩:=hp
        obtain ⟨k1,k2,k3,k4⟩:=kL (env:=X.env) h0
        cases hy:C.ky.lookup _ with
        | none =>
          rw [iM hy]
          obtain ⟨c,xi,ad,fd,ps,F,hb⟩:=K.gf.mkp s hm
          rw [e1] at F
          exact CY F.mkr (.of F.ok) K.pl.room (K.gl hg) F.mg hb F.ms F.db a (S.kk X C _ ks' K h2) e2.symm (by rw [e3]; exact k4) k1 (by rw [e3]; exact k2) (aO (b _ (List.mem_cons_self ..))) (by rw [dM b,k3]; rfl)
        | some y =>
          rw [iE hy]
          obtain ⟨c,xi,ad,fd,ps,F,hb⟩:=K.gf.kp s hm _ (aU hy) e1.symm
          rw [e1] at F
          exact CY F.mkr (K.co (K.gf.kr _ (aU hy)) F.ok) K.pl.room (K.gl hg) F.mg hb F.ms F.db a (S.kk X C _ ks' K h2) e2.symm (by rw [e3]; exact k4) k1 (by rw [e3]; exact k2) (aO (b _ (List.mem_cons_self ..))) (by rw [dM b,k3]; rfl)
      · cases h
    · cases h
  · cases h
theorem ZO (S:Snd E T k n):∀ X C m e c,Kn X E T k C→xE (n + 1) C m e=some c→JE X E e (wpE T c):=by
  intro X C m e c K h
  unfold xE at h
  dsimp only at h
  split at h
  · cases h
    exact aBv
  · cases h
theorem aCp (S:Snd E T k n):∀ X C e c,Kn X E T k C→xT (n + 1) C e=some c→JT X E e (wpT T c):=by
  intro X C e c K h
  simp [xT] at h
theorem aFi (S:Snd E T k n):∀ X C m e c,Kn X E T k C→cE (n + 1) C m e=some c→JE X E e (wpE T c):=by
  intro X C m e c K h
  unfold cE at h
  split at h
  · rename_i c2 hx
    cases h
    exact S.ve X C e _ K hx
  split at h
  · rename_i c2 hx
    cases h
    exact S.ze X C e _ K hx
  split at h
  · rename_i c2 hx
    cases h
    exact S.xe X C m e _ K hx
  split at h
  · -- a name
    split at h
    · rename_i hp
      obtain ⟨d1,d2⟩:=fY hp
      split at h
      · rename_i i hs
        split at h
        · rename_i hv
          cases h
          exact aBR (by rw [K.N]; exact dI hs) (K.vis hv) d1 d2
        · cases h
      · split at h
        · rename_i hg
          rw [Bool.and_eq_true,Bool.or_eq_true] at hg
          cases h
          rcases hg.2 with hh | hh
          · obtain ⟨u,v,h1,h2,h3⟩:=K.gf.gls _ (by simpa using hh)
            exact aA5 (K.gl hg.1) h1 h2 h3 d1
          · obtain ⟨h1,⟨nn,h2,h3⟩,h4⟩:=K.gf.tys _ (by simpa using hh)
            exact aD7 (K.gl hg.1) h1 h2 h3 h4 d1
        · cases h
    · cases h
  · split at h
    · cases h; exact aAP
    · cases h; exact aDp
    · cases h; exact aCQ
    · cases h; exact KR
    · cases h
  · obtain ⟨a',h1,h⟩:=bnd h
    obtain ⟨b',h2,h⟩:=bnd h
    cases h
    exact aBG K.pl (S.e X C false _ a' K h1) (S.e X C false _ b' K h2)
  · split at h
    · obtain ⟨a',h1,h⟩:=bnd h
      cases h
      exact aDc (S.e X C false _ a' K h1)
    · obtain ⟨a',h1,h⟩:=bnd h
      cases h
      exact aDK K.pl (S.e X C false _ a' K h1)
    · cases h
  · exact S.b X C _ _ c _ K h
  · split at h
    · split at h
      · cases h
      · rename_i hs
        obtain ⟨a',h1,h⟩:=bnd h
        obtain ⟨b',h2,h⟩:=bnd h
        cases h
        exact aB9 K.pl (nZ (by simpa using hs)) (S.e X C false _ a' K h1) (S.e X C false _ b' K h2)
    · split at h
      · cases h
      · rename_i hs
        obtain ⟨a',h1,h⟩:=bnd h
        obtain ⟨b',h2,h⟩:=bnd h
        obtain ⟨c',h3,h⟩:=bnd h
        cases h
        exact aB8 K.pl (XU (by simpa using hs)) (S.e X C false _ a' K h1) (S.e X C false _ b' K h2) (S.e X C false _ c' K h3)
    · cases h
  · obtain ⟨es',h1,h⟩:=bnd h
    cases h
    exact aBs (S.l X C _ es' K h1).1
  · obtain ⟨es',h1,h⟩:=bnd h
    cases h
    exact aBW (S.l X C _ es' K h1).1
  · split at h
    · obtain ⟨a',h1,h⟩:=bnd h
      obtain ⟨l',h2,h⟩:=bnd h
      obtain ⟨u',h3,h⟩:=bnd h
      cases h
      exact aBb K.pl (S.e X C false _ a' K h1) (S.o X C _ l' K h2) (S.o X C _ u' K h3)
    · obtain ⟨a',h1,h⟩:=bnd h
      cases h
      exact aB2 K.pl (S.e X C false _ a' K h1)
    · split at h
      · cases h
      · rename_i hs
        obtain ⟨a',h1,h⟩:=bnd h
        obtain ⟨i',h2,h⟩:=bnd h
        cases h
        exact aC1 K.pl (S.e X C false _ a' K h1) (S.e X C false _ i' K h2) (BM (by simpa using hs))
  · split at h
    · cases h
    · rename_i hs
      obtain ⟨a',h1,h⟩:=bnd h
      cases h
      exact aBh K.pl (S.e X C false _ a' K h1) (eU (by simpa using hs))
  · split at h
    · split at h
      · rename_i hg
        split at h
        · rename_i b hb
          split at h
          · rename_i hc
            obtain ⟨hc,hcm⟩:=Bool.and_eq_true_iff.mp hc
            have h40:FV b=true→40≤k:=fun z=>K.cm (by rw [z] at hcm; simpa using hcm)
            obtain ⟨es',h1,h⟩:=bnd h
            cases h
            obtain ⟨a,st⟩:=S.l X C _ es' K h1
            obtain ⟨b1,b2,b3⟩:=VB _ (aU hb)
            split
            · rename_i ls hl
              exact aCv K.pl h40 (fun y hy=>⟨K.gf.ows _ (aU hl) b hb y hy⟩) (K.gl hg) (K.gf.blt _ (by simpa using hc)) b1 b2 b3 a (aO (st _ (List.mem_cons_self ..))) (dM fun y hy=>st y (List.mem_cons_of_mem _ hy))
            exact aCs K.pl (fun z=>Nat.le_succ_of_le (h40 z)) (K.gl hg) (K.gf.blt _ (by simpa using hc)) b1 b2 b3 a (aO (st _ (List.mem_cons_self ..))) (dM fun y hy=>st y (List.mem_cons_of_mem _ hy))
          · cases h
        · split at h
          · rename_i s hf
            obtain ⟨es',h1,h⟩:=bnd h
            cases h
            exact NQ S K hg (ks:=[]) rfl hf h1 PM
          · split at h
            · rename_i hc
              obtain ⟨es',h1,h⟩:=bnd h
              cases h
              rw [Bool.or_eq_true] at hc
              exact LC S K hg hc h1
            · cases h
      · cases h
    · split at h
      · rename_i hg
        obtain ⟨ks,hk,h⟩:=bnd h
        split at h
        · rename_i s hf
          obtain ⟨es',h1,h⟩:=bnd h
          obtain ⟨ks',h2,h⟩:=bnd h
          cases h
          exact NQ S K hg hk hf h1 (S.kk X C _ ks' K h2)
        · cases h
      · cases h
    · split at h
      · rename_i hg
        obtain ⟨ks,hk,h⟩:=bnd h
        obtain ⟨k1,k2,k3,k4⟩:=kL (pos:=_) (env:=X.env) hk
        split at h
        · rename_i s hf
          obtain ⟨ks',h2,h⟩:=bnd h
          cases h
          obtain ⟨hm,hp⟩:=nC hf
          simp only [Bool.and_eq_true,beq_iff_eq] at hp
          obtain ⟨⟨e1,e2⟩,e3⟩:=hp
          cases hy:C.ky.lookup _ with
          | none =>
            rw [iM hy]
            obtain ⟨ad,fd,ps,F,hb⟩:=K.gf.shs s hm
            rw [e1] at F
            rw [e2] at hb
            exact DN (.of F.ok) (K.pl.room.mono (Nat.le_succ _)) (K.gl hg) F.mg F.kp hb F.db (S.kk X C _ ks' K h2) (by rw [e3]; exact k4) k1 (by rw [e3]; exact k2) (by rw [k3]; rfl)
          | some y =>
            rw [iE hy]
            obtain ⟨ad,fd,ps,F,hb⟩:=K.gf.ks s hm _ (aU hy) e1.symm
            rw [e1] at F
            rw [e2] at hb
            exact DN (K.co (K.gf.kr _ (aU hy)) F.ok) (K.pl.room.mono (Nat.le_succ _)) (K.gl hg) F.mg F.kp hb F.db (S.kk X C _ ks' K h2) (by rw [e3]; exact k4) k1 (by rw [e3]; exact k2) (by rw [k3]; rfl)
        · split at h
          · rename_i s hf
            obtain ⟨ks',h2,h⟩:=bnd h
            cases h
            obtain ⟨hm,hp⟩:=nC hf
            simp only [Bool.and_eq_true,beq_iff_eq] at hp
            obtain ⟨e1,e3⟩:=hp
            cases hy:C.ky.lookup _ with
            | none =>
              rw [iM hy]
              obtain ⟨c,xi,ad,fd,ps,F,hb⟩:=K.gf.mkk s hm
              rw [e1] at F
              exact DW F.mkr (.of F.ok) K.pl.room (K.gl hg) F.mg hb F.ms F.db (S.kk X C _ ks' K h2) (by rw [e3]; exact k4) k1 (by rw [e3]; exact k2) (by rw [k3]; rfl)
            | some y =>
              rw [iE hy]
              obtain ⟨c,xi,ad,fd,ps,F,hb⟩:=K.gf.km s hm _ (aU hy) e1.symm
              rw [e1] at F
              exact DW F.mkr (K.co (K.gf.kr _ (aU hy)) F.ok) K.pl.room (K.gl hg) F.mg hb F.ms F.db (S.kk X C _ ks' K h2) (by rw [e3]; exact k4) k1 (by rw [e3]; exact k2) (by rw [k3]; rfl)
          · cases h
      · cases h
    · split at h
      · rename_i hc
        simp only [Bool.and_eq_true,decide_eq_true_eq,Bool.not_eq_true'] at hc
        obtain ⟨⟨⟨e1,e2⟩,e3⟩,e4⟩:=hc
        obtain ⟨o',h1,h⟩:=bnd h
        obtain ⟨e',h2,h⟩:=bnd h
        cases h
        subst e1
        exact ZQ (S.e X C false _ o' K h1) (S.e X C false _ e' K h2) (eU e2) (aO e3) e4
      · split at h
        · rename_i hc
          simp only [Bool.and_eq_true,decide_eq_true_eq,Bool.not_eq_true'] at hc
          obtain ⟨⟨⟨e1,e2⟩,e3⟩,e4⟩:=hc
          obtain ⟨o',h1,h⟩:=bnd h
          obtain ⟨e',h2,h⟩:=bnd h
          cases h
          subst e1
          exact aB3 K.pl (S.e X C false _ o' K h1) (S.e X C false _ e' K h2) (eU e2) (aO e3) e4
        · split at h
          · rename_i hc
            simp only [Bool.and_eq_true,decide_eq_true_eq,Bool.not_eq_true'] at hc
            obtain ⟨⟨⟨e1,e2⟩,e3⟩,e4⟩:=hc
            obtain ⟨o',h1,h⟩:=bnd h
            obtain ⟨e',h2,h⟩:=bnd h
            cases h
            subst e1
            exact aCj (S.e X C false _ o' K h1) (S.e X C false _ e' K h2) (eU e2) (aO e3) e4
          · split at h
            · rename_i hc
              simp only [Bool.and_eq_true,decide_eq_true_eq,Bool.not_eq_true'] at hc
              obtain ⟨⟨⟨e1,e2⟩,e3⟩,e4⟩:=hc
              obtain ⟨o',h1,h⟩:=bnd h
              obtain ⟨e',h2,h⟩:=bnd h
              cases h
              subst e1
              exact aAL (S.e X C false _ o' K h1) (S.e X C false _ e' K h2) (eU e2) (aO e3) e4
            · cases h
    · cases h
  · split at h
    · split at h
      · rename_i hb
        rw [Bool.and_eq_true] at hb
        obtain ⟨it',h1,h⟩:=bnd h
        obtain ⟨tg',h2,h⟩:=bnd h
        obtain ⟨ts',h3,h⟩:=bnd h
        obtain ⟨el',h4,h⟩:=bnd h
        cases h
        obtain ⟨cl,B,KB⟩:=K.block hb.1
        exact RK B K.pl (Nat.le_succ_of_le (K.cm (KZ hb.1))) (S.i X C _ _ it' K h1) (fun C0 s₀ H₀ ex=>S.g _ _ _ tg' (KB C0 s₀ H₀ ex) h2) (fun C0 s₀ H₀ ex=>S.ts _ _ _ ts' (KB C0 s₀ H₀ ex) h3) (fun C0 s₀ H₀ ex=>S.e _ _ false _ el' (KB C0 s₀ H₀ ex) h4) (lX (by simpa using hb.2))
      · cases h
    · cases h
  · obtain ⟨es',h1,h⟩:=bnd h
    cases h
    exact aCh (S.j X C _ es' K h1)
  · cases h
theorem snd:∀ n,Snd E T k n
  | 0=>aHe
  | n + 1=>⟨aFi (snd n),ZO (snd n),aA0 (snd n),aBZ (snd n),aCp (snd n),aEL (snd n),aFh (snd n),aDS (snd n),aDJ (snd n),aDD (snd n),aEY (snd n),aEd (snd n),aBN (snd n),aDL (snd n),aAM (snd n),aEP (snd n)⟩
end
section
variable {X:Cx} {E:Ev} {T:Tb} {k:Nat} {C:Cfg}
theorem uJ (K:Kn X E T k C):X.env.blockKind= .function:=by
  unfold Env.blockKind
  rw [K.kd]; rfl
noncomputable def aF7:Expr→Bool
  | .Tuple .. =>true
  | _=>false
noncomputable def VA:Expr→Bool
  | .Tuple vs _ _=> !(vs.all (foldedForSure 8))
  | _=>false
theorem aBn {ts:List Expr} {kt:Nat} {pt:Pos} {value:Expr} {env:Env} (h:aF7 value=false):swappedStores [.Tuple ts kt pt] value env=pure none:=by
  cases value <;> first | rfl | (cases h)
theorem RG {ts vs:List Expr} {kt kv:Nat} {pt pv:Pos} {env:Env} (h:vs.all (foldedForSure 8)=true):swappedStores [.Tuple ts kt pt] (.Tuple vs kv pv) env=pure none:=by
  unfold swappedStores
  dsimp only
  split
  · rfl
  · split
    · rfl
    · split
      · rfl
      · first | rfl | rw [if_pos h]
theorem aBP {ts:List Expr} {kt:Nat} {pt:Pos} {v:Expr} {env:Env} (h:¬VA v=true):swappedStores [.Tuple ts kt pt] v env=pure none:=by
  cases v with
  | Tuple vs kv pv =>
    refine RG ?_
    cases e:vs.all (foldedForSure 8) with
    | true=>rfl
    | false=>exact absurd (show (!(vs.all (foldedForSure 8)))=true by rw [e]; rfl) h
  | _=>exact aBn rfl
theorem aBJ (K:Kn X E T k C) {x y:Str} {px py pt pt2:Pos} {kt k2:Nat} {a b:Expr} (hx:C.names.lookup x=some .local) (hy:C.names.lookup y=some .local) (hl:py.line=px.line) (hne:x≠y) (sa:bS a=false) (sb:bS b=false)
    (nf: [a,b].all (foldedForSure 8)=false) (nc: [a,b].all (constantsAlone 8)=false):swappedStores [.Tuple [.Name x px,.Name y py] kt pt] (.Tuple [a,b] k2 pt2) X.env=pure (some [x,y]):=by
  unfold swappedStores
  dsimp only
  have kx:(X.env.kindOf x == some .local)=true:=by unfold Env.kindOf; rw [K.nm,hx]; rfl
  have ky:(X.env.kindOf y == some .local)=true:=by unfold Env.kindOf; rw [K.nm,hy]; rfl
  have e:∀ e:Expr,bS e=false→(match e with | .Starred .. =>true | _=>false)=false:=fun e h=>by cases e <;> first | rfl | (cases h)
  have c1:(!([Expr.Name x px,Expr.Name y py].length == 2 || [Expr.Name x px,Expr.Name y py].length == 3) || [a,b].length != [Expr.Name x px,Expr.Name y py].length || X.env.blockKind != ScopeKind.function)=false:=by
    rw [uJ K]; rfl
  rw [if_neg (by rw [c1]; exact Bool.false_ne_true)]
  have nm:([x,y]:List Str).eraseDups.length=2:=by
    have hb:(y == x)=false:=beq_eq_false_iff_ne.mpr (Ne.symm hne)
    simp [List.eraseDups_cons,hb]
  split
  · rename_i h2
    exfalso
    simp only [List.any_cons,List.any_nil,Bool.or_false,Bool.or_eq_true] at h2
    rcases h2 with h2 | h2
    · cases a <;> first | (cases h2; done) | (cases sa)
    · cases b <;> first | (cases h2; done) | (cases sb)
  · simp only [List.filterMap_cons,List.filterMap_nil,kx,ky,List.head?_cons,Option.map_some,Option.getD_some,Bool.true_and,Expr.pos,hl,beq_self_eq_true,if_true,List.length_cons,List.length_nil,nm,nf,nc]
    rfl
noncomputable def yS (n:Nat) (C:Cfg) (s:Stmt):Option CS:=match s with
  | .Assign [.Name x px] (.ListComp elt gens sc vp) pos=>if OA C x && C.names.lookup x == some .cell then (slot C.N x).bind fun i=>(cE n C (C.M.contains x) (.ListComp elt gens sc vp)).bind fun v'=>some (.asg (.gn i) v') else none
  | .Raise (some (.Call (.Name x _) [e] [] _)) none _=>(match C.xcl.lookup x with
      | some y=>if C.rz && glB C x && gM x && !bS e && C.cm then (cE n C false e).bind fun e'=>some (.ex (.cal y (.cons e' .nil))) else none
      | none=>none)
  | _=>none
noncomputable def wQ:List Expr→Option (List (Str×Pos))
  | []=>some []
  | .Name x p :: r=>(wQ r).map ((x,p) :: ·)
  | _ :: _=>none
noncomputable def clB (C:Cfg):Expr→Bool
  | .Tuple es _ _=>(match wQ es with
    | some l=>l.map (·.1) == C.cln && l.all (fun q=>glB C q.1 && gM q.1) && decide (l.length≤100)
    | none=>false)
  | .Name x _=>[x] == C.cln && glB C x && gM x
  | _=>false
noncomputable def aAA (C:Cfg) (x:Str):Bool:=C.names.lookup x == some .local && gM x
theorem BO {X:Cx} {E:Ev} {T:Tb} {k:Nat} {C:Cfg} (K:Kn X E T k C) {x:Str} {px vp:Pos} {l:Nat} {elt:Expr} {gens:List Comprehension} {sc:Scope} (c3:(C.names.lookup x == some .cell)=true) :
    swapsWithSole [.Name x px] (.ListComp elt gens sc vp) l X.env=pure false:=by
  unfold swapsWithSole swapsWith
  dsimp only
  have e1:X.env.kindOf x=C.names.lookup x:=by unfold Env.kindOf; rw [K.nm]
  rw [uJ K,e1,beq_iff_eq.mp c3]
  rfl
mutual
noncomputable def cS:Nat→Cfg→Stmt→Option CS
  | 0,_,_=>none
  | n + 1,C,s=>match yS n C s with
  | some c=>some c
  | none => match s with
    | .Expr e _=>(match e with
      | .Constant (.str _) _ _=>some .nil
      | e=>if pM e then none else (cE n C false e).bind fun e'=>some (.ex e'))
    | .Pass _=>some .nil
    | .Try b hs o f _=>(match hs,o,f with
      | [.ExceptHandler (some t) (some m) (s0 :: ss) _],[],[]=>if C.tr && C.hs && aAA C m && clB C t then
          (slot C.N m).bind fun j=>(cSs n C.inT b).bind fun b'=>(cSs n C.inH (s0 :: ss)).bind fun h'=>some (.trh b' j h' C.cat) else none
      | _,_,_=>none)
    | .Raise .. =>some .nev
    | .Return o _=>(match o with
      | none=>some .retN
      | some e=>(cE n C C.rm e).bind fun e'=>some (.ret e'))
    | .If c a b _=>(cT n C c).bind fun c'=>(cSs n C a).bind fun a'=>(cSs n C b).bind fun b'=>some (.iff c' a' b')
    | .While c b o _=>(match o with
      | []=>(cT n C c).bind fun c'=>some (.wh c' ((cSs n C b).getD .nev))
      | _=>none)
    | .For tg it b o _=>(match o with
      | []=>if nP it || !C.cm then none else (cI n C tg it).bind fun i'=>(cG n C tg).bind fun g'=>(cSs n C b).bind fun b'=>some (.fr g' i' b')
      | _=>none)
    | .Assign ts v pos=>(match ts with
      | [.Name x px]=>if OA C x then (slot C.N x).bind fun i=>(match v with
          | .ListComp elt gens sc vp=>(match gens with
            | [⟨tg,iter,ifs,0⟩]=>if rV C sc && !nP iter && C.names.lookup x == some .local && px.line == vp.line && !(sc.names.any fun y=>y.1 == x && (y.2 == .local || y.2 == .cell)) then
                (cI n C tg iter).bind fun it'=>(cG n (yO C sc) tg).bind fun tg'=>(cTs n (yO C sc) ifs).bind fun ts'=>(cE n (yO C sc) false elt).bind fun el'=>some (.asg (.gn i) (.cmpr (C.M.contains x) tg' it' ts' el' ((jG C sc.names).map (·.2))))
              else none
            | _=>none)
          | v=>if pM v then none else (cE n C (C.M.contains x) v).bind fun v'=>some (.asg (.gn i) v')) else none
      | [.Attribute o f _]=>if pM v then none else (cE n C false o).bind fun o'=>(cE n C false v).bind fun v'=>some (.fld o' f v')
      | [.Subscript o i _]=>if pM v || QB i then none else (cE n C false o).bind fun o'=>(cE n C false i).bind fun i'=>(cE n C false v).bind fun v'=>some (.sub o' i' v')
      | [.Tuple gs kt pt]=>if VA v then (match gs,v with
          | [.Name x px,.Name y py],.Tuple [a,b] _ _=>if C.names.lookup x == some .local && C.names.lookup y == some .local && py.line == px.line && x != y && !bS a && !bS b && !([a,b].all (constantsAlone 8)) && C.cm then
              (slot C.N x).bind fun i=>(slot C.N y).bind fun j=>(cE n C false a).bind fun a'=>(cE n C false b).bind fun b'=>some (.par i j a' b') else none
          | _,_=>none)
        else if pM v then none else (cE n C false v).bind fun v'=>(cG n C (.Tuple gs kt pt)).bind fun g'=>some (.asg g' v')
      | _=>none)
    | _=>none
noncomputable def cSs:Nat→Cfg→List Stmt→Option CS
  | 0,_,_=>none
  | n + 1,C,l=>match l with
    | []=>some .nil
    | [s]=>cS n C s
    | s :: t :: r=>(cS n C s).bind fun s'=>(cSs n C (t :: r)).bind fun r'=>some (.seq s' r')
end
theorem lN {e:Expr} {t:Option Expr} {l:Nat} {env:Env} (h:pM e=false):swapsWith e t l env=pure false:=by
  cases e <;> first | rfl | (cases h)
theorem AB (K:Kn X E T k C) {x:Str} {px vp:Pos} {l:Nat} {elt:Expr} {gens:List Comprehension} {sc:Scope} (c3:(C.names.lookup x == some .local)=true) (c4:(px.line == vp.line)=true) (c5:(!(sc.names.any fun y=>y.1 == x && (y.2 == .local || y.2 == .cell)))=true) :
    swapsWith (.ListComp elt gens sc vp) (some (.Name x px)) l X.env=pure true:=by
  unfold swapsWith
  dsimp only
  have e1:X.env.kindOf x=C.names.lookup x:=by unfold Env.kindOf; rw [K.nm]
  rw [uJ K,e1,c3]
  have e2:(!(sc.names.any fun (n,k)=>n == x && (k == .local || k == .cell)))=true:=by rw [←c5]
  show pure (true && true && (px.line == vp.line) && !(sc.names.any fun (n,k)=>n == x && (k == .local || k == .cell)))=pure true
  rw [c4,e2]; rfl
theorem kH {e t:Expr} {l:Nat} {env:Env} (h:pM e=false):swapsWithSole [t] e l env=pure false:=lN h
theorem PR {o i:Expr} {pos':Pos} {env:Env} (h:QB i=false) (v:Value):assign (.Subscript o i pos') env v=(do
      let ov ←holding [v] (eval o env)
      let iv ←holding [v,ov] (eval i env)
      standAt pos'
      holding [v,ov,iv] (setItem ov iv v)
      release [v,ov,iv] []):=by
  cases i <;> first | rfl | (cases h)
structure Sns (E:Ev) (T:Tb) (k:Nat) (n:Nat):Prop where
  s:∀ X C s c,Kn X E T k C→cS n C s=some c→JS X E s (wpS T c)
  ss:∀ X C s c,Kn X E T k C→cSs n C s=some c→JSs X E s (wpS T c)
theorem aBe {n:Nat} (S:Sns E T k n):∀ X C l c,Kn X E T k C→cSs (n + 1) C l=some c→JSs X E l (wpS T c):=by
  intro X C l c K h
  unfold cSs at h
  split at h
  · cases h; exact aCP
  · exact ZN (S.s X C _ c K h)
  · obtain ⟨s',h1,h⟩:=bnd h
    obtain ⟨r',h2,h⟩:=bnd h
    cases h
    exact aAX (S.s X C _ s' K h1) (S.ss X C _ r' K h2)
theorem aAw (K:Kn X E T k C) (hz:C.rz=true) (h40:40≤k) {x y:Str} {np cpos pos:Pos} {e:Expr} {e':CE} (F0:aE5 X.prog X.w X.K X.mg X.base E T k x y) (hg:glB C x=true) (hp:gM x=true) (hs:bS e=false) (he:JE X E e (wpE T e')) :
    JS X E (.Raise (some (.Call (.Name x np) [e] [] cpos)) none pos) (wpS T (.ex (.cal y (.cons e' .nil)))):=fun F=>by
  obtain ⟨EX,hx,kx⟩:=K.xk hz
  rcases F0 with ⟨c,f,fd,ps,Bn,fld,D,hm,Fi,hb,hT⟩ | F0
  · refine PS.imp (GW D (K.gl hg) hm (fY hp).1 Fi (K.pl.room.hd (Nat.le_succ_of_le h40)) K.pl.room hb (he F) hx (aO hs)) fun D0 σ H ⟨σ',Z,G,D',rs,S,h,kd⟩=>?_
    rw [wpS,wpE,wpL] at h
    refine ⟨σ',Z,G,_,rs,S,h,fun v u Z1 G1 H1 s1 S1 r1 q d hd=>?_⟩
    rw [wpL] at q
    obtain ⟨v',e1,q⟩:=hT _ _ _ q
    cases e1
    exact kx c [fld] [v] (some d) [u] (upd Z1 d (.xd [(fld,u)])) G1 _ (S1.z0.trans (bA (S1.zn hd) _)) (S1.fz hd).weakF rfl ⟨u,[],rfl,r1.mono (bA (S1.zn hd) _),rfl⟩ (fun dd z=>by cases z; exact aH) (fun z=>by cases z) q
  · exact F0.elim
theorem IK:∀ {es:List Expr} {l:List (Str×Pos)},wQ es=some l→es=l.map fun q=>Expr.Name q.1 q.2
  | [],l,h=>by cases h; rfl
  | e :: r,l,h=>by
    unfold wQ at h
    split at h
    · rename_i e0; cases e0
    · rename_i x p r' e0
      cases e0
      cases hr:wQ r with
      | none=>rw [hr] at h; cases h
      | some l' =>
        rw [hr] at h
        cases h
        rw [IK hr]
        rfl
    · cases h
theorem sY:∀ {l:List (Str×Pos)} {cs:List Addr},l.length=cs.length→l=(l.zip cs).map (fun q=>(q.1.1,q.1.2))∧cs=(l.zip cs).map (·.2)
  | [],[],_=>⟨rfl,rfl⟩
  | a :: l,c :: cs,h=>by
    obtain ⟨h1,h2⟩:=sY (l:=l) (cs:=cs) (by simpa using h)
    rw [List.zip_cons_cons,List.map_cons,List.map_cons,←h1,←h2]
    exact ⟨rfl,rfl⟩
theorem FM (K:Kn X E T k C) (h:C.tr=true) {t:Expr} (hc:clB C t=true):∃ cs,gO X t cs∧(∀ c∈cs,LX.jO X.K c=true)∧∀ c∈C.cat,LX.iC X.K (E.cls c) cs=some true:=by
  obtain ⟨cs,hm,hl,hcs,ht,hcat⟩:=K.tf.ca h
  refine ⟨cs, ?_,fun c z=>(hcs c z).1,hcat⟩
  unfold clB at hc
  split at hc
  · rename_i es k0 p0
    split at hc
    · rename_i l hn
      simp only [Bool.and_eq_true,beq_iff_eq,List.all_eq_true,decide_eq_true_eq] at hc
      obtain ⟨⟨h1,h2⟩,h3⟩:=hc
      have hl2:l.length=cs.length:=by rw [←hl,←h1,List.length_map]
      obtain ⟨z1,z2⟩:=sY hl2
      have ee:es=((l.zip cs).map fun q=>((q.1.1,q.1.2,q.2):Str×Pos×Addr)).map fun q=>Expr.Name q.1 q.2.1:=by
        rw [IK hn,List.map_map]
        conv=>lhs; rw [z1]
        rw [List.map_map]; rfl
      have ec:cs=((l.zip cs).map fun q=>((q.1.1,q.1.2,q.2):Str×Pos×Addr)).map (·.2.2):=by
        rw [List.map_map]; exact z2
      have cl:gO X (.Tuple (((l.zip cs).map fun q=>((q.1.1,q.1.2,q.2):Str×Pos×Addr)).map fun q=>Expr.Name q.1 q.2.1) k0 p0) (((l.zip cs).map fun q=>((q.1.1,q.1.2,q.2):Str×Pos×Addr)).map (·.2.2)):=by
        refine .tup (fun q hq=>?_) ?_
        · obtain ⟨⟨⟨x,p⟩,c⟩,hq0,rfl⟩:=List.mem_map.mp hq
          have h4:=h2 (x,p) (List.of_mem_zip hq0).1
          refine ⟨K.gl h4.1,hm (x,c) ?_,(fY h4.2).1⟩
          rw [←h1]
          have:=List.mem_map_of_mem (f:=fun q:(Str×Pos)×Addr=>(q.1.1,q.2)) hq0
          have e:(l.zip cs).map (fun q=>(q.1.1,q.2))=(l.map (·.1)).zip cs:=by rw [List.zip_map_left]; rfl
          rw [←e]; exact this
        · rw [List.length_map,List.length_zip,←hl2,Nat.min_self]
          have:(100:Nat)≤sizeLine:=by rw [sizeLine_eq]; decide
          omega
      rw [←ee,←ec] at cl
      exact cl
    · cases hc
  · rename_i x p0
    simp only [Bool.and_eq_true,beq_iff_eq] at hc
    obtain ⟨⟨h1,h2⟩,h3⟩:=hc
    rw [←h1] at hm hl
    match cs,hl,hm,hcs with
    | [c],_,hm,hcs=>exact .one (K.gl h2) (hm (x,c) (List.mem_cons_self ..)) (fY h3).1 (hcs c (List.mem_cons_self ..)).2 ht
  · cases hc
theorem aB1 {n:Nat} (S0:∀ k E T,Sns E T k n) (K:Kn X E T k C) (htr:C.tr=true) (hhs:C.hs=true) {t:Expr} {m:Str} {hp pos:Pos} {b ss:List Stmt} {s0:Stmt} {b' h':CS} {j:Nat} (hj:slot C.N m=some j) (hlm:aAA C m=true) (hc:clB C t=true) (hb:cSs n C.inT b=some b') (hh:cSs n C.inH (s0 :: ss)=some h') :
    JS X E (.Try b [.ExceptHandler (some t) (some m) (s0 :: ss) hp] [] [] pos) (wpS T (.trh b' j h' C.cat)):=by
  intro F pins s σ H D I ⟨σ',Z,G,D',rs,S,h,kd⟩
  rw [wpS] at h
  have ow:=K.ow (.inr htr)
  obtain ⟨cs,cl,hcs,hcat⟩:=FM K htr hc
  obtain ⟨kh,k1,k2,gh⟩:=K.tf.hh htr hhs
  have hN:X.N=C.N:=K.N
  have lm:X.env.scope.names.lookup m=some .local:=by rw [K.nm]; unfold aAA at hlm; exact beq_iff_eq.mp (Bool.and_eq_true_iff.mp hlm).1
  have pm:=fY (Bool.and_eq_true_iff.mp hlm).2
  have hlen:σ'.length=X.N.length:=by rw [rs.length]; exact I.len
  generalize hx0:(fun c ns xs G1=>c∈C.cat∧wpS T h' ⟨fun σ2 G2=>D'.nx (σ2.set j none) G2,D'.rt,fun σ2 G2=>D'.bk (σ2.set j none) G2,fun σ2 G2=>D'.ct (σ2.set j none) G2⟩ ((List.replicate σ'.length none).set j (some (.exc c ns xs))) G1:PX)=x0 at h
  let EX:XK:=fun Cv d H1=>∃ c ns xs vs Z1 G1,Cv= .ref (E.cls c)∧aM Z Z1∧Sim (E.at F Z) F H1 Z1 G1∧ns.length=vs.length∧RPs E Z1 xs vs∧(∀ dd,d=some dd→Z1 dd=some (.xd (ns.zip vs)))∧(d=none→ns=[])∧WkX x0 c ns xs G1
  have ow':Own (X.pin pins):=⟨ow.st,ow.fr⟩
  have K':Kn ((X.pin pins).wish (xeO (X.pin pins) EX)) (E.at F Z) (T.at (WkX x0)) k C.inT:=by
    refine ⟨⟨K.pl.hK,K.pl.calm,K.pl.room,⟨K.pl.cls.own,K.pl.cls.plain,K.pl.cls.other,K.pl.cls.apart⟩,K.pl.fld⟩,K.N,K.nd,K.nm,K.kd,K.fn,K.ce,aDR (X:=X.pin pins) ow',K.tf.tr htr _ _ _,(fun _=>⟨ow'.st,ow'.fr⟩),(fun _=>⟨EX,fun e s' ⟨a,C0,d,σ1,H1,ee,J,x1,q⟩=>⟨a,C0,d,σ1,H1,ee,J.unwish,x1,q⟩, ?_⟩),⟨K.xi.xi,K.xi.fx⟩,K.cm,K.gu,⟨(fun z=>by cases z),(fun z=>by cases z),(fun z=>by cases z)⟩⟩
    intro c ns xs d vs Z1 G1 H1 s1 S1 l r hd hn q
    exact ⟨c,ns,xs,vs,Z1,G1,rfl,s1,S1,l,r.un,hd,hn,q⟩
  have hbj:=(S0 k (E.at F Z) (T.at (WkX x0))).ss _ C.inT b b' K' hb F
  refine aDP ow I (EX:=EX) (j:=j) (by rw [hN]; exact K.nd) (by rw [hN]; exact dI hj) lm cl hcs hbj ⟨σ',Z,G,D',rs.at,S.at,h, ?_⟩ ?_
  · exact ⟨fun a b Z1 G1 H1 s1 S1 r q=>kd.nx a b Z1 G1 H1 s1 (S.un (F1:=F) S1) r.un q,fun a b Z1 G1 H1 s1 S1 r q=>kd.rt a b Z1 G1 H1 s1 (S.un (F1:=F) S1) r.un q,fun a b Z1 G1 H1 s1 S1 r q=>kd.bk a b Z1 G1 H1 s1 (S.un (F1:=F) S1) r.un q,fun a b Z1 G1 H1 s1 S1 r q=>kd.ct a b Z1 G1 H1 s1 (S.un (F1:=F) S1) r.un q⟩
  · rintro Cv d H1 ⟨c,ns,xs,vs,Z1,G1,rfl,s1,S1,l,r,hd,hn,G2,hG,q⟩
    rw [←hx0] at q
    obtain ⟨hcc,q⟩:=q
    refine ⟨_,rfl,hcat c hcc,fun a ha=>?_⟩
    have KH:Kn ((X.pin pins).mk2 (.ref a)) E T kh C.inH:=by
      refine ⟨⟨K.pl.hK,(fun z=>absurd z (by omega)), ?_,⟨K.pl.cls.own,K.pl.cls.plain,K.pl.cls.other,K.pl.cls.apart⟩,K.pl.fld⟩,K.N,K.nd,K.nm,K.kd,K.fn,K.ce,PassesOwn.never,gh,(fun z=>by rcases z with z | z <;> cases z),(fun z=>by cases z),⟨K.xi.xi,K.xi.fx⟩,(fun z=>by cases z),K.gu,⟨(fun z=>by cases z),(fun z=>by cases z),(fun z=>by cases z)⟩⟩
      have R0:=K.pl.room.mono (j:=kh + 1) (by omega)
      exact ⟨(fun z=>absurd z (by omega)),R0.dp,R0.un,R0.gd⟩
    have S2:=((S.un (F1:=F) S1).weak hG).fz (o:=.ext (XC a (.ref (E.cls c)) d)) ha
    have zn:Z1 a=none:=(S.un (F1:=F) S1).zn ha
    have rp:RP E (upd Z1 a (.ext (XC a (.ref (E.cls c)) d))) (.exc c ns xs) (.ref a):=⟨a,d,vs,rfl,aH,l,(fun dd z=>by rw [aB (aG (hd dd z) zn)]; exact hd dd z),hn,r.mono (bA zn _)⟩
    refine ⟨_,(S0 kh E T).ss _ C.inH _ h' KH hh F, ?_⟩
    refine ⟨(List.replicate σ'.length none).set j (some (.exc c ns xs)),_,_,_, ?_,S2,q, ?_⟩
    · rw [hlen]; exact (RSt.nones _).set rp j
    · have s2:=s1.trans (bA zn (.ext (XC a (.ref (E.cls c)) d)))
      exact ⟨fun a b Z2 G2 H2 s3 S3 r3 q3=>kd.nx _ _ Z2 G2 H2 (s2.trans s3) S3 (RSt.unset j r3) q3,fun a b Z2 G2 H2 s3 S3 r3 q3=>kd.rt a b Z2 G2 H2 (s2.trans s3) S3 r3 q3,fun a b Z2 G2 H2 s3 S3 r3 q3=>kd.bk _ _ Z2 G2 H2 (s2.trans s3) S3 (RSt.unset j r3) q3,fun a b Z2 G2 H2 s3 S3 r3 q3=>kd.ct _ _ Z2 G2 H2 (s2.trans s3) S3 (RSt.unset j r3) q3⟩
theorem aDW {n:Nat} (S0:∀ k E T,Sns E T k n) (S:Sns E T k n):∀ X C l c,Kn X E T k C→cS (n + 1) C l=some c→JS X E l (wpS T c):=by
  intro X C l c K h
  have R:Snd E T k n:=snd n
  unfold cS at h
  split at h
  · rename_i c2 hx
    cases h
    unfold yS at hx
    split at hx
    · split at hx
      · rename_i hc
        obtain ⟨c1,c2⟩:=Bool.and_eq_true_iff.mp hc
        obtain ⟨l1,l2⟩:=K.loc c1
        obtain ⟨i,h1,hx⟩:=bnd hx
        obtain ⟨v',h2,hx⟩:=bnd hx
        cases hx
        exact BE (R.e X C _ _ v' K h2) (uP (by rw [K.N]; exact K.nd) (by rw [K.N]; exact dI h1) l1 l2) (BO K c2) rfl rfl
      · cases hx
    · split at hx
      · rename_i y hy
        split at hx
        · rename_i hc
          simp only [Bool.and_eq_true,Bool.not_eq_true'] at hc
          obtain ⟨⟨⟨⟨hz,hg⟩,hp⟩,hs⟩,hcm⟩:=hc
          obtain ⟨e',h1,hx⟩:=bnd hx
          cases hx
          exact aAw K hz (K.cm hcm) (K.gf.xc _ (aU hy)) hg hp hs (R.e X C false _ e' K h1)
        · cases hx
      · cases hx
    · cases hx
  split at h
  · split at h
    · cases h; exact aB6
    · split at h
      · cases h
      · rename_i hc
        obtain ⟨e',h1,h⟩:=bnd h
        cases h
        exact aDI (R.e X C false _ e' K h1) (lN (by simpa using hc))
  · cases h; exact VV
  · split at h
    · split at h
      · rename_i hc
        simp only [Bool.and_eq_true] at hc
        obtain ⟨⟨⟨htr,hhs⟩,hlm⟩,hcl⟩:=hc
        obtain ⟨j,h2,h⟩:=bnd h
        obtain ⟨b',h3,h⟩:=bnd h
        obtain ⟨h',h4,h⟩:=bnd h
        cases h
        exact aB1 S0 K htr hhs h2 hlm hcl h3 h4
      · cases h
    · cases h
  · cases h; exact ZY
  · split at h
    · cases h; exact SA
    · obtain ⟨e',h1,h⟩:=bnd h
      cases h
      exact aBr (R.e X C C.rm _ e' K h1)
  · obtain ⟨c',h1,h⟩:=bnd h
    obtain ⟨a',h2,h⟩:=bnd h
    obtain ⟨b',h3,h⟩:=bnd h
    cases h
    exact aEz (R.t X C _ c' K h1) (S.ss X C _ a' K h2) (S.ss X C _ b' K h3)
  · split at h
    · obtain ⟨c',h1,h⟩:=bnd h
      cases h
      refine aDy K.ps (R.t X C _ c' K h1) ?_
      cases h2:cSs n C _ with
      | none=>exact UM
      | some b'=>exact S.ss X C _ b' K h2
    · cases h
  · split at h
    · split at h
      · cases h
      · rename_i hs
        obtain ⟨hs,hcm⟩:=or2 hs
        have hcm:C.cm=true:=by simpa using hcm
        obtain ⟨i',h1,h⟩:=bnd h
        obtain ⟨g',h2,h⟩:=bnd h
        obtain ⟨b',h3,h⟩:=bnd h
        cases h
        exact aCc K.pl (Nat.le_succ_of_le (K.cm hcm)) K.ps (R.i X C _ _ i' K h1) (R.g X C _ g' K h2) (S.ss X C _ b' K h3) (lX (by simpa using hs))
    · cases h
  · split at h
    · split at h
      · rename_i hl
        obtain ⟨i,h1,h⟩:=bnd h
        obtain ⟨l1,l2⟩:=K.loc hl
        split at h
        · split at h
          · split at h
            · rename_i hc
              rw [Bool.and_eq_true,Bool.and_eq_true,Bool.and_eq_true,Bool.and_eq_true] at hc
              obtain ⟨⟨⟨⟨c1,c2⟩,c3⟩,c4⟩,c5⟩:=hc
              obtain ⟨it',g1,h⟩:=bnd h
              obtain ⟨tg',g2,h⟩:=bnd h
              obtain ⟨ts',g3,h⟩:=bnd h
              obtain ⟨el',g4,h⟩:=bnd h
              cases h
              obtain ⟨cl,B,KB⟩:=K.block c1
              refine RT B K.pl (Nat.le_succ_of_le (K.cm (KZ c1))) (by rw [K.N]; exact K.nd) (by rw [K.N]; exact dI h1) (by rw [K.nm]; exact beq_iff_eq.mp c3) (R.i X C _ _ it' K g1) (fun C0 s₀ H₀ ex=>R.g _ _ _ tg' (KB C0 s₀ H₀ ex) g2) (fun C0 s₀ H₀ ex=>R.ts _ _ _ ts' (KB C0 s₀ H₀ ex) g3) (fun C0 s₀ H₀ ex=>R.e _ _ false _ el' (KB C0 s₀ H₀ ex) g4) ?_ (lX (by simpa using c2))
              exact AB K c3 c4 c5
            · cases h
          · cases h
        · split at h
          · cases h
          · rename_i hc
            obtain ⟨v',h2,h⟩:=bnd h
            cases h
            exact BE (R.e X C _ _ v' K h2) (uP (by rw [K.N]; exact K.nd) (by rw [K.N]; exact dI h1) l1 l2) (kH (by simpa using hc)) rfl rfl
      · cases h
    · split at h
      · cases h
      · rename_i hc
        obtain ⟨o',h1,h⟩:=bnd h
        obtain ⟨v',h2,h⟩:=bnd h
        cases h
        exact aCy K.pl (R.e X C _ _ o' K h1) (R.e X C _ _ v' K h2) (lN (by simpa using hc))
    · split at h
      · cases h
      · rename_i hc
        obtain ⟨hc1,hc2⟩:=or2 hc
        obtain ⟨o',h1,h⟩:=bnd h
        obtain ⟨i',h2,h⟩:=bnd h
        obtain ⟨v',h3,h⟩:=bnd h
        cases h
        exact aBg (R.e X C _ _ v' K h3) (R.e X C _ _ o' K h1) (R.e X C _ _ i' K h2) (PR hc2) (kH hc1) rfl
    · split at h
      · split at h
        · split at h
          · rename_i hc
            simp only [Bool.and_eq_true,Bool.not_eq_true',beq_iff_eq,bne_iff_ne,ne_eq] at hc
            obtain ⟨⟨⟨⟨⟨⟨⟨c1,c2⟩,c3⟩,c4⟩,c5⟩,c6⟩,c7⟩,hcm⟩:=hc
            obtain ⟨i,g1,h⟩:=bnd h
            obtain ⟨j,g2,h⟩:=bnd h
            obtain ⟨a',g3,h⟩:=bnd h
            obtain ⟨b',g4,h⟩:=bnd h
            cases h
            have ij:i≠j:=fun e=>by
              subst e
              have a1:=dI g1
              have a2:=dI g2
              rw [a1] at a2
              exact c4 (Option.some.inj a2)
            exact ZX K.pl (Nat.le_succ_of_le (K.cm hcm)) (by rw [K.N]; exact K.nd) (by rw [K.N]; exact dI g1) (by rw [K.N]; exact dI g2) ij (by rw [K.nm]; exact c1) (by rw [K.nm]; exact c2) (R.e X C _ _ a' K g3) (R.e X C _ _ b' K g4) (aO c5) (aO c6) (aBJ K c1 c2 c3 c4 c5 c6 (by have hf:= ‹VA _=true›; unfold VA at hf; exact Bool.not_eq_true' _▸hf) c7) rfl
          · cases h
        · cases h
      · rename_i hf
        split at h
        · cases h
        · rename_i hc
          obtain ⟨v',h1,h⟩:=bnd h
          obtain ⟨g',h2,h⟩:=bnd h
          cases h
          exact BE (R.e X C _ _ v' K h1) (R.g X C _ g' K h2) (kH (by simpa using hc)) (aBP hf) rfl
    · cases h
  · cases h
theorem sns:∀ n k E T,Sns E T k n
  | 0,_,_,_=>⟨(fun X C s c K h=>by unfold cS at h; cases h),(fun X C s c K h=>by unfold cSs at h; cases h)⟩
  | n + 1,k,E,T=>⟨aDW (sns n) (sns n k E T),aBe (sns n k E T)⟩
end
structure cZ (K:W.Frag) (x qual:Str) (st:Stmt) (dV:Value) (f:Addr) (fd:FuncData):Prop where
  ex :∃ (oc:Value) (od:Option Addr) (kV doc pm:Value) (an:Option Addr) (cdv ct:Value) (osl:Array (Option Value)),
    fd=W.fnOf x qual (fF st) (aI st) (aD st) dV kV doc pm an cdv ct∧K.lookup f=some ⟨oc,od,.func fd,osl⟩∧W.codeIn K cdv qual=true
  kp:W.keepIn K (.ref f)=true
noncomputable def Wk (Q:PK1):PK1:=fun x G=>∃ G2:Gh,(∀ a o,G2 a=some o→G a=some o)∧(Q x G2∨∃ p xs,x= .ref p∧G2 p=none∧G p=some (.lst xs)∧Q (.lst xs) G2)
theorem Wk.here {Q:PK1} {x:PV} {G:Gh} (q:Q x G):Wk Q x G:=⟨G,fun _ _ z=>z,.inl q⟩
theorem Wk.of {Q:PK1} {x:PV} {G G2:Gh} (q:Q x G2) (h:∀ a o,G2 a=some o→G a=some o):Wk Q x G:=⟨G2,h,.inl q⟩
theorem uS {E:Ev} {F Z Z1 H1:Hp} {G1:Gh} {Q':PK1} {Q:VK} {y:PV} {v:V} (kq:Kq E F Z Q' Q) (s1:aM Z Z1) (S1:Sim E F H1 Z1 G1) (r1:RP E Z1 y v) (w:Wk Q' y G1):Q v H1:=by
  obtain ⟨G2,hG,q1 | ⟨p,xs,e,n,hp,q1⟩⟩:=w
  · exact kq _ _ _ _ _ s1 (S1.weak hG) r1 q1
  · subst e
    have e:v= .ref p:=r1
    subst e
    obtain ⟨z,o',ho,vs,e,t⟩:=S1.g _ _ hp
    subst e
    refine kq _ _ _ _ _ (s1.trans (bA z _)) ((S1.frz hp ho).weak fun a o q=>?_) (eM z t) q1
    by_cases ea:a=p
    · subst ea; rw [n] at q; cases q
    · rw [tL ea]; exact hG a o q
noncomputable def bP (Q:PK1):gZ:=⟨fun _ G=>Wk Q .non G,Wk Q,fun _ _=>False,fun _ _=>False⟩
structure bT (st:Stmt) (ps:List Str) (C:Cfg):Prop where
  sc:gD C.N ps (aD st)
  nm:(aD st).names=C.names
  bk:C.blk=false
structure Ck (K:W.Frag) (E:Ev) (T:Tb):Prop where
  hK:E.K=K
  cls:IZ E T.cs
  fld:∀ c f,(c,f)∈T.fl→Cls K (E.cls c)∧eG K (E.cls c) f
structure Xo (K:W.Frag) (mg:Str→Option Value) (E:Ev) (T:Tb):Prop where
  xi:∀ c n r,(c,n,r)∈T.xi→XAt K (E.cls c)∧((∃ a,mg n=some (.ref a)∧W.kitOne K (.ref (E.cls c)) (.ref a)=some r)∨∃ t,mg n=none∧bootBuiltins n=some (.type t)∧n≠"__name__"∧W.kitOne K (.ref (E.cls c)) (.type t)=some r)
  fx:∀ c f,(c,f)∈T.fx→XAt K (E.cls c)∧W.findIn K (.ref (E.cls c)) f=some none
theorem Tf.no {P:Program} {w:World} {K:W.Frag} {mg:Str→Option Value} {base:Heap} {E:Ev} {T:Tb} {k:Nat} {C:Cfg} (h:C.tr=false):Tf P w K mg base E T k C:=⟨(fun z=>by rw [h] at z; cases z),(fun z=>by rw [h] at z; cases z),(fun z=>by rw [h] at z; cases z)⟩
theorem dF {P:Program} {w:World} {K:W.Frag} {mg:Str→Option Value} {base:Heap} {E:Ev} {T:Tb} {k n:Nat} {C:Cfg} {x qual:Str} {st:Stmt} {dV:Value} {f:Addr} {fd:FuncData} {ps:List Str} {sp:Sp3} {code:CS}
    (F:cZ K x qual st dV f fd) (D:bT st ps C) (ck:Ck K E T) (gf:Gf P w K mg base E T k C) (hc:cSs n C (aI st)=some code) (xo:Xo K mg E T) (tf:Tf P w K mg base E T k C) (hz:C.rz=false) (hcm:C.cm=true→40≤k) (hrp:C.rp=true→79≤k)
    (len:∀ xs G Q,sp xs G Q→xs.length=ps.length) (hw:∀ xs G Q,sp xs G Q→wpS T code (bP Q) (aL C.N.length xs) G):bL P w K mg base CX0 (k + 2) f fd ps (jK E sp):=by
  obtain ⟨oc,od,kV,doc,pm,an,cdv,ct,osl,e,lk,hcd⟩:=F.ex
  subst e
  refine KO lk hcd D.sc (fun vs H Q E' ⟨xs,Z,G,F',Q',r,S,q,kq⟩=>by rw [←r.length]; exact len xs G Q' q) fun A outer s H vs Q E' hr hsp=>?_
  obtain ⟨xs,Z,G,F',Q',r,S,q,kq⟩:=hsp
  have kn:Kn (lM CX0 P w K mg base C.N qual (aD st) f cdv A outer s H E').nox E T k C:=by
    refine ⟨⟨ck.hK,(fun z=>Option.isNone_iff_eq_none.mpr (hr.hd z)),hr,ck.cls,ck.fld⟩,rfl,D.sc.nd,D.nm,D.sc.kind,fun _ _=>rfl,fun y hy=>?_,PassesOwn.never,gf,fun _=>⟨rfl,rfl⟩,(fun z=>by rw [hz] at z; cases z),⟨xo.xi,xo.fx⟩,hcm,(fun z=>hr.gd (Nat.succ_le_succ (hrp z))),tf⟩
    exact lA (n:=s.heap.objs.size + 1) (by rw [D.nm]; exact hy)
  have js:=(sns n k E T).ss _ C _ code kn hc F'
  refine ⟨_,js.nox,aL C.N.length xs,Z,G,bP Q',RSt.start r,S,hw xs G Q' q,⟨?_, ?_, ?_, ?_⟩⟩
  · rintro σ1 σ2 Z1 G1 H1 s1 S1 rs1 w
    exact uS kq s1 S1 kF w
  · rintro y v Z1 G1 H1 s1 S1 r1 w
    exact uS kq s1 S1 r1 w
  · rintro σ1 σ2 Z1 G1 H1 s1 S1 rs1 z; exact z
  · rintro σ1 σ2 Z1 G1 H1 s1 S1 rs1 z; exact z
theorem AV {P:Program} {w:World} {K:W.Frag} {mg:Str→Option Value} {base:Heap} {E:Ev} {T:Tb} {k n:Nat} {C:Cfg} {x0 qual:Str} {st:Stmt} {dV:Value} {f:Addr} {fd:FuncData} {ps:List Str} {sp:Sp3} {spx:SpX} {code:CS}
    (F:cZ K x0 qual st dV f fd) (D:bT st ps C) (ck:Ck K E T) (gf:∀ x f z,Gf P w K mg base (E.at f z) (T.at x) k C) (hc:cSs n C (aI st)=some code) (xo:Xo K mg E T) (tf:C.tr=false) (hcm:C.cm=true→40≤k) (hrp:C.rp=true→79≤k)
    (len:∀ xs G Q,sp xs G Q→xs.length=ps.length) (lenx:∀ xs G x,spx xs G x→xs.length=ps.length)
    (hw:∀ x xs G Q,sp xs G Q∨spx xs G x→wpS (T.at (WkX x)) code (bP Q) (aL C.N.length xs) G):bL P w K mg base (CXo P w) (k + 2) f fd ps (nQ E sp spx):=by
  obtain ⟨oc,od,kV,doc,pm,an,cdv,ct,osl,e,lk,hcd⟩:=F.ex
  subst e
  refine aB7 lk hcd D.sc (fun vs H Q E' ⟨xs,Z,G,F',r,S,q⟩=>by
    rw [←r.length]
    rcases q with ⟨Q',q,_⟩ | ⟨x,q,_⟩
    · exact len xs G Q' q
    · exact lenx xs G x q) fun A outer s H vs Q E' hr ⟨xs,Z,G,F',r,S,q⟩=>?_
  have q:∃ (x:PX) (Q':PK1),(sp xs G Q'∨spx xs G x)∧Kq E F' Z Q' Q∧KX E F' Z x E':=by
    rcases q with ⟨Q',q,kq⟩ | ⟨x,q,kx⟩
    · exact ⟨fun _ _ _ _=>False,Q',.inl q,kq,KX.no⟩
    · exact ⟨x,fun _ _=>False,.inr q,fun _ _ _ _ _ _ _ _ z=>z.elim,kx⟩
  obtain ⟨x,Q',q,kq,kx⟩:=q
  have ow:Own (lM (CXo P w) P w K mg base C.N qual (aD st) f cdv A outer s H E'):=IQ
  have kn:Kn ((lM (CXo P w) P w K mg base C.N qual (aD st) f cdv A outer s H E').wish (xeO (lM (CXo P w) P w K mg base C.N qual (aD st) f cdv A outer s H E') E')) (E.at F' Z) (T.at (WkX x)) k C:=by
    refine ⟨⟨ck.hK,(fun z=>Option.isNone_iff_eq_none.mpr (hr.hd z)),hr,⟨ck.cls.own,ck.cls.plain,ck.cls.other,ck.cls.apart⟩,ck.fld⟩,rfl,D.sc.nd,D.nm,D.sc.kind,fun _ _=>rfl,fun y hy=>?_,aDR ow,gf _ _ _,fun _=>⟨rfl,rfl⟩,(fun _=>⟨E',fun e s' ⟨a,C0,d,σ1,H1,ee,J,x1,q⟩=>⟨a,C0,d,σ1,H1,ee,J.unwish,x1,q⟩, ?_⟩),⟨xo.xi,xo.fx⟩,hcm,(fun z=>hr.gd (Nat.succ_le_succ (hrp z))),Tf.no tf⟩
    · exact lA (n:=s.heap.objs.size + 1) (by rw [D.nm]; exact hy)
    · intro c ns ys d us Z1 G1 H1 s1 S1 l r hd hn q
      exact kx.wk c ns ys d us Z1 G1 H1 s1 (S.un (F1:=F') S1) l r.un hd hn q
  have js:=(sns n k (E.at F' Z) (T.at (WkX x))).ss _ C _ code kn hc F'
  refine ⟨_,js,aL C.N.length xs,Z,G,bP Q',RSt.start r.at,S.at,hw x xs G Q' q,⟨?_, ?_, ?_, ?_⟩⟩
  · rintro σ1 σ2 Z1 G1 H1 s1 S1 rs1 w
    exact uS kq s1 (S.un (F1:=F') S1) kF w
  · rintro y v Z1 G1 H1 s1 S1 r1 w
    exact uS kq s1 (S.un (F1:=F') S1) r1.un w
  · rintro σ1 σ2 Z1 G1 H1 s1 S1 rs1 z; exact z
  · rintro σ1 σ2 Z1 G1 H1 s1 S1 rs1 z; exact z
theorem JN {P:Program} {w:World} {K:W.Frag} {mg:Str→Option Value} {base:Heap} {k:Nat} {C f:Addr} {Bn fld self arg name qual:Str} {st:Stmt} {dV:Value} {fd:FuncData} {p1 p2 p3 p4 p5 p6 q1 q2 q3 q4:Pos} {j:Nat} {t:Str} (F:cZ K name qual st dV f fd) (D:XIn K mg C f Bn fld)
    (S:gD [self,arg] [self,arg] (aD st)) (hbd:aI st=[.Expr (.Call (.Attribute (.Name Bn p1) "__init__" p2) [.Name self p3,.Constant (.str t) j p4] [] p5) p6,.Assign [.Attribute (.Name self q1) fld q2] (.Name arg q3) q4]) (hline:(p2.endLine == p5.line)=true)
    (hsc:(aD st).names.lookup self=some .local∧(aD st).names.lookup arg=some .local∧(aD st).names.lookup Bn=some .globalImplicit)
    (hnm:(self == ("__debug__":Str))=false∧(self == ("__classdict__":Str))=false∧(arg == ("__debug__":Str))=false∧(arg == ("__classdict__":Str))=false∧(Bn == ("__debug__":Str))=false) :
    bL P w K mg base CX0 (k + 1) f fd [self,arg] (spI C fld):=by
  obtain ⟨oc,od,kV,doc,pm,an,cdv,ct,osl,e,lk,hcd⟩:=F.ex
  subst e
  exact QR D hline lk hcd S hbd hsc hnm
noncomputable def uQ:Sp3:=fun xs G Q=>∃ ns:List Int,xs=[.scr ns]∧ns.length≤63∧∀ G',Q (.bl true) G'
noncomputable def DR (K:W.Frag):Sp:=fun vs H Q _=>∃ (p:Addr) (ns:List Int),vs=[.ref p]∧SqL K H p (ns.map V.int)∧ns.length≤63∧∀ H',Q (.bl true) H'
theorem aAu {E:Ev} {vs:List V} {H:Hp} {Q:VK} {X:XK} (h0:aM E.z0 H) (hf:aM E.f0 fun _=>none) (h:DR E.K vs H Q X):jK E uQ vs H Q X:=by
  obtain ⟨p,ns,e,hS,hl,q⟩:=h
  subst e
  refine ⟨[.scr ns],H,fun _=>none,fun _=>none,fun x _=>x= .bl true,⟨.ref p,[],rfl,⟨p,rfl,hS⟩,rfl⟩,⟨aM.refl H,(fun a o z=>nomatch z),(fun a o z=>nomatch z),h0,hf⟩,⟨ns,rfl,hl,fun _=>rfl⟩, ?_⟩
  intro x v Z1 G1 H1 s1 S1 r1 e
  subst e
  have e:v= .bl true:=r1
  subst e
  exact q H1
theorem HM {K:W.Frag} {H:Hp} {a:Addr} {ns:List Int} (hl:ns.length≤63) (_:OK H) (h:SqL K H a (ns.map V.int)):DR K [.ref a] H (fun v _=>v= .bl true) fun _ _ _=>False:=⟨a,ns,rfl,h,hl,fun _=>rfl⟩
theorem aW {K:W.Frag} {x qual:Str} {st:Stmt} {f:Addr} {oc:Value} {od an:Option Addr} {osl:Array (Option Value)} {dV kV doc pm cdv ct:Value} (l:K.lookup f=some ⟨oc,od,.func (W.fnOf x qual (fF st) (aI st) (aD st) dV kV doc pm an cdv ct),osl⟩)
    (c:W.codeIn K cdv qual=true) (k:W.keepIn K (.ref f)=true):cZ K x qual st dV f (W.fnOf x qual (fF st) (aI st) (aD st) dV kV doc pm an cdv ct):=⟨⟨oc,od,kV,doc,pm,an,cdv,ct,osl,rfl,l,c⟩,k⟩
theorem cZ.binds {K:W.Frag} {x qual:Str} {st:Stmt} {dV:Value} {f:Addr} {fd:FuncData} {ps:List Str} (F:cZ K x qual st dV f fd)
    (h:∀ (kV doc pm:Value) (an:Option Addr) (cdv ct:Value) (s:Shared) (us:List Value),K.In s.heap→us.length=ps.length→BindsTo s (W.fnOf x qual (fF st) (aI st) (aD st) dV kV doc pm an cdv ct) ⟨us,[]⟩ (ps.zip us)):L2.aR K fd ps []:=by
  obtain ⟨oc,od,kV,doc,pm,an,cdv,ct,osl,rfl,lk,hcd⟩:=F.ex
  intro s us hK hl
  rw [List.append_nil] at hl ⊢
  exact h kV doc pm an cdv ct s us hK hl
theorem cZ.sh {K:W.Frag} {x qual:Str} {st:Stmt} {dV:Value} {f:Addr} {fd:FuncData} {ps:List Str} {n:Nat} {ks:List Str} {ar:List Ar} (F:cZ K x qual st dV f fd) (hl:ar.length=ps.length)
    (h:∀ (kV doc pm:Value) (an:Option Addr) (cdv ct:Value) (s:Shared) (us ws:List Value),K.In s.heap→us.length=n→ws.length=ks.length→∃ bs,BindsTo s (W.fnOf x qual (fF st) (aI st) (aD st) dV kV doc pm an cdv ct) ⟨us,ks.zip ws⟩ (ps.zip bs)∧∀ vs zs,aJ vs us→aJ zs ws→aJ (ar.map (Ar.valV (vs ++ zs))) bs):jU K fd ps n ks ar:=by
  obtain ⟨oc,od,kV,doc,pm,an,cdv,ct,osl,rfl,lk,hcd⟩:=F.ex
  exact ⟨hl,h kV doc pm an cdv ct⟩
theorem ac {α:Type} {P:α→Prop} {x:α} {l:List α} (h:P x) (t:∀ y∈l,P y):∀ y∈x :: l,P y:=List.forall_mem_cons.mpr ⟨h,t⟩
theorem an {α:Type} {P:α→Prop}:∀ y∈([]:List α),P y:=fun _ h=>nomatch h
theorem KG {E:Ev} {mg:Str→Option Value} {x:Str} {i:Int} {t:Tok} (h:mg x=some (.int i t)):∃ u v,mg x=some u∧aQ v u∧RP E (fun _=>none) (.int i) v:=⟨_,.int i,h,⟨t,rfl⟩,rfl⟩
theorem jZ {E:Ev} {mg:Str→Option Value} {x:Str} {c:String} {a:Addr} (h:mg x=some (.ref a)) (e:E.cls c=a):∃ u v,mg x=some u∧aQ v u∧RP E (fun _=>none) (.cl c) v:=⟨_,.ref a,h,rfl,by rw [←e]; rfl⟩
end L3
namespace L3
open PySem PySem.W PyProof.Rows
theorem aDC {p q:Program} {loose:List Str} {Xt:Shared→Bool} {α:Type} {Yf:Shared→α} {Ya:World→α} {N:Nat} {g0:Bool} {H₀:Params→Heap} {gs₀:Array GenState} {d₀:Drawn} {k₀ m₀:Nat} {ann:Option Value} {M:Nat}
    (open_:∀ w:World,(fencedOpening treeTable p w N).map (fun s=>(s.heap,s.gens,s.drawn,s.toks))=some (H₀ w.params,gs₀,d₀,k₀))
    (size:∀ w:World,((H₀ w.params).isNs mainGlobals && gs₀.size == 0,(H₀ w.params).objs.size,(H₀ w.params).nsMap mainGlobals "__annotations__")=(true,m₀,ann)) (le:Nat.ble M N=true)
    (run:∀ (w:World) (os:OsState),∃ s₁,topRun treeTable p w m₀ ann M ⟨H₀ w.params,gs₀,d₀,k₀,os⟩ (topStub p)=some s₁∧
      (staticsOk (importedModules p.main.body) (H₀ w.params) s₁.heap && namesBound p s₁.heap && gensDone s₁ && laidKept (H₀ w.params) s₁.heap,openSeen q loose (importedModules p.main.body) Xt g0 s₁,Yf s₁)=(true,openGood q loose,Ya w)):LeftO p q loose Xt Yf Ya N g0:=fun w=>by
  obtain ⟨⟨h,gs,d,k,os⟩,e,e'⟩:=Option.map_eq_some_iff.mp (open_ w)
  obtain ⟨rfl,rfl,rfl,rfl⟩:h=H₀ w.params∧gs=gs₀∧d=d₀∧k=k₀:=by simpa using e'
  obtain ⟨z1,z2,z3⟩:_∧_∧_:=by simpa only [Prod.mk.injEq] using size w
  obtain ⟨s₁,r,l⟩:=run w os
  obtain ⟨l1,l2,l3⟩:_∧_∧_:=by simpa only [Prod.mk.injEq] using l
  have r:=topRun_mono (N - M) _ _ _ _ r
  rw [show M + (N - M)=N by have:=Nat.le_of_ble_eq_true le; omega] at r
  have t:topFrom treeTable p w N ⟨H₀ w.params,gs,d,k,os⟩=some s₁:=by
    unfold topFrom
    dsimp only
    rw [z1,z2,z3,r]
    show (match staticsOk (importedModules p.main.body) (H₀ w.params) s₁.heap && namesBound p s₁.heap && gensDone s₁ && laidKept (H₀ w.params) s₁.heap with | true=>_ | false=>_)=_
    rw [l1]
  unfold openEnds
  rw [e]
  show (topFrom treeTable p w N _).map _=_
  rw [t]
  exact congrArg some (Prod.ext l2 l3)
noncomputable def aEI (o:Option (Shared×Thread)) (s:Shared):Shared:=match o with | some x=>x.1 | none=>s
noncomputable def aFv (o:Option (Flow×Shared×Code×Pos)) (s:Shared):Shared:=match o with | some x=>x.2.1 | none=>s
end L3
namespace L3
open PySem PySem.Spec
open PyProof.Rows hiding St
open L2
section
variable {G:Gh} {Q:PK1} {x y:PV} {i j:Int} {s:Str} {b c:Bool} {a:Addr}
theorem jT {C:Int→Int→Prop} {g:Int→Int→PV}:pI C g (.int i) (.int j) G Q=(C i j∧Q (g i j) G):=rfl
theorem iD:wC .Add=rJ:=rfl
theorem vY:wC .Sub=pI (fun _ _=>True) fun i j=>.int (i - j):=rfl
theorem yJ:wC .Mult (.int i) (.int j) G Q=(wH i j∧Q (.int (i * j)) G):=rfl
theorem yA:wC .FloorDiv=pI mH fun i j=>.int (i / j):=rfl
theorem iQ:wC .Mod=pI KN fun i j=>.int (i % j):=rfl
theorem PD:wC .Pow=pI MJ fun i j=>.int (i ^ j.toNat):=rfl
theorem iK:rJ (.int i) (.int j) G Q=Q (.int (i + j)) G:=rfl
theorem aDl {t:Str}:rJ (.str s) (.str t) G Q=(s.length + t.length≤sizeLine∧Q (.str (s ++ t)) G):=rfl
theorem pT {xs ys:List PV}:rJ (.lst xs) (.lst ys) G Q=(xs.length + ys.length≤sizeLine∧Q (.lst (xs ++ ys)) G):=by
  show (∃ xs' ys',some xs=some xs'∧some ys=some ys'∧_)=_
  exact propext ⟨fun ⟨_,_,e1,e2,h⟩=>by cases e1; cases e2; exact h,fun h=>⟨_,_,rfl,rfl,h⟩⟩
theorem aEc {xs ys:List PV}:rJ (.tup xs) (.tup ys) G Q=(xs.length + ys.length≤sizeLine∧Q (.tup (xs ++ ys)) G):=rfl
theorem CN:kC .Lt=pI (fun _ _=>True) fun i j=>.bl (decide (i < j)):=rfl
theorem VY:kC .LtE=pI (fun _ _=>True) fun i j=>.bl (decide (i≤j)):=rfl
theorem QD:kC .Gt=pI (fun _ _=>True) fun i j=>.bl (decide (j < i)):=rfl
theorem uD:kC .GtE=pI (fun _ _=>True) fun i j=>.bl (decide (j≤i)):=rfl
theorem gS:kC .Eq=pEq false:=rfl
theorem nH:kC .NotEq=pEq true:=rfl
theorem aFU:kC .Is=pIs false:=rfl
theorem vG:kC .IsNot=pIs true:=rfl
theorem fN:pEq false (.int i) (.int j) G Q=Q (.bl (decide (i=j))) G:=by
  show (true=true∧true=true∧Q (.bl (i == j)) G)=_
  simp only [true_and]; congr 2
theorem vZ:pEq true (.int i) (.int j) G Q=Q (.bl (!decide (i=j))) G:=by
  show (true=true∧true=true∧Q (.bl (!(i == j))) G)=_
  simp only [true_and]; congr 2
theorem iZ {R:Bool→Gh→Prop}:pO (.bl b) G R=R b G:=rfl
theorem aD2 {R:Bool→Gh→Prop}:pO .non G R=R false G:=rfl
theorem aEk {R:Bool→Gh→Prop} {xs:List PV}:pO (.tup xs) G R=R (!xs.isEmpty) G:=rfl
theorem aFB:aCL (.int i) G Q=Q (.int (-i)) G:=rfl
theorem DM:pIs true (.bl c) (.bl b) G Q=Q (.bl (!(c == b))) G:=propext ⟨fun ⟨_,e,q⟩=>by cases e; exact q,fun q=>⟨_,rfl,q⟩⟩
theorem fE {xs:List PV}:mU (.tup xs) (.int i) G Q=(∃ v,atI xs i=some v∧Q v G):=rfl
theorem OX {ns:List Int}:mU (.scr ns) (.int i) G Q=(∃ n,atI ns i=some n∧Q (.int n) G):=rfl
theorem fQ {xs:List PV}:mU (.lst xs) (.int i) G Q=(∃ v,atI xs i=some v∧Q v G):=by
  show (∃ ys v,some xs=some ys∧_)=_
  exact propext ⟨fun ⟨_,v,e1,h⟩=>by cases e1; exact ⟨v,h⟩,fun ⟨v,h⟩=>⟨_,v,rfl,h⟩⟩
theorem iU {xs:List PV} (h:G a=some (.lst xs)):bI G (.ref a)=some xs:=by unfold bI; dsimp only; rw [h]
theorem sP {xs:List PV}:bI G (.lst xs)=some xs:=rfl
theorem tB {xs:List PV}:bI (gup G a (.lst xs)) (.ref a)=some xs:=iU aN
theorem xL {xs:List PV} (h:G a=some (.lst xs)):mU (.ref a) (.int i) G Q=(∃ v,atI xs i=some v∧Q v G):=by
  show (∃ ys v,bI G (.ref a)=some ys∧_)=_
  rw [iU h]
  exact propext ⟨fun ⟨_,v,e1,h⟩=>by cases e1; exact ⟨v,h⟩,fun ⟨v,h⟩=>⟨_,v,rfl,h⟩⟩
theorem oO {xs:List PV}:mU (.ref a) (.int i) (gup G a (.lst xs)) Q=(∃ v,atI xs i=some v∧Q v (gup G a (.lst xs))):=xL aN
theorem lK {xs:List PV} {v:PV} {R:Gh→Prop} (h:G a=some (.lst xs)):SC (.ref a) (.int i) v G R=(∃ j,ixN xs.length i=some j∧R (gup G a (.lst (xs.set j v)))):=propext
  ⟨fun ⟨_,_,_,j,e1,e2,e3,e4,r⟩=>by cases e1; cases e2; rw [h] at e3; cases e3; exact ⟨j,e4,r⟩,fun ⟨j,e4,r⟩=>⟨_,_,_,j,rfl,rfl,h,e4,r⟩⟩
theorem OZ {xs:List PV} {v:PV} {R:Gh→Prop}:SC (.ref a) (.int i) v (gup G a (.lst xs)) R=(∃ j,ixN xs.length i=some j∧R (gup G a (.lst (xs.set j v)))):=by
  rw [lK aN]; simp only [eQ]
variable {cs:List String}
theorem LM {xs:List PV}:dN cs .len [.tup xs] G Q=Q (.int xs.length) G:=by
  refine propext ⟨fun h=>?_,fun q=>.inl ⟨_,rfl,q⟩⟩
  rcases h with ⟨ys,e,q⟩ | ⟨ys,e,q⟩ | ⟨z,e,_⟩ | ⟨ys,e,q⟩
  · cases e; exact q
  · cases e
  · cases e
  · cases e
theorem xN {xs:List Int}:dN cs .len [.scr xs] G Q=Q (.int xs.length) G:=by
  refine propext ⟨fun h=>?_,fun q=>.inr (.inl ⟨_,rfl,q⟩)⟩
  rcases h with ⟨ys,e,q⟩ | ⟨ys,e,q⟩ | ⟨z,e,_⟩ | ⟨ys,e,q⟩
  · cases e
  · cases e; exact q
  · cases e
  · cases e
theorem II {xs:List PV}:dN cs .len [.lst xs] G Q=Q (.int xs.length) G:=by
  refine propext ⟨fun h=>?_,fun q=>.inr (.inr (.inr ⟨_,rfl,q⟩))⟩
  rcases h with ⟨ys,e,q⟩ | ⟨ys,e,q⟩ | ⟨z,e,_⟩ | ⟨ys,e,q⟩
  · cases e
  · cases e
  · cases e
  · cases e; exact q
theorem yI:dN cs .abs [.int i] G Q=Q (.int (i.natAbs:Int)) G:=rfl
theorem ND:dN cs .max [.int i,.int j] G Q=Q (.int (max i j)) G:=rfl
theorem NY:dN cs .min [.int i,.int j] G Q=Q (.int (min i j)) G:=rfl
theorem aDx:dN cs .int [.int i] G Q=Q (.int i) G:=rfl
theorem CW:dN cs .int [.bl b] G Q=Q (.int (if b then 1 else 0)) G:=rfl
theorem eN {n T:String} (h:jY x G=some n):dN cs .isi [x,.ty T] G Q=(T∈jJ∧Q (.bl (kM n T)) G):=propext
  ⟨fun ⟨hT,h'⟩=>⟨hT,by
    rcases h' with ⟨m,e,q⟩ | ⟨c,e,_,q⟩
    · rw [h] at e; cases e; exact q
    · exfalso; cases x <;> first | (cases e; done) | skip
      · cases h
      · unfold jY at h; unfold zS at e; dsimp only at h e
        split at h
        · rename_i q; rw [q] at e; cases e
        · cases h⟩,fun ⟨hT,q⟩=>⟨hT,.inl ⟨n,h,q⟩⟩⟩
theorem aFE:jY (.int i) G=some "int":=rfl
theorem aFV:jY (.bl b) G=some "bool":=rfl
theorem aEG:jY (.str s) G=some "str":=rfl
theorem aDj:jY .non G=some "NoneType":=rfl
theorem aDh {xs:List PV}:jY (.tup xs) G=some "tuple":=rfl
theorem aDA {xs:List PV}:jY (.lst xs) G=some "list":=rfl
theorem PP {T:String}:dN cs .isi [.int i,.ty T] G Q=(T∈jJ∧Q (.bl (kM "int" T)) G):=eN rfl
theorem LY {T:String} {xs:List PV}:dN cs .isi [.tup xs,.ty T] G Q=(T∈jJ∧Q (.bl (kM "tuple" T)) G):=eN rfl
theorem TB {c:String} {ns:List Str} {xs:List PV}:dN cs .isi [.ob c ns xs,.cl c] G Q=(c∈cs∧Q (.bl true) G):=propext
  ⟨fun ⟨hc,h'⟩=>⟨hc,by
    rcases h' with ⟨m,e,q⟩ | ⟨c',e,_,q⟩
    · cases e
    · cases e; rw [decide_eq_true rfl] at q; exact q⟩,fun ⟨hc,q⟩=>⟨hc,.inr ⟨c,rfl,hc,by rw [decide_eq_true rfl]; exact q⟩⟩⟩
theorem NB {xs:List PV} (h:G a=some (.lst xs)):dN cs .tuple [.ref a] G Q=Q (.tup xs) G:=propext
  ⟨fun h'=>by
    rcases h' with ⟨ys,e,q⟩ | ⟨ys,e,q⟩
    · cases e
    · rw [iU h] at e; cases e; exact q,fun q=>.inr ⟨_,iU h,q⟩⟩
theorem hX {xs:List PV}:dN cs .tuple [.ref a] (gup G a (.lst xs)) Q=Q (.tup xs) (gup G a (.lst xs)):=NB aN
theorem oV {xs:List PV}:pK true G xs Q= ∀ p,G p=none→Q (.ref p) (gup G p (.lst xs)):=rfl
theorem nO {xs:List PV}:pK false G xs Q=Q (.lst xs) G:=rfl
theorem MX {xs:List PV} {R:(Gh→Prop)→List PV→Gh→Prop}:NV (.tup xs) G R=R (fun _=>True) xs G:=rfl
theorem KF {xs:List PV} {R:(Gh→Prop)→List PV→Gh→Prop}:NV (.lst xs) G R=R (fun _=>True) xs G:=rfl
theorem aFu {xs:List Int} {R:(Gh→Prop)→List PV→Gh→Prop}:NV (.scr xs) G R=R (fun _=>True) (xs.map .int) G:=rfl
theorem DY {α:Type} {v:α} {R:α→Prop}:(∃ c,some v=some c∧R c)=R v:=propext ⟨fun ⟨_,e,r⟩=>by cases e; exact r,fun r=>⟨v,rfl,r⟩⟩
end
theorem at0 {α:Type} {x:α} {xs:List α}:atI (x :: xs) 0=some x:=dH (xs:=x :: xs) (j:=0) rfl
theorem at1 {α:Type} {x y:α} {xs:List α}:atI (x :: y :: xs) 1=some y:=dH (xs:=x :: y :: xs) (j:=1) rfl
theorem at2 {α:Type} {x y z:α} {xs:List α}:atI (x :: y :: z :: xs) 2=some z:=dH (xs:=x :: y :: z :: xs) (j:=2) rfl
theorem at3 {α:Type} {x y z u:α} {xs:List α}:atI (x :: y :: z :: u :: xs) 3=some u:=dH (xs:=x :: y :: z :: u :: xs) (j:=3) rfl
theorem at4 {α:Type} {x y z u v:α} {xs:List α}:atI (x :: y :: z :: u :: v :: xs) 4=some v:=dH (xs:=x :: y :: z :: u :: v :: xs) (j:=4) rfl
theorem aFW {Q:PK1}:(bP Q).rt=Wk Q:=rfl
theorem aFT {Q:PK1} {σ:PSt} {G:Gh}:(bP Q).nx σ G=Wk Q .non G:=rfl
theorem bE:("int"∈jJ)=True∧("bool"∈jJ)=True∧("tuple"∈jJ)=True∧("str"∈jJ)=True∧("list"∈jJ)=True:=⟨eq_true (by decide),eq_true (by decide),eq_true (by decide),eq_true (by decide),eq_true (by decide)⟩
theorem aCV:kM "int" "bool"=false:=by decide
theorem IC:kM "tuple" "tuple"=true:=by decide
theorem sz2:(2:Nat)≤sizeLine:=by decide
theorem sz1:(1:Nat)≤sizeLine:=by decide
theorem sz3:(3:Nat)≤sizeLine:=by decide
noncomputable def FQ (q:Rat):PV:=.tup [.int q.num,.int (q.den:Int)]
noncomputable def lF:Sp3:=fun xs G Q=>∃ i,xs=[.int i]∧Q (.bl true) G
noncomputable def fS:Sp3:=fun xs G Q=>∃ i j:Int,xs=[.int i,.int j]∧0≤i∧0≤j∧Q (.int (Int.gcd i j)) G
noncomputable def MD:Sp3:=fun xs G Q=>∃ q,xs=[FQ q]∧Q (.bl true) G
noncomputable def fA:Sp3:=fun xs G Q=>∃ t b:Int,xs=[.int t,.int b]∧b≠0∧Sm 9000 b∧Q (FQ (Rat.divInt t b)) G
noncomputable def Bd (n:Nat) (q:Rat):Prop:=Sm n q.num∧Sm n (q.den:Int)
theorem Bd.mono {n m:Nat} {q:Rat} (h:Bd n q) (e:n≤m):Bd m q:=⟨h.1.mono e,h.2.mono e⟩
theorem KJ {t b:Int} (hb:b≠0):0 < b.gcd t:=Int.gcd_pos_of_ne_zero_left _ hb
theorem Bd.divInt {n:Nat} {t b:Int} (ht:Sm n t) (hb:Sm n b) (h0:b≠0):Bd n (Rat.divInt t b):=by
  have gp:(0:Int) < (b.gcd t:Int):=by have:=KJ (t:=t) h0; omega
  constructor
  · rw [Rat.num_divInt]
    have e:Sm n (b.sign * t):=by
      rcases Int.lt_trichotomy b 0 with z | z | z
      · rw [Int.sign_eq_neg_one_of_neg z,Int.neg_one_mul]; exact ht.neg
      · exact absurd z h0
      · rw [Int.sign_eq_one_of_pos z,Int.one_mul]; exact ht
    exact e.div gp
  · rw [Rat.den_divInt,if_neg h0]
    have e:Sm n ((b.natAbs:Int)):=by unfold Sm at *; omega
    have:=e.div gp
    rw [Int.natCast_ediv]
    exact this
theorem MB {t b:Int} (hb:0 < b):FQ (Rat.divInt t b)= .tup [.int (t / (Int.gcd t b:Int)),.int (b / (Int.gcd t b:Int))]:=by
  unfold FQ
  rw [Rat.num_divInt,Rat.den_divInt,if_neg (by omega),Int.sign_eq_one_of_pos hb,Int.one_mul,Int.gcd_comm,Int.natCast_ediv]
  have:(b.natAbs:Int)=b:=by omega
  rw [this]
theorem aE2 (a b:Rat):Rat.divInt (a.num * (b.den:Int) - b.num * (a.den:Int)) ((a.den:Int) * (b.den:Int))=a - b:=by
  rw [Rat.sub_def',←Rat.divInt_ofNat,Int.natCast_mul]
theorem OY {q:Rat}:(0:Int) < q.den:=by have:=q.den_pos; omega
theorem aGW {i:Int}:PV.tup [.int i,.int 1]=FQ (i:Rat):=rfl
theorem smK {x:Int} {n:Nat} (a: -1000000000000≤x) (b:x < 1000000000000) (e:41≤n):Sm n x:=by
  have:Sm 41 x:=by unfold Sm; omega
  exact this.mono e
noncomputable def VJ:Sp3:=fun xs G Q=>∃ qs:List Rat,xs=[.tup (qs.map FQ)]∧qs.length≤2∧Q .non G
noncomputable def uM:Sp3:=fun xs G Q=>∃ a b,xs=[FQ a,FQ b]∧Bd 4000 a∧Bd 4000 b∧Q (FQ (a + b)) G
noncomputable def nG:Sp3:=fun xs G Q=>∃ a b,xs=[FQ a,FQ b]∧Bd 4000 a∧Bd 4000 b∧Q (FQ (a - b)) G
noncomputable def nE:Sp3:=fun xs G Q=>∃ a b,xs=[FQ a,FQ b]∧Bd 4000 a∧Bd 4000 b∧Q (FQ (a * b)) G
noncomputable def vF:Sp3:=fun xs G Q=>∃ a b,xs=[FQ a,FQ b]∧Bd 4000 a∧Bd 4000 b∧b≠0∧Q (FQ (a / b)) G
noncomputable def nI:Sp3:=fun xs G Q=>∃ a b,xs=[FQ a,FQ b]∧Bd 4000 a∧Bd 4000 b∧Q (.bl (decide (a < b))) G
noncomputable def nw (q:Rat):Int:=(2 * q.num + (q.den:Int)) / (2 * (q.den:Int))
noncomputable def aAt:Sp3:=fun xs G Q=>∃ a,xs=[FQ a]∧Bd 8900 a∧Q (.int (nw a)) G
noncomputable def HE:Sp3:=fun xs G Q=>∃ a,xs=[FQ a]∧0≤a∧a≤1∧Q (.bl true) G
noncomputable def SH (a b c:Rat):PV:=.ob "Shade" ["ember","leaf","sky"] [FQ a,FQ b,FQ c]
noncomputable def In1 (a:Rat):Prop:=0≤a∧a≤1
noncomputable def eE:Sp3:=fun xs G Q=>∃ a b c,xs=[FQ a,FQ b,FQ c]∧In1 a∧In1 b∧In1 c∧Q (SH a b c) G
noncomputable def dD:Sp3:=fun xs G Q=>∃ p a b c,xs=[.ref p,FQ a,FQ b,FQ c]∧G p=some (.ins "Shade" [] [])∧In1 a∧In1 b∧In1 c∧Q .non (gup G p (.ins "Shade" ["ember","leaf","sky"] [FQ a,FQ b,FQ c]))
noncomputable def GL:Sp3:=fun xs G Q=>∃ a b c,xs=[SH a b c]∧Q (.bl true) G
noncomputable def eF:Sp3:=fun xs G Q=>∃ a b c,xs=[SH a b c]∧Q .non G
noncomputable def bD:Sp3:=fun xs G Q=>∃ a b c,xs=[SH a b c]∧Q (.tup [FQ a,FQ b,FQ c]) G
noncomputable def HS:Sp3:=fun xs G Q=>∃ x a b c,xs=[x]∧bI G x=some [FQ a,FQ b,FQ c]∧In1 a∧In1 b∧In1 c∧Q (SH a b c) G
noncomputable def KC:Sp3:=fun xs G Q=>∃ g:Int,xs=[.int g]∧1≤g∧g≤1000∧Q .non G
noncomputable def aCb:Sp3:=fun xs G Q=>∃ g:Int,xs=[.int g]∧1≤g∧g≤1000∧Q (.bl true) G
noncomputable def OP:Sp3:=fun xs G Q=>∃ s g:Int,xs=[.int s,.int g]∧0≤s∧s≤g∧Q (.bl true) G
noncomputable def AJ:Sp3:=fun xs G Q=>∃ s g:Int,xs=[.int s,.int g]∧0≤s∧s≤g∧Q .non G
noncomputable def stp (a:Rat) (g:Int):PV:=.int (nw (a * (g:Rat)))
noncomputable def FY:Sp3:=fun xs G Q=>∃ a b c g,xs=[SH a b c,.int g]∧1≤g∧g≤1000∧Bd 3000 a∧Bd 3000 b∧Bd 3000 c∧Q (.tup [stp a g,stp b g,stp c g]) G
noncomputable def aBM (s g:Int):Rat:=Rat.divInt (max (2 * s - 1) 0) (2 * g)
noncomputable def aBB (s g:Int):Rat:=if s=g then 1 else Rat.divInt (2 * s + 1) (2 * g)
noncomputable def aA6:Sp3:=fun xs G Q=>∃ s g:Int,xs=[.int s,.int g]∧1≤g∧g≤1000∧0≤s∧s≤g∧Q (.tup [FQ (aBM s g),FQ (aBB s g),.bl (decide (s=g))]) G
structure PT (T:Tb):Prop where
  is_whole:T.S "is_whole"=lF
  common:T.S "common"=fS
  is_fraction:T.S "is_fraction"=MD
  lowest:T.S "lowest"=fA
  need_fractions:T.S "need_fractions"=VJ
  plus:T.S "plus"=uM
  minus:T.S "minus"=nG
  times:T.S "times"=nE
  over:T.S "over"=vF
  below:T.S "below"=nI
  nearest_whole:T.S "nearest_whole"=aAt
  is_share:T.S "is_share"=HE
  shade:T.S "Shade"=eE
  shadeI:T.S "Shade.__init__"=dD
  is_shade:T.S "is_shade"=GL
  need_shade:T.S "need_shade"=eF
  shares_of:T.S "shares_of"=bD
  shade_of:T.S "shade_of"=HS
  is_grade:T.S "is_grade"=aCb
  need_grade:T.S "need_grade"=KC
  is_step:T.S "is_step"=OP
  need_step:T.S "need_step"=AJ
  printed:T.S "printed"=FY
  span_of:T.S "span_of"=aA6
  gv_ONE:T.gv "ONE"=FQ 1
  gv_ZERO:T.gv "ZERO"=FQ 0
  gv_MOST_GRADE:T.gv "MOST_GRADE"= .int 1000
  gv_Shade:T.gv "Shade"= .cl "Shade"
  cs: "Shade"∈T.cs
  fl_e:("Shade",("ember":Str))∈T.fl
  fl_l:("Shade",("leaf":Str))∈T.fl
  fl_s:("Shade",("sky":Str))∈T.fl
  ty_int:T.gv "int"= .ty "int"
  ty_bool:T.gv "bool"= .ty "bool"
  ty_tuple:T.gv "tuple"= .ty "tuple"
theorem aEC {q:Rat} {G:Gh} {Q:PK1}:mU (FQ q) (.int 0) G Q=Q (.int q.num) G:=by unfold FQ; rw [fE,at0,DY]
theorem aDV {q:Rat} {G:Gh} {Q:PK1}:mU (FQ q) (.int 1) G Q=Q (.int q.den) G:=by unfold FQ; rw [fE,at1,DY]
theorem tY {a b:Rat}:(FQ a=FQ b)=(a=b):=propext ⟨fun h=>by
  unfold FQ at h
  injection h with h
  injection h with h1 h
  injection h with h2 _
  injection h1 with h1
  injection h2 with h2
  exact Rat.ext h1 (by omega),fun h=>by rw [h]⟩
theorem aAo {q:Rat}:(1:Int)≤q.den:=by have:=q.den_pos; omega
theorem xC {chk:Gh→Prop} {g:PTG} {tb:PTS} {D:gZ} {σ:PSt} {G:Gh}:lW chk g tb D [] σ G=(chk G∧D.nx σ G):=rfl
theorem sD {chk:Gh→Prop} {g:PTG} {tb:PTS} {D:gZ} {x:PV} {r:List PV} {σ:PSt} {G:Gh}:lW chk g tb D (x :: r) σ G=(chk G∧g x σ G fun σ2 G2=>tb { D with nx:=lW chk g tb D r,ct:=lW chk g tb D r,bk:=D.nx } σ2 G2):=rfl
theorem iY {chk:Gh→Prop} {g:PTG} {ts:PTT} {te:PTE} {acc:List PV} {σ:PSt} {G:Gh} {Q:List PV→Gh→Prop}:hJ chk g ts te [] acc σ G Q=(chk G∧Q acc G):=rfl
theorem gE {chk:Gh→Prop} {g:PTG} {ts:PTT} {te:PTE} {x:PV} {r acc:List PV} {σ:PSt} {G:Gh} {Q:List PV→Gh→Prop}:hJ chk g ts te (x :: r) acc σ G Q=(chk G∧g x σ G fun σ2 G2=>ts σ2 G2 fun ok G3=>if ok=true then te σ2 G3 fun y G4=>hJ chk g ts te r (acc ++ [y]) σ2 G4 Q else hJ chk g ts te r acc σ2 G3 Q):=rfl
theorem aHW {a:PV}:wD [a]=[.tup [.int 0,a]]:=rfl
theorem aH3 {a b:PV}:wD [a,b]=[.tup [.int 0,a],.tup [.int 1,b]]:=rfl
theorem aD0 {a b c:PV}:wD [a,b,c]=[.tup [.int 0,a],.tup [.int 1,b],.tup [.int 2,c]]:=rfl
theorem aHZ:pQ 0 (3:Int).toNat=[.int 0,.int 1,.int 2]:=rfl
theorem yP:pQ 0 3=[.int 0,.int 1,.int 2]:=rfl
theorem IS {a b c a' b' c':Rat}:(SH a b c=SH a' b' c')=(a=a'∧b=b'∧c=c'):=propext ⟨fun h=>by
  unfold SH at h
  injection h with _ _ h
  injection h with h1 h
  injection h with h2 h
  injection h with h3 _
  rw [tY] at h1 h2 h3
  exact ⟨h1,h2,h3⟩,fun ⟨h1,h2,h3⟩=>by rw [h1,h2,h3]⟩
section
variable {T:Tb}
noncomputable def jS:CS:=(.ret (.an (.blt .isi (.cons (.var 0) (.cons (.glo "int") .nil))) (.no (.blt .isi (.cons (.var 0) (.cons (.glo "bool") .nil))))))
theorem wU {x y:Int} (hx:0≤x) (hy:0 < y):Int.gcd y (x % y)=Int.gcd x y:=by
  rw [Int.gcd_comm x y]
  show y.natAbs.gcd (x % y).natAbs=y.natAbs.gcd x.natAbs
  have e:(x % y).natAbs=x.natAbs % y.natAbs:=by rw [Int.natAbs_emod_of_nonneg hx]
  rw [e,Nat.gcd_rec y.natAbs x.natAbs,Nat.gcd_comm]
noncomputable def mM:CS:=(.seq (.wh (.tsb (.cmp .NotEq (.var 1) (.int 0))) (.par 0 1 (.var 1) (.bin .Mod (.var 0) (.var 1))))
  (.ret (.var 0)))
noncomputable def fR:CS:=(.seq (.iff (.oo (.no (.tst (.blt .isi (.cons (.var 0) (.cons (.glo "tuple") .nil))))) (.tsb (.cmp .NotEq (.blt .len (.cons (.var 0) .nil)) (.int 2)))) (.ret (.bl false)) .nil)
  (.seq (.asg (.gt 2 (.cons (.gn 1) (.cons (.gn 2) .nil))) (.var 0))
  (.ret (.an (.cal "is_whole" (.cons (.var 1) .nil)) (.an (.cal "is_whole" (.cons (.var 2) .nil)) (.an (.cmp .GtE (.var 2) (.int 1)) (.cmp .Eq (.cal "common" (.cons (.blt .abs (.cons (.var 1) .nil)) (.cons (.var 2) .nil))) (.int 1))))))))
theorem CT (t b:Int):Int.gcd (t.natAbs:Int) b=Int.gcd t b:=by show (t.natAbs:Int).natAbs.gcd _=_; rw [Int.natAbs_natCast]; rfl
theorem TU {t b:Int} (hb:0 < b) (sb:Sm 9000 b):mH t (Int.gcd t b:Int)∧mH b (Int.gcd t b:Int):=by
  have gp:(0:Int) < (Int.gcd t b:Int):=by have:=Int.gcd_pos_of_ne_zero_right t (show b≠0 by omega); omega
  have gl:(Int.gcd t b:Int)≤b:=Int.le_of_dvd hb (Int.gcd_dvd_right _ _)
  have sg:Sm 9000 (Int.gcd t b:Int):=sb.le (by omega) gl
  exact ⟨EZ gp sg,EZ gp sg⟩
end
section
variable {T:Tb}
noncomputable def jR:CS:=(.ret (.an (.cal "is_fraction" (.cons (.var 0) .nil)) (.chn .LtE .LtE (.int 0) (.idx (.var 0) (.int 0)) (.idx (.var 0) (.int 1)))))
theorem BA {a:Rat} (h:0≤a):0≤a.num:=Rat.num_nonneg.mpr h
theorem aCt {a:Rat} (h:a≤1):a.num≤(a.den:Int):=by
  have:=(Rat.le_iff a 1).mp h
  simpa using this
noncomputable def jQ:CS:=(.ret (.blt .isi (.cons (.var 0) (.cons (.glo "Shade") .nil))))
theorem uR {c:String} {ns:List Str} {xs:List PV} {f:Str} {v:PV} {G:Gh} {Q:PK1} (hf:(c,f)∈T.fl) (hl:(ns.zip xs).lookup f=some v):OT T (.ob c ns xs) f G Q=Q v G:=by
  refine propext ⟨fun h=>?_,fun q=>⟨_,_,_,_,.inl rfl,hf,hl,q⟩⟩
  obtain ⟨c',ns',xs',v',e,_,l,q⟩:=h
  rcases e with e | ⟨_,e,_⟩
  · cases e
    rw [hl] at l
    cases l
    exact q
  · cases e
theorem LQ (h:PT T):uN T "Shade" "Shade" "Shade.__init__":=by
  intro xs G Q q p hp
  rw [h.shade] at q
  rw [h.shadeI]
  obtain ⟨a,b,c,rfl,ha,hb,hc,q⟩:=q
  refine ⟨p,a,b,c,rfl,aN,ha,hb,hc,rfl,_,_,aN, ?_⟩
  rw [eQ,oU hp]
  exact q
end
noncomputable def PU (x y z:Int):GO:=.lst [.int x,.int y,.int z]
noncomputable def Pu (p:Addr) (G:Gh):Prop:= ∃ x y z,G p=some (PU x y z)
noncomputable def Pn (p:Addr) (G G':Gh):Prop:= ∃ x y z,G'=gup G p (PU x y z)
theorem Pn.pu {p:Addr} {G G':Gh} (h:Pn p G G'):Pu p G':=let ⟨x,y,z,e⟩:=h; ⟨x,y,z,by rw [e]; exact aN⟩
theorem Pn.ne {p q:Addr} {G G':Gh} (h:Pn p G G') (n:q≠p):G' q=G q:=let ⟨x,y,z,e⟩:=h; by rw [e]; exact dX n
theorem Pn.trans {p:Addr} {G G1 G2:Gh} (a:Pn p G G1) (b:Pn p G1 G2):Pn p G G2:=let ⟨x,y,z,e⟩:=a; let ⟨x',y',z',e'⟩:=b; ⟨x',y',z',by rw [e',e,eQ]⟩
theorem Pu.ne {p q:Addr} {G:Gh} (h:Pu p G) (n:G q=none):q≠p:=fun e=>by subst e; obtain ⟨_,_,_,e⟩:=h; rw [n] at e; cases e
theorem Pu.new {p q:Addr} {G:Gh} {o:GO} (h:Pu p G) (n:G q=none):Pu p (gup G q o):=let ⟨x,y,z,e⟩:=h; ⟨x,y,z,by rw [dX (Ne.symm (h.ne n))]; exact e⟩
noncomputable def iP:Sp3:=fun xs G Q=>∃ p m,xs=[.ref p,.int m]∧Pu p G∧0 < m∧Sm 8000 m∧∀ r G',0≤r→r < m→Pn p G G'→Q (.int r) G'
noncomputable def pG:Sp3:=fun xs G Q=>∃ (ns:List Int) (k:Int),xs=[.scr ns,.int k]∧0≤k∧k < 64∧∀ c,Q (.int c) G
noncomputable def kR:Sp3:=fun xs G Q=>∃ c:Int,xs=[.int c]∧∀ p x y z,G p=none→Q (.ref p) (gup G p (PU x y z))
noncomputable def fO:Sp3:=fun xs G Q=>∃ p,xs=[.ref p]∧Pu p G∧∀ q G',In1 q→Bd 12 q→Pn p G G'→Q (FQ q) G'
noncomputable def fV:Sp3:=fun xs G Q=>∃ p,xs=[.ref p]∧Pu p G∧∀ a b c G',In1 a→In1 b→In1 c→Bd 12 a→Bd 12 b→Bd 12 c→Pn p G G'→Q (.tup [FQ a,FQ b,FQ c]) G'
noncomputable def mD:Sp3:=fun xs G Q=>∃ q,xs=[FQ q]∧Bd 8900 q∧Q (.bl true) G
structure LT (T:Tb):Prop where
  cell:T.S "_law_cell"=pG
  purse:T.S "_law_purse"=kR
  pick:T.S "_law_pick"=iP
  whole:T.S "_law_whole"=lF
  low:T.S "_law_low"=fA
  plus:T.S "_law_plus"=uM
  minus:T.S "_law_minus"=nG
  times:T.S "_law_times"=nE
  over:T.S "_law_over"=vF
  below:T.S "_law_below"=nI
  is_fraction:T.S "_law_is_fraction"=mD
  share:T.S "_law_share"=fO
  shares:T.S "_law_shares"=fV
set_option hygiene false in
local macro_rules | `(tactic| walk_at "rd") => `(tactic| simp only [wpS, wpE, wpL, wpT, wpO, wpI, wpG, gU, bP, aL, List.length_cons, List.length_nil, List.cons_append, List.nil_append, List.append_nil, List.replicate, Nat.reduceAdd, Nat.reduceSub, Nat.zero_add, List.getElem?_cons_zero, List.getElem?_cons_succ, List.set_cons_zero, List.set_cons_succ, Option.some.injEq, exists_eq_left', true_and, and_true, ite_self, jT, iD, vY, yJ, yA, iQ, PD, iK, CN, QD, uD, gS, nH, vZ, iZ, fQ, oO, OZ, yI, CW, oV, nO, bE.1, bE.2.1, bE.2.2.1, IC, at0, at1, at2, XX, XA, YC, List.cons.injEq, PV.int.injEq, PV.bl.injEq, PV.str.injEq, PV.ref.injEq, PV.tup.injEq, and_assoc, exists_and_left, eq_self, aEC, aDV, lF, fA, List.map, Bool.not_true, Bool.not_false, Bool.and_self, Bool.and_true, Bool.true_and, if_true, if_false, ite_true, ite_false, Bool.false_eq_true, decide_eq_true_eq, decide_true, decide_false, reduceCtorEq, sz2, sz3, Wk.here, *])
section
variable {T:Tb}
noncomputable def iR:CS:=(.seq (.sub (.var 0) (.int 2) (.bin .Add (.idx (.var 0) (.int 2)) (.int 1)))
  (.seq (.asg (.gn 2) (.bin .Mod (.idx (.var 0) (.int 0)) (.int 999999937)))
  (.seq (.sub (.var 0) (.int 0) (.bin .Add (.bin .Mult (.var 2) (.bin .Add (.bin .Mod (.var 2) (.int 50021)) (.int 20011))) (.bin .Mult (.int 90001) (.idx (.var 0) (.int 2)))))
  (.seq (.iff (.tsb (.cmp .Gt (.idx (.var 0) (.int 1)) (.int 0))) (.seq (.asg (.gn 3) (.bin .Mod (.idx (.var 0) (.int 1)) (.var 1)))
  (.seq (.sub (.var 0) (.int 1) (.bin .FloorDiv (.idx (.var 0) (.int 1)) (.var 1)))
  (.ret (.var 3)))) .nil)
  (.ret (.bin .Mod (.bin .FloorDiv (.bin .Mod (.idx (.var 0) (.int 0)) (.int 999999937)) (.int 16)) (.var 1)))))))
theorem MV {G:Gh} {p:Addr} {o:GO} (h:G p=some o):gup G p o=G:=by
  funext b; unfold gup; split
  · rename_i e; rw [e]; exact h.symm
  · rfl
theorem BD {x:Int} (a:0≤x) (b:x < 1000000000000):Sm 64 x:=by unfold Sm; omega
theorem KE:∀ xs G Q,iP xs G Q→wpS T iR (bP Q) (aL 4 xs) G:=by
  rintro xs G Q ⟨p,m,rfl,⟨x,y,z,hp⟩,h0,h1,hq⟩
  unfold iR
  have e:G=gup G p (.lst [.int x,.int y,.int z]):=(MV hp).symm
  have fin:∀ r x' y' z',0≤r→r < m→Q (.int r) (gup G p (.lst [.int x',.int y',.int z'])):=fun r x' y' z' a b=>hq r _ a b ⟨x',y',z',rfl⟩
  generalize hG:gup G p (.lst [.int x,.int y,.int z])=G1 at e
  rw [←hG] at e
  rw [e]
  clear e hG
  walk_at "rd"
  refine ⟨by show (0:Int) < 999999937; decide,by show (0:Int) < 50021; decide,JQ (BD (Int.emod_nonneg _ (by decide)) (Int.lt_trans (Int.emod_lt_of_pos _ (by decide)) (by decide))),JQ (BD (by decide) (by decide)), ?_⟩
  split
  · exact ⟨h0,EZ (k:=8000) h0 h1,Wk.here (fin _ _ _ _ (Int.emod_nonneg _ (by omega)) (Int.emod_lt_of_pos _ h0))⟩
  · exact ⟨by show (0:Int) < 999999937; decide,EZ (k:=64) (by decide) (BD (by decide) (by decide)),h0,Wk.here (fin _ _ _ _ (Int.emod_nonneg _ (by omega)) (Int.emod_lt_of_pos _ h0))⟩
noncomputable def gN:CS:=(.ret (.lst true (.cons (.bin .Add (.bin .Mult (.bin .Mod (.var 0) (.int 999999937)) (.int 7001)) (.int 3301)) (.cons (.idx (.lst false (.cons (.int 0) (.cons (.var 0) .nil))) (.blt .int (.cons (.cmp .GtE (.var 0) (.bin .Pow (.int 10) (.int 18))) .nil))) (.cons (.int 0) .nil)))))
theorem HK:∀ xs G Q,kR xs G Q→wpS T gN (bP Q) (aL 1 xs) G:=by
  rintro xs G Q ⟨c,rfl,hq⟩
  unfold gN
  walk_at "rd"
  refine ⟨by show (0:Int) < 999999937; decide,aFt (BD (by decide) (by decide)),⟨by decide,by decide,by decide⟩, ?_⟩
  have e:∃ x,atI [PV.int 0,PV.int c] (if decide ((10:Int) ^ Int.toNat 18≤c)=true then 1 else 0)=some (.int x):=by
    split
    · exact ⟨_,at1⟩
    · exact ⟨_,at0⟩
  obtain ⟨x,e⟩:=e
  simp only [decide_eq_true_eq] at e
  refine ⟨_,e,fun p n=>Wk.here (hq p _ _ _ n)⟩
noncomputable def pA:CS:=(.seq (.par 2 3 (.blt .abs (.cons (.var 0) .nil)) (.var 1))
  (.seq (.wh (.tsb (.cmp .Gt (.var 3) (.int 0))) (.par 2 3 (.var 3) (.bin .Mod (.var 2) (.var 3))))
  (.ret (.tup (.cons (.bin .FloorDiv (.var 0) (.var 2)) (.cons (.bin .FloorDiv (.var 1) (.var 2)) .nil))))))
noncomputable def kI:CS:=(.seq (.iff (.tsb (.cmp .Lt (.var 1) (.int 0))) (.par 0 1 (.bin .Sub (.int 0) (.var 0)) (.bin .Sub (.int 0) (.var 1))) .nil) pA)
theorem xB {t b:Int} {G:Gh} {Q:PK1} (hb:0 < b) (sb:Sm 9000 b) (hq:Q (FQ (Rat.divInt t b)) G) :
    wpS T pA (bP Q) [some (.int t),some (.int b),none,none] G:=by
  unfold pA
  walk_at "rd"
  refine ⟨fun m σ H=>∃ x y,σ=[some (.int t),some (.int b),some (.int x),some (.int y)]∧H=G∧0≤x∧0≤y∧Int.gcd x y=Int.gcd t b∧m=y.toNat,⟨_,_,_,rfl,rfl,by omega,by omega,CT t b,rfl⟩, ?_⟩
  rintro m σ H ⟨x,y,rfl,rfl,hx,hy,hg,rfl⟩
  walk_at "rd"
  split
  · rename_i hy0
    have h2:=Int.emod_lt_of_pos x (show 0 < y by omega)
    have h3:=Int.emod_nonneg x (show y≠0 by omega)
    exact ⟨by show 0 < y; omega,(x % y).toNat,by omega,h3,(wU hx (by omega)).trans hg,rfl⟩
  · rename_i hy0
    have e:y=0:=by omega
    subst e
    have g:x=((Int.gcd t b:Nat):Int):=by rw [←hg,Int.gcd_zero_right]; omega
    obtain ⟨d1,d2⟩:=TU (t:=t) (b:=b) hb sb
    subst g
    refine ⟨d1,d2,Wk.here ?_⟩
    rw [←MB hb]; exact hq
theorem VU:∀ xs G Q,fA xs G Q→wpS T kI (bP Q) (aL 4 xs) G:=by
  rintro xs G Q ⟨t,b,rfl,h0,sb,hq⟩
  unfold kI
  have e0:∀ x:Int,0 - x= -x:=fun x=>by omega
  walk_at "rd"
  split
  · rename_i hb
    refine xB (by omega) sb.neg ?_
    rw [Rat.neg_divInt_neg]; exact hq
  · rename_i hb
    exact xB (by omega) sb hq
theorem aGk {q:Rat}:shp (FQ q)=true:=rfl
theorem aGU {G:Gh} {q:Rat}:pur G (FQ q)=FQ q:=rfl
end
set_option hygiene false in
local macro_rules | `(tactic| walk_at "rd") => `(tactic| simp only [wpS, wpE, wpL, wpT, wpO, wpI, wpG, gU, bP, aL, List.length_cons, List.length_nil, List.cons_append, List.nil_append, List.append_nil, List.replicate, Nat.reduceAdd, Nat.reduceSub, Nat.zero_add, List.getElem?_cons_zero, List.getElem?_cons_succ, List.set_cons_zero, List.set_cons_succ, Option.some.injEq, exists_eq_left', true_and, and_true, exists_false, ite_self, false_and, and_false, or_false, jT, iD, yJ, iQ, iK, CN, gS, fN, fE, OX, fQ, oO, xN, hX, oV, nO, KF, bE.1, bE.2.1, bE.2.2.1, at0, at1, at2, List.cons.injEq, PV.int.injEq, PV.bl.injEq, PV.str.injEq, PV.ref.injEq, PV.tup.injEq, and_assoc, exists_and_left, eq_self, tY, fA, Int.reduceToNat, Int.reducePow, iY, gE, yP, HH, Option.getD_some, List.map, iP, fO, eE, Bool.not_true, Bool.not_false, Bool.and_self, Bool.and_true, Bool.true_and, if_true, if_false, ite_true, ite_false, Bool.false_eq_true, decide_eq_true_eq, decide_true, decide_false, reduceCtorEq, sz3, Wk.here, *])
section
variable {T:Tb}
noncomputable def iB:CS:=(.seq (.iff (.tsb (.cmp .Lt (.var 1) (.blt .len (.cons (.var 0) .nil)))) (.ret (.idx (.var 0) (.var 1))) .nil)
  (.seq (.asg (.gn 2) (.bin .Mod (.bin .Mult (.int 60013) (.bin .Add (.bin .Add (.bin .Mult (.var 1) (.var 1)) (.bin .Mult (.int 7) (.var 1))) (.int 3))) (.int 999999937)))
  (.seq (.fr (.gn 3) (.isq (.sli (.var 0) .nil (.tst (.int 4)))) (.asg (.gn 2) (.bin .Mod (.bin .Add (.bin .Mult (.var 2) (.int 30103)) (.var 3)) (.int 999999937))))
  (.ret (.var 2)))))
theorem kO {g:PTG} {tb:PTS} {D:gZ} (I:PSt→Gh→Prop):∀ {xs:List PV} {σ:PSt} {G:Gh},I σ G→(∀ x∈xs,∀ σ G R,I σ G→(∀ σ' G',I σ' G'→R σ' G')→g x σ G fun σ2 G2=>tb { D with nx:=R,ct:=R,bk:=D.nx } σ2 G2)→(∀ σ G,I σ G→D.nx σ G)→lW (fun _=>True) g tb D xs σ G
  | [],σ,G,h,_,hd=>⟨trivial,hd σ G h⟩
  | x :: r,σ,G,h,hs,hd=>⟨trivial,hs x (List.mem_cons_self ..) σ G _ h fun σ' G' h'=>kO I h' (fun y hy=>hs y (List.mem_cons_of_mem _ hy)) hd⟩
theorem OH {ns:List Int} {lo hi:Option Int} {G:Gh} {Q:PK1}:VW (.scr ns) lo hi G Q=Q (.lst (uL (ns.map .int) lo hi)) G:=rfl
theorem OU:∀ xs G Q,pG xs G Q→wpS T iB (bP Q) (aL 4 xs) G:=by
  rintro xs G Q ⟨ns,k,rfl,h0,h1,hq⟩
  unfold iB
  have:=@OH
  walk_at "rd"
  split
  · rename_i hk
    obtain ⟨j,rfl⟩:=Int.eq_ofNat_of_zero_le h0
    have hj:j < ns.length:=by omega
    exact ⟨ns[j],dH (by simp [hj])⟩
  · have sk:Sm 64 k:=BD h0 (by omega)
    refine ⟨JQ sk,aFt sk,JQ (BD (by decide) (by decide)),by show (0:Int) < 999999937; decide, ?_⟩
    refine kO (fun σ G'=>G'=G∧∃ st u,σ=[some (.scr ns),some (.int k),some (.int st),u]∧0≤st∧st < 999999937) ⟨rfl,_,_,rfl,Int.emod_nonneg _ (by decide),Int.emod_lt_of_pos _ (by decide)⟩ ?_ ?_
    · rintro x hx σ G' R ⟨rfl,st,u,rfl,a1,a2⟩ hR
      have hx':x∈ns.map PV.int:=by
        unfold uL at hx
        exact List.mem_of_mem_drop (List.mem_of_mem_take hx)
      obtain ⟨c,_,rfl⟩:=List.mem_map.mp hx'
      walk_at "rd"
      exact ⟨JQ (BD a1 (by omega)),by show (0:Int) < 999999937; decide,hR _ _ ⟨rfl,_,_,rfl,Int.emod_nonneg _ (by decide),Int.emod_lt_of_pos _ (by decide)⟩⟩
    · rintro σ G' ⟨rfl,st,u,rfl,a1,a2⟩
      walk_at "rd"
theorem ZT {r k:Int} (a:0≤r) (b:r < 10) (c:0≤k) (d:k < 997):∃ v,atI [PV.int 1,PV.int 2,PV.int 3,PV.int 4,PV.int 6,PV.int 12,PV.int 60,PV.int 255,PV.int 510,PV.int (1 + k)] r=some (.int v)∧1≤v∧v≤997:=by
  have e:r=0∨r=1∨r=2∨r=3∨r=4∨r=5∨r=6∨r=7∨r=8∨r=9:=by omega
  rcases e with rfl | rfl | rfl | rfl | rfl | rfl | rfl | rfl | rfl | rfl
  · exact ⟨_,at0,by omega,by omega⟩
  · exact ⟨_,at1,by omega,by omega⟩
  · exact ⟨_,at2,by omega,by omega⟩
  · exact ⟨_,at3,by omega,by omega⟩
  · exact ⟨_,at4,by omega,by omega⟩
  · exact ⟨_,dH (j:=5) rfl,by omega,by omega⟩
  · exact ⟨_,dH (j:=6) rfl,by omega,by omega⟩
  · exact ⟨_,dH (j:=7) rfl,by omega,by omega⟩
  · exact ⟨_,dH (j:=8) rfl,by omega,by omega⟩
  · exact ⟨_,dH (j:=9) rfl,by omega,by omega⟩
noncomputable def gJ:CS:=(.seq (.asg (.gn 1) (.cal "_law_pick" (.cons (.var 0) (.cons (.int 10) .nil))))
  (.seq (.asg (.gn 2) (.idx (.lst false (.cons (.int 1) (.cons (.int 2) (.cons (.int 3) (.cons (.int 4) (.cons (.int 6) (.cons (.int 12) (.cons (.int 60) (.cons (.int 255) (.cons (.int 510) (.cons (.bin .Add (.int 1) (.cal "_law_pick" (.cons (.var 0) (.cons (.int 997) .nil)))) .nil))))))))))) (.var 1)))
  (.ret (.cal "_law_low" (.cons (.cal "_law_pick" (.cons (.var 0) (.cons (.bin .Add (.var 2) (.int 1)) .nil))) (.cons (.var 2) .nil))))))
theorem smP {x:Int} (a:0≤x) (b:x < 1000000000000):Sm 8000 x:=smK (by omega) b (by decide)
theorem QF {t b:Int} (h0:0≤t) (h1:t≤b) (hb:0 < b):In1 (Rat.divInt t b):=by
  constructor
  · exact Rat.divInt_nonneg h0 (by omega)
  · rw [Rat.divInt_eq_div]
    have hb':(0:Rat) < (b:Rat):=Rat.intCast_pos.mpr hb
    have h2:(t:Rat)≤(b:Rat):=Rat.intCast_le_intCast.mpr h1
    have h3:(t:Rat) / (b:Rat) * (b:Rat)=(t:Rat):=Rat.div_mul_cancel (by grind)
    refine Rat.le_of_mul_le_mul_right (c:=(b:Rat)) ?_ hb'
    grind
theorem aCe {t b:Int} {n:Nat} (ht:Sm n t) (hb:Sm n b) (h0:b≠0):Bd n (Rat.divInt t b):=Bd.divInt ht hb h0
theorem ES (h:LT T):∀ xs G Q,fO xs G Q→wpS T gJ (bP Q) (aL 3 xs) G:=by
  rintro xs G Q ⟨p,rfl,hp,hq⟩
  unfold gJ
  have:=h.pick
  have:=h.low
  walk_at "rd"
  refine ⟨by decide,smP (by decide) (by decide),fun r1 G1 a1 b1 n1=>⟨n1.pu,by decide,smP (by decide) (by decide),fun r2 G2 a2 b2 n2=>?_⟩⟩
  obtain ⟨v,e,c1,c2⟩:=ZT a1 b1 a2 b2
  refine ⟨by decide,_,e, ?_⟩
  walk_at "rd"
  refine ⟨n2.pu,by omega,smP (by omega) (by omega),fun r3 G3 a3 b3 n3=>?_⟩
  refine ⟨by omega,smK (by omega) (by omega) (by decide),Wk.here (hq _ _ (QF a3 (by omega) (by omega)) (aCe ?_ ?_ (by omega)) ((n1.trans n2).trans n3))⟩
  · unfold Sm; omega
  · unfold Sm; omega
noncomputable def Pk (p:Addr) (G K:Gh):Prop:= ∃ G',Pn p G G'∧∀ a u,G' a=some u→K a=some u
theorem Pk.of {p:Addr} {G G':Gh} (h:Pn p G G'):Pk p G G':=⟨G',h,fun _ _ z=>z⟩
theorem Pk.new {p l:Addr} {G K:Gh} {o:GO} (h:Pk p G K) (n:K l=none):Pk p G (gup K l o):=by
  obtain ⟨G',a,b⟩:=h
  refine ⟨G',a,fun x u q=>?_⟩
  have:=b x u q
  rw [dX (fun e=>by rw [e,n] at this; cases this)]; exact this
theorem Pk.set {p l:Addr} {G K:Gh} {o:GO} (h:Pk p G K) (n:G l=none) (ne:l≠p):Pk p G (gup K l o):=by
  obtain ⟨G',a,b⟩:=h
  refine ⟨G',a,fun x u q=>?_⟩
  have e:x≠l:=fun e=>by rw [e,a.ne ne,n] at q; cases q
  rw [dX e]; exact b x u q
theorem Pk.pick {p:Addr} {G K K':Gh} (h:Pk p G K) (m:Pn p K K'):Pk p G K':=by
  obtain ⟨G',a,b⟩:=h
  obtain ⟨x,y,z,e⟩:=m
  refine ⟨gup G' p (PU x y z),a.trans ⟨x,y,z,rfl⟩,fun c u q=>?_⟩
  rw [e]
  by_cases ec:c=p
  · subst ec; rw [aN] at q ⊢; exact q
  · rw [dX ec] at q ⊢; exact b c u q
theorem Pk.end_ {p:Addr} {G K:Gh} {Q:PK1} {x:PV} (h:Pk p G K) (q:∀ G',Pn p G G'→Q x G'):Wk Q x K:=let ⟨G',a,b⟩:=h; Wk.of (q G' a) b
theorem YS {j:Int} {R:Int→Prop} {A:Int→Int→Prop}:((∃ k,[PV.int j]=[PV.int k]∧R k)∨(∃ i k,[PV.int j]=[PV.int i,PV.int k]∧A i k))=R j:=propext
  ⟨fun h=>h.elim (fun ⟨_,e,r⟩=>by cases e; exact r) (fun ⟨_,_,e,_⟩=>by cases e),fun r=>.inl ⟨_,rfl,r⟩⟩
end
noncomputable abbrev R3:=Rat×Rat×Rat
noncomputable def shV (r:R3):PV:=SH r.1 r.2.1 r.2.2
theorem aHX {a b c:Rat}:shp (.tup [FQ a,FQ b,FQ c])=true:=rfl
theorem av0 {xs:List PV} {x:PV}:Ar.val (x :: xs) (.arg 0)=x:=rfl
theorem av1 {xs:List PV} {x y:PV}:Ar.val (x :: y :: xs) (.arg 1)=y:=rfl
theorem av2 {xs:List PV} {x y z:PV}:Ar.val (x :: y :: z :: xs) (.arg 2)=z:=rfl
theorem avn {xs:List PV}:Ar.val xs .non= .non:=rfl
section
variable {T:Tb}
end
noncomputable def sg:Nat→Nat | 0=>0 | 1=>1 | 2=>1 | 3=>2 | 4=>2 | _=>0
noncomputable def sl:Nat→Nat | 0=>2 | 1=>2 | 2=>0 | 3=>0 | 4=>1 | _=>1
noncomputable def sm:Nat→Nat | 0=>1 | 1=>0 | 2=>2 | 3=>1 | 4=>0 | _=>2
noncomputable def ss:Nat→Int | 0=>0 | 1=>2 | 2=>2 | 3=>4 | 4=>4 | _=>6
noncomputable def sw:Nat→Int | 0=>1 | 1=> -1 | 2=>1 | 3=> -1 | 4=>1 | _=> -1
noncomputable def p3 (i:Nat) (a b c:Rat):Rat:=match i with | 0=>a | 1=>b | _=>c
noncomputable def EK (k:Nat) (a b c:Rat):Bool:= !decide (p3 (sg k) a b c < p3 (sm k) a b c) && !decide (p3 (sm k) a b c < p3 (sl k) a b c)
noncomputable def kOf (a b c:Rat):Nat:=if EK 0 a b c=true then 0 else if EK 1 a b c=true then 1 else if EK 2 a b c=true then 2 else if EK 3 a b c=true then 3 else if EK 4 a b c=true then 4 else 5
noncomputable def lo (a b c:Rat):Rat:=p3 (sl (kOf a b c)) a b c
noncomputable def hi (a b c:Rat):Rat:=p3 (sg (kOf a b c)) a b c
noncomputable def mi (a b c:Rat):Rat:=p3 (sm (kOf a b c)) a b c
noncomputable def tn (a b c:Rat):Rat:=(ss (kOf a b c):Rat) + (sw (kOf a b c):Rat) * ((mi a b c - lo a b c) / (hi a b c - lo a b c))
noncomputable def c0 (t:Rat):Rat:=if t≤1 then 1 else if t≤2 then 2 - t else if t≤4 then 0 else if t≤5 then t - 4 else 1
noncomputable def c1 (t:Rat):Rat:=if t≤1 then t else if t≤3 then 1 else if t≤4 then 4 - t else 0
noncomputable def c2 (t:Rat):Rat:=if t≤2 then 0 else if t≤3 then t - 2 else if t≤5 then 1 else 6 - t
theorem sub_int (q:Rat) (z:Int):(q - (z:Rat)).num=q.num - z * (q.den:Int)∧(q - (z:Rat)).den=q.den:=by
  have e:q - (z:Rat)=Rat.divInt (q.num - z * (q.den:Int)) (q.den:Int):=by
    have:=aE2 q (z:Rat)
    rw [←this]
    show Rat.divInt (q.num * ((1:Nat):Int) - z * (q.den:Int)) ((q.den:Int) * ((1:Nat):Int))=_
    congr 1 <;> omega
  have hd:=OY (q:=q)
  have g:Int.gcd (q.den:Int) (q.num - z * (q.den:Int))=1:=by
    rw [Int.gcd_sub_mul_right_right]
    have:=q.reduced
    rw [Int.gcd_comm]; exact this
  constructor
  · rw [e,Rat.num_divInt,g,Int.sign_eq_one_of_pos hd]; simp
  · rw [e,Rat.den_divInt,if_neg (by omega),g]; simp
noncomputable def stV (k:Nat):PV:=.tup [.int (sg k:Int),.int (sl k:Int),.int (sm k:Int),.int (ss k),.int (sw k)]
noncomputable def rot (n:Int) (a b c:Rat):R3:=if n % 3=0 then (a,b,c) else if n % 3=1 then (c,a,b) else (b,c,a)
noncomputable def aEx (a b c:Rat):PV→Bool
  | .tup [.int g,.int l,.int m,_,_]=> !decide (p3 g.toNat a b c < p3 m.toNat a b c) && !decide (p3 m.toNat a b c < p3 l.toNat a b c)
  | _=>false
theorem aDf {k:Nat} {a b c:Rat}:aEx a b c (stV k)=EK k a b c:=rfl
section
variable {T:Tb}
end
theorem aEK {ks:List Key} {xs:List PV} {i:Int} {G:Gh} {Q:PK1}:mU (.dct ks xs) (.int i) G Q=(∃ v,sF ks xs (.inl i)=some v∧Q v G):=rfl
section
variable {T:Tb}
end
section
variable {T:Tb}
theorem aHU:PV.tup [.int 1,.int 1]=FQ 1:=rfl
end
theorem TV {sep:Str} {ys:List Str}:Txt.join sep ys=Str.join sep ys:=eq_of_beq (join_closes rfl)
theorem aE6 {s:Str}:Txt.join ("":Str) [s]=s:=by rw [TV]; rfl
noncomputable def iT (n:Int):Str:=toString n
theorem pL {n:Int} (h:n.natAbs < 10 ^ 64):(iT n).length≤65:=by
  have h1:=int_text_length_le10 (k:=64) (by decide) h
  unfold iT
  show (Str.ofString (toString n)).length≤65
  rw [PySem.ofString_length]; omega
noncomputable def wr (q:Rat):Str:=if (q.den:Int)=1 then iT q.num else iT q.num ++ (("/":Str) ++ iT (q.den:Int))
noncomputable def aEe (r:R3):Str:=Txt.join (" ":Str) [wr r.1,wr r.2.1,wr r.2.2]
theorem gF {a b:Str}:(a ++ b).length=a.length + b.length:=by
  show (a ++ b).cps.size=_
  rw [Str.cps_append,Array.size_append]; rfl
theorem rT {n:Int} (h:Sm 200 n):n.natAbs < 10 ^ 64:=Nat.lt_trans (show n.natAbs < 2 ^ 200 from h) (by decide)
theorem AN {q:Rat} (h:Bd 200 q):(wr q).length≤131:=by
  have h1:=pL (rT h.1)
  have h2:=pL (rT h.2)
  have h3:("/":Str).length=1:=rfl
  unfold wr
  split
  · omega
  · rw [gF,gF]; omega
noncomputable def hlf:Rat:=⟨1,2,by decide,by decide⟩
noncomputable def hf (o:Option Rat):Rat:=o.getD hlf
theorem VP:In1 hlf:=⟨by decide,by decide⟩
noncomputable def Sh7 (n:Nat) (r:R3):Prop:=(In1 r.1∧In1 r.2.1∧In1 r.2.2)∧Bd n r.1∧Bd n r.2.1∧Bd n r.2.2
theorem Sh7.mono {n m:Nat} {r:R3} (h:Sh7 n r) (e:n≤m):Sh7 m r:=⟨h.1,h.2.1.mono e,h.2.2.1.mono e,h.2.2.2.mono e⟩
noncomputable def rt (n:Int) (r:R3):R3:=rot n r.1 r.2.1 r.2.2
noncomputable def iV:Option Int→PV
  | none=>.non
  | some n=>.int n
noncomputable def cnt (r:R3):Int:=((if 0 < r.1 then 1 else 0) + (if 0 < r.2.1 then 1 else 0) + (if 0 < r.2.2 then 1 else 0):Int)
noncomputable def DX:Sp3:=fun xs G Q=>∃ n:Int,xs=[.int n]∧0≤n∧Sm 200 n∧Q (.str (iT n)) G
noncomputable def VO:Sp3:=fun xs G Q=>∃ q,xs=[FQ q]∧0≤q∧Bd 200 q∧Q (.str (wr q)) G
noncomputable def vC:Sp3:=fun xs G Q=>∃ r,xs=[shV r]∧Sh7 200 r∧Q (.str (aEe r)) G
noncomputable def Kd6:PV→Prop
  | .ob c _ _=>c="Shade"
  | .non=>True
  | .bl _=>True
  | .int _=>True
  | .str _=>True
  | .tup _=>True
  | .lst _=>True
  | .emp=>True
  | .ref _=>False
  | .scr _=>False
  | .ty _=>False
  | .cl _=>False
  | .fn _=>False
  | .dct _ _=>False
  | .exc _ _ _=>False
noncomputable def isW:PV→Bool
  | .int _=>true
  | _=>false
noncomputable def Kd2:PV→Prop
  | .tup [a,b]=>Kd6 a∧Kd6 b
  | x=>Kd6 x
noncomputable def rL:PV→Bool
  | .tup [.int t,.int b]=>decide (1≤b) && decide (Int.gcd t b=1)
  | _=>false
noncomputable def dP:PV→Bool
  | .tup [.int t,.int b]=>decide (1≤b) && decide (Int.gcd t b=1) && decide (0≤t) && decide (t≤b)
  | _=>false
noncomputable def tJ:PV→Bool
  | .ob _ _ _=>true
  | _=>false
noncomputable def tyB (x:PV) (n:String):Bool:=match x with
  | .non=>kM "NoneType" n
  | .bl _=>kM "bool" n
  | .int _=>kM "int" n
  | .str _=>kM "str" n
  | .tup _=>kM "tuple" n
  | .lst _=>kM "list" n
  | .emp=>kM "dict" n
  | _=>false
theorem IL {cs:List String} {x:PV} {n:String} {G:Gh} {Q:PK1} (c1: "Shade"∈cs) (h:Kd6 x):dN cs .isi [x,.ty n] G Q=(n∈jJ∧Q (.bl (tyB x n)) G):=by
  cases x with
  | non=>exact eN rfl
  | bl b=>exact eN rfl
  | int i=>exact eN rfl
  | str s=>exact eN rfl
  | tup xs=>exact eN rfl
  | lst xs=>exact eN rfl
  | emp=>exact eN rfl
  | ob c ns xs =>
    refine propext ⟨fun ⟨a,z⟩=>?_,fun ⟨a,q⟩=>⟨a,.inr ⟨c,rfl, ?_,q⟩⟩⟩
    · rcases z with ⟨n,e,_⟩ | ⟨c',_,_,q⟩
      · cases e
      · exact ⟨a,q⟩
    · cases h; exact c1
  | _=>exact h.elim
theorem gR {cs:List String} {x:PV} {n c:String} {G:Gh} {Q:PK1} (h:jY x G=some n):dN cs .isi [x,.cl c] G Q=(c∈cs∧Q (.bl false) G):=by
  refine propext ⟨fun ⟨a,z⟩=>⟨a, ?_⟩,fun ⟨a,q⟩=>⟨a,.inl ⟨n,h,q⟩⟩⟩
  rcases z with ⟨_,_,q⟩ | ⟨c',e,_,_⟩
  · exact q
  · exfalso
    cases x <;> first | (cases e; done) | (cases h; done) | skip
    all_goals (simp only [jY,zS] at h e; split at h <;> simp_all)
theorem NC {cs:List String} {x:PV} {G:Gh} {Q:PK1} (h:Kd6 x):dN cs .isi [x,.cl "Shade"] G Q=("Shade"∈cs∧Q (.bl (tJ x)) G):=by
  cases x with
  | non=>exact gR rfl
  | bl b=>exact gR rfl
  | int i=>exact gR rfl
  | str s=>exact gR rfl
  | tup xs=>exact gR rfl
  | lst xs=>exact gR rfl
  | emp=>exact gR rfl
  | ob c ns xs=>cases h; exact TB
  | _=>exact h.elim
theorem aBw (x:PV):isW x=(tyB x "int" && !tyB x "bool"):=by cases x <;> rfl
theorem WC {i:Int}:isW (.int i)=true:=rfl
theorem NK (x:PV):(∃ i,x= .int i)∨isW x=false:=by
  cases x with
  | int i=>exact .inl ⟨i,rfl⟩
  | _=>exact .inr rfl
theorem aAF (x:PV):(∃ ys,x= .tup ys)∨tyB x "tuple"=false:=by
  cases x with
  | tup i=>exact .inl ⟨i,rfl⟩
  | _=>exact .inr rfl
theorem aAW (ys:List PV):(∃ a b,ys=[a,b])∨(¬((ys.length:Int)=2)∧rL (.tup ys)=false):=by
  match ys with
  | []=>exact .inr ⟨by decide,rfl⟩
  | [a]=>exact .inr ⟨by show ¬((1:Int)=2); decide,by cases a <;> rfl⟩
  | [a,b]=>exact .inl ⟨a,b,rfl⟩
  | a :: b :: c :: r=>exact .inr ⟨by simp only [List.length_cons]; omega,by cases a <;> (try cases b) <;> rfl⟩
theorem aAg {a b:PV} (h:isW a=false):rL (.tup [a,b])=false:=by cases a <;> first | rfl | cases h
theorem aCx {a b:PV} (h:isW b=false):rL (.tup [a,b])=false:=by cases a <;> cases b <;> first | rfl | cases h
theorem aAG {x:PV} (h:tyB x "tuple"=false):rL x=false:=by
  cases x with
  | tup ys=>cases h
  | _=>rfl
theorem KW {x:PV} (h:Kd2 x):Kd6 x:=by
  cases x with
  | tup ys=>exact trivial
  | _=>exact h
theorem SB (x:PV):(∃ t b:Int,x= .tup [.int t,.int b]∧rL x=true)∨(rL x=false∧dP x=false):=by
  by_cases h:rL x=true
  · refine .inl ?_
    unfold rL at h
    split at h
    · rename_i t b; exact ⟨t,b,rfl,h⟩
    · cases h
  · refine .inr ⟨by simpa using h, ?_⟩
    unfold dP
    split
    · rename_i t b
      have h:¬((decide (1≤b) && decide (Int.gcd t b=1))=true):=h
      rw [Bool.eq_false_iff.mpr h]; rfl
    · rfl
theorem eV {q:Rat} (h:In1 q):dP (FQ q)=true:=by
  show (decide (1≤(q.den:Int)) && decide (Int.gcd q.num q.den=1) && decide (0≤q.num) && decide (q.num≤(q.den:Int)))=true
  simp only [Bool.and_eq_true,decide_eq_true_eq]
  exact ⟨⟨⟨aAo,q.reduced⟩,BA h.1⟩,aCt h.2⟩
theorem AY {x:PV} (h:dP x=true):∃ q,x=FQ q∧In1 q:=by
  unfold dP at h
  split at h
  · rename_i t b
    simp only [Bool.and_eq_true,decide_eq_true_eq] at h
    obtain ⟨⟨⟨hb,hg⟩,h0⟩,h1⟩:=h
    have e:FQ (Rat.divInt t b)= .tup [.int t,.int b]:=by rw [MB (by omega),hg]; simp
    have e0:=e
    unfold FQ at e0
    injection e0 with e0
    injection e0 with n1 e0
    injection e0 with n2 _
    injection n1 with n1
    injection n2 with n2
    refine ⟨Rat.divInt t b,e.symm,Rat.num_nonneg.mp (by omega),(Rat.le_iff _ 1).mpr ?_⟩
    simp only [n1,n2]
    simpa using h1
  · cases h
theorem oZ {q:Rat}:Kd2 (FQ q):=⟨trivial,trivial⟩
noncomputable def rF (x y z:PV):Option Int:=if dP x then (if dP y then (if dP z then none else some 2) else some 1) else some 0
noncomputable def orX (S0:Sp3) (X0:SpX) (x:PX):Sp3:=fun xs G Q=>S0 xs G Q∨X0 xs G x
noncomputable def aAQ (x:PX) (c:String) (f:Str):Sp3:=fun xs G _=>∃ v,xs=[v]∧x c [f] [v] G
noncomputable def HX:Sp3:=fun xs G Q=>∃ x,xs=[x]∧Kd6 x∧Q (.bl (isW x)) G
noncomputable def NI:Sp3:=fun xs G Q=>∃ x,xs=[x]∧Kd2 x∧Q (.bl (rL x)) G
noncomputable def oX:Sp3:=fun xs G Q=>∃ x,xs=[x]∧Kd2 x∧Q (.bl (dP x)) G
noncomputable def gK:Sp3:=fun xs G Q=>∃ x,xs=[x]∧Kd6 x∧Q (.bl (tJ x)) G
noncomputable def cM:SpX:=fun xs G X=>∃ x,xs=[x]∧Kd6 x∧tJ x=false∧X "NoShade" ["light"] [.non] G
noncomputable def eD:SpX:=fun xs G X=>∃ p x y z i,xs=[.ref p,x,y,z]∧G p=some (.ins "Shade" [] [])∧Kd2 x∧Kd2 y∧Kd2 z∧rF x y z=some i∧X "NoShade" ["light"] [.int i] G
noncomputable def yQ:SpX:=fun xs G X=>∃ x y z i,xs=[x,y,z]∧Kd2 x∧Kd2 y∧Kd2 z∧rF x y z=some i∧∀ p,G p=none→X "NoShade" ["light"] [.int i] (gup G p (.ins "Shade" [] []))
noncomputable def EA (x y z:PV):PV:=match rF x y z with
  | none=>.tup [.str "made",.non]
  | some i=>.tup [.str "shade",.int i]
noncomputable def aFS (r:PV) (x y z:PV):Prop:=r= .tup [x,y,z]∨r= .lst [x,y,z]
noncomputable def lB:Sp3:=fun xs G Q=>∃ w r x y z,xs=[.int w,r]∧aFS r x y z∧Kd2 x∧Kd2 y∧Kd2 z∧Q (EA x y z) G
noncomputable def lL:Sp3:=fun xs G Q=>∃ x,xs=[x]∧Kd6 x∧tJ x=false∧Q (.tup [.str "shade",.non]) G
noncomputable def nD:Sp3:=fun xs G Q=>∃ ns ys,xs=[.exc "NoShade" ns ys]∧Q (.str "shade") G
noncomputable def Od (x:PV):Prop:=Kd2 x∧dP x=false
noncomputable def tZ:Sp3:=fun xs G Q=>∃ p q,xs=[.ref p,FQ q]∧Pu p G∧∀ x G',Od x→Pn p G G'→Q x G'
noncomputable def kZ:Sp3:=fun xs G Q=>∃ p a b c,xs=[.ref p,.tup [FQ a,FQ b,FQ c]]∧Pu p G∧In1 a∧In1 b∧In1 c∧∀ G',Pn p G G'→Q (.bl true) G'
noncomputable def jD:Sp3:=fun xs G Q=>∃ p a b c,xs=[.ref p,.tup [FQ a,FQ b,FQ c]]∧Pu p G∧Sh7 12 (a,b,c)∧∀ G',Pn p G G'→Q (.bl true) G'
noncomputable def SN:List (String×Str×Bool):=[("NoShade","NoNumber",false),("NoShade","NoShade",true),("NoShade","NoPart",false),("NoShade","NoDeed",false),("NoShade","NoTurn",false),("NoShade","NoWay",false),("NoShade","NoText",false),("NoShade","NoGrade",false),("NoShade","NoStep",false),("NoShade","NoEye",false),("NoShade","NoLimit",false),("NoShade","NoPlace",false),("NoShade","NoLights",false),("NoShade","NoRow",false),("NoShade","NoWeights",false),("NoShade","NoWeight",false),("NoShade","EmptyMix",false),("NoShade","NoBlend",false),("NoShade","NoWord",false),("NoShade","NoName",false),("NoShade","NameStands",false),("NoShade","BookFull",false),("NoShade","NoBack",false),("NoShade","ShadeError",true),("NoShade","MixError",false),("NoShade","BookError",false),("NoShade","ValueError",true),("NoShade","ArithmeticError",false),("NoShade","LookupError",false)]
noncomputable def aCM:List (String×Str):=[("NoShade","light")]
structure P6 (T:Tb):Prop where
  is_whole:T.S "is_whole"=HX
  common:T.S "common"=fS
  is_fraction:T.S "is_fraction"=NI
  is_share:T.S "is_share"=oX
  shade:T.S "Shade"=eE
  shadeI:T.S "Shade.__init__"=dD
  xshade:T.S "!Shade"=orX eE yQ T.xp
  xshadeI:T.S "!Shade.__init__"=orX dD eD T.xp
  is_shade:T.S "is_shade"=gK
  need_shade:T.S "need_shade"=eF
  xneed:T.S "!need_shade"=orX eF cM T.xp
  shares_of:T.S "shares_of"=bD
  xshares:T.S "!shares_of"=orX bD cM T.xp
  xNoShade:T.S "!NoShade"=aAQ T.xp "NoShade" "light"
  figures:T.S "figures"=DX
  written:T.S "written"=VO
  strS:T.S "Shade.__str__"=vC
  gv_PIECE:T.gv "PIECE"= .int (10 ^ 64)
  gv_PF:T.gv "PIECE_FIGURES"= .int 64
  gv_Shade:T.gv "Shade"= .cl "Shade"
  cs: "Shade"∈T.cs
  fl_e:("Shade",("ember":Str))∈T.fl
  fl_l:("Shade",("leaf":Str))∈T.fl
  fl_s:("Shade",("sky":Str))∈T.fl
  ty_int:T.gv "int"= .ty "int"
  ty_bool:T.gv "bool"= .ty "bool"
  ty_tuple:T.gv "tuple"= .ty "tuple"
  ty_str:T.gv "str"= .ty "str"
  ty_list:T.gv "list"= .ty "list"
  xi:T.xi=SN
  fx:T.fx=aCM
structure L6 (T:Tb):Prop where
  sort:T.S "_law_sort"=nD
  tried:T.S "_law_tried"=lB
  asked:T.S "_law_asked"=lL
  bad:T.S "_law_bad"=tZ
  right:T.S "_law_right"=kZ
  others:T.S "_law_others_right"=jD
set_option hygiene false in
local macro_rules | `(tactic| walk_at "rd") => `(tactic| simp only [wpS, wpE, wpL, wpT, wpO, wpI, wpG, gU, bP, aL, List.length_cons, List.length_nil, List.cons_append, List.nil_append, List.append_nil, List.replicate, Nat.reduceAdd, Nat.reduceSub, Nat.zero_add, List.getElem?_cons_zero, List.getElem?_cons_succ, List.set_cons_zero, List.set_cons_succ, Option.some.injEq, exists_eq_left', true_and, and_true, ite_self, jT, iQ, VY, uD, gS, nH, fN, vZ, iZ, fE, LM, yI, LY, bE.1, bE.2.1, bE.2.2.1, IC, at0, at1, aEv, List.cons.injEq, PV.int.injEq, PV.bl.injEq, PV.str.injEq, PV.ref.injEq, PV.tup.injEq, and_assoc, exists_and_left, eq_self, fS, Int.reduceToNat, Int.reducePow, List.map, Bool.not_true, Bool.not_false, Bool.and_self, Bool.and_true, Bool.true_and, if_true, if_false, ite_true, ite_false, Bool.false_eq_true, decide_eq_true_eq, decide_true, decide_false, reduceCtorEq, Wk.here, HX, NI, WC, Int.reduceEq, Int.reduceNe, *])
section
variable {T:Tb}
noncomputable def eB:CS:=jS
theorem rO (h:P6 T):∀ xs G Q,HX xs G Q→wpS T eB (bP Q) (aL 1 xs) G:=by
  rintro xs G Q ⟨x,rfl,hk,q⟩
  unfold eB jS
  have:=h.ty_int
  have:=h.ty_bool
  have e:∀ n G Q,dN T.cs .isi [x,.ty n] G Q=(n∈jJ∧Q (.bl (tyB x n)) G):=fun n G Q=>IL h.cs hk
  rw [aBw] at q
  cases e1:tyB x "int" <;> cases e2:tyB x "bool" <;> rw [e1,e2] at q <;> walk_at "rd" <;> exact Wk.here q
noncomputable def eW:CS:=mM
theorem vV:∀ xs G Q,fS xs G Q→wpS T eW (bP Q) (aL 2 xs) G:=by
  rintro xs G Q ⟨i,j,rfl,hi,hj,q⟩
  unfold eW mM
  walk_at "rd"
  refine ⟨fun m σ H=>∃ x y,σ=[some (.int x),some (.int y)]∧H=G∧0≤x∧0≤y∧Int.gcd x y=Int.gcd i j∧m=y.toNat,⟨_,i,j,rfl,rfl,hi,hj,rfl,rfl⟩, ?_⟩
  rintro m σ H ⟨x,y,rfl,rfl,hx,hy,hg,rfl⟩
  walk_at "rd"
  split
  · rename_i hy0
    have hy0:y≠0:=by simpa using hy0
    have h2:=Int.emod_lt_of_pos x (show 0 < y by omega)
    have h3:=Int.emod_nonneg x (show y≠0 by omega)
    exact ⟨by show 0 < y; omega,(x % y).toNat,by omega,h3,(wU hx (by omega)).trans hg,rfl⟩
  · rename_i hy0
    have e:y=0:=by simpa using hy0
    subst e
    have g:((Int.gcd x 0:Nat):Int)=x:=by rw [Int.gcd_zero_right]; omega
    refine Wk.here ?_
    rw [←g,hg]; exact q
noncomputable def dA:CS:=fR
theorem lY (h:P6 T):∀ xs G Q,NI xs G Q→wpS T dA (bP Q) (aL 3 xs) G:=by
  rintro xs G Q ⟨x,rfl,hk,q⟩
  unfold dA fR
  have:=h.ty_tuple
  have:=h.is_whole
  have:=h.common
  rcases aAF x with ⟨ys,rfl⟩ | ht
  · rcases aAW ys with ⟨a,b,rfl⟩ | ⟨hl,hf⟩
    · obtain ⟨ka,kb⟩:Kd6 a∧Kd6 b:=hk
      rcases NK a with ⟨t,rfl⟩ | ha
      · rcases NK b with ⟨d,rfl⟩ | hb
        · have q':Q (.bl (decide (1≤d) && decide (Int.gcd t d=1))) G:=q
          by_cases hd:1≤d
          · rw [decide_eq_true hd,Bool.true_and,←CT] at q'
            walk_at "rd"
            refine ⟨by omega,by omega,Wk.here ?_⟩
            rw [show decide (((Int.gcd (t.natAbs:Int) d:Nat):Int)=1)=decide (Int.gcd (t.natAbs:Int) d=1) from decide_eq_decide.mpr (by omega)]
            exact q'
          · rw [decide_eq_false hd,Bool.false_and] at q'
            walk_at "rd"
        · rw [aCx hb] at q
          walk_at "rd"
      · rw [aAg ha] at q
        walk_at "rd"
    · rw [hf] at q
      walk_at "rd"
  · rw [aAG ht] at q
    have e:∀ n G Q,dN T.cs .isi [x,.ty n] G Q=(n∈jJ∧Q (.bl (tyB x n)) G):=fun n G Q=>IL h.cs (KW hk)
    walk_at "rd"
noncomputable def eA:CS:=jR
theorem rN (h:P6 T):∀ xs G Q,oX xs G Q→wpS T eA (bP Q) (aL 1 xs) G:=by
  rintro xs G Q ⟨x,rfl,hk,q⟩
  unfold eA jR
  have:=h.is_fraction
  rcases SB x with ⟨t,b,rfl,hf⟩ | ⟨hf,hs⟩
  · have q':Q (.bl (rL (.tup [.int t,.int b]) && decide (0≤t) && decide (t≤b))) G:=q
    rw [hf,Bool.true_and] at q'
    by_cases h0:0≤t
    · rw [decide_eq_true h0,Bool.true_and] at q'
      walk_at "rd"
    · rw [decide_eq_false h0,Bool.false_and] at q'
      walk_at "rd"
  · rw [hs] at q
    walk_at "rd"
end
theorem aH0:PV.tup [.int 1,.int 2]=FQ hlf:=rfl
theorem NH {i:Int} {cs:List String} {G:Gh} {Q:PK1}:dN cs .str [.int i] G Q=(i.natAbs.log2 < 1920∧Q (.str (iT i)) G):=rfl
theorem aDi {i:Int} (h:Sm 200 i):i.natAbs.log2 < 1920:=by
  by_cases e:i.natAbs=0
  · rw [e]; decide
  · exact Nat.lt_of_lt_of_le ((Nat.log2_lt e).mpr h) (by decide)
theorem aE9:(10:Int) ^ 64=10000000000000000000000000000000000000000000000000000000000000000:=by decide
theorem aGf {n:Int} (h:Sm 200 n):n < 10 ^ 64:=by
  have:n.natAbs < 10 ^ 64:=rT h
  have e:((10 ^ 64:Nat):Int)=(10:Int) ^ 64:=by decide
  omega
theorem aEV {r:R3}:shV r=SH r.1 r.2.1 r.2.2:=rfl
theorem aBQ {n:Int} (h:Sm 200 n):¬(10:Int) ^ 64≤n:=by have:=aGf h; omega
theorem cM.up {xs:List PV} {G:Gh} {x:PX} (h:cM xs G x):cM xs G (WkX x):=let ⟨v,a,b,c,d⟩:=h; ⟨v,a,b,c,WkX.here d⟩
theorem eD.up {xs:List PV} {G:Gh} {x:PX} (h:eD xs G x):eD xs G (WkX x):=let ⟨p,a,b,c,i,e,f,g,g2,g3,h,k⟩:=h; ⟨p,a,b,c,i,e,f,g,g2,g3,h,WkX.here k⟩
set_option hygiene false in
local macro_rules | `(tactic| walk_at "rd") => `(tactic| simp only [wpS, wpE, wpL, wpT, wpO, wpI, wpG, gU, bP, aL, List.length_cons, List.length_nil, List.cons_append, List.nil_append, List.append_nil, List.replicate, Nat.reduceAdd, Nat.reduceSub, Nat.zero_add, List.getElem?_cons_zero, List.getElem?_cons_succ, List.set_cons_zero, List.set_cons_succ, Option.some.injEq, exists_eq_left', true_and, and_true, exists_false, ite_self, false_and, or_false, jT, uD, gS, fN, iZ, sP, tB, oV, nO, MX, bE.1, bE.2.1, bE.2.2.1, List.cons.injEq, PV.int.injEq, PV.bl.injEq, PV.str.injEq, PV.ref.injEq, PV.tup.injEq, and_assoc, exists_and_left, eq_self, aEC, aDV, Int.reduceToNat, Int.reducePow, exists_eq', xC, sD, iY, gE, aD0, IS, HH, List.map, bD, Bool.not_true, Bool.not_false, Bool.and_self, Bool.and_true, Bool.true_and, if_true, if_false, ite_true, ite_false, Bool.false_eq_true, decide_eq_true_eq, decide_true, decide_false, reduceCtorEq, sz3, Wk.here, oX, gK, oZ, Int.reduceEq, Int.reduceNe, NH, aEV, wpJ, Str.empty_append, *])
section
variable {T:Tb}
noncomputable def gH:CS:=(.seq (.asg (.gn 1) (.lst true .nil))
  (.seq (.wh (.tsb (.cmp .GtE (.var 0) (.glo "PIECE"))) .nev)
  (.seq (.ex (.app (.var 1) (.blt .str (.cons (.var 0) .nil))))
  (.ret (.joi (.str "") (.rev (.var 1)))))))
theorem HI (k:P6 T):∀ xs G Q,DX xs G Q→wpS T gH (bP Q) (aL 3 xs) G:=by
  rintro xs G Q ⟨n,rfl,h0,sn,hq⟩
  unfold gH
  have:=k.gv_PIECE
  have:=aBQ sn
  have:=aDi sn
  walk_at "rd"
  refine ⟨Nat.zero_le _,fun p hp=>?_⟩
  refine ⟨fun m σ H=>σ=[some (.int n),some (.ref p),none]∧H=gup G p (.lst []),⟨0,rfl,rfl⟩, ?_⟩
  rintro m σ H ⟨rfl,rfl⟩
  walk_at "rd"
  rw [if_neg (by rw [←aE9]; assumption)]
  refine ⟨_,aN,by decide,[iT n],rfl, ?_, ?_⟩
  · have:=pL (rT sn)
    show (iT n).length + 0 + 1 * 0≤16777216
    omega
  · rw [aE6]
    refine Wk.of hq fun a o z=>?_
    rw [eQ,dX (fun e=>by subst e; rw [hp] at z; cases z)]; exact z
noncomputable def gL:CS:=(.seq (.iff (.tsb (.cmp .Eq (.idx (.var 0) (.int 1)) (.int 1))) (.ret (.cal "figures" (.cons (.idx (.var 0) (.int 0)) .nil))) .nil)
  (.ret (.fst (.cons (.cal "figures" (.cons (.idx (.var 0) (.int 0)) .nil)) (.cons (.str "/") (.cons (.cal "figures" (.cons (.idx (.var 0) (.int 1)) .nil)) .nil))))))
theorem GN (k:P6 T):∀ xs G Q,VO xs G Q→wpS T gL (bP Q) (aL 1 xs) G:=by
  rintro xs G Q ⟨q,rfl,h0,bq,hq⟩
  unfold gL
  have e1:=k.figures
  have fg:∀ {n:Int} {G:Gh} {Q:PK1},0≤n→Sm 200 n→Q (.str (iT n)) G→T.S "figures" [.int n] G Q:=fun {n G Q} h h' q=>by rw [e1]; exact ⟨n,rfl,h,h',q⟩
  clear e1
  unfold wr at hq
  walk_at "rd"
  by_cases e:(q.den:Int)=1
  · rw [if_pos e] at hq ⊢
    exact fg (BA h0) bq.1 (Wk.here hq)
  · rw [if_neg e] at hq ⊢
    have l1:=pL (rT bq.1)
    have l2:=pL (rT bq.2)
    have l3:("/":Str).length=1:=rfl
    have hs:=sizeLine_eq
    walk_at "rd"
    refine fg (BA h0) bq.1 ⟨_,rfl,by omega,by omega,by omega,by rw [gF]; omega,fg (Int.natCast_nonneg _) bq.2 ⟨_,rfl,by omega, ?_, ?_, ?_⟩⟩
    · rw [gF,gF]; omega
    · rw [gF,gF]; omega
    · rw [Str.append_assoc]; exact Wk.here hq
theorem sp1:(" ":Str).length=1:=rfl
noncomputable def dL:CS:=(.ret (.joi (.str " ") (.cmpr false (.gn 1) (.isq (.cal "shares_of" (.cons (.var 0) .nil))) .nil (.cal "written" (.cons (.var 1) .nil)) [none,none])))
theorem mR (h:P6 T):∀ xs G Q,vC xs G Q→wpS T dL (bP Q) (aL 1 xs) G:=by
  rintro xs G Q ⟨r,rfl,⟨⟨i1,i2,i3⟩,b1,b2,b3⟩,hq⟩
  unfold dL
  have:=h.shares_of
  have e1:=h.written
  have wt:∀ {q:Rat} {G:Gh} {Q:PK1},In1 q→Bd 200 q→Q (.str (wr q)) G→T.S "written" [FQ q] G Q:=fun {q G Q} h h' z=>by rw [e1]; exact ⟨q,rfl,h.1,h',z⟩
  clear e1
  have l1:=AN b1
  have l2:=AN b2
  have l3:=AN b3
  walk_at "rd"
  refine wt i1 b1 (wt i2 b2 (wt i3 b3 ⟨[wr r.1,wr r.2.1,wr r.2.2],rfl, ?_,Wk.here hq⟩))
  show (wr r.1).length + ((wr r.2.1).length + ((wr r.2.2).length + 0)) + 3 * 1≤16777216
  omega
theorem bO (h:P6 T):uN T "Shade" "Shade" "Shade.__init__":=by
  intro xs G Q q p hp
  rw [h.shade] at q
  rw [h.shadeI]
  obtain ⟨a,b,c,rfl,ha,hb,hc,q⟩:=q
  refine ⟨p,a,b,c,rfl,aN,ha,hb,hc,rfl,_,_,aN, ?_⟩
  rw [eQ,oU hp]
  exact q
theorem gI (h:P6 T):uN T "Shade" "!Shade" "!Shade.__init__":=by
  intro xs G Q q p hp
  rw [h.xshade] at q
  rw [h.xshadeI]
  rcases q with ⟨a,b,c,rfl,ha,hb,hc,q⟩ | ⟨x,y,z,i,rfl,kx,ky,kz,hi,q⟩
  · refine .inl ⟨p,a,b,c,rfl,aN,ha,hb,hc,rfl,_,_,aN, ?_⟩
    rw [eQ,oU hp]
    exact q
  · exact .inr ⟨p,x,y,z,i,rfl,aN,kx,ky,kz,hi,q p hp⟩
noncomputable def dY:CS:=jQ
theorem pZ (h:P6 T):∀ xs G Q,gK xs G Q→wpS T dY (bP Q) (aL 1 xs) G:=by
  rintro xs G Q ⟨x,rfl,hk,hq⟩
  unfold dY jQ
  have:=h.gv_Shade
  have:=h.cs
  have e:∀ G Q,dN T.cs .isi [x,.cl "Shade"] G Q=("Shade"∈T.cs∧Q (.bl (tJ x)) G):=fun G Q=>NC hk
  walk_at "rd"
noncomputable def bX:CS:=(.iff (.no (.tst (.cal "is_shade" (.cons (.var 0) .nil)))) (.ex (.cal "!NoShade" (.cons .non .nil))) .nil)
theorem uO (h:P6 T):∀ xs G Q,eF xs G Q∨cM xs G T.xp→wpS T bX (bP Q) (aL 1 xs) G:=by
  intro xs G Q hq
  unfold bX
  have:=h.is_shade
  have:=h.xNoShade
  rcases hq with ⟨a,b,c,rfl,hq⟩ | ⟨x,rfl,hk,hs,hq⟩
  · have:Kd6 (SH a b c):=rfl
    have:tJ (SH a b c)=true:=rfl
    walk_at "rd"
  · walk_at "rd"
    exact ⟨_,rfl,hq⟩
theorem mW (h:∀ x,P6 (T.at x)):∀ x xs G Q,eF xs G Q∨cM xs G x→wpS (T.at (WkX x)) bX (bP Q) (aL 1 xs) G:=fun x xs G Q hq =>
  uO (h _) xs G Q (hq.imp id cM.up)
noncomputable def cH:CS:=(.seq (.ex (.cal "!need_shade" (.cons (.var 0) .nil)))
  (.ret (.tup (.cons (.att (.var 0) "ember") (.cons (.att (.var 0) "leaf") (.cons (.att (.var 0) "sky") .nil))))))
theorem vS (h:P6 T):∀ xs G Q,bD xs G Q∨cM xs G T.xp→wpS T cH (bP Q) (aL 1 xs) G:=by
  intro xs G Q hq
  unfold cH
  have e0:=h.xneed
  rcases hq with ⟨a,b,c,rfl,hq⟩ | hx
  · have e1:∀ G Q,OT T (SH a b c) "ember" G Q=Q (FQ a) G:=fun G Q=>uR h.fl_e rfl
    have e2:∀ G Q,OT T (SH a b c) "leaf" G Q=Q (FQ b) G:=fun G Q=>uR h.fl_l rfl
    have e3:∀ G Q,OT T (SH a b c) "sky" G Q=Q (FQ c) G:=fun G Q=>uR h.fl_s rfl
    walk_at "rd"
    refine .inl ⟨a,b,c,rfl, ?_⟩
    first | exact Wk.here hq | (walk_at "rd")
  · obtain ⟨x,rfl,hk,hs,hq⟩:=hx
    walk_at "rd"
    exact .inr ⟨x,rfl,hk,hs,hq⟩
theorem nX (h:∀ x,P6 (T.at x)):∀ x xs G Q,bD xs G Q∨cM xs G x→wpS (T.at (WkX x)) cH (bP Q) (aL 1 xs) G:=fun x xs G Q hq =>
  vS (h _) xs G Q (hq.imp id cM.up)
noncomputable def bF:CS:=(.seq (.fr (.gt 2 (.cons (.gn 4) (.cons (.gn 5) .nil))) (.ien (.tup (.cons (.var 1) (.cons (.var 2) (.cons (.var 3) .nil))))) (.iff (.no (.tst (.cal "is_share" (.cons (.var 5) .nil)))) (.ex (.cal "!NoShade" (.cons (.var 4) .nil))) .nil))
  (.seq (.fld (.var 0) "ember" (.var 1))
  (.seq (.fld (.var 0) "leaf" (.var 2))
  (.fld (.var 0) "sky" (.var 3)))))
theorem tI (h:P6 T):∀ xs G Q,dD xs G Q∨eD xs G T.xp→wpS T bF (bP Q) (aL 6 xs) G:=by
  intro xs G Q hq
  unfold bF
  have e0:=h.is_share
  have e1:=h.xNoShade
  rcases hq with ⟨p,a,b,c,rfl,hp,ha,hb,hc,hq⟩ | ⟨p,x,y,z,i,rfl,hp,kx,ky,kz,hi,hq⟩
  · have:=eV ha
    have:=eV hb
    have:=eV hc
    walk_at "rd"
    refine ⟨_,_,_,rfl,h.fl_e,by decide,_,_,_,aN,h.fl_l,by decide,_,_,_,aN,h.fl_s,by decide, ?_⟩
    rw [eQ,eQ]
    exact Wk.here hq
  · unfold rF at hi
    cases hx:dP x
    · rw [hx] at hi
      cases hi
      walk_at "rd"
      exact ⟨_,rfl,hq⟩
    · rw [hx,if_pos rfl] at hi
      cases hy:dP y
      · rw [hy] at hi
        cases hi
        walk_at "rd"
        exact ⟨_,rfl,hq⟩
      · rw [hy,if_pos rfl] at hi
        cases hz:dP z
        · rw [hz] at hi
          cases hi
          walk_at "rd"
          exact ⟨_,rfl,hq⟩
        · rw [hz] at hi; cases hi
theorem jI (h:∀ x,P6 (T.at x)):∀ x xs G Q,dD xs G Q∨eD xs G x→wpS (T.at (WkX x)) bF (bP Q) (aL 6 xs) G:=fun x xs G Q hq =>
  tI (h _) xs G Q (hq.imp id eD.up)
end
noncomputable def kU (i:Nat):List Str→CE
  | []=>.nil
  | n :: r=>.cons (.isx (.var i) n) (kU i r)
noncomputable def xiF (xi:List (String×Str×Bool)) (c:String) (n:Str):Bool:=xi.contains (c,n,true)
section
variable {T:Tb} {i j:Nat} {c:String} {fs:List Str} {xs:List PV} {σ:PSt} {G:Gh} {an:Str→Bool} {D:gZ} {r:CS}
theorem uZ (hs:σ[i]? =some (some (.exc c fs xs))):∀ (ns:List Str) {Q:List PV→Gh→Prop},(∀ n∈ns,(c,n,an n)∈T.xi)→Q (ns.map fun n=>.bl (an n)) G→wpL T (kU i ns) σ G Q
  | [],_,_,q=>q
  | n :: t,_,h,q=>⟨_,hs,c,fs,xs,an n,rfl,h n (List.mem_cons_self ..),uZ hs t (fun m hm=>h m (List.mem_cons_of_mem _ hm)) q⟩
theorem szl {n:Nat} (h:n≤100):n≤sizeLine:=by rw [sizeLine_eq]; omega
theorem nY {ns:List Str} (hs:σ[i]? =some (some (.exc c fs xs))) (h:∀ n∈ns,(c,n,an n)∈T.xi) (hl:ns.length≤100) (q:wpS T r D (σ.set j (some (.lst (ns.map fun n=>.bl (an n))))) G):wpS T (.seq (.asg (.gn j) (.lst false (kU i ns))) r) D σ G:=by
  show wpL T (kU i ns) σ G fun xs G1=>xs.length≤sizeLine∧wpS T r D (σ.set j (some (.lst xs))) G1
  refine uZ hs ns h ⟨?_,q⟩
  rw [List.length_map]; exact szl hl
theorem iG {ns ms:List Str} (hs:σ[i]? =some (some (.exc c fs xs))) (hj:σ[j]? =some (some (.lst (ms.map fun n=>.bl (an n))))) (h:∀ n∈ns,(c,n,an n)∈T.xi) (hl:ms.length + ns.length≤100) (q:wpS T r D (σ.set j (some (.lst ((ms ++ ns).map fun n=>.bl (an n))))) G):wpS T (.seq (.asg (.gn j) (.bin .Add (.var j) (.lst false (kU i ns)))) r) D σ G:=by
  refine ⟨_,hj, ?_⟩
  show wpL T (kU i ns) σ G fun xs G1=>xs.length≤sizeLine∧rJ (.lst (ms.map fun n=>.bl (an n))) (.lst xs) G1 fun z G2=>wpS T r D (σ.set j (some z)) G2
  refine uZ hs ns h ⟨by rw [List.length_map]; exact szl (by omega), ?_⟩
  rw [pT]
  refine ⟨by rw [List.length_map,List.length_map]; exact szl hl, ?_⟩
  rw [←List.map_append]; exact q
end
noncomputable def xX:List Str:=["NoNumber","NoShade","NoPart","NoDeed"]
noncomputable def AZ:List Str:=["NoTurn","NoWay","NoText","NoGrade"]
noncomputable def FI:List Str:=["NoStep","NoEye","NoLimit","NoPlace"]
noncomputable def LJ:List Str:=["NoLights","NoRow","NoWeights","NoWeight"]
noncomputable def WF:List Str:=["EmptyMix","NoBlend","NoWord","NoName"]
noncomputable def aCA:List Str:=["NameStands","BookFull","NoBack"]
noncomputable def aAi:List Str:=["ShadeError","MixError","BookError"]
noncomputable def aAf:List Str:=["ValueError","ArithmeticError","LookupError"]
noncomputable def KQ:List Str:=xX ++ AZ ++ FI ++ LJ ++ WF ++ aCA
noncomputable def aAR:List Str:=KQ ++ aAi ++ aAf
noncomputable def aEa:List PV:=[.str "number",.str "shade",.str "part",.str "deed",.str "turn",.str "way",.str "text",.str "grade",.str "step",.str "eye",.str "limit",.str "place"]
noncomputable def aEj:List PV:=[.str "lights",.str "row",.str "weights",.str "weight",.str "empty",.str "blend",.str "word",.str "name",.str "stands",.str "full",.str "back"]
structure Srt (xi:List (String×Str×Bool)) (c:String) (k:Nat) (w:Str):Prop where
  m:∀ n∈aAR,(c,n,xiF xi c n)∈xi
  k1:(KQ.map fun n=>xiF xi c n).count true=1
  k2:(KQ.map fun n=>PV.bl (xiF xi c n)).findIdx? (fun z=>peq z (.bl true))=some k
  b:(aAi.map fun n=>PV.bl (xiF xi c n))=[.bl true,.bl false,.bl false]
  v:(aAf.map fun n=>PV.bl (xiF xi c n))=[.bl true,.bl false,.bl false]
  kl:k < 14
  w:atI (aEa ++ aEj) (k:Int)=some (.str w)
theorem fH {n:Str} {l:List Str} (h:n∈l) (e:∀ m∈l,m∈aAR:=by decide +kernel):n∈aAR:=e n h
noncomputable def fK:List PV→CE
  | []=>.nil
  | .str w :: r=>.cons (.str w) (fK r)
  | _ :: r=>fK r
noncomputable def aFI:CS:=(.seq (.asg (.gn 6) (.lst false (fK aEa))) (.seq (.asg (.gn 6) (.bin .Add (.var 6) (.lst false (fK aEj)))) (.ret (.idx (.var 6) (.var 2)))))
noncomputable def aFD:CS:=(.seq (.asg (.gn 5) (.lst false (.cons (.cmp .Lt (.var 2) (.int 14)) (.cons (.chn .LtE .Lt (.int 14) (.var 2) (.int 18)) (.cons (.cmp .Gt (.var 2) (.int 17)) .nil)))))
  (.seq (.iff (.oo (.tsb (.cmp .NotEq (.var 3) (.var 5))) (.tsb (.cmp .NotEq (.var 4) (.var 5)))) (.ret (.str "base")) .nil) aFI))
noncomputable def oE:CS:=(.seq (.asg (.gn 1) (.lst false (kU 0 xX)))
  (.seq (.asg (.gn 1) (.bin .Add (.var 1) (.lst false (kU 0 AZ))))
  (.seq (.asg (.gn 1) (.bin .Add (.var 1) (.lst false (kU 0 FI))))
  (.seq (.asg (.gn 1) (.bin .Add (.var 1) (.lst false (kU 0 LJ))))
  (.seq (.asg (.gn 1) (.bin .Add (.var 1) (.lst false (kU 0 WF))))
  (.seq (.asg (.gn 1) (.bin .Add (.var 1) (.lst false (kU 0 aCA))))
  (.seq (.iff (.tsb (.cmp .NotEq (.cnt (.var 1) (.bl true)) (.int 1))) (.ret (.str "several")) .nil)
  (.seq (.asg (.gn 2) (.ixo (.var 1) (.bl true)))
  (.seq (.asg (.gn 3) (.lst false (kU 0 aAi)))
  (.seq (.asg (.gn 4) (.lst false (kU 0 aAf))) aFD))))))))))
theorem pE {T:Tb} {σ:PSt} {G:Gh}:∀ (ws:List Str) {Q:List PV→Gh→Prop},Q (ws.map PV.str) G→wpL T (fK (ws.map PV.str)) σ G Q
  | [],_,q=>q
  | w :: t,_,q=>by
    show wpL T (fK (t.map PV.str)) σ G _
    exact pE t q
theorem EY {T:Tb} {σ:PSt} {G:Gh} {D:gZ} {r:CS} {j:Nat} (ws:List Str) (hl:ws.length≤100) (q:wpS T r D (σ.set j (some (.lst (ws.map PV.str)))) G):wpS T (.seq (.asg (.gn j) (.lst false (fK (ws.map PV.str)))) r) D σ G:=by
  show wpL T (fK (ws.map PV.str)) σ G fun xs G1=>xs.length≤sizeLine∧wpS T r D (σ.set j (some (.lst xs))) G1
  exact pE ws ⟨by rw [List.length_map]; exact szl hl,q⟩
theorem HR {T:Tb} {σ:PSt} {G:Gh} {D:gZ} {r:CS} {j:Nat} (us ws:List Str) (hj:σ[j]? =some (some (.lst (us.map PV.str)))) (hl:us.length + ws.length≤100) (q:wpS T r D (σ.set j (some (.lst (us.map PV.str ++ ws.map PV.str)))) G):wpS T (.seq (.asg (.gn j) (.bin .Add (.var j) (.lst false (fK (ws.map PV.str))))) r) D σ G:=by
  refine ⟨_,hj, ?_⟩
  show wpL T (fK (ws.map PV.str)) σ G fun xs G1=>xs.length≤sizeLine∧rJ (.lst (us.map PV.str)) (.lst xs) G1 fun z G2=>wpS T r D (σ.set j (some z)) G2
  refine pE ws ⟨by rw [List.length_map]; exact szl (by omega), ?_⟩
  rw [pT]
  exact ⟨by rw [List.length_map,List.length_map]; exact szl hl,q⟩
theorem WZ {G:Gh} {Q:PK1} (q:Q (.bl false) G):kC .NotEq (.lst [.bl true,.bl false,.bl false]) (.lst [.bl true,.bl false,.bl false]) G Q:=⟨rfl,rfl,q⟩
theorem aDu {T:Tb} {c:String} {k:Nat} {w:Str} {fs:List Str} {ys:List PV} {G:Gh} {Q:PK1} (s:Srt T.xi c k w) (q:Q (.str w) G):wpS T oE (bP Q) (aL 7 [.exc c fs ys]) G:=by
  unfold oE
  refine nY (an:=fun n=>xiF T.xi c n) rfl (fun n h=>s.m n (fH h)) (by decide) ?_
  refine iG (an:=fun n=>xiF T.xi c n) (ms:=xX) rfl rfl (fun n h=>s.m n (fH h)) (by decide) ?_
  refine iG (an:=fun n=>xiF T.xi c n) (ms:=xX ++ AZ) rfl rfl (fun n h=>s.m n (fH h)) (by decide) ?_
  refine iG (an:=fun n=>xiF T.xi c n) (ms:=xX ++ AZ ++ FI) rfl rfl (fun n h=>s.m n (fH h)) (by decide) ?_
  refine iG (an:=fun n=>xiF T.xi c n) (ms:=xX ++ AZ ++ FI ++ LJ) rfl rfl (fun n h=>s.m n (fH h)) (by decide) ?_
  refine iG (an:=fun n=>xiF T.xi c n) (ms:=xX ++ AZ ++ FI ++ LJ ++ WF) rfl rfl (fun n h=>s.m n (fH h)) (by decide) ?_
  have e:(xX ++ AZ ++ FI ++ LJ ++ WF ++ aCA).map (fun n=>PV.bl (xiF T.xi c n))=(KQ.map fun n=>xiF T.xi c n).map PV.bl:=by rw [List.map_map]; rfl
  refine ⟨_,rfl,⟨_,rfl⟩,(KQ.map fun n=>xiF T.xi c n),true,congrArg some e,rfl, ?_⟩
  rw [s.k1]
  refine ⟨rfl,rfl,false,rfl, ?_⟩
  refine (?_:if false=true then _ else _)
  rw [if_neg (by decide)]
  refine ⟨_,rfl,⟨_,.inr rfl⟩,_,k,.inr rfl,(fun z hz=>?_),rfl,s.k2, ?_⟩
  · obtain ⟨n,_,rfl⟩:=List.mem_map.mp hz; rfl
  refine nY (an:=fun n=>xiF T.xi c n) rfl (fun n h=>s.m n (fH h)) (by decide) ?_
  refine nY (an:=fun n=>xiF T.xi c n) rfl (fun n h=>s.m n (fH h)) (by decide) ?_
  rw [s.b,s.v]
  have l1:decide ((k:Int) < 14)=true:=decide_eq_true (by have:=s.kl; omega)
  have l2:decide (14≤(k:Int))=false:=decide_eq_false (by have:=s.kl; omega)
  have l3:decide (17 < (k:Int))=false:=decide_eq_false (by have:=s.kl; omega)
  refine ⟨_,rfl,⟨trivial,⟨_,rfl,⟨trivial,_,rfl, ?_⟩⟩⟩⟩
  rw [l2,if_neg (by decide)]
  refine ⟨_,rfl,trivial,szl (n:=3) (by decide), ?_⟩
  refine (?_:pK false G [.bl (decide ((k:Int) < 14)),.bl false,.bl (decide (17 < (k:Int)))] _)
  rw [l1,l3]
  refine ⟨_,rfl,_,rfl,WZ ⟨false,rfl, ?_⟩⟩
  refine (?_:if false=true then _ else _)
  rw [if_neg (by decide)]
  refine ⟨_,rfl,_,rfl,WZ ⟨false,rfl, ?_⟩⟩
  refine (?_:if false=true then _ else _)
  rw [if_neg (by decide)]
  refine EY ["number","shade","part","deed","turn","way","text","grade","step","eye","limit","place"] (by decide) ?_
  refine HR ["number","shade","part","deed","turn","way","text","grade","step","eye","limit","place"] ["lights","row","weights","weight","empty","blend","word","name","stands","full","back"] rfl (by decide) ?_
  refine ⟨_,rfl,_,rfl, ?_⟩
  refine (?_:mU _ _ _ _)
  rw [fQ]
  exact ⟨_,s.w,Wk.here q⟩
theorem aBc {c c2:String} {ns ns2:List Str} {xs xs2:List PV}:(PV.exc c ns xs=PV.exc c2 ns2 xs2)=(c=c2∧ns=ns2∧xs=xs2):=by simp
set_option hygiene false in
local macro_rules | `(tactic| walk_at "rd") => `(tactic| simp only [wpS, wpE, wpL, wpT, wpO, wpI, wpG, gU, bP, aL, List.length_cons, List.length_nil, List.cons_append, List.nil_append, List.replicate, Nat.reduceAdd, Nat.reduceSub, Nat.zero_add, List.getElem?_cons_zero, List.getElem?_cons_succ, List.set_cons_zero, List.set_cons_succ, Option.some.injEq, exists_eq_left', true_and, ite_self, or_false, gS, fN, fE, fQ, bE.1, bE.2.1, bE.2.2.1, at0, at1, at2, List.cons.injEq, PV.int.injEq, PV.bl.injEq, PV.str.injEq, PV.ref.injEq, PV.tup.injEq, and_assoc, exists_and_left, eq_self, Int.reduceToNat, Int.reducePow, List.map, Bool.not_true, Bool.not_false, Bool.and_self, Bool.and_true, Bool.true_and, if_true, if_false, ite_true, ite_false, Bool.false_eq_true, decide_eq_true_eq, decide_true, decide_false, reduceCtorEq, sz2, Int.reduceEq, Int.reduceNe, aBc, *])
section
variable {T:Tb}
theorem aDY:Srt SN "NoShade" 1 "shade":=⟨by decide +kernel,by decide +kernel,by rfl,by rfl,by rfl,by decide,by rfl⟩
noncomputable def iN:CS:=oE
theorem xQ (h:P6 T):∀ xs G Q,nD xs G Q→wpS T iN (bP Q) (aL 7 xs) G:=by
  rintro xs G Q ⟨ns,ys,rfl,hq⟩
  exact aDu (by rw [h.xi]; exact aDY) hq
noncomputable def eJ:CS:=(.seq (.trh (.ex (.cal "!shares_of" (.cons (.var 0) .nil))) 1 (.ret (.tup (.cons (.cal "_law_sort" (.cons (.var 1) .nil)) (.cons (.atx (.var 1) "light") .nil)))) ["NoShade"])
  (.ret (.tup (.cons (.str "told") (.cons .non .nil)))))
theorem tH (h:P6 T) (hx:∀ x,P6 (T.at x)) (l:L6 T):∀ xs G Q,lL xs G Q→wpS T eJ (bP Q) (aL 2 xs) G:=by
  rintro xs G Q ⟨x,rfl,hk,hs,hq⟩
  unfold eJ
  have e1:=l.sort
  have e2:=h.fx
  rw [wpS,wpS]
  refine (?_:wpS (T.at _) _ _ _ _)
  generalize hT:T.at _=T'
  have h':P6 T':=hT▸hx _
  have hp:T'.xp=_:=(congrArg Tb.xp hT).symm
  have e3:=h'.xshares
  clear hT
  walk_at "rd"
  exact .inr ⟨x,rfl,hk,hs,WkX.here ⟨List.mem_singleton.mpr rfl,_,_,rfl,List.mem_singleton.mpr rfl,_,rfl,Wk.here hq⟩⟩
noncomputable def eI:CS:=(.seq (.trh (.iff (.tsb (.cmp .Eq (.var 0) (.int 0))) (.ex (.cal "!Shade" (.cons (.idx (.var 1) (.int 0)) (.cons (.idx (.var 1) (.int 1)) (.cons (.idx (.var 1) (.int 2)) .nil))))) (.iff (.tsb (.cmp .Eq (.var 0) (.int 1))) (.ex (.cak "!Shade" .nil (.cons (.idx (.var 1) (.int 2)) (.cons (.idx (.var 1) (.int 1)) (.cons (.idx (.var 1) (.int 0)) .nil))) [.arg 2,.arg 1,.arg 0])) (.ex (.cak "!Shade" (.cons (.idx (.var 1) (.int 0)) .nil) (.cons (.idx (.var 1) (.int 2)) (.cons (.idx (.var 1) (.int 1)) .nil)) [.arg 0,.arg 2,.arg 1])))) 2 (.ret (.tup (.cons (.cal "_law_sort" (.cons (.var 2) .nil)) (.cons (.atx (.var 2) "light") .nil)))) ["NoShade"])
  (.ret (.tup (.cons (.str "made") (.cons .non .nil)))))
theorem vb0 {xs:List PV} {x:PV}:Ar.val (x :: xs) (.arg 0)=x:=rfl
theorem vb1 {xs:List PV} {x y:PV}:Ar.val (x :: y :: xs) (.arg 1)=y:=rfl
theorem vb2 {xs:List PV} {x y z:PV}:Ar.val (x :: y :: z :: xs) (.arg 2)=z:=rfl
theorem GA {x y z:PV} (h:rF x y z=none):dP x=true∧dP y=true∧dP z=true:=by
  unfold rF at h
  cases hx:dP x <;> cases hy:dP y <;> cases hz:dP z <;> simp [hx,hy,hz] at h ⊢
theorem vA (h:P6 T) (hx:∀ x,P6 (T.at x)) (l:L6 T):∀ xs G Q,lB xs G Q→wpS T eI (bP Q) (aL 3 xs) G:=by
  rintro xs G Q ⟨w,r,x,y,z,rfl,ht,kx,ky,kz,hq⟩
  unfold eI
  have e1:=l.sort
  have e2:=h.fx
  rw [wpS,wpS]
  refine (?_:wpS (T.at _) _ _ _ _)
  generalize hT:T.at _=T'
  have h':P6 T':=hT▸hx _
  have hp:T'.xp=_:=(congrArg Tb.xp hT).symm
  clear hT
  have key:T'.S "!Shade" [x,y,z] G fun _ G1=>Wk Q (.tup [.str "made",.non]) G1:=by
    rw [h'.xshade]
    unfold EA at hq
    cases hf:rF x y z with
    | none =>
      rw [hf] at hq
      obtain ⟨sx,sy,sz⟩:=GA hf
      obtain ⟨a,rfl,ia⟩:=AY sx
      obtain ⟨b,rfl,ib⟩:=AY sy
      obtain ⟨c,rfl,ic⟩:=AY sz
      exact .inl ⟨a,b,c,rfl,ia,ib,ic,Wk.here hq⟩
    | some i =>
      rw [hf] at hq
      refine .inr ⟨x,y,z,i,rfl,kx,ky,kz,hf,fun p hn=>?_⟩
      rw [hp]
      refine ⟨G,fun a o q=>?_,List.mem_singleton.mpr rfl, ?_⟩
      · rw [dX (fun e=>by subst e; rw [hn] at q; cases q)]; exact q
      · walk_at "rd"
        exact ⟨_,_,rfl,List.mem_singleton.mpr rfl,_,rfl,Wk.here hq⟩
  clear hp
  rcases ht with rfl | rfl
  · walk_at "rd"
    split
    · trivial
    · split <;> exact key
  · walk_at "rd"
    split
    · trivial
    · split <;> exact key
end
set_option hygiene false in
local macro_rules | `(tactic| walk_at "rd") => `(tactic| simp only [wpS, wpE, wpL, wpT, wpO, wpI, wpG, gU, bP, aL, List.length_cons, List.length_nil, List.cons_append, List.nil_append, List.replicate, Nat.reduceAdd, Nat.reduceSub, Nat.zero_add, List.getElem?_cons_zero, List.getElem?_cons_succ, List.set_cons_zero, List.set_cons_succ, Option.some.injEq, exists_eq_left', true_and, and_true, ite_self, or_false, jT, iD, vY, iK, pT, fQ, II, nO, bE.1, bE.2.1, bE.2.2.1, List.cons.injEq, PV.int.injEq, PV.bl.injEq, PV.str.injEq, PV.ref.injEq, PV.tup.injEq, and_assoc, exists_and_left, eq_self, Int.reduceToNat, Int.reducePow, List.map, iP, Bool.not_true, Bool.not_false, Bool.and_self, Bool.and_true, Bool.true_and, if_true, if_false, ite_true, ite_false, Bool.false_eq_true, decide_eq_true_eq, decide_true, decide_false, reduceCtorEq, sz1, sz2, sz3, Int.reduceEq, Int.reduceNe, *])
section
variable {T:Tb}
noncomputable def fJ:CS:=(.seq (.asg (.gt 2 (.cons (.gn 2) (.cons (.gn 3) .nil))) (.var 1))
  (.seq (.asg (.gn 4) (.lst false (.cons (.tup (.cons (.bin .Sub (.int 0) (.int 1)) (.cons (.int 1) .nil))) (.cons (.tup (.cons (.bin .Sub (.int 0) (.int 1)) (.cons (.int 3) .nil))) (.cons (.tup (.cons (.int 2) (.cons (.int 1) .nil))) (.cons (.tup (.cons (.bin .Add (.var 3) (.int 1)) (.cons (.var 3) .nil))) (.cons (.tup (.cons (.int 2) (.cons (.int 4) .nil))) (.cons (.tup (.cons (.int 0) (.cons (.int 2) .nil))) (.cons (.tup (.cons (.int 1) (.cons (.int 0) .nil))) (.cons (.tup (.cons (.int 0) (.cons (.bin .Sub (.int 0) (.int 1)) .nil))) .nil))))))))))
  (.seq (.asg (.gn 4) (.bin .Add (.var 4) (.lst false (.cons (.tup (.cons (.bin .Sub (.int 0) (.int 1)) (.cons (.bin .Sub (.int 0) (.int 2)) .nil))) (.cons (.bl true) (.cons (.bl false) (.cons (.int 0) (.cons (.int 1) (.cons (.str "1/2") (.cons (.str "") (.cons .non (.cons (.lst false (.cons (.int 1) (.cons (.int 2) .nil))) (.cons (.lst false (.cons (.int 0) (.cons (.int 1) .nil))) (.cons .emp (.cons (.tup .nil) (.cons (.tup (.cons (.int 1) .nil)) (.cons (.tup (.cons (.int 1) (.cons (.int 2) (.cons (.int 1) .nil)))) .nil)))))))))))))))))
  (.seq (.asg (.gn 4) (.bin .Add (.var 4) (.lst false (.cons (.tup (.cons (.bl true) (.cons (.int 1) .nil))) (.cons (.tup (.cons (.int 0) (.cons (.bl true) .nil))) .nil)))))
  (.seq (.asg (.gn 4) (.bin .Add (.var 4) (.lst false (.cons (.tup (.cons (.str "1") (.cons (.int 2) .nil))) (.cons (.tup (.cons .non (.cons (.int 1) .nil))) (.cons (.tup (.cons (.lst false .nil) (.cons (.int 1) .nil))) (.cons (.tup (.cons (.int 1) (.cons .emp .nil))) (.cons (.tup (.cons (.tup (.cons (.int 1) (.cons (.int 2) .nil))) (.cons (.int 1) .nil))) (.cons (.tup (.cons (.lst false (.cons (.int 0) .nil)) (.cons (.lst false (.cons (.int 1) .nil)) .nil))) (.cons (.cal "Shade" (.cons (.tup (.cons (.int 0) (.cons (.int 1) .nil))) (.cons (.tup (.cons (.int 1) (.cons (.int 2) .nil))) (.cons (.tup (.cons (.int 1) (.cons (.int 1) .nil))) .nil)))) .nil))))))))))
  (.ret (.idx (.var 4) (.cal "_law_pick" (.cons (.var 0) (.cons (.blt .len (.cons (.var 4) .nil)) .nil))))))))))
theorem aHV:PV.tup [.int 0,.int 1]=FQ 0:=rfl
theorem aH2:PV.tup [.int 1,.int 2]=FQ hlf:=rfl
theorem aHY:PV.tup [.int 1,.int 1]=FQ 1:=rfl
theorem aAl {P:PV→Prop} {xs:List PV} {r:Int} {Q:PV→Prop} (h:∀ v∈xs,P v) (h0:0≤r) (h1:r < (xs.length:Int)) (q:∀ v,P v→Q v):∃ v,atI xs r=some v∧Q v:=by
  have hl:r.toNat < xs.length:=by omega
  have e:=dH (xs:=xs) (j:=r.toNat) (List.getElem?_eq_getElem hl)
  rw [Int.toNat_of_nonneg h0] at e
  exact ⟨_,e,q _ (h _ (List.getElem_mem hl))⟩
theorem AU (h:P6 T) (t:LT T):∀ xs G Q,tZ xs G Q→wpS T fJ (bP Q) (aL 5 xs) G:=by
  rintro xs G Q ⟨p,q,rfl,hp,hq⟩
  unfold fJ
  have e1:=t.pick
  have e2:∀ G Q,Q (SH 0 hlf 1) G→T.S "Shade" [.tup [.int 0,.int 1],.tup [.int 1,.int 2],.tup [.int 1,.int 1]] G Q:=fun G Q z=>by
    rw [h.shade]; exact ⟨0,hlf,1,rfl,⟨by decide,by decide⟩,VP,⟨by decide,by decide⟩,z⟩
  have szl:∀ n:Nat,n≤100→n≤sizeLine:=fun n hn=>by rw [sizeLine_eq]; omega
  have e0:FQ q= .tup [.int q.num,.int (q.den:Int)]:=rfl
  walk_at "rd"
  refine ⟨szl _ (by decide),szl _ (by decide),szl _ (by decide),szl _ (by decide),szl _ (by decide),szl _ (by decide),e2 _ _ ⟨szl _ (by decide),szl _ (by decide),hp,by decide,smK (by decide) (by decide) (by decide),fun r G' h0 h1 hn=>?_⟩⟩
  refine aAl (fun v hv=>?_) h0 h1 fun v hv=>Wk.here (hq v G' hv hn)
  simp only [List.mem_cons,List.not_mem_nil,or_false] at hv
  rcases hv with rfl | rfl | rfl | rfl | rfl | rfl | rfl | rfl | rfl | rfl | rfl | rfl | rfl | rfl | rfl | rfl | rfl | rfl | rfl | rfl | rfl | rfl | rfl | rfl | rfl | rfl | rfl | rfl | rfl | rfl | rfl <;> first
    | exact ⟨trivial,rfl⟩
    | exact ⟨⟨trivial,trivial⟩,rfl⟩
    | exact ⟨⟨trivial,trivial⟩,by decide⟩
    | exact ⟨rfl,rfl⟩
    | skip
  refine ⟨⟨trivial,trivial⟩, ?_⟩
  show (_ && _ && _ && decide ((q.den:Int) + 1≤(q.den:Int)))=false
  have e:decide ((q.den:Int) + 1≤(q.den:Int))=false:=decide_eq_false (by omega)
  rw [e,Bool.and_false]
end
set_option hygiene false in
local macro_rules | `(tactic| walk_at "rd") => `(tactic| simp only [wpS, wpE, wpL, wpT, wpO, wpI, wpG, gU, bP, aL, List.length_cons, List.length_nil, List.cons_append, List.nil_append, List.replicate, Nat.reduceAdd, Nat.reduceSub, Nat.zero_add, List.getElem?_cons_zero, List.getElem?_cons_succ, List.set_cons_zero, List.set_cons_succ, Option.some.injEq, exists_eq_left', true_and, and_true, exists_false, ite_self, false_and, and_false, or_false, false_or, jT, iD, yA, iQ, iK, gS, nH, vG, fN, iZ, DM, fE, fQ, CW, PP, sP, tB, oV, nO, bE.1, bE.2.1, bE.2.2.1, aCV, at0, at1, at2, List.cons.injEq, PV.int.injEq, PV.bl.injEq, PV.str.injEq, PV.ref.injEq, PV.tup.injEq, and_assoc, exists_and_left, eq_self, tY, Int.reduceToNat, Int.reducePow, exists_eq', xC, sD, iY, gE, yP, HH, Option.getD_some, List.map, iP, eE, Bool.not_true, Bool.not_false, Bool.and_self, Bool.and_true, Bool.true_and, if_true, if_false, ite_true, ite_false, Bool.false_eq_true, decide_eq_true_eq, decide_true, decide_false, reduceCtorEq, sz1, sz2, sz3, gK, Int.reduceEq, Int.reduceNe, *])
section
variable {T:Tb}
noncomputable def eK:CS:=(.seq (.par 2 3 (.bin .Add (.int 1) (.cal "_law_pick" (.cons (.var 0) (.cons (.int 7) .nil)))) (.cal "_law_pick" (.cons (.var 0) (.cons (.int 3) .nil))))
  (.seq (.asg (.gn 4) (.lst false (.cons (.cmp .Eq (.bin .Mod (.var 2) (.int 2)) (.int 1)) (.cons (.cmp .Eq (.bin .Mod (.bin .FloorDiv (.var 2) (.int 2)) (.int 2)) (.int 1)) (.cons (.cmp .Eq (.bin .FloorDiv (.var 2) (.int 4)) (.int 1)) .nil)))))
  (.seq (.asg (.gn 5) (.cmpr false (.gn 1) (.irg (.cons (.int 3) .nil)) .nil (.cal "_law_bad" (.cons (.var 2) (.cons (.idx (.var 3) (.var 1)) .nil))) [none,none,some 0,some 1]))
  (.seq (.asg (.gn 6) (.cmpr false (.gn 1) (.irg (.cons (.int 3) .nil)) .nil (.idx (.lst false (.cons (.idx (.var 3) (.var 1)) (.cons (.idx (.var 2) (.var 1)) .nil))) (.blt .int (.cons (.idx (.var 4) (.var 1)) .nil))) [none,none,some 5,some 1,some 4]))
  (.seq (.asg (.gn 7) (.ixo (.var 4) (.bl true)))
  (.seq (.fr (.gn 8) (.irg (.cons (.int 2) .nil)) (.seq (.asg (.gn 9) (.cal "_law_tried" (.cons (.var 3) (.cons (.var 6) .nil))))
  (.iff (.oo (.tsb (.cmp .NotEq (.var 9) (.tup (.cons (.str "shade") (.cons (.var 7) .nil))))) (.tst (.blt .isi (.cons (.idx (.var 9) (.int 1)) (.cons (.glo "bool") .nil))))) (.ret (.bl false)) .nil)))
  (.ret (.cmp .Eq (.cal "_law_tried" (.cons (.var 3) (.cons (.var 1) .nil))) (.tup (.cons (.str "made") (.cons .non .nil)))))))))))
theorem kY:PyData.strOk ("shade":Str)=true:=by decide +kernel
theorem CO:PyData.strOk ("made":Str)=true:=by decide +kernel
theorem NL {s:Str} {i:Int} (h:PyData.strOk s=true):shp (.tup [.str s,.int i])=true:=by
  show (PyData.canLay0 (.tuple [.str s,.int i]) && decide ((PyData.tuple [.str s,.int i]).depth≤64))=true
  simp [PyData.canLay0,PyData.canLayAll0,PyData.depth,PyData.depthAll,h]
theorem tO {s:Str} (h:PyData.strOk s=true):shp (.tup [.str s,.non])=true:=by
  show (PyData.canLay0 (.tuple [.str s,.none]) && decide ((PyData.tuple [.str s,.none]).depth≤64))=true
  simp [PyData.canLay0,PyData.canLayAll0,PyData.depth,PyData.depthAll,h]
theorem uC (h:P6 T) (t:LT T) (l:L6 T):∀ xs G Q,kZ xs G Q→wpS T eK (bP Q) (aL 10 xs) G:=by
  rintro xs G Q ⟨p,a,b,c,rfl,hp,ha,hb,hc,hq⟩
  unfold eK
  have e1:=t.pick
  have e2:=l.bad
  have e4:=h.ty_bool
  have m2:∀ i:Int,KN i 2:=fun _=>by show (0:Int) < 2; decide
  have d2:∀ i:Int,mH i 2:=fun _=>EZ (k:=41) (by decide) (smK (by decide) (by decide) (by decide))
  have d4:∀ i:Int,mH i 4:=fun _=>EZ (k:=41) (by decide) (smK (by decide) (by decide) (by decide))
  have r2:pQ 0 2=[.int 0,.int 1]:=rfl
  have mad:∀ w G Q,Q (.tup [.str "made",.non]) G→T.S "_law_tried" [.int w,.tup [FQ a,FQ b,FQ c]] G Q:=fun w G Q z=>by
    rw [l.tried]
    refine ⟨w,_,_,_,_,rfl,.inl rfl,oZ,oZ,oZ, ?_⟩
    unfold EA rF
    rw [eV ha,eV hb,eV hc]; exact z
  walk_at "rd"
  refine ⟨by decide,smK (by decide) (by decide) (by decide),fun r G1 h0 h1 n1=>⟨n1.pu,by decide,smK (by decide) (by decide) (by decide),fun w G2 w0 w1 n2=>⟨by decide,by decide,p,a,rfl,n2.pu,fun y0 G3 o0 n3=>⟨p,b,rfl,n3.pu,fun y1 G4 o1 n4=>⟨p,c,rfl,n4.pu,fun y2 G5 o2 n5=>⟨by decide,by decide, ?_⟩⟩⟩⟩⟩⟩
  have nn:¬((1 + r) % 2=1)→¬((1 + r) / 2 % 2=1)→¬((1 + r) / 4=1)→False:=fun x y z=>by omega
  have pk:∀ (A:Prop) [Decidable A] (q:Rat) (y:PV),In1 q→Od y→∃ v,atI [FQ q,y] (if A then 1 else 0)=some v∧Kd2 v∧dP v= !decide A:=fun A _ q y hq ho=>by
    by_cases hA:A
    · rw [if_pos hA,at1,decide_eq_true hA]; exact ⟨y,rfl,ho.1,ho.2⟩
    · rw [if_neg hA,at0,decide_eq_false hA]; exact ⟨FQ q,rfl,oZ,eV hq⟩
  obtain ⟨v0,f0,k0,s0⟩:=pk ((1 + r) % 2=1) a y0 ha o0
  obtain ⟨v1,f1,k1,s1⟩:=pk ((1 + r) / 2 % 2=1) b y1 hb o1
  obtain ⟨v2,f2,k2,s2⟩:=pk ((1 + r) / 4=1) c y2 hc o2
  refine ⟨v0,f0,v1,f1,v2,f2, ?_⟩
  have hi:∃ i:Nat,([PV.bl (decide ((1 + r) % 2=1)),PV.bl (decide ((1 + r) / 2 % 2=1)),PV.bl (decide ((1 + r) / 4=1))].findIdx? fun z=>peq z (.bl true))=some i∧rF v0 v1 v2=some (i:Int):=by
    unfold rF
    rw [s0,s1,s2]
    by_cases A:(1 + r) % 2=1
    · rw [decide_eq_true A]; exact ⟨0,rfl,rfl⟩
    · rw [decide_eq_false A]
      by_cases B:(1 + r) / 2 % 2=1
      · rw [decide_eq_true B]; exact ⟨1,rfl,rfl⟩
      · rw [decide_eq_false B]
        by_cases C:(1 + r) / 4=1
        · rw [decide_eq_true C]; exact ⟨2,rfl,rfl⟩
        · exact (nn A B C).elim
  obtain ⟨i,hi,hf⟩:=hi
  have tr:∀ w G Q,Q (.tup [.str "shade",.int i]) G→T.S "_law_tried" [.int w,.lst [v0,v1,v2]] G Q:=fun w G Q z=>by
    rw [l.tried]
    refine ⟨w,_,_,_,_,rfl,.inr rfl,k0,k1,k2, ?_⟩
    unfold EA
    rw [hf]; exact z
  have qe:∀ (G:Gh) (Q:PK1),Q (.bl false) G→pEq true (.tup [.str "shade",.int i]) (.tup [.str "shade",.int i]) G Q:=fun G Q z=>by
    refine ⟨NL kY,NL kY, ?_⟩
    show Q (.bl (!(peq (.str "shade") (.str "shade") && (((i:Int) == (i:Int)) && true)))) G
    rw [beq_self_eq_true]
    have:peq (.str "shade") (.str "shade")=true:=by show (("shade":Str) == "shade")=true; exact beq_self_eq_true _
    rw [this]; exact z
  have np:=((n1.trans n2).trans n3).trans (n4.trans n5)
  refine ⟨_,i,.inr rfl,(fun z hz=>?_),rfl,hi, ?_⟩
  · simp only [List.mem_cons,List.not_mem_nil,or_false] at hz
    rcases hz with rfl | rfl | rfl <;> rfl
  clear e1 e2 m2 d2 d4 hi hf
  walk_at "rd"
  refine ⟨by decide,by decide,tr _ _ _ (qe _ _ ?_)⟩
  walk_at "rd"
  refine tr _ _ _ (qe _ _ ?_)
  walk_at "rd"
  refine mad _ _ _ ⟨tO CO,tO CO, ?_⟩
  have:peq (.tup [.str "made",.non]) (.tup [.str "made",.non])=true:=by
    show ((("made":Str) == "made") && (true && true))=true
    rw [beq_self_eq_true]; rfl
  show Wk Q (.bl (peq (.tup [.str "made",.non]) (.tup [.str "made",.non]))) _
  rw [this]; exact Wk.here (hq _ np)
noncomputable def cA:CS:=(.seq (.asg (.gn 2) (.cal "_law_bad" (.cons (.var 0) (.cons (.idx (.var 1) (.int 0)) .nil))))
  (.seq (.asg (.gn 3) (.lst true (.cons (.var 1) (.cons (.blt .list (.cons (.var 1) .nil)) (.cons (.bow .str [("Shade","Shade.__str__")] (.cons (.cal "Shade" (.cons (.idx (.var 1) (.int 0)) (.cons (.idx (.var 1) (.int 1)) (.cons (.idx (.var 1) (.int 2)) .nil)))) .nil)) (.cons (.tup (.cons (.lst false .nil) .nil)) (.cons .emp (.cons .non (.cons (.bl true) (.cons (.int 3) .nil))))))))))
  (.seq (.iff (.no (.tst (.blt .isi (.cons (.var 2) (.cons (.glo "Shade") .nil))))) (.ex (.app (.var 3) (.var 2))) .nil)
  (.seq (.fr (.gn 4) (.isq (.var 3)) (.iff (.oo (.tsb (.cmp .IsNot (.cal "is_shade" (.cons (.var 4) .nil)) (.bl false))) (.tsb (.cmp .NotEq (.cal "_law_asked" (.cons (.var 4) .nil)) (.tup (.cons (.str "shade") (.cons .non .nil)))))) (.ret (.bl false)) .nil))
  (.ret (.bl true))))))
theorem mB {chk:Gh→Prop} {g:PTG} {tb:PTS} {D:gZ} {G0:Gh} (hc:chk G0) (I:PSt→Prop):∀ {xs:List PV} {σ:PSt},I σ→(∀ x∈xs,∀ σ R,I σ→(∀ σ',I σ'→R σ' G0)→g x σ G0 fun σ2 G2=>tb { D with nx:=R,ct:=R,bk:=D.nx } σ2 G2)→(∀ σ,I σ→D.nx σ G0)→lW chk g tb D xs σ G0
  | [],σ,h,_,hd=>⟨hc,hd σ h⟩
  | x :: r,σ,h,hs,hd=>⟨hc,hs x (List.mem_cons_self ..) σ _ h fun σ' h'=>mB hc I h' (fun y hy=>hs y (List.mem_cons_of_mem _ hy)) hd⟩
theorem MY {b:Bn} {c:String} {m:Str} {ns:List Str} {ys:List PV} {G:Gh} {Q:PK1} (q:T.S m [.ob c ns ys] G fun v G'=>aFn b v G' Q):SS T b [(c,m)] [.ob c ns ys] G Q:=.inl ⟨c,m,ns,ys,List.mem_singleton.mpr rfl,rfl,q⟩
noncomputable def Ns (x:PV):Prop:=Kd6 x∧tJ x=false
theorem jF (h:P6 T) (t:LT T) (l:L6 T):∀ xs G Q,jD xs G Q→wpS T cA (bP Q) (aL 5 xs) G:=by
  rintro xs G Q ⟨p,a,b,c,rfl,hp,hs,hq⟩
  unfold cA
  have e2:=l.bad
  have e4:=h.is_shade
  have e5:=h.shade
  have e6:=h.gv_Shade
  have szl:∀ n:Nat,n≤100→n≤sizeLine:=fun n hn=>by rw [sizeLine_eq]; omega
  have asked:∀ x G Q,Ns x→Q (.tup [.str "shade",.non]) G→T.S "_law_asked" [x] G Q:=fun x G Q hn z=>by rw [l.asked]; exact ⟨x,rfl,hn.1,hn.2,z⟩
  have qe:∀ (G:Gh) (Q:PK1),Q (.bl false) G→pEq true (.tup [.str "shade",.non]) (.tup [.str "shade",.non]) G Q:=fun G Q z=>by
    refine ⟨tO kY,tO kY, ?_⟩
    have:peq (.tup [.str "shade",.non]) (.tup [.str "shade",.non])=true:=by
      show ((("shade":Str) == "shade") && (true && true))=true
      rw [beq_self_eq_true]; rfl
    show Q (.bl (!peq (.tup [.str "shade",.non]) (.tup [.str "shade",.non]))) G
    rw [this]; exact z
  walk_at "rd"
  refine ⟨p,a,rfl,hp,fun x G1 ox n1=>.inl ⟨_,rfl,hs.1.1,hs.1.2.1,hs.1.2.2,MY ?_⟩⟩
  rw [h.strS]
  refine ⟨(a,b,c),rfl,hs.mono (by decide),_,rfl,szl _ (by decide),szl _ (by decide),fun p1 h1=>?_⟩
  rw [NC (KW ox.1)]
  refine ⟨h.cs, ?_⟩
  have fin:∀ (xs:List PV) (G2:Gh),(∀ a o,G1 a=some o→G2 a=some o)→Wk Q (.bl true) G2:=fun xs G2 hsub=>Wk.of (hq G1 n1) hsub
  have sub:∀ (o:GO) (a:Addr) (u:GO),G1 a=some u→gup G1 p1 o a=some u:=fun o a u z=>by rw [dX (fun e=>by subst e; rw [h1] at z; cases z)]; exact z
  have base:∀ v∈ [PV.tup [FQ a,FQ b,FQ c],PV.lst [FQ a,FQ b,FQ c],PV.str (aEe (a,b,c)),PV.tup [PV.lst []],PV.emp,PV.non,PV.bl true,PV.int 3],Ns v:=by
    intro v hv
    simp only [List.mem_cons,List.not_mem_nil,or_false] at hv
    rcases hv with rfl | rfl | rfl | rfl | rfl | rfl | rfl | rfl <;> exact ⟨trivial,rfl⟩
  cases hx:tJ x
  · walk_at "rd"
    refine ⟨_,aN,by rw [sizeLine_eq]; show 8 < _; decide,_,aN, ?_⟩
    refine mB aN (fun σ=>∃ z,σ=[some (.ref p),some (.tup [FQ a,FQ b,FQ c]),some x,some (.ref p1),z]) ⟨_,rfl⟩ ?_ ?_
    · rintro v hv σ R ⟨z,rfl⟩ hR
      obtain ⟨k1,k2⟩:=(show Ns v from by
        rcases List.mem_append.mp hv with hv | hv
        · exact base v hv
        · rw [List.mem_singleton.mp hv]; exact ⟨KW ox.1,hx⟩)
      refine ⟨v,rfl,k1, ?_⟩
      rw [k2,if_neg (by decide)]
      refine ⟨v,rfl,asked v _ _ ⟨k1,k2⟩ (qe _ _ ⟨false,rfl, ?_⟩)⟩
      exact hR _ ⟨_,rfl⟩
    · rintro σ ⟨z,rfl⟩
      exact fin [] _ (by rw [eQ]; exact sub _)
  · walk_at "rd"
    refine ⟨_,aN, ?_⟩
    refine mB aN (fun σ=>∃ z,σ=[some (.ref p),some (.tup [FQ a,FQ b,FQ c]),some x,some (.ref p1),z]) ⟨_,rfl⟩ ?_ ?_
    · rintro v hv σ R ⟨z,rfl⟩ hR
      obtain ⟨k1,k2⟩:=(base v hv)
      refine ⟨v,rfl,k1, ?_⟩
      rw [k2,if_neg (by decide)]
      refine ⟨v,rfl,asked v _ _ ⟨k1,k2⟩ (qe _ _ ⟨false,rfl, ?_⟩)⟩
      exact hR _ ⟨_,rfl⟩
    · rintro σ ⟨z,rfl⟩
      exact fin [] _ (sub _)
end
theorem VG {lo:Int} {n:Nat} {x:PV} (h:x∈pQ lo n):∃ k:Nat,x= .int (lo + (k:Int))∧k < n:=by
  unfold pQ at h
  obtain ⟨k,hk,rfl⟩:=List.mem_map.mp h
  exact ⟨k,rfl,List.mem_range.mp hk⟩
section
variable {T:Tb}
set_option hygiene false in
local macro_rules | `(tactic| walk_at "rd") => `(tactic| simp only [wpS, wpE, wpL, wpT, wpO, wpI, wpG, gU, bP, aL, List.length_cons, List.length_nil, List.cons_append, List.nil_append, List.replicate, Nat.reduceAdd, Nat.reduceSub, Nat.zero_add, List.getElem?_cons_zero, List.getElem?_cons_succ, List.set_cons_zero, List.set_cons_succ, Option.some.injEq, exists_eq_left', true_and, and_true, exists_false, ite_self, false_and, and_false, or_false, jT, iD, iQ, iK, gS, nH, vG, fN, DM, fE, oO, xN, ND, NY, hX, oV, bE.1, bE.2.1, bE.2.2.1, at0, at1, at2, List.cons.injEq, PV.int.injEq, PV.bl.injEq, PV.str.injEq, PV.ref.injEq, PV.tup.injEq, and_assoc, exists_and_left, eq_self, tY, Int.reduceToNat, Int.reducePow, iY, gE, yP, IS, HH, Option.getD_some, List.map, iP, fO, fV, pG, kR, eE, bD, Bool.not_true, Bool.not_false, Bool.and_self, Bool.and_true, Bool.true_and, if_true, if_false, ite_true, ite_false, Bool.false_eq_true, decide_eq_true_eq, decide_true, decide_false, reduceCtorEq, sz3, Wk.here, gK, Int.reduceEq, Int.reduceNe, beq_self_eq_true, *])
noncomputable def dZ:CS:=(.seq (.asg (.gn 1) (.cal "_law_pick" (.cons (.var 0) (.cons (.int 8) .nil))))
  (.seq (.asg (.gn 2) (.cmpr true (.gn 1) (.irg (.cons (.int 3) .nil)) .nil (.cal "_law_share" (.cons (.var 2) .nil)) [none,none,some 0]))
  (.seq (.iff (.tsb (.cmp .Eq (.var 1) (.int 1))) (.seq (.asg (.gn 3) (.cal "_law_pick" (.cons (.var 0) (.cons (.int 3) .nil))))
  (.sub (.var 2) (.var 3) (.idx (.var 2) (.bin .Mod (.bin .Add (.var 3) (.int 1)) (.int 3))))) .nil)
  (.seq (.iff (.tsb (.cmp .Eq (.var 1) (.int 3))) (.asg (.gn 2) (.lst true (.cons (.idx (.var 2) (.int 0)) (.cons (.idx (.var 2) (.int 0)) (.cons (.idx (.var 2) (.int 0)) .nil))))) .nil)
  (.ret (.blt .tuple (.cons (.var 2) .nil)))))))
theorem rB (h:LT T):∀ xs G Q,fV xs G Q→wpS T dZ (bP Q) (aL 4 xs) G:=by
  rintro xs G Q ⟨p,rfl,hp,hq⟩
  unfold dZ
  have:=h.pick
  have:=h.share
  have:=@YS
  walk_at "rd"
  refine ⟨by decide,smP (by decide) (by decide),fun r1 G1 a1 b1 n1=>?_⟩
  refine ⟨by decide,by decide,n1.pu,fun q1 G2 i1 d1 m1=>⟨m1.pu,fun q2 G3 i2 d2 m2=>⟨m2.pu,fun q3 G4 i3 d3 m3 l hl=>?_⟩⟩⟩
  have nn:=((n1.trans m1).trans m2).trans m3
  have lp:l≠p:=m3.pu.ne hl
  have gl:G l=none:=by rw [←nn.ne lp]; exact hl
  have k0:Pk p G (gup G4 l (.lst [FQ q1,FQ q2,FQ q3])):=(Pk.of nn).new hl
  split
  · rename_i e1
    refine ⟨m3.pu.new hl,by decide,smP (by decide) (by decide),fun r G5 a b m4=>?_⟩
    have g5:G5 l=some (.lst [FQ q1,FQ q2,FQ q3]):=by rw [m4.ne lp]; exact aN
    have hr:r=0∨r=1∨r=2:=by omega
    have ne3:¬r1=3:=by omega
    have k1:∀ o,Pk p G (gup G5 l o):=fun o=>(k0.pick m4).set gl lp
    rw [xL g5]
    refine ⟨by show (0:Int) < 3; decide, ?_⟩
    rcases hr with rfl | rfl | rfl
    · refine ⟨_,at1, ?_⟩
      rw [lK g5]
      refine ⟨0,XX, ?_⟩
      rw [if_neg ne3,hX]
      exact (k1 _).end_ fun G' g=>hq _ _ _ G' i2 i2 i3 d2 d2 d3 g
    · refine ⟨_,at2, ?_⟩
      rw [lK g5]
      refine ⟨1,XA, ?_⟩
      rw [if_neg ne3,hX]
      exact (k1 _).end_ fun G' g=>hq _ _ _ G' i1 i3 i3 d1 d3 d3 g
    · refine ⟨_,at0, ?_⟩
      rw [lK g5]
      refine ⟨2,YC, ?_⟩
      rw [if_neg ne3,hX]
      exact (k1 _).end_ fun G' g=>hq _ _ _ G' i1 i2 i1 d1 d2 d1 g
  · split
    · intro l2 hl2
      exact (k0.new hl2).end_ fun G' g=>hq _ _ _ G' i1 i1 i1 d1 d1 d1 g
    · exact k0.end_ fun G' g=>hq _ _ _ G' i1 i2 i3 d1 d2 d3 g
noncomputable def oH:CS:=(.seq (.fr (.gn 1) (.irg (.cons (.blt .max (.cons (.int 2) (.cons (.blt .min (.cons (.blt .len (.cons (.var 0) .nil)) (.cons (.int 5) .nil))) .nil))) .nil)) (.seq (.asg (.gn 2) (.cal "_law_purse" (.cons (.cal "_law_cell" (.cons (.var 0) (.cons (.var 1) .nil))) .nil)))
  (.seq (.asg (.gn 3) (.cal "_law_shares" (.cons (.var 2) .nil)))
  (.seq (.fr (.gn 4) (.irg (.cons (.int 5) .nil)) (.iff (.oo (.no (.tst (.cal "_law_right" (.cons (.var 2) (.cons (.var 3) .nil))))) (.no (.tst (.cal "_law_others_right" (.cons (.var 2) (.cons (.var 3) .nil)))))) (.ret (.bl false)) .nil))
  (.seq (.asg (.gn 5) (.cal "Shade" (.cons (.idx (.var 3) (.int 0)) (.cons (.idx (.var 3) (.int 1)) (.cons (.idx (.var 3) (.int 2)) .nil)))))
  (.iff (.oo (.tsb (.cmp .IsNot (.cal "is_shade" (.cons (.var 5) .nil)) (.bl true))) (.tsb (.cmp .NotEq (.cal "shares_of" (.cons (.var 5) .nil)) (.var 3)))) (.ret (.bl false)) .nil))))))
  (.ret (.bl true)))
noncomputable def I6 (ns:List Int) (σ:PSt):Prop:= ∃ x1 x2 x3 x4 x5,σ=[some (.scr ns),x1,x2,x3,x4,x5]
theorem aD8 (h:P6 T) (t:LT T) (l:L6 T):∀ xs G Q,uQ xs G Q→wpS T oH (bP Q) (aL 6 xs) G:=by
  rintro xs G Q ⟨ns,rfl,hl,hq⟩
  have:=@YS
  unfold oH
  have e1:=t.cell
  have e2:=t.purse
  have e3:=t.shares
  have e4:=h.shade
  have e5:=h.is_shade
  have e6:=h.shares_of
  walk_at "rd"
  refine ⟨by omega,by omega, ?_⟩
  refine kO (fun σ _=>I6 ns σ) ⟨_,_,_,_,_,rfl⟩ ?_ ?_
  · rintro x hx σ G' R ⟨x1,x2,x3,x4,x5,rfl⟩ hR
    obtain ⟨j,rfl,hj⟩:=VG hx
    have hj64:(j:Int) < 64:=by
      have h5:min (ns.length:Int) 5≤5:=Int.min_le_right _ _
      have h6:max 2 (min (ns.length:Int) 5)≤5:=by omega
      omega
    walk_at "rd"
    refine ⟨ns,rfl,by omega,by omega,fun cc p x y z hp=>?_⟩
    refine ⟨⟨_,_,_,aN⟩,fun a b c G2 ia ib ic ba bb bc n2=>⟨by decide,by decide, ?_⟩⟩
    refine kO (fun σ G=>Pu p G∧∃ z,σ=[some (.scr ns),some (.int (0 + (j:Int))),some (.ref p),some (.tup [FQ a,FQ b,FQ c]),z,x5]) ⟨n2.pu,_,rfl⟩ ?_ ?_
    · rintro v hv σ G3 R ⟨hp3,z3,rfl⟩ hR3
      refine ⟨_,rfl,_,rfl, ?_⟩
      rw [l.right]
      refine ⟨p,a,b,c,rfl,hp3,ia,ib,ic,fun G4 n4=>?_⟩
      refine (?_:pO (.bl true) _ _)
      rw [iZ]
      refine (?_:if (!true)=true then _ else _)
      rw [if_neg (by decide)]
      refine ⟨_,rfl,_,rfl, ?_⟩
      rw [l.others]
      refine ⟨p,a,b,c,rfl,n4.pu,⟨⟨ia,ib,ic⟩,ba,bb,bc⟩,fun G5 n5=>?_⟩
      refine (?_:pO (.bl true) _ _)
      rw [iZ]
      refine (?_:if (!true)=true then _ else _)
      rw [if_neg (by decide)]
      exact hR3 _ _ ⟨n5.pu,_,rfl⟩
    · rintro σ G3 ⟨hp3,z3,rfl⟩
      have k1:Kd6 (SH a b c):=rfl
      have k2:tJ (SH a b c)=true:=rfl
      have r0:=hR
      walk_at "rd"
      refine ⟨rfl,rfl,false, ?_,hR _ _ ⟨_,_,_,_,_,rfl⟩⟩
      have e:peq (.tup [FQ a,FQ b,FQ c]) (.tup [FQ a,FQ b,FQ c])=true:=by simp [peq,vB,FQ]
      show PV.bl (!peq (.tup [FQ a,FQ b,FQ c]) (.tup [FQ a,FQ b,FQ c]))= .bl false
      rw [e]; rfl
  · rintro σ G' ⟨x1,x2,x3,x4,x5,rfl⟩
    have:=hq G'
    walk_at "rd"
end
end L3
namespace My
open PySem L2 L3 PyProof.Rows
noncomputable def top (i:Nat):Stmt:=PySem.Challenge.pw_lightshares_k06_shades_refused.main.body.getD i (.Pass ⟨0,0,0,0⟩)
noncomputable abbrev dS:Stmt:=top 31
noncomputable abbrev C_common:Cfg:={ N:=["one","other"],names:=(aD dS).names }
local macro_rules | `(tactic| walk_at "dk") => `(tactic| exact ⟨⟨rfl,rfl,rfl,by decide +kernel,rfl,by decide +kernel,by decide +kernel⟩,rfl,rfl⟩)
theorem FT:bT dS ["one","other"] C_common:=by walk_at "dk"
theorem FF:cSs 80 C_common (aI dS)=some eW:=by kernel_rfl
noncomputable abbrev bW:Stmt:=top 30
noncomputable abbrev C_is_whole:Cfg:={ N:=["thing"],names:=(aD bW).names,tys:=["bool","int"],blt:=["isinstance"] }
theorem yM:bT bW ["thing"] C_is_whole:=by walk_at "dk"
theorem xU:cSs 80 C_is_whole (aI bW)=some eB:=by kernel_rfl
noncomputable abbrev aZ:Stmt:=top 32
noncomputable abbrev C_is_fraction:Cfg:={ N:=["thing","top","bottom"],names:=(aD aZ).names,fns:=["common","is_whole"],tys:=["tuple"],blt:=["abs","isinstance","len"] }
theorem oG:bT aZ ["thing"] C_is_fraction:=by walk_at "dk"
theorem oY:cSs 80 C_is_fraction (aI aZ)=some dA:=by kernel_rfl
noncomputable abbrev bY:Stmt:=top 36
noncomputable abbrev C_is_share:Cfg:={ N:=["thing"],names:=(aD bY).names,fns:=["is_fraction"] }
theorem wL:bT bY ["thing"] C_is_share:=by walk_at "dk"
theorem wY:cSs 80 C_is_share (aI bY)=some eA:=by kernel_rfl
noncomputable abbrev aX:Stmt:=aF (top 5) 0
theorem jE:gD ["self","light"] ["self","light"] (aD aX):=⟨rfl,rfl,rfl,by decide +kernel,rfl,by decide +kernel,by decide +kernel⟩
noncomputable abbrev aT:Stmt:=aF (top 37) 0
noncomputable abbrev C_Shade___init__:Cfg:={ N:=["self","ember","leaf","sky","light","share"],names:=(aD aT).names,fns:=["is_share"],blt:=["enumerate"],rz:=true,xcl:=[("NoShade","!NoShade")] }
theorem kS:bT aT ["self","ember","leaf","sky"] C_Shade___init__:=by walk_at "dk"
theorem lC:cSs 80 C_Shade___init__ (aI aT)=some bF:=by kernel_rfl
noncomputable abbrev dQ:Stmt:=top 42
noncomputable abbrev C_l_cell:Cfg:={ N:=["_law_script","_law_k","_law_state","_law_cell_here"],names:=(aD dQ).names,blt:=["len"] }
theorem GF:bT dQ ["_law_script","_law_k"] C_l_cell:=by walk_at "dk"
theorem HD:cSs 80 C_l_cell (aI dQ)=some iB:=by kernel_rfl
noncomputable abbrev dU:Stmt:=top 48
noncomputable abbrev C_l_sort:Cfg:={ N:=["_law_e","_law_some","_law_at","_law_bases","_law_kinds","_law_due","_law_words"],names:=(aD dU).names,blt:=["isinstance"],xis:=["ArithmeticError","BookError","BookFull","EmptyMix","LookupError","MixError","NameStands","NoBack","NoBlend","NoDeed","NoEye","NoGrade","NoLights","NoLimit","NoName","NoNumber","NoPart","NoPlace","NoRow","NoShade","NoStep","NoText","NoTurn","NoWay","NoWeight","NoWeights","NoWord","ShadeError","ValueError"],cm:=false }
theorem EL:bT dU ["_law_e"] C_l_sort:=by walk_at "dk"
theorem FD:cSs 80 C_l_sort (aI dU)=some iN:=by kernel_rfl
noncomputable abbrev bU:Stmt:=top 38
noncomputable abbrev C_is_shade:Cfg:={ N:=["thing"],names:=(aD bU).names,gls:=["Shade"],blt:=["isinstance"] }
theorem vJ:bT bU ["thing"] C_is_shade:=by walk_at "dk"
theorem yE:cSs 80 C_is_shade (aI bU)=some dY:=by kernel_rfl
noncomputable abbrev bG:Stmt:=top 39
noncomputable abbrev C_need_shade:Cfg:={ N:=["thing"],names:=(aD bG).names,fns:=["is_shade"],rz:=true,xcl:=[("NoShade","!NoShade")] }
theorem rA:bT bG ["thing"] C_need_shade:=by walk_at "dk"
theorem rQ:cSs 80 C_need_shade (aI bG)=some bX:=by kernel_rfl
noncomputable abbrev bN:Stmt:=top 40
noncomputable abbrev C_shares_of:Cfg:={ N:=["shade"],names:=(aD bN).names,fns:=["need_shade"],ky:=[("need_shade","!need_shade")],rz:=true }
theorem tU:bT bN ["shade"] C_shares_of:=by walk_at "dk"
theorem uB:cSs 80 C_shares_of (aI bN)=some cH:=by kernel_rfl
noncomputable abbrev cU:Stmt:=top 51
noncomputable abbrev C_l_asked:Cfg:={ N:=["_law_thing","_law_e"],names:=(aD cU).names,fns:=["_law_sort","shares_of"],tr:=true,tky:=[("shares_of","!shares_of")],cat:=["NoShade"],cln:=["ShadeError"],hs:=true,hfn:=["_law_sort"],xat:=["light"] }
theorem AH:bT cU ["_law_thing"] C_l_asked:=by walk_at "dk"
theorem zM:cSs 80 C_l_asked (aI cU)=some eJ:=by kernel_rfl
noncomputable abbrev dR:Stmt:=top 44
noncomputable abbrev C_l_pick:Cfg:={ N:=["_law_purse_here","_law_many","_law_state","_law_taken"],names:=(aD dR).names }
theorem FP:bT dR ["_law_purse_here","_law_many"] C_l_pick:=by walk_at "dk"
theorem FC:cSs 80 C_l_pick (aI dR)=some iR:=by kernel_rfl
noncomputable abbrev eO:Stmt:=top 49
noncomputable abbrev C_l_bad:Cfg:={ N:=["_law_purse_here","_law_share_here","_law_top","_law_bottom","_law_some"],names:=(aD eO).names,fns:=["_law_pick"],mks:=["Shade"],gls:=["Shade"],blt:=["len"] }
theorem OB:bT eO ["_law_purse_here","_law_share_here"] C_l_bad:=by walk_at "dk"
theorem OE:cSs 80 C_l_bad (aI eO)=some fJ:=by kernel_rfl
noncomputable abbrev cX:Stmt:=top 33
noncomputable abbrev C_figures:Cfg:={ N:=["number","pieces","piece"],names:=(aD cX).names,gls:=["PIECE","PIECE_FIGURES"],tys:=["str"],blt:=["divmod","str"],M:=["pieces"] }
theorem zN:bT cX ["number"] C_figures:=by walk_at "dk"
theorem BQ:cSs 80 C_figures (aI cX)=some gH:=by kernel_rfl
noncomputable abbrev cP:Stmt:=top 34
noncomputable abbrev C_written:Cfg:={ N:=["one"],names:=(aD cP).names,fns:=["figures"] }
theorem zY:bT cP ["one"] C_written:=by walk_at "dk"
theorem yV:cSs 80 C_written (aI cP)=some gL:=by kernel_rfl
noncomputable abbrev aV:Stmt:=aF (top 37) 3
noncomputable abbrev C_Shade___str__:Cfg:={ N:=["self"],names:=(aD aV).names,fns:=["shares_of","written"] }
theorem mE:bT aV ["self"] C_Shade___str__:=by walk_at "dk"
theorem lR:cSs 80 C_Shade___str__ (aI aV)=some dL:=by kernel_rfl
noncomputable abbrev aS:Stmt:=top 53
noncomputable abbrev C_l_others_right:Cfg:={ N:=["_law_purse_here","_law_row","_law_thing","_law_some","_law_one"],names:=(aD aS).names,fns:=["_law_asked","_law_bad","is_shade"],mks:=["Shade"],gls:=["Shade"],tys:=["list","str"],blt:=["isinstance","list","str"],M:=["_law_some"],ows:=[("str",[("Shade","Shade.__str__")])] }
theorem kX:bT aS ["_law_purse_here","_law_row"] C_l_others_right:=by walk_at "dk"
theorem lG:cSs 80 C_l_others_right (aI aS)=some cA:=by kernel_rfl
noncomputable abbrev cR:Stmt:=top 43
noncomputable abbrev C_l_purse:Cfg:={ N:=["_law_cell_here"],names:=(aD cR).names,tys:=["int"],blt:=["int"],rm:=true }
theorem yU:bT cR ["_law_cell_here"] C_l_purse:=by walk_at "dk"
theorem zU:cSs 80 C_l_purse (aI cR)=some gN:=by kernel_rfl
noncomputable abbrev cQ:Stmt:=top 50
noncomputable abbrev C_l_tried:Cfg:={ N:=["_law_way","_law_row","_law_e"],names:=(aD cQ).names,fns:=["_law_sort"],mks:=["Shade"],mkk:=[("Shade",["sky","leaf","ember"],[.arg 2,.arg 1,.arg 0])],gls:=["Shade"],mkp:=[("Shade",1,["sky","leaf"],[.arg 0,.arg 2,.arg 1])],tr:=true,tky:=[("Shade","!Shade")],cat:=["NoShade"],cln:=["ShadeError"],hs:=true,hfn:=["_law_sort"],xat:=["light"] }
theorem BG:bT cQ ["_law_way","_law_row"] C_l_tried:=by walk_at "dk"
theorem BJ:cSs 80 C_l_tried (aI cQ)=some eI:=by kernel_rfl
noncomputable abbrev cY:Stmt:=top 52
noncomputable abbrev C_l_right:Cfg:={ N:=["_law_purse_here","_law_row","_law_bits","_law_way","_law_wrong","_law_odd","_law_asked_here","_law_first","_law_turn","_law_told"],names:=(aD cY).names,fns:=["_law_bad","_law_pick","_law_tried"],tys:=["bool","int"],blt:=["int","isinstance","range"] }
theorem AI:bT cY ["_law_purse_here","_law_row"] C_l_right:=by walk_at "dk"
theorem yZ:cSs 80 C_l_right (aI cY)=some eK:=by kernel_rfl
noncomputable abbrev eR:Stmt:=top 45
noncomputable abbrev C_l_low:Cfg:={ N:=["_law_top","_law_bottom","_law_one","_law_other"],names:=(aD eR).names,blt:=["abs"] }
theorem NA:bT eR ["_law_top","_law_bottom"] C_l_low:=by walk_at "dk"
theorem LO:cSs 80 C_l_low (aI eR)=some kI:=by kernel_rfl
noncomputable abbrev cV:Stmt:=top 46
noncomputable abbrev C_l_share:Cfg:={ N:=["_law_purse_here","_law_way","_law_bottom"],names:=(aD cV).names,fns:=["_law_low","_law_pick"] }
theorem AT:bT cV ["_law_purse_here"] C_l_share:=by walk_at "dk"
theorem AC:cSs 80 C_l_share (aI cV)=some gJ:=by kernel_rfl
noncomputable abbrev bV:Stmt:=top 47
noncomputable abbrev C_l_shares:Cfg:={ N:=["_law_purse_here","_law_alike","_law_row","_law_one"],names:=(aD bV).names,fns:=["_law_pick","_law_share"],tys:=["tuple"],blt:=["range","tuple"],M:=["_law_row"] }
theorem xW:bT bV ["_law_purse_here"] C_l_shares:=by walk_at "dk"
theorem yK:cSs 80 C_l_shares (aI bV)=some dZ:=by kernel_rfl
noncomputable abbrev iL:Stmt:=top 54
noncomputable abbrev C_law:Cfg:={ N:=["_law_script","_law_k","_law_purse_here","_law_row","_law_turn","_law_shade"],names:=(aD iL).names,fns:=["_law_cell","_law_others_right","_law_purse","_law_right","_law_shares","is_shade","shares_of"],mks:=["Shade"],gls:=["Shade"],blt:=["len","max","min","range"] }
theorem aC6:bT iL ["_law_script"] C_law:=by walk_at "dk"
theorem aC4:cSs 80 C_law (aI iL)=some oH:=by kernel_rfl
noncomputable abbrev zS0:Value:=.str "lightshares.errors" 187
noncomputable abbrev zS1:Value:=.str "law_lightshares_k06_shades_refused" 934
noncomputable abbrev zS2:Value:=.str "lightshares.shades" 841
noncomputable abbrev zS3:Value:=.str "lightshares.fractions" 793
noncomputable abbrev fX (a b:Str) (s:Stmt) (d m c:Value):FuncData:=W.fnOf a b (fF s) (aI s) (aD s) d .none .none m none c .none
noncomputable abbrev oC (l:List Value):Obj:=⟨.type "code",none,.fields l.toArray, #[]⟩
noncomputable abbrev oT (l:List Value):Obj:=⟨.type "tuple",none,.seq l.toArray 0, #[]⟩
noncomputable abbrev oL (l:List Value):Obj:=⟨.none,none,.fields l.toArray, #[]⟩
noncomputable abbrev oN (a b:Str) (s:Stmt):Obj:=⟨.none,none,.func { W.fnOf a b (fF s) (aI s) (aD s) .none .none .none .none none .none .none with globals:=0,builtins:=0 }, #[]⟩
noncomputable abbrev oF (a b:Str) (s:Stmt) (d m:Value) (c:Addr):Obj:=⟨.type "function",none,.func (W.fnOf a b (fF s) (aI s) (aD s) d .none .none m none (.ref c) .none), #[]⟩
noncomputable abbrev oR (c l:Addr) (m:Value):Obj:=⟨.type "frame",none,.plain, #[some (.ref c),some (.ref 3),some (.ref l),none,some m,none,some (.ref 0)]⟩
noncomputable abbrev oS (c:Addr):Obj:=⟨.type "super",none,.fields #[.ref c,.ref c,.ref c], #[]⟩
noncomputable abbrev oB (n:String) (c:Value):Obj:=⟨.type "builtin_function_or_method",none,.fields #[.builtin n,c], #[]⟩
noncomputable abbrev fC (n:Tok):Value:=.str "/claim/cut.py" n
noncomputable abbrev iV (n:Int):Value:=.int n 0
noncomputable abbrev oD (l:List DictEntry):Obj:=⟨.type "dict",none,.dict l.toArray 0, #[]⟩
noncomputable def kE (P:Params) (x:Str) (t:Tok) (v:Value):DictEntry:=⟨PyData.keyHash P x,.str x t,v⟩
noncomputable def ko2 (P:Params):Obj:=⟨.none,none,.dict #[kE P "type.__subclasses__.ArithmeticError.0" 223 (.int 37 0),kE P "type.__subclasses__.ArithmeticError.n" 224 (.int 1 0)] 2, #[]⟩
noncomputable def ko3 (P:Params):Obj:=⟨(.type "dict"),none,.dict #[kE P "__name__" 165 zS1,kE P "__doc__" 166 .none,kE P "__package__" 167 .none,kE P "__loader__" 168 (.builtin "__main__.__loader__#opaque"),kE P "__spec__" 169 .none,kE P "__annotations__" 170 (.ref 6),kE P "__builtins__" 171 (.ref 4),kE P "__file__" 173 (.str "/claim/cut.py" 172),kE P "__cached__" 174 .none,kE P "ShadeError" 206 (.ref 24),kE P "MixError" 226 (.ref 37),kE P "BookError" 244 (.ref 50),kE P "NoNumber" 269 (.ref 70),kE P "NoShade" 294 (.ref 89),kE P "NoPart" 319 (.ref 108),kE P "NoDeed" 344 (.ref 127),kE P "NoTurn" 369 (.ref 146),kE P "NoWay" 394 (.ref 165),kE P "NoText" 419 (.ref 184),kE P "NoGrade" 444 (.ref 203),kE P "NoStep" 469 (.ref 222),kE P "NoEye" 494 (.ref 241),kE P "NoLimit" 519 (.ref 260),kE P "NoPlace" 544 (.ref 279),kE P "NoLights" 569 (.ref 298),kE P "NoRow" 594 (.ref 317),kE P "NoWeights" 619 (.ref 336),kE P "NoWeight" 644 (.ref 355),kE P "EmptyMix" 660 (.ref 367),kE P "NoBlend" 676 (.ref 379),kE P "NoWord" 701 (.ref 398),kE P "NoName" 726 (.ref 417),kE P "NameStands" 751 (.ref 436),kE P "BookFull" 776 (.ref 455),kE P "NoBack" 792 (.ref 467),kE P "PIECE_FIGURES" 796 (.int 64 795),kE P "PIECE" 800 (.int 10000000000000000000000000000000000000000000000000000000000000000 799),kE P "is_whole" 807 (.ref 476),kE P "common" 815 (.ref 483),kE P "is_fraction" 824 (.ref 490),kE P "figures" 833 (.ref 497),kE P "written" 840 (.ref 504),kE P "is_share" 849 (.ref 511),kE P "Shade" 912 (.ref 552),kE P "is_shade" 919 (.ref 563),kE P "need_shade" 926 (.ref 570),kE P "shares_of" 933 (.ref 577),kE P "_law_cell" 945 (.ref 584),kE P "_law_purse" 952 (.ref 591),kE P "_law_pick" 962 (.ref 598),kE P "_law_low" 972 (.ref 605),kE P "_law_share" 981 (.ref 612),kE P "_law_shares" 987 (.ref 617),kE P "_law_sort" 1000 (.ref 624),kE P "_law_bad" 1011 (.ref 631),kE P "_law_tried" 1020 (.ref 638),kE P "_law_asked" 1028 (.ref 645),kE P "_law_right" 1034 (.ref 650),kE P "_law_others_right" 1045 (.ref 657),kE P "law" 1057 (.ref 664)] 60, #[]⟩
noncomputable def BK (P:Params):Obj:=⟨(.type "dict"),none,.dict #[kE P "__module__" 196 zS0,kE P "__firstlineno__" 200 (.int 2 199),kE P "__static_attributes__" 201 (.ref 22),kE P "__weakref__" 203 (.ref 25),kE P "__doc__" 204 .none] 3, #[]⟩
noncomputable def UU (P:Params):Obj:=⟨(.type "type"),none,.cls ⟨"ShadeError",[(.type "ValueError")],[(.ref 24),(.type "ValueError"),(.type "Exception"),(.type "BaseException"),(.type "object")],23,"ShadeError",true,[],[(.ref 70),(.ref 89),(.ref 108),(.ref 127),(.ref 146),(.ref 165),(.ref 184),(.ref 203),(.ref 222),(.ref 241),(.ref 260),(.ref 279),(.ref 298),(.ref 317)],false,none,false⟩, #[(some (.ref 15)),none,(some (.str "ShadeError" 189)),(some (.str "ShadeError" 197)),(some (.builtin "ValueError.__new__")),(some (.bool true))]⟩
noncomputable def AM (P:Params):Obj:=⟨(.type "dict"),none,.dict #[kE P "__module__" 214 zS0,kE P "__firstlineno__" 218 (.int 4 217),kE P "__static_attributes__" 219 (.ref 35),kE P "__weakref__" 221 (.ref 38),kE P "__doc__" 222 .none] 3, #[]⟩
noncomputable def WI (P:Params):Obj:=⟨(.type "type"),none,.cls ⟨"MixError",[(.type "ArithmeticError")],[(.ref 37),(.type "ArithmeticError"),(.type "Exception"),(.type "BaseException"),(.type "object")],36,"MixError",true,[],[(.ref 336),(.ref 355),(.ref 367),(.ref 379)],false,none,false⟩, #[(some (.ref 28)),none,(some (.str "MixError" 207)),(some (.str "MixError" 215)),(some (.builtin "ArithmeticError.__new__")),(some (.bool true))]⟩
noncomputable def AF (P:Params):Obj:=⟨(.type "dict"),none,.dict #[kE P "__module__" 234 zS0,kE P "__firstlineno__" 238 (.int 6 237),kE P "__static_attributes__" 239 (.ref 48),kE P "__weakref__" 241 (.ref 51),kE P "__doc__" 242 .none] 3, #[]⟩
noncomputable def aCI (P:Params):Obj:=⟨(.type "type"),none,.cls ⟨"BookError",[(.type "LookupError")],[(.ref 50),(.type "LookupError"),(.type "Exception"),(.type "BaseException"),(.type "object")],49,"BookError",true,[],[(.ref 398),(.ref 417),(.ref 436),(.ref 455),(.ref 467)],false,none,false⟩, #[(some (.ref 41)),none,(some (.str "BookError" 227)),(some (.str "BookError" 235)),(some (.builtin "LookupError.__new__")),(some (.bool true))]⟩
noncomputable def yR (P:Params):Obj:=⟨(.type "dict"),none,.dict #[kE P "__module__" 252 zS0,kE P "__firstlineno__" 256 (.int 8 255),kE P "__init__" 264 (.ref 67),kE P "__static_attributes__" 266 (.ref 68),kE P "__doc__" 267 .none] 2, #[]⟩
noncomputable def AG (P:Params):Obj:=⟨(.type "type"),none,.cls ⟨"NoNumber",[(.ref 24)],[(.ref 70),(.ref 24),(.type "ValueError"),(.type "Exception"),(.type "BaseException"),(.type "object")],69,"NoNumber",true,[],[],false,none,false⟩, #[(some (.ref 54)),none,(some (.str "NoNumber" 245)),(some (.str "NoNumber" 253)),(some (.builtin "ValueError.__new__")),(some (.bool true))]⟩
noncomputable def AS (P:Params):Obj:=oC [.str "__init__" 282,.str "NoShade.__init__" 283,fC 284,iV 15,iV 2,iV 0,iV 0,iV 3,.ref 80,.bool true,iV 181,.ref 81,.none,.ref 82,.ref 83,.ref 84,iV 287,iV 15,fC 288]
noncomputable def BH (P:Params):Obj:=oF "__init__" "NoShade.__init__" aX .none zS0 85
noncomputable def zZ (P:Params):Obj:=⟨(.type "dict"),none,.dict #[kE P "__module__" 277 zS0,kE P "__firstlineno__" 281 (.int 13 280),kE P "__init__" 289 (.ref 86),kE P "__static_attributes__" 291 (.ref 87),kE P "__doc__" 292 .none] 2, #[]⟩
noncomputable def zJ (P:Params):Obj:=⟨(.type "type"),none,.cls ⟨"NoShade",[(.ref 24)],[(.ref 89),(.ref 24),(.type "ValueError"),(.type "Exception"),(.type "BaseException"),(.type "object")],88,"NoShade",true,[],[],false,none,false⟩, #[(some (.ref 73)),none,(some (.str "NoShade" 270)),(some (.str "NoShade" 278)),(some (.builtin "ValueError.__new__")),(some (.bool true))]⟩
noncomputable def oQ (P:Params):Obj:=⟨(.type "dict"),none,.dict #[kE P "__module__" 302 zS0,kE P "__firstlineno__" 306 (.int 18 305),kE P "__init__" 314 (.ref 105),kE P "__static_attributes__" 316 (.ref 106),kE P "__doc__" 317 .none] 2, #[]⟩
noncomputable def nM (P:Params):Obj:=⟨(.type "type"),none,.cls ⟨"NoPart",[(.ref 24)],[(.ref 108),(.ref 24),(.type "ValueError"),(.type "Exception"),(.type "BaseException"),(.type "object")],107,"NoPart",true,[],[],false,none,false⟩, #[(some (.ref 92)),none,(some (.str "NoPart" 295)),(some (.str "NoPart" 303)),(some (.builtin "ValueError.__new__")),(some (.bool true))]⟩
noncomputable def sX (P:Params):Obj:=⟨(.type "dict"),none,.dict #[kE P "__module__" 327 zS0,kE P "__firstlineno__" 331 (.int 23 330),kE P "__init__" 339 (.ref 124),kE P "__static_attributes__" 341 (.ref 125),kE P "__doc__" 342 .none] 2, #[]⟩
noncomputable def tD (P:Params):Obj:=⟨(.type "type"),none,.cls ⟨"NoDeed",[(.ref 24)],[(.ref 127),(.ref 24),(.type "ValueError"),(.type "Exception"),(.type "BaseException"),(.type "object")],126,"NoDeed",true,[],[],false,none,false⟩, #[(some (.ref 111)),none,(some (.str "NoDeed" 320)),(some (.str "NoDeed" 328)),(some (.builtin "ValueError.__new__")),(some (.bool true))]⟩
noncomputable def sI (P:Params):Obj:=⟨(.type "dict"),none,.dict #[kE P "__module__" 352 zS0,kE P "__firstlineno__" 356 (.int 28 355),kE P "__init__" 364 (.ref 143),kE P "__static_attributes__" 366 (.ref 144),kE P "__doc__" 367 .none] 2, #[]⟩
noncomputable def sJ (P:Params):Obj:=⟨(.type "type"),none,.cls ⟨"NoTurn",[(.ref 24)],[(.ref 146),(.ref 24),(.type "ValueError"),(.type "Exception"),(.type "BaseException"),(.type "object")],145,"NoTurn",true,[],[],false,none,false⟩, #[(some (.ref 130)),none,(some (.str "NoTurn" 345)),(some (.str "NoTurn" 353)),(some (.builtin "ValueError.__new__")),(some (.bool true))]⟩
noncomputable def sG (P:Params):Obj:=⟨(.type "dict"),none,.dict #[kE P "__module__" 377 zS0,kE P "__firstlineno__" 381 (.int 33 380),kE P "__init__" 389 (.ref 162),kE P "__static_attributes__" 391 (.ref 163),kE P "__doc__" 392 .none] 2, #[]⟩
noncomputable def sZ (P:Params):Obj:=⟨(.type "type"),none,.cls ⟨"NoWay",[(.ref 24)],[(.ref 165),(.ref 24),(.type "ValueError"),(.type "Exception"),(.type "BaseException"),(.type "object")],164,"NoWay",true,[],[],false,none,false⟩, #[(some (.ref 149)),none,(some (.str "NoWay" 370)),(some (.str "NoWay" 378)),(some (.builtin "ValueError.__new__")),(some (.bool true))]⟩
noncomputable def rX (P:Params):Obj:=⟨(.type "dict"),none,.dict #[kE P "__module__" 402 zS0,kE P "__firstlineno__" 406 (.int 38 405),kE P "__init__" 414 (.ref 181),kE P "__static_attributes__" 416 (.ref 182),kE P "__doc__" 417 .none] 2, #[]⟩
noncomputable def tF (P:Params):Obj:=⟨(.type "type"),none,.cls ⟨"NoText",[(.ref 24)],[(.ref 184),(.ref 24),(.type "ValueError"),(.type "Exception"),(.type "BaseException"),(.type "object")],183,"NoText",true,[],[],false,none,false⟩, #[(some (.ref 168)),none,(some (.str "NoText" 395)),(some (.str "NoText" 403)),(some (.builtin "ValueError.__new__")),(some (.bool true))]⟩
noncomputable def sA (P:Params):Obj:=⟨(.type "dict"),none,.dict #[kE P "__module__" 427 zS0,kE P "__firstlineno__" 431 (.int 43 430),kE P "__init__" 439 (.ref 200),kE P "__static_attributes__" 441 (.ref 201),kE P "__doc__" 442 .none] 2, #[]⟩
noncomputable def sT (P:Params):Obj:=⟨(.type "type"),none,.cls ⟨"NoGrade",[(.ref 24)],[(.ref 203),(.ref 24),(.type "ValueError"),(.type "Exception"),(.type "BaseException"),(.type "object")],202,"NoGrade",true,[],[],false,none,false⟩, #[(some (.ref 187)),none,(some (.str "NoGrade" 420)),(some (.str "NoGrade" 428)),(some (.builtin "ValueError.__new__")),(some (.bool true))]⟩
noncomputable def vX (P:Params):Obj:=⟨(.type "dict"),none,.dict #[kE P "__module__" 452 zS0,kE P "__firstlineno__" 456 (.int 48 455),kE P "__init__" 464 (.ref 219),kE P "__static_attributes__" 466 (.ref 220),kE P "__doc__" 467 .none] 2, #[]⟩
noncomputable def wV (P:Params):Obj:=⟨(.type "type"),none,.cls ⟨"NoStep",[(.ref 24)],[(.ref 222),(.ref 24),(.type "ValueError"),(.type "Exception"),(.type "BaseException"),(.type "object")],221,"NoStep",true,[],[],false,none,false⟩, #[(some (.ref 206)),none,(some (.str "NoStep" 445)),(some (.str "NoStep" 453)),(some (.builtin "ValueError.__new__")),(some (.bool true))]⟩
noncomputable def wE (P:Params):Obj:=⟨(.type "dict"),none,.dict #[kE P "__module__" 477 zS0,kE P "__firstlineno__" 481 (.int 53 480),kE P "__init__" 489 (.ref 238),kE P "__static_attributes__" 491 (.ref 239),kE P "__doc__" 492 .none] 2, #[]⟩
noncomputable def wZ (P:Params):Obj:=⟨(.type "type"),none,.cls ⟨"NoEye",[(.ref 24)],[(.ref 241),(.ref 24),(.type "ValueError"),(.type "Exception"),(.type "BaseException"),(.type "object")],240,"NoEye",true,[],[],false,none,false⟩, #[(some (.ref 225)),none,(some (.str "NoEye" 470)),(some (.str "NoEye" 478)),(some (.builtin "ValueError.__new__")),(some (.bool true))]⟩
noncomputable def wR (P:Params):Obj:=⟨(.type "dict"),none,.dict #[kE P "__module__" 502 zS0,kE P "__firstlineno__" 506 (.int 58 505),kE P "__init__" 514 (.ref 257),kE P "__static_attributes__" 516 (.ref 258),kE P "__doc__" 517 .none] 2, #[]⟩
noncomputable def xF (P:Params):Obj:=⟨(.type "type"),none,.cls ⟨"NoLimit",[(.ref 24)],[(.ref 260),(.ref 24),(.type "ValueError"),(.type "Exception"),(.type "BaseException"),(.type "object")],259,"NoLimit",true,[],[],false,none,false⟩, #[(some (.ref 244)),none,(some (.str "NoLimit" 495)),(some (.str "NoLimit" 503)),(some (.builtin "ValueError.__new__")),(some (.bool true))]⟩
noncomputable def wJ (P:Params):Obj:=⟨(.type "dict"),none,.dict #[kE P "__module__" 527 zS0,kE P "__firstlineno__" 531 (.int 63 530),kE P "__init__" 539 (.ref 276),kE P "__static_attributes__" 541 (.ref 277),kE P "__doc__" 542 .none] 2, #[]⟩
noncomputable def wA (P:Params):Obj:=⟨(.type "type"),none,.cls ⟨"NoPlace",[(.ref 24)],[(.ref 279),(.ref 24),(.type "ValueError"),(.type "Exception"),(.type "BaseException"),(.type "object")],278,"NoPlace",true,[],[],false,none,false⟩, #[(some (.ref 263)),none,(some (.str "NoPlace" 520)),(some (.str "NoPlace" 528)),(some (.builtin "ValueError.__new__")),(some (.bool true))]⟩
noncomputable def xO (P:Params):Obj:=⟨(.type "dict"),none,.dict #[kE P "__module__" 552 zS0,kE P "__firstlineno__" 556 (.int 68 555),kE P "__init__" 564 (.ref 295),kE P "__static_attributes__" 566 (.ref 296),kE P "__doc__" 567 .none] 2, #[]⟩
noncomputable def wN (P:Params):Obj:=⟨(.type "type"),none,.cls ⟨"NoLights",[(.ref 24)],[(.ref 298),(.ref 24),(.type "ValueError"),(.type "Exception"),(.type "BaseException"),(.type "object")],297,"NoLights",true,[],[],false,none,false⟩, #[(some (.ref 282)),none,(some (.str "NoLights" 545)),(some (.str "NoLights" 553)),(some (.builtin "ValueError.__new__")),(some (.bool true))]⟩
noncomputable def CD (P:Params):Obj:=⟨(.type "dict"),none,.dict #[kE P "__module__" 577 zS0,kE P "__firstlineno__" 581 (.int 73 580),kE P "__init__" 589 (.ref 314),kE P "__static_attributes__" 591 (.ref 315),kE P "__doc__" 592 .none] 2, #[]⟩
noncomputable def CH (P:Params):Obj:=⟨(.type "type"),none,.cls ⟨"NoRow",[(.ref 24)],[(.ref 317),(.ref 24),(.type "ValueError"),(.type "Exception"),(.type "BaseException"),(.type "object")],316,"NoRow",true,[],[],false,none,false⟩, #[(some (.ref 301)),none,(some (.str "NoRow" 570)),(some (.str "NoRow" 578)),(some (.builtin "ValueError.__new__")),(some (.bool true))]⟩
noncomputable def CP (P:Params):Obj:=⟨(.type "dict"),none,.dict #[kE P "__module__" 602 zS0,kE P "__firstlineno__" 606 (.int 78 605),kE P "__init__" 614 (.ref 333),kE P "__static_attributes__" 616 (.ref 334),kE P "__doc__" 617 .none] 2, #[]⟩
noncomputable def DA (P:Params):Obj:=⟨(.type "type"),none,.cls ⟨"NoWeights",[(.ref 37)],[(.ref 336),(.ref 37),(.type "ArithmeticError"),(.type "Exception"),(.type "BaseException"),(.type "object")],335,"NoWeights",true,[],[],false,none,false⟩, #[(some (.ref 320)),none,(some (.str "NoWeights" 595)),(some (.str "NoWeights" 603)),(some (.builtin "ArithmeticError.__new__")),(some (.bool true))]⟩
noncomputable def DO (P:Params):Obj:=⟨(.type "dict"),none,.dict #[kE P "__module__" 627 zS0,kE P "__firstlineno__" 631 (.int 83 630),kE P "__init__" 639 (.ref 352),kE P "__static_attributes__" 641 (.ref 353),kE P "__doc__" 642 .none] 2, #[]⟩
noncomputable def DJ (P:Params):Obj:=⟨(.type "type"),none,.cls ⟨"NoWeight",[(.ref 37)],[(.ref 355),(.ref 37),(.type "ArithmeticError"),(.type "Exception"),(.type "BaseException"),(.type "object")],354,"NoWeight",true,[],[],false,none,false⟩, #[(some (.ref 339)),none,(some (.str "NoWeight" 620)),(some (.str "NoWeight" 628)),(some (.builtin "ArithmeticError.__new__")),(some (.bool true))]⟩
noncomputable def DK (P:Params):Obj:=⟨(.type "dict"),none,.dict #[kE P "__module__" 652 zS0,kE P "__firstlineno__" 656 (.int 88 655),kE P "__static_attributes__" 657 (.ref 365),kE P "__doc__" 658 .none] 2, #[]⟩
noncomputable def CG (P:Params):Obj:=⟨(.type "type"),none,.cls ⟨"EmptyMix",[(.ref 37)],[(.ref 367),(.ref 37),(.type "ArithmeticError"),(.type "Exception"),(.type "BaseException"),(.type "object")],366,"EmptyMix",true,[],[],false,none,false⟩, #[(some (.ref 358)),none,(some (.str "EmptyMix" 645)),(some (.str "EmptyMix" 653)),(some (.builtin "ArithmeticError.__new__")),(some (.bool true))]⟩
noncomputable def BX (P:Params):Obj:=⟨(.type "dict"),none,.dict #[kE P "__module__" 668 zS0,kE P "__firstlineno__" 672 (.int 90 671),kE P "__static_attributes__" 673 (.ref 377),kE P "__doc__" 674 .none] 2, #[]⟩
noncomputable def CU (P:Params):Obj:=⟨(.type "type"),none,.cls ⟨"NoBlend",[(.ref 37)],[(.ref 379),(.ref 37),(.type "ArithmeticError"),(.type "Exception"),(.type "BaseException"),(.type "object")],378,"NoBlend",true,[],[],false,none,false⟩, #[(some (.ref 370)),none,(some (.str "NoBlend" 661)),(some (.str "NoBlend" 669)),(some (.builtin "ArithmeticError.__new__")),(some (.bool true))]⟩
noncomputable def IB (P:Params):Obj:=⟨(.type "dict"),none,.dict #[kE P "__module__" 684 zS0,kE P "__firstlineno__" 688 (.int 92 687),kE P "__init__" 696 (.ref 395),kE P "__static_attributes__" 698 (.ref 396),kE P "__doc__" 699 .none] 2, #[]⟩
noncomputable def LD (P:Params):Obj:=⟨(.type "type"),none,.cls ⟨"NoWord",[(.ref 50)],[(.ref 398),(.ref 50),(.type "LookupError"),(.type "Exception"),(.type "BaseException"),(.type "object")],397,"NoWord",true,[],[],false,none,false⟩, #[(some (.ref 382)),none,(some (.str "NoWord" 677)),(some (.str "NoWord" 685)),(some (.builtin "LookupError.__new__")),(some (.bool true))]⟩
noncomputable def IG (P:Params):Obj:=⟨(.type "dict"),none,.dict #[kE P "__module__" 709 zS0,kE P "__firstlineno__" 713 (.int 97 712),kE P "__init__" 721 (.ref 414),kE P "__static_attributes__" 723 (.ref 415),kE P "__doc__" 724 .none] 2, #[]⟩
noncomputable def JR (P:Params):Obj:=⟨(.type "type"),none,.cls ⟨"NoName",[(.ref 50)],[(.ref 417),(.ref 50),(.type "LookupError"),(.type "Exception"),(.type "BaseException"),(.type "object")],416,"NoName",true,[],[],false,none,false⟩, #[(some (.ref 401)),none,(some (.str "NoName" 702)),(some (.str "NoName" 710)),(some (.builtin "LookupError.__new__")),(some (.bool true))]⟩
noncomputable def LS (P:Params):Obj:=⟨(.type "dict"),none,.dict #[kE P "__module__" 734 zS0,kE P "__firstlineno__" 738 (.int 102 737),kE P "__init__" 746 (.ref 433),kE P "__static_attributes__" 748 (.ref 434),kE P "__doc__" 749 .none] 2, #[]⟩
noncomputable def NP (P:Params):Obj:=⟨(.type "type"),none,.cls ⟨"NameStands",[(.ref 50)],[(.ref 436),(.ref 50),(.type "LookupError"),(.type "Exception"),(.type "BaseException"),(.type "object")],435,"NameStands",true,[],[],false,none,false⟩, #[(some (.ref 420)),none,(some (.str "NameStands" 727)),(some (.str "NameStands" 735)),(some (.builtin "LookupError.__new__")),(some (.bool true))]⟩
noncomputable def NS (P:Params):Obj:=⟨(.type "dict"),none,.dict #[kE P "__module__" 759 zS0,kE P "__firstlineno__" 763 (.int 107 762),kE P "__init__" 771 (.ref 452),kE P "__static_attributes__" 773 (.ref 453),kE P "__doc__" 774 .none] 2, #[]⟩
noncomputable def OG (P:Params):Obj:=⟨(.type "type"),none,.cls ⟨"BookFull",[(.ref 50)],[(.ref 455),(.ref 50),(.type "LookupError"),(.type "Exception"),(.type "BaseException"),(.type "object")],454,"BookFull",true,[],[],false,none,false⟩, #[(some (.ref 439)),none,(some (.str "BookFull" 752)),(some (.str "BookFull" 760)),(some (.builtin "LookupError.__new__")),(some (.bool true))]⟩
noncomputable def IU (P:Params):Obj:=⟨(.type "dict"),none,.dict #[kE P "__module__" 784 zS0,kE P "__firstlineno__" 788 (.int 112 787),kE P "__static_attributes__" 789 (.ref 465),kE P "__doc__" 790 .none] 2, #[]⟩
noncomputable def HZ (P:Params):Obj:=⟨(.type "type"),none,.cls ⟨"NoBack",[(.ref 50)],[(.ref 467),(.ref 50),(.type "LookupError"),(.type "Exception"),(.type "BaseException"),(.type "object")],466,"NoBack",true,[],[],false,none,false⟩, #[(some (.ref 458)),none,(some (.str "NoBack" 777)),(some (.str "NoBack" 785)),(some (.builtin "LookupError.__new__")),(some (.bool true))]⟩
noncomputable def XV (P:Params):Obj:=oC [.str "is_whole" 801,.str "is_whole" 802,fC 803,iV 117,iV 1,iV 0,iV 0,iV 3,.ref 470,.bool true,iV 181,.ref 471,.none,.ref 472,.ref 473,.ref 474,iV 805,iV 117,fC 806]
noncomputable def YD (P:Params):Obj:=oF "is_whole" "is_whole" bW .none zS3 475
noncomputable def WR (P:Params):Obj:=oC [.str "common" 808,.str "common" 809,fC 810,iV 119,iV 2,iV 0,iV 0,iV 3,.ref 477,.bool true,iV 181,.ref 478,.none,.ref 479,.ref 480,.ref 481,iV 813,iV 119,fC 814]
noncomputable def ZG (P:Params):Obj:=oF "common" "common" dS .none zS3 482
noncomputable def WN (P:Params):Obj:=oC [.str "is_fraction" 816,.str "is_fraction" 817,fC 818,iV 123,iV 1,iV 0,iV 0,iV 3,.ref 484,.bool true,iV 181,.ref 485,.none,.ref 486,.ref 487,.ref 488,iV 822,iV 123,fC 823]
noncomputable def YW (P:Params):Obj:=oF "is_fraction" "is_fraction" aZ .none zS3 489
noncomputable def XE (P:Params):Obj:=oC [.str "figures" 825,.str "figures" 826,fC 827,iV 128,iV 1,iV 0,iV 0,iV 3,.ref 491,.bool true,iV 181,.ref 492,.none,.ref 493,.ref 494,.ref 495,iV 831,iV 128,fC 832]
noncomputable def XW (P:Params):Obj:=oF "figures" "figures" cX .none zS3 496
noncomputable def XQ (P:Params):Obj:=oC [.str "written" 834,.str "written" 835,fC 836,iV 135,iV 1,iV 0,iV 0,iV 3,.ref 498,.bool true,iV 181,.ref 499,.none,.ref 500,.ref 501,.ref 502,iV 838,iV 135,fC 839]
noncomputable def WQ (P:Params):Obj:=oF "written" "written" cP .none zS3 503
noncomputable def WW (P:Params):Obj:=oC [.str "is_share" 843,.str "is_share" 844,fC 845,iV 140,iV 1,iV 0,iV 0,iV 3,.ref 505,.bool true,iV 181,.ref 506,.none,.ref 507,.ref 508,.ref 509,iV 847,iV 140,fC 848]
noncomputable def YK (P:Params):Obj:=oF "is_share" "is_share" bY .none zS2 510
noncomputable def ZC (P:Params):Obj:=oC [.str "__init__" 862,.str "Shade.__init__" 863,fC 864,iV 144,iV 4,iV 0,iV 0,iV 3,.ref 519,.bool true,iV 181,.ref 520,.none,.ref 521,.ref 522,.ref 523,iV 871,iV 144,fC 872]
noncomputable def ZJ (P:Params):Obj:=oF "__init__" "Shade.__init__" aT .none zS2 524
noncomputable def YT (P:Params):Obj:=oC [.str "__str__" 888,.str "Shade.__str__" 889,fC 890,iV 158,iV 1,iV 0,iV 0,iV 3,.ref 538,.bool true,iV 181,.ref 539,.none,.none,.none,.ref 540,iV 891,iV 158,fC 892]
noncomputable def XB (P:Params):Obj:=oF "__str__" "Shade.__str__" aV .none zS2 541
noncomputable def XY (P:Params):Obj:=⟨(.type "dict"),none,.dict #[kE P "__module__" 857 zS2,kE P "__firstlineno__" 861 (.int 142 860),kE P "__init__" 873 (.ref 525),kE P "__eq__" 881 (.ref 532),kE P "__len__" 887 (.ref 537),kE P "__str__" 893 (.ref 542),kE P "__repr__" 900 (.ref 549),kE P "__static_attributes__" 904 (.ref 550),kE P "__dict__" 906 (.ref 553),kE P "__weakref__" 908 (.ref 554),kE P "__doc__" 909 .none,kE P "__hash__" 910 .none] 5, #[]⟩
noncomputable def YO (P:Params):Obj:=⟨(.type "type"),none,.cls ⟨"Shade",[(.type "object")],[(.ref 552),(.type "object")],551,"Shade",true,[],[],false,none,false⟩, #[none,none,(some (.str "Shade" 850)),(some (.str "Shade" 858)),(some (.builtin "object.__new__")),(some (.bool true))]⟩
noncomputable def WM (P:Params):Obj:=oC [.str "is_shade" 913,.str "is_shade" 914,fC 915,iV 163,iV 1,iV 0,iV 0,iV 3,.ref 557,.bool true,iV 181,.ref 558,.none,.ref 559,.ref 560,.ref 561,iV 917,iV 163,fC 918]
noncomputable def ZA (P:Params):Obj:=oF "is_shade" "is_shade" bU .none zS2 562
noncomputable def WT (P:Params):Obj:=oC [.str "need_shade" 920,.str "need_shade" 921,fC 922,iV 165,iV 1,iV 0,iV 0,iV 3,.ref 564,.bool true,iV 181,.ref 565,.none,.ref 566,.ref 567,.ref 568,iV 924,iV 165,fC 925]
noncomputable def YA (P:Params):Obj:=oF "need_shade" "need_shade" bG .none zS2 569
noncomputable def XM (P:Params):Obj:=oC [.str "shares_of" 927,.str "shares_of" 928,fC 929,iV 168,iV 1,iV 0,iV 0,iV 3,.ref 571,.bool true,iV 181,.ref 572,.none,.ref 573,.ref 574,.ref 575,iV 931,iV 168,fC 932]
noncomputable def WY (P:Params):Obj:=oF "shares_of" "shares_of" bN .none zS2 576
noncomputable def WX (P:Params):Obj:=oC [.str "_law_cell" 936,.str "_law_cell" 937,fC 938,iV 172,iV 2,iV 0,iV 0,iV 3,.ref 578,.bool true,iV 181,.ref 579,.none,.ref 580,.ref 581,.ref 582,iV 943,iV 172,fC 944]
noncomputable def YE (P:Params):Obj:=oF "_law_cell" "_law_cell" dQ .none zS1 583
noncomputable def XS (P:Params):Obj:=oC [.str "_law_purse" 946,.str "_law_purse" 947,fC 948,iV 179,iV 1,iV 0,iV 0,iV 3,.ref 585,.bool true,iV 181,.ref 586,.none,.ref 587,.ref 588,.ref 589,iV 950,iV 179,fC 951]
noncomputable def YM (P:Params):Obj:=oF "_law_purse" "_law_purse" cR .none zS1 590
noncomputable def YF (P:Params):Obj:=oC [.str "_law_pick" 953,.str "_law_pick" 954,fC 955,iV 181,iV 2,iV 0,iV 0,iV 3,.ref 592,.bool true,iV 181,.ref 593,.none,.ref 594,.ref 595,.ref 596,iV 960,iV 181,fC 961]
noncomputable def YX (P:Params):Obj:=oF "_law_pick" "_law_pick" dR .none zS1 597
noncomputable def XI (P:Params):Obj:=oC [.str "_law_low" 963,.str "_law_low" 964,fC 965,iV 190,iV 2,iV 0,iV 0,iV 3,.ref 599,.bool true,iV 181,.ref 600,.none,.ref 601,.ref 602,.ref 603,iV 970,iV 190,fC 971]
noncomputable def XO (P:Params):Obj:=oF "_law_low" "_law_low" eR .none zS1 604
noncomputable def YI (P:Params):Obj:=oC [.str "_law_share" 973,.str "_law_share" 974,fC 975,iV 197,iV 1,iV 0,iV 0,iV 3,.ref 606,.bool true,iV 181,.ref 607,.none,.ref 608,.ref 609,.ref 610,iV 979,iV 197,fC 980]
noncomputable def YB (P:Params):Obj:=oF "_law_share" "_law_share" cV .none zS1 611
noncomputable def YG (P:Params):Obj:=oC [.str "_law_shares" 982,.str "_law_shares" 983,fC 984,iV 201,iV 1,iV 0,iV 0,iV 3,.ref 613,.bool true,iV 181,.ref 614,.none,.none,.none,.ref 615,iV 985,iV 201,fC 986]
noncomputable def ZD (P:Params):Obj:=oF "_law_shares" "_law_shares" bV .none zS1 616
noncomputable def YR (P:Params):Obj:=oC [.str "_law_sort" 988,.str "_law_sort" 989,fC 990,iV 210,iV 1,iV 0,iV 0,iV 3,.ref 618,.bool true,iV 181,.ref 619,.none,.ref 620,.ref 621,.ref 622,iV 998,iV 210,fC 999]
noncomputable def WP (P:Params):Obj:=oF "_law_sort" "_law_sort" dU .none zS1 623
noncomputable def WK (P:Params):Obj:=oC [.str "_law_bad" 1001,.str "_law_bad" 1002,fC 1003,iV 228,iV 2,iV 0,iV 0,iV 3,.ref 625,.bool true,iV 181,.ref 626,.none,.ref 627,.ref 628,.ref 629,iV 1009,iV 228,fC 1010]
noncomputable def YU (P:Params):Obj:=oF "_law_bad" "_law_bad" eO .none zS1 630
noncomputable def ZB (P:Params):Obj:=oC [.str "_law_tried" 1012,.str "_law_tried" 1013,fC 1014,iV 235,iV 2,iV 0,iV 0,iV 3,.ref 632,.bool true,iV 181,.ref 633,.none,.ref 634,.ref 635,.ref 636,iV 1018,iV 235,fC 1019]
noncomputable def WU (P:Params):Obj:=oF "_law_tried" "_law_tried" cQ .none zS1 637
noncomputable def WV (P:Params):Obj:=oC [.str "_law_asked" 1021,.str "_law_asked" 1022,fC 1023,iV 246,iV 1,iV 0,iV 0,iV 3,.ref 639,.bool true,iV 181,.ref 640,.none,.ref 641,.ref 642,.ref 643,iV 1026,iV 246,fC 1027]
noncomputable def XH (P:Params):Obj:=oF "_law_asked" "_law_asked" cU .none zS1 644
noncomputable def YH (P:Params):Obj:=oC [.str "_law_right" 1029,.str "_law_right" 1030,fC 1031,iV 252,iV 2,iV 0,iV 0,iV 3,.ref 646,.bool true,iV 181,.ref 647,.none,.none,.none,.ref 648,iV 1032,iV 252,fC 1033]
noncomputable def XZ (P:Params):Obj:=oF "_law_right" "_law_right" cY .none zS1 649
noncomputable def XT (P:Params):Obj:=oC [.str "_law_others_right" 1035,.str "_law_others_right" 1036,fC 1037,iV 263,iV 2,iV 0,iV 0,iV 3,.ref 651,.bool true,iV 181,.ref 652,.none,.ref 653,.ref 654,.ref 655,iV 1043,iV 263,fC 1044]
noncomputable def ZI (P:Params):Obj:=oF "_law_others_right" "_law_others_right" aS .none zS1 656
noncomputable def ZF (P:Params):Obj:=oC [.str "law" 1046,.str "law" 1047,fC 1048,iV 272,iV 1,iV 0,iV 0,iV 3,.ref 658,.bool true,iV 181,.ref 659,.none,.ref 660,.ref 661,.ref 662,iV 1055,iV 272,fC 1056]
noncomputable def XF (P:Params):Obj:=oF "law" "law" iL .none zS1 663
noncomputable def K0:Params→W.Frag:=fun P=>[(2,ko2 P),(3,ko3 P),(23,BK P),(24,UU P),(36,AM P),(37,WI P),(49,AF P),(50,aCI P),(69,yR P),(70,AG P),(85,AS P),(86,BH P),(88,zZ P),(89,zJ P),(107,oQ P),(108,nM P),(126,sX P),(127,tD P),(145,sI P),(146,sJ P),(164,sG P),(165,sZ P),(183,rX P),(184,tF P),(202,sA P),(203,sT P),(221,vX P),(222,wV P),(240,wE P),(241,wZ P),(259,wR P),(260,xF P),(278,wJ P),(279,wA P),(297,xO P),(298,wN P),(316,CD P),(317,CH P),(335,CP P),(336,DA P),(354,DO P),(355,DJ P),(366,DK P),(367,CG P),(378,BX P),(379,CU P),(397,IB P),(398,LD P),(416,IG P),(417,JR P),(435,LS P),(436,NP P),(454,NS P),(455,OG P),(466,IU P),(467,HZ P),(475,XV P),(476,YD P),(482,WR P),(483,ZG P),(489,WN P),(490,YW P),(496,XE P),(497,XW P),(503,XQ P),(504,WQ P),(510,WW P),(511,YK P),(524,ZC P),(525,ZJ P),(541,YT P),(542,XB P),(551,XY P),(552,YO P),(562,WM P),(563,ZA P),(569,WT P),(570,YA P),(576,XM P),(577,WY P),(583,WX P),(584,YE P),(590,XS P),(591,YM P),(597,YF P),(598,YX P),(604,XI P),(605,XO P),(611,YI P),(612,YB P),(616,YG P),(617,ZD P),(623,YR P),(624,WP P),(630,WK P),(631,YU P),(637,ZB P),(638,WU P),(644,WV P),(645,XH P),(649,YH P),(650,XZ P),(656,XT P),(657,ZI P),(663,ZF P),(664,XF P)]
noncomputable def aK:List Addr:=[2,3,23,24,36,37,49,50,69,70,85,86,88,89,107,108,126,127,145,146,164,165,183,184,202,203,221,222,240,241,259,260,278,279,297,298,316,317,335,336,354,355,366,367,378,379,397,398,416,417,435,436,454,455,466,467,475,476,482,483,489,490,496,497,503,504,510,511,524,525,541,542,551,552,562,563,569,570,576,577,583,584,590,591,597,598,604,605,611,612,616,617,623,624,630,631,637,638,644,645,649,650,656,657,663,664]
noncomputable def qv:Program:={ PySem.Challenge.pw_lightshares_k06_shades_refused with main:={ PySem.Challenge.pw_lightshares_k06_shades_refused.main with body:=[top 54] } }
noncomputable def lo:List Str:=(["ShadeError","MixError","BookError","NoNumber","NoShade","NoPart","NoDeed","NoTurn","NoWay","NoText","NoGrade","NoStep","NoEye","NoLimit","NoPlace","NoLights","NoRow","NoWeights","NoWeight","EmptyMix","NoBlend","NoWord","NoName","NameStands","BookFull","NoBack","PIECE_FIGURES","PIECE","is_whole","common","is_fraction","figures","written","is_share","Shade","is_shade","need_shade","shares_of","_law_cell","_law_purse","_law_pick","_law_low","_law_share","_law_shares","_law_sort","_law_bad","_law_tried","_law_asked","_law_right","_law_others_right"]:List String).map Str.ofString
noncomputable def nmS:List Str:=(["is_whole","common","is_fraction","is_share","Shade","Shade.__init__","!Shade","!Shade.__init__","is_shade","need_shade","!need_shade","shares_of","!shares_of","!NoShade","figures","written","Shade.__str__","_law_cell","_law_purse","_law_pick","_law_whole","_law_low","_law_plus","_law_minus","_law_times","_law_over","_law_below","_law_is_fraction","_law_share","_law_shares","_law_sort","_law_tried","_law_asked","_law_bad","_law_right","_law_others_right","law"]:List String).map Str.ofString
noncomputable def pkS (y:PX):Nat→Sp3
  | 0=>HX
  | 1=>fS
  | 2=>NI
  | 3=>oX
  | 4=>eE
  | 5=>dD
  | 6=>orX eE yQ y
  | 7=>orX dD eD y
  | 8=>gK
  | 9=>eF
  | 10=>orX eF cM y
  | 11=>bD
  | 12=>orX bD cM y
  | 13=>aAQ y "NoShade" "light"
  | 14=>DX
  | 15=>VO
  | 16=>vC
  | 17=>pG
  | 18=>kR
  | 19=>iP
  | 20=>lF
  | 21=>fA
  | 22=>uM
  | 23=>nG
  | 24=>nE
  | 25=>vF
  | 26=>nI
  | 27=>mD
  | 28=>fO
  | 29=>fV
  | 30=>nD
  | 31=>lB
  | 32=>lL
  | 33=>tZ
  | 34=>kZ
  | 35=>jD
  | 36=>uQ
  | _=>fun _ _ _=>False
noncomputable def nmG:List Str:=(["PIECE","PIECE_FIGURES","Shade","int","bool","tuple","str","list"]:List String).map Str.ofString
noncomputable def pkG:Nat→PV
  | 0=>.int (10 ^ 64)
  | 1=>.int 64
  | 2=>.cl "Shade"
  | 3=>.ty "int"
  | 4=>.ty "bool"
  | 5=>.ty "tuple"
  | 6=>.ty "str"
  | 7=>.ty "list"
  | _=>.non
noncomputable abbrev tcs:List String:=["Shade"]
noncomputable abbrev tfl:List (String×Str):=[("Shade","ember"),("Shade","leaf"),("Shade","sky")]
noncomputable def T (y:PX):Tb:={ S:=fun f=>pkS y (nmS.idxOf f),gv:=fun f=>pkG (nmG.idxOf f),cs:=tcs,fl:=tfl,fam:=fun x f=>pkS x (nmS.idxOf f),xp:=y,xi:=SN,fx:=aCM }
theorem pR {y:PX}:(T y).S "is_whole"=HX:=congrArg (pkS y) (by decide +kernel:nmS.idxOf ("is_whole":Str)=0)
theorem vQ {y:PX}:(T y).S "common"=fS:=congrArg (pkS y) (by decide +kernel:nmS.idxOf ("common":Str)=1)
theorem jP {y:PX}:(T y).S "is_fraction"=NI:=congrArg (pkS y) (by decide +kernel:nmS.idxOf ("is_fraction":Str)=2)
theorem nS {y:PX}:(T y).S "is_share"=oX:=congrArg (pkS y) (by decide +kernel:nmS.idxOf ("is_share":Str)=3)
theorem RW {y:PX}:(T y).S "Shade"=eE:=congrArg (pkS y) (by decide +kernel:nmS.idxOf ("Shade":Str)=4)
theorem gA {y:PX}:(T y).S "Shade.__init__"=dD:=congrArg (pkS y) (by decide +kernel:nmS.idxOf ("Shade.__init__":Str)=5)
theorem FG {y:PX}:(T y).S "!Shade"=orX eE yQ y:=congrArg (pkS y) (by decide +kernel:nmS.idxOf ("!Shade":Str)=6)
theorem cC {y:PX}:(T y).S "!Shade.__init__"=orX dD eD y:=congrArg (pkS y) (by decide +kernel:nmS.idxOf ("!Shade.__init__":Str)=7)
theorem pP {y:PX}:(T y).S "is_shade"=gK:=congrArg (pkS y) (by decide +kernel:nmS.idxOf ("is_shade":Str)=8)
theorem kK {y:PX}:(T y).S "need_shade"=eF:=congrArg (pkS y) (by decide +kernel:nmS.idxOf ("need_shade":Str)=9)
theorem hW {y:PX}:(T y).S "!need_shade"=orX eF cM y:=congrArg (pkS y) (by decide +kernel:nmS.idxOf ("!need_shade":Str)=10)
theorem mJ {y:PX}:(T y).S "shares_of"=bD:=congrArg (pkS y) (by decide +kernel:nmS.idxOf ("shares_of":Str)=11)
theorem jL {y:PX}:(T y).S "!shares_of"=orX bD cM y:=congrArg (pkS y) (by decide +kernel:nmS.idxOf ("!shares_of":Str)=12)
theorem iI {y:PX}:(T y).S "!NoShade"=aAQ y "NoShade" "light":=congrArg (pkS y) (by decide +kernel:nmS.idxOf ("!NoShade":Str)=13)
theorem tE {y:PX}:(T y).S "figures"=DX:=congrArg (pkS y) (by decide +kernel:nmS.idxOf ("figures":Str)=14)
theorem sN {y:PX}:(T y).S "written"=VO:=congrArg (pkS y) (by decide +kernel:nmS.idxOf ("written":Str)=15)
theorem gX {y:PX}:(T y).S "Shade.__str__"=vC:=congrArg (pkS y) (by decide +kernel:nmS.idxOf ("Shade.__str__":Str)=16)
theorem vM {y:PX}:(T y).S "_law_cell"=pG:=congrArg (pkS y) (by decide +kernel:nmS.idxOf ("_law_cell":Str)=17)
theorem rY {y:PX}:(T y).S "_law_purse"=kR:=congrArg (pkS y) (by decide +kernel:nmS.idxOf ("_law_purse":Str)=18)
theorem xP {y:PX}:(T y).S "_law_pick"=iP:=congrArg (pkS y) (by decide +kernel:nmS.idxOf ("_law_pick":Str)=19)
theorem GS {y:PX}:(T y).S "_law_whole"=lF:=congrArg (pkS y) (by decide +kernel:nmS.idxOf ("_law_whole":Str)=20)
theorem CA {y:PX}:(T y).S "_law_low"=fA:=congrArg (pkS y) (by decide +kernel:nmS.idxOf ("_law_low":Str)=21)
theorem MA {y:PX}:(T y).S "_law_plus"=uM:=congrArg (pkS y) (by decide +kernel:nmS.idxOf ("_law_plus":Str)=22)
theorem GU {y:PX}:(T y).S "_law_minus"=nG:=congrArg (pkS y) (by decide +kernel:nmS.idxOf ("_law_minus":Str)=23)
theorem ER {y:PX}:(T y).S "_law_times"=nE:=congrArg (pkS y) (by decide +kernel:nmS.idxOf ("_law_times":Str)=24)
theorem PN {y:PX}:(T y).S "_law_over"=vF:=congrArg (pkS y) (by decide +kernel:nmS.idxOf ("_law_over":Str)=25)
theorem EW {y:PX}:(T y).S "_law_below"=nI:=congrArg (pkS y) (by decide +kernel:nmS.idxOf ("_law_below":Str)=26)
theorem mV {y:PX}:(T y).S "_law_is_fraction"=mD:=congrArg (pkS y) (by decide +kernel:nmS.idxOf ("_law_is_fraction":Str)=27)
theorem sW {y:PX}:(T y).S "_law_share"=fO:=congrArg (pkS y) (by decide +kernel:nmS.idxOf ("_law_share":Str)=28)
theorem oJ {y:PX}:(T y).S "_law_shares"=fV:=congrArg (pkS y) (by decide +kernel:nmS.idxOf ("_law_shares":Str)=29)
theorem wG {y:PX}:(T y).S "_law_sort"=nD:=congrArg (pkS y) (by decide +kernel:nmS.idxOf ("_law_sort":Str)=30)
theorem rW {y:PX}:(T y).S "_law_tried"=lB:=congrArg (pkS y) (by decide +kernel:nmS.idxOf ("_law_tried":Str)=31)
theorem sV {y:PX}:(T y).S "_law_asked"=lL:=congrArg (pkS y) (by decide +kernel:nmS.idxOf ("_law_asked":Str)=32)
theorem DT {y:PX}:(T y).S "_law_bad"=tZ:=congrArg (pkS y) (by decide +kernel:nmS.idxOf ("_law_bad":Str)=33)
theorem sB {y:PX}:(T y).S "_law_right"=kZ:=congrArg (pkS y) (by decide +kernel:nmS.idxOf ("_law_right":Str)=34)
theorem fZ {y:PX}:(T y).S "_law_others_right"=jD:=congrArg (pkS y) (by decide +kernel:nmS.idxOf ("_law_others_right":Str)=35)
theorem YL {y:PX}:(T y).S "law"=uQ:=congrArg (pkS y) (by decide +kernel:nmS.idxOf ("law":Str)=36)
theorem DZ {y:PX}:(T y).gv "PIECE"= .int (10 ^ 64):=congrArg pkG (by decide +kernel:nmG.idxOf ("PIECE":Str)=0)
theorem gY {y:PX}:(T y).gv "PIECE_FIGURES"= .int 64:=congrArg pkG (by decide +kernel:nmG.idxOf ("PIECE_FIGURES":Str)=1)
theorem fG {y:PX}:(T y).gv "Shade"= .cl "Shade":=congrArg pkG (by decide +kernel:nmG.idxOf ("Shade":Str)=2)
theorem BW {y:PX}:(T y).gv "int"= .ty "int":=congrArg pkG (by decide +kernel:nmG.idxOf ("int":Str)=3)
theorem AE {y:PX}:(T y).gv "bool"= .ty "bool":=congrArg pkG (by decide +kernel:nmG.idxOf ("bool":Str)=4)
theorem tX {y:PX}:(T y).gv "tuple"= .ty "tuple":=congrArg pkG (by decide +kernel:nmG.idxOf ("tuple":Str)=5)
theorem OF {y:PX}:(T y).gv "str"= .ty "str":=congrArg pkG (by decide +kernel:nmG.idxOf ("str":Str)=6)
theorem OW {y:PX}:(T y).gv "list"= .ty "list":=congrArg pkG (by decide +kernel:nmG.idxOf ("list":Str)=7)
theorem hP6 {y:PX}:P6 (T y):={ is_whole:=pR,common:=vQ,is_fraction:=jP,is_share:=nS,shade:=RW,shadeI:=gA,xshade:=FG,xshadeI:=cC,is_shade:=pP,need_shade:=kK,xneed:=hW,shares_of:=mJ,xshares:=jL,xNoShade:=iI,figures:=tE,written:=sN,strS:=gX,gv_PIECE:=DZ,gv_PF:=gY,gv_Shade:=fG,cs:=(by decide +kernel: "Shade"∈tcs),fl_e:=(by decide +kernel:("Shade",("ember":Str))∈tfl),fl_l:=(by decide +kernel:("Shade",("leaf":Str))∈tfl),fl_s:=(by decide +kernel:("Shade",("sky":Str))∈tfl),ty_int:=BW,ty_bool:=AE,ty_tuple:=tX,ty_str:=OF,ty_list:=OW,xi:=rfl,fx:=rfl }
theorem hLT {y:PX}:LT (T y):={ cell:=vM,purse:=rY,pick:=xP,whole:=GS,low:=CA,plus:=MA,minus:=GU,times:=ER,over:=PN,below:=EW,is_fraction:=mV,share:=sW,shares:=oJ }
theorem hL6 {y:PX}:L6 (T y):={ sort:=wG,tried:=rW,asked:=sV,bad:=DT,right:=sB,others:=fZ }
noncomputable def wB (a:Nat→Addr) (c:String):Addr:=if c="Shade" then a 25 else if c="NoShade" then a 43 else 0
theorem aC {a:Nat→Addr}:wB a "Shade"=a 25:=by unfold wB; simp
theorem aA {a:Nat→Addr}:wB a "NoShade"=a 43:=by unfold wB; simp
structure Tx (K:W.Frag) (mg:Str→Option Value) (a:Nat→Addr) (d:Nat→FuncData) (v:Nat→Value):Prop where
  qa:cZ K "common" "common" dS (.none) (a 0) (d 0)
  qb:mg "common"=some (.ref (a 0))
  qc:cZ K "is_whole" "is_whole" bW (.none) (a 1) (d 1)
  qd:mg "is_whole"=some (.ref (a 1))
  qf:cZ K "is_fraction" "is_fraction" aZ (.none) (a 2) (d 2)
  qg:mg "is_fraction"=some (.ref (a 2))
  qh:cZ K "is_share" "is_share" bY (.none) (a 3) (d 3)
  qi:mg "is_share"=some (.ref (a 3))
  qj:cZ K "__init__" "NoShade.__init__" aX (.none) (a 4) (d 4)
  qk:cZ K "__init__" "Shade.__init__" aT (.none) (a 5) (d 5)
  ql:cZ K "_law_cell" "_law_cell" dQ (.none) (a 6) (d 6)
  qm:mg "_law_cell"=some (.ref (a 6))
  qo:cZ K "_law_sort" "_law_sort" dU (.none) (a 7) (d 7)
  qp:mg "_law_sort"=some (.ref (a 7))
  qq:cZ K "is_shade" "is_shade" bU (.none) (a 8) (d 8)
  qr:mg "is_shade"=some (.ref (a 8))
  qt:cZ K "need_shade" "need_shade" bG (.none) (a 9) (d 9)
  qu:mg "need_shade"=some (.ref (a 9))
  qw:cZ K "shares_of" "shares_of" bN (.none) (a 10) (d 10)
  qx:mg "shares_of"=some (.ref (a 10))
  qy:cZ K "_law_asked" "_law_asked" cU (.none) (a 11) (d 11)
  qz:mg "_law_asked"=some (.ref (a 11))
  qA:cZ K "_law_pick" "_law_pick" dR (.none) (a 12) (d 12)
  qB:mg "_law_pick"=some (.ref (a 12))
  qC:cZ K "_law_bad" "_law_bad" eO (.none) (a 13) (d 13)
  qD:mg "_law_bad"=some (.ref (a 13))
  qE:cZ K "figures" "figures" cX (.none) (a 14) (d 14)
  qF:mg "figures"=some (.ref (a 14))
  qG:cZ K "written" "written" cP (.none) (a 15) (d 15)
  qH:mg "written"=some (.ref (a 15))
  qI:cZ K "__str__" "Shade.__str__" aV (.none) (a 16) (d 16)
  qJ:wF K (a 25) "__str__" (a 16)
  qK:cZ K "_law_others_right" "_law_others_right" aS (.none) (a 17) (d 17)
  qL:mg "_law_others_right"=some (.ref (a 17))
  qM:cZ K "_law_purse" "_law_purse" cR (.none) (a 18) (d 18)
  qN:mg "_law_purse"=some (.ref (a 18))
  qO:cZ K "_law_tried" "_law_tried" cQ (.none) (a 19) (d 19)
  qP:mg "_law_tried"=some (.ref (a 19))
  qQ:cZ K "_law_right" "_law_right" cY (.none) (a 20) (d 20)
  qR:mg "_law_right"=some (.ref (a 20))
  qS:cZ K "_law_low" "_law_low" eR (.none) (a 21) (d 21)
  qT:mg "_law_low"=some (.ref (a 21))
  qU:cZ K "_law_share" "_law_share" cV (.none) (a 22) (d 22)
  qV:mg "_law_share"=some (.ref (a 22))
  qW:cZ K "_law_shares" "_law_shares" bV (.none) (a 23) (d 23)
  qX:mg "_law_shares"=some (.ref (a 23))
  qY:cZ K "law" "law" iL (.none) (a 24) (d 24)
  qZ:mg "law"=some (.ref (a 24))
  qz1:UW K (a 25)
  qz2:mg "Shade"=some (.ref (a 25))
  qz3:Mk K (a 25) (a 5)
  qz4:NeC K (a 25)
  qz5:∀ n∈JL,W.kitOne K (.type n) (.ref (a 25))=some false
  qz6:∀ n∈jJ,W.kitOne K (.ref (a 25)) (.type n)=some false
  na_Shade_ember:eG K (a 25) "ember"
  na_Shade_leaf:eG K (a 25) "leaf"
  na_Shade_sky:eG K (a 25) "sky"
  qz7:mg "BookError"=some (.ref (a 26))
  qz8:mg "BookFull"=some (.ref (a 27))
  qz9:mg "EmptyMix"=some (.ref (a 28))
  qz10:mg "MixError"=some (.ref (a 29))
  qz11:mg "NameStands"=some (.ref (a 30))
  qz12:mg "NoBack"=some (.ref (a 31))
  qz13:mg "NoBlend"=some (.ref (a 32))
  qz14:mg "NoDeed"=some (.ref (a 33))
  qz15:mg "NoEye"=some (.ref (a 34))
  qz16:mg "NoGrade"=some (.ref (a 35))
  qz17:mg "NoLights"=some (.ref (a 36))
  qz18:mg "NoLimit"=some (.ref (a 37))
  qz19:mg "NoName"=some (.ref (a 38))
  qz20:mg "NoNumber"=some (.ref (a 39))
  qz21:mg "NoPart"=some (.ref (a 40))
  qz22:mg "NoPlace"=some (.ref (a 41))
  qz23:mg "NoRow"=some (.ref (a 42))
  qz24:mg "NoShade"=some (.ref (a 43))
  qz25:mg "NoStep"=some (.ref (a 44))
  qz26:mg "NoText"=some (.ref (a 45))
  qz27:mg "NoTurn"=some (.ref (a 46))
  qz28:mg "NoWay"=some (.ref (a 47))
  qz29:mg "NoWeight"=some (.ref (a 48))
  qz30:mg "NoWeights"=some (.ref (a 49))
  qz31:mg "NoWord"=some (.ref (a 50))
  qz32:mg "ShadeError"=some (.ref (a 51))
  qz33:XIn K mg (a 43) (a 4) "ShadeError" "light"
  qz34:XAt K (a 43)
  kx_NoShade_NoNumber:W.kitOne K (.ref (a 43)) (.ref (a 39))=some false
  kx_NoShade_NoShade:W.kitOne K (.ref (a 43)) (.ref (a 43))=some true
  kx_NoShade_NoPart:W.kitOne K (.ref (a 43)) (.ref (a 40))=some false
  kx_NoShade_NoDeed:W.kitOne K (.ref (a 43)) (.ref (a 33))=some false
  kx_NoShade_NoTurn:W.kitOne K (.ref (a 43)) (.ref (a 46))=some false
  kx_NoShade_NoWay:W.kitOne K (.ref (a 43)) (.ref (a 47))=some false
  kx_NoShade_NoText:W.kitOne K (.ref (a 43)) (.ref (a 45))=some false
  kx_NoShade_NoGrade:W.kitOne K (.ref (a 43)) (.ref (a 35))=some false
  kx_NoShade_NoStep:W.kitOne K (.ref (a 43)) (.ref (a 44))=some false
  kx_NoShade_NoEye:W.kitOne K (.ref (a 43)) (.ref (a 34))=some false
  kx_NoShade_NoLimit:W.kitOne K (.ref (a 43)) (.ref (a 37))=some false
  kx_NoShade_NoPlace:W.kitOne K (.ref (a 43)) (.ref (a 41))=some false
  kx_NoShade_NoLights:W.kitOne K (.ref (a 43)) (.ref (a 36))=some false
  kx_NoShade_NoRow:W.kitOne K (.ref (a 43)) (.ref (a 42))=some false
  kx_NoShade_NoWeights:W.kitOne K (.ref (a 43)) (.ref (a 49))=some false
  kx_NoShade_NoWeight:W.kitOne K (.ref (a 43)) (.ref (a 48))=some false
  kx_NoShade_EmptyMix:W.kitOne K (.ref (a 43)) (.ref (a 28))=some false
  kx_NoShade_NoBlend:W.kitOne K (.ref (a 43)) (.ref (a 32))=some false
  kx_NoShade_NoWord:W.kitOne K (.ref (a 43)) (.ref (a 50))=some false
  kx_NoShade_NoName:W.kitOne K (.ref (a 43)) (.ref (a 38))=some false
  kx_NoShade_NameStands:W.kitOne K (.ref (a 43)) (.ref (a 30))=some false
  kx_NoShade_BookFull:W.kitOne K (.ref (a 43)) (.ref (a 27))=some false
  kx_NoShade_NoBack:W.kitOne K (.ref (a 43)) (.ref (a 31))=some false
  kx_NoShade_ShadeError:W.kitOne K (.ref (a 43)) (.ref (a 51))=some true
  kx_NoShade_MixError:W.kitOne K (.ref (a 43)) (.ref (a 29))=some false
  kx_NoShade_BookError:W.kitOne K (.ref (a 43)) (.ref (a 26))=some false
  kx_NoShade_ValueError:W.kitOne K (.ref (a 43)) (.type "ValueError")=some true
  kx_NoShade_ArithmeticError:W.kitOne K (.ref (a 43)) (.type "ArithmeticError")=some false
  kx_NoShade_LookupError:W.kitOne K (.ref (a 43)) (.type "LookupError")=some false
  fx_NoShade_light:W.findIn K (.ref (a 43)) "light"=some none
  co_ShadeError:LX.jO K (a 51)=true∧W.typeIn K (.ref (a 51))=some (.type "type")
  qz35:W.subIn K (.type "type") (.type "tuple")=some false
  sc_NoShade_ShadeError:LX.iC K (a 43) [a 51]=some true
  qz36:∃ t,mg "PIECE"=some (.int 10000000000000000000000000000000000000000000000000000000000000000 t)
  qz37:∃ t,mg "PIECE_FIGURES"=some (.int 64 t)
  qz38:mg "ArithmeticError"=none
  qz39:mg "LookupError"=none
  qz40:mg "ValueError"=none
  qz41:mg "abs"=none
  qz42:mg "bool"=none
  qz43:mg "divmod"=none
  qz44:mg "enumerate"=none
  qz45:mg "int"=none
  qz46:mg "isinstance"=none
  qz47:mg "len"=none
  qz48:mg "list"=none
  qz49:mg "max"=none
  qz50:mg "min"=none
  qz51:mg "range"=none
  qz52:mg "str"=none
  qz53:mg "tuple"=none
variable {P:Program} {w:World} {K:W.Frag} {mg:Str→Option Value} {base:Heap} {a:Nat→Addr} {d:Nat→FuncData} {v:Nat→Value} {f0 z0:Hp} {y:PX}
theorem lnS {n:Nat} {l:List Value} (h:l.length=n + 1):∃ a t,l=a :: t∧t.length=n:=by
  cases l with
  | nil=>cases h
  | cons a t=>exact ⟨a,t,rfl,Nat.succ.inj h⟩
theorem ln0 {l:List Value} (h:l.length=0):l=[]:=List.eq_nil_of_length_eq_zero h
theorem ln1 {l:List Value} (h:l.length=1):∃ a,l=[a]:=by
  obtain ⟨a,t,rfl,h2⟩:=lnS h
  exact ⟨a,by rw [ln0 h2]⟩
theorem ln2 {l:List Value} (h:l.length=2):∃ a b,l=[a,b]:=by
  obtain ⟨a,t,rfl,h2⟩:=lnS h
  obtain ⟨b,rfl⟩:=ln1 h2
  exact ⟨a,b,rfl⟩
theorem ln3 {l:List Value} (h:l.length=3):∃ a b c,l=[a,b,c]:=by
  obtain ⟨a,t,rfl,h2⟩:=lnS h
  obtain ⟨b,c,rfl⟩:=ln2 h2
  exact ⟨a,b,c,rfl⟩
theorem ln4 {l:List Value} (h:l.length=4):∃ a b c d,l=[a,b,c,d]:=by
  obtain ⟨a,t,rfl,h2⟩:=lnS h
  obtain ⟨b,c,d,rfl⟩:=ln3 h2
  exact ⟨a,b,c,d,rfl⟩
noncomputable abbrev Ew (K:W.Frag) (a:Nat→Addr) (f0 z0:Hp):Ev:={ K:=K,cls:=wB a,f0:=f0,z0:=z0 }
theorem MQ (X:Tx K mg a d v):L2.aR K (d 0) ["one","other"] []:=X.qa.binds fun _ _ _ _ _ _ _ us _ hl=>by obtain ⟨_,_,rfl⟩:=ln2 hl; exact .of_eq rfl
theorem yW (X:Tx K mg a d v):L2.aR K (d 1) ["thing"] []:=X.qc.binds fun _ _ _ _ _ _ _ us _ hl=>by obtain ⟨_,rfl⟩:=ln1 hl; exact .of_eq rfl
theorem rP (X:Tx K mg a d v):L2.aR K (d 2) ["thing"] []:=X.qf.binds fun _ _ _ _ _ _ _ us _ hl=>by obtain ⟨_,rfl⟩:=ln1 hl; exact .of_eq rfl
theorem zO (X:Tx K mg a d v):L2.aR K (d 3) ["thing"] []:=X.qh.binds fun _ _ _ _ _ _ _ us _ hl=>by obtain ⟨_,rfl⟩:=ln1 hl; exact .of_eq rfl
theorem eZ (X:Tx K mg a d v):L2.aR K (d 4) ["self","light"] []:=X.qj.binds fun _ _ _ _ _ _ _ us _ hl=>by obtain ⟨_,_,rfl⟩:=ln2 hl; exact .of_eq rfl
theorem bH (X:Tx K mg a d v):L2.aR K (d 5) ["self","ember","leaf","sky"] []:=X.qk.binds fun _ _ _ _ _ _ _ us _ hl=>by obtain ⟨_,_,_,_,rfl⟩:=ln4 hl; exact .of_eq rfl
theorem MC (X:Tx K mg a d v):L2.aR K (d 6) ["_law_script","_law_k"] []:=X.ql.binds fun _ _ _ _ _ _ _ us _ hl=>by obtain ⟨_,_,rfl⟩:=ln2 hl; exact .of_eq rfl
theorem JP (X:Tx K mg a d v):L2.aR K (d 7) ["_law_e"] []:=X.qo.binds fun _ _ _ _ _ _ _ us _ hl=>by obtain ⟨_,rfl⟩:=ln1 hl; exact .of_eq rfl
theorem kD (X:Tx K mg a d v):L2.aR K (d 8) ["thing"] []:=X.qq.binds fun _ _ _ _ _ _ _ us _ hl=>by obtain ⟨_,rfl⟩:=ln1 hl; exact .of_eq rfl
theorem kJ (X:Tx K mg a d v):L2.aR K (d 9) ["thing"] []:=X.qt.binds fun _ _ _ _ _ _ _ us _ hl=>by obtain ⟨_,rfl⟩:=ln1 hl; exact .of_eq rfl
theorem mP (X:Tx K mg a d v):L2.aR K (d 10) ["shade"] []:=X.qw.binds fun _ _ _ _ _ _ _ us _ hl=>by obtain ⟨_,rfl⟩:=ln1 hl; exact .of_eq rfl
theorem FL (X:Tx K mg a d v):L2.aR K (d 11) ["_law_thing"] []:=X.qy.binds fun _ _ _ _ _ _ _ us _ hl=>by obtain ⟨_,rfl⟩:=ln1 hl; exact .of_eq rfl
theorem LB (X:Tx K mg a d v):L2.aR K (d 12) ["_law_purse_here","_law_many"] []:=X.qA.binds fun _ _ _ _ _ _ _ us _ hl=>by obtain ⟨_,_,rfl⟩:=ln2 hl; exact .of_eq rfl
theorem DD (X:Tx K mg a d v):L2.aR K (d 13) ["_law_purse_here","_law_share_here"] []:=X.qC.binds fun _ _ _ _ _ _ _ us _ hl=>by obtain ⟨_,_,rfl⟩:=ln2 hl; exact .of_eq rfl
theorem GV (X:Tx K mg a d v):L2.aR K (d 14) ["number"] []:=X.qE.binds fun _ _ _ _ _ _ _ us _ hl=>by obtain ⟨_,rfl⟩:=ln1 hl; exact .of_eq rfl
theorem FK (X:Tx K mg a d v):L2.aR K (d 15) ["one"] []:=X.qG.binds fun _ _ _ _ _ _ _ us _ hl=>by obtain ⟨_,rfl⟩:=ln1 hl; exact .of_eq rfl
theorem mY (X:Tx K mg a d v):L2.aR K (d 16) ["self"] []:=X.qI.binds fun _ _ _ _ _ _ _ us _ hl=>by obtain ⟨_,rfl⟩:=ln1 hl; exact .of_eq rfl
theorem lU (X:Tx K mg a d v):L2.aR K (d 17) ["_law_purse_here","_law_row"] []:=X.qK.binds fun _ _ _ _ _ _ _ us _ hl=>by obtain ⟨_,_,rfl⟩:=ln2 hl; exact .of_eq rfl
theorem EF (X:Tx K mg a d v):L2.aR K (d 18) ["_law_cell_here"] []:=X.qM.binds fun _ _ _ _ _ _ _ us _ hl=>by obtain ⟨_,rfl⟩:=ln1 hl; exact .of_eq rfl
theorem FS (X:Tx K mg a d v):L2.aR K (d 19) ["_law_way","_law_row"] []:=X.qO.binds fun _ _ _ _ _ _ _ us _ hl=>by obtain ⟨_,_,rfl⟩:=ln2 hl; exact .of_eq rfl
theorem HG (X:Tx K mg a d v):L2.aR K (d 20) ["_law_purse_here","_law_row"] []:=X.qQ.binds fun _ _ _ _ _ _ _ us _ hl=>by obtain ⟨_,_,rfl⟩:=ln2 hl; exact .of_eq rfl
theorem WD (X:Tx K mg a d v):L2.aR K (d 21) ["_law_top","_law_bottom"] []:=X.qS.binds fun _ _ _ _ _ _ _ us _ hl=>by obtain ⟨_,_,rfl⟩:=ln2 hl; exact .of_eq rfl
theorem GR (X:Tx K mg a d v):L2.aR K (d 22) ["_law_purse_here"] []:=X.qU.binds fun _ _ _ _ _ _ _ us _ hl=>by obtain ⟨_,rfl⟩:=ln1 hl; exact .of_eq rfl
theorem AD (X:Tx K mg a d v):L2.aR K (d 23) ["_law_purse_here"] []:=X.qW.binds fun _ _ _ _ _ _ _ us _ hl=>by obtain ⟨_,rfl⟩:=ln1 hl; exact .of_eq rfl
theorem bK (X:Tx K mg a d v):jU K (d 5) ["self","ember","leaf","sky"] 1 ["sky","leaf","ember"] [.arg 0,.arg 3,.arg 2,.arg 1]:=by
  refine X.qk.sh rfl fun _ _ _ _ _ _ _ us ws hK hl hl2=>?_
  obtain ⟨u0,rfl⟩:=ln1 hl
  obtain ⟨w0,w1,w2,rfl⟩:=ln3 hl2
  refine ⟨[u0,w2,w1,w0],.of_eq rfl,fun vs zs r rz=>?_⟩
  obtain _ | ⟨r_u0,r⟩:=r
  cases r
  obtain _ | ⟨r_w0,rz⟩:=rz
  obtain _ | ⟨r_w1,rz⟩:=rz
  obtain _ | ⟨r_w2,rz⟩:=rz
  cases rz
  exact (.cons r_u0 (.cons r_w2 (.cons r_w1 (.cons r_w0 .nil))))
theorem dB (X:Tx K mg a d v):jU K (d 5) ["self","ember","leaf","sky"] 2 ["sky","leaf"] [.arg 0,.arg 1,.arg 3,.arg 2]:=by
  refine X.qk.sh rfl fun _ _ _ _ _ _ _ us ws hK hl hl2=>?_
  obtain ⟨u0,u1,rfl⟩:=ln2 hl
  obtain ⟨w0,w1,rfl⟩:=ln2 hl2
  refine ⟨[u0,u1,w1,w0],.of_eq rfl,fun vs zs r rz=>?_⟩
  obtain _ | ⟨r_u0,r⟩:=r
  obtain _ | ⟨r_u1,r⟩:=r
  cases r
  obtain _ | ⟨r_w0,rz⟩:=rz
  obtain _ | ⟨r_w1,rz⟩:=rz
  cases rz
  exact (.cons r_u0 (.cons r_u1 (.cons r_w1 (.cons r_w0 .nil))))
noncomputable abbrev FO (P:Program) (w:World) (K:W.Frag) (mg:Str→Option Value) (base:Heap) (a:Nat→Addr) (d:Nat→FuncData) (n i:Nat) (f0 z0:Hp) (y:PX) (ps:List Str) (x:Str):Prop:=bL P w K mg base CX0 n (a i) (d i) ps (jK (Ew K a f0 z0) ((T y).S x))
noncomputable abbrev FOX (P:Program) (w:World) (K:W.Frag) (mg:Str→Option Value) (base:Heap) (a:Nat→Addr) (d:Nat→FuncData) (n i:Nat) (f0 z0:Hp) (ps:List Str) (S0:Sp3) (X0:SpX):Prop:=bL P w K mg base (CXo P w) n (a i) (d i) ps (nQ (Ew K a f0 z0) S0 X0)
theorem ck (X:Tx K mg a d v):Ck K (Ew K a f0 z0) (T y):=by
  refine ⟨rfl,⟨?_, ?_, ?_, ?_⟩, ?_⟩
  · exact ac (by rw [show (Ew K a f0 z0).cls "Shade"=a 25 from aC]; exact X.qz1) (an)
  · exact ac (by rw [show (Ew K a f0 z0).cls "Shade"=a 25 from aC]; exact X.qz5) (an)
  · exact ac (by rw [show (Ew K a f0 z0).cls "Shade"=a 25 from aC]; exact X.qz6) (an)
  · exact ac (ac (fun h=>absurd rfl h) (an)) (an)
  · intro c f h
    have key:∀ p∈(T y).fl,Cls K ((Ew K a f0 z0).cls p.1)∧eG K ((Ew K a f0 z0).cls p.1) p.2:=ac (by dsimp only; rw [aC]; exact ⟨X.qz1.cl,X.na_Shade_ember⟩) (ac (by dsimp only; rw [aC]; exact ⟨X.qz1.cl,X.na_Shade_leaf⟩) (ac (by dsimp only; rw [aC]; exact ⟨X.qz1.cl,X.na_Shade_sky⟩) (an)))
    exact key (c,f) h
local macro_rules | `(tactic| walk_at "sl") => `(tactic| (intro xs G Q h; repeat (first | exact (congrArg List.length h.1).trans rfl | (obtain ⟨_, h⟩ := h))))
theorem xo (X:Tx K mg a d v):Xo K mg (Ew K a f0 z0) (T y):=by
  refine ⟨fun c n r h=>?_,fun c f h=>?_⟩
  · have key:∀ p∈SN,XAt K ((Ew K a f0 z0).cls p.1)∧((∃ b,mg p.2.1=some (.ref b)∧W.kitOne K (.ref ((Ew K a f0 z0).cls p.1)) (.ref b)=some p.2.2)∨∃ t,mg p.2.1=none∧bootBuiltins p.2.1=some (.type t)∧p.2.1≠"__name__"∧W.kitOne K (.ref ((Ew K a f0 z0).cls p.1)) (.type t)=some p.2.2):=ac (by dsimp only; rw [aA]; exact ⟨X.qz34,.inl ⟨_,X.qz20,X.kx_NoShade_NoNumber⟩⟩) (ac (by dsimp only; rw [aA]; exact ⟨X.qz34,.inl ⟨_,X.qz24,X.kx_NoShade_NoShade⟩⟩) (ac (by dsimp only; rw [aA]; exact ⟨X.qz34,.inl ⟨_,X.qz21,X.kx_NoShade_NoPart⟩⟩) (ac (by dsimp only; rw [aA]; exact ⟨X.qz34,.inl ⟨_,X.qz14,X.kx_NoShade_NoDeed⟩⟩) (ac (by dsimp only; rw [aA]; exact ⟨X.qz34,.inl ⟨_,X.qz27,X.kx_NoShade_NoTurn⟩⟩) (ac (by dsimp only; rw [aA]; exact ⟨X.qz34,.inl ⟨_,X.qz28,X.kx_NoShade_NoWay⟩⟩) (ac (by dsimp only; rw [aA]; exact ⟨X.qz34,.inl ⟨_,X.qz26,X.kx_NoShade_NoText⟩⟩) (ac (by dsimp only; rw [aA]; exact ⟨X.qz34,.inl ⟨_,X.qz16,X.kx_NoShade_NoGrade⟩⟩) (ac (by dsimp only; rw [aA]; exact ⟨X.qz34,.inl ⟨_,X.qz25,X.kx_NoShade_NoStep⟩⟩) (ac (by dsimp only; rw [aA]; exact ⟨X.qz34,.inl ⟨_,X.qz15,X.kx_NoShade_NoEye⟩⟩) (ac (by dsimp only; rw [aA]; exact ⟨X.qz34,.inl ⟨_,X.qz18,X.kx_NoShade_NoLimit⟩⟩) (ac (by dsimp only; rw [aA]; exact ⟨X.qz34,.inl ⟨_,X.qz22,X.kx_NoShade_NoPlace⟩⟩) (ac (by dsimp only; rw [aA]; exact ⟨X.qz34,.inl ⟨_,X.qz17,X.kx_NoShade_NoLights⟩⟩) (ac (by dsimp only; rw [aA]; exact ⟨X.qz34,.inl ⟨_,X.qz23,X.kx_NoShade_NoRow⟩⟩) (ac (by dsimp only; rw [aA]; exact ⟨X.qz34,.inl ⟨_,X.qz30,X.kx_NoShade_NoWeights⟩⟩) (ac (by dsimp only; rw [aA]; exact ⟨X.qz34,.inl ⟨_,X.qz29,X.kx_NoShade_NoWeight⟩⟩) (ac (by dsimp only; rw [aA]; exact ⟨X.qz34,.inl ⟨_,X.qz9,X.kx_NoShade_EmptyMix⟩⟩) (ac (by dsimp only; rw [aA]; exact ⟨X.qz34,.inl ⟨_,X.qz13,X.kx_NoShade_NoBlend⟩⟩) (ac (by dsimp only; rw [aA]; exact ⟨X.qz34,.inl ⟨_,X.qz31,X.kx_NoShade_NoWord⟩⟩) (ac (by dsimp only; rw [aA]; exact ⟨X.qz34,.inl ⟨_,X.qz19,X.kx_NoShade_NoName⟩⟩) (ac (by dsimp only; rw [aA]; exact ⟨X.qz34,.inl ⟨_,X.qz11,X.kx_NoShade_NameStands⟩⟩) (ac (by dsimp only; rw [aA]; exact ⟨X.qz34,.inl ⟨_,X.qz8,X.kx_NoShade_BookFull⟩⟩) (ac (by dsimp only; rw [aA]; exact ⟨X.qz34,.inl ⟨_,X.qz12,X.kx_NoShade_NoBack⟩⟩) (ac (by dsimp only; rw [aA]; exact ⟨X.qz34,.inl ⟨_,X.qz32,X.kx_NoShade_ShadeError⟩⟩) (ac (by dsimp only; rw [aA]; exact ⟨X.qz34,.inl ⟨_,X.qz10,X.kx_NoShade_MixError⟩⟩) (ac (by dsimp only; rw [aA]; exact ⟨X.qz34,.inl ⟨_,X.qz7,X.kx_NoShade_BookError⟩⟩) (ac (by dsimp only; rw [aA]; exact ⟨X.qz34,.inr ⟨"ValueError",X.qz40,by with_unfolding_all rfl,by decide +kernel,X.kx_NoShade_ValueError⟩⟩) (ac (by dsimp only; rw [aA]; exact ⟨X.qz34,.inr ⟨"ArithmeticError",X.qz38,by with_unfolding_all rfl,by decide +kernel,X.kx_NoShade_ArithmeticError⟩⟩) (ac (by dsimp only; rw [aA]; exact ⟨X.qz34,.inr ⟨"LookupError",X.qz39,by with_unfolding_all rfl,by decide +kernel,X.kx_NoShade_LookupError⟩⟩) (an)))))))))))))))))))))))))))))
    exact key (c,n,r) h
  · have key:∀ p∈aCM,XAt K ((Ew K a f0 z0).cls p.1)∧W.findIn K (.ref ((Ew K a f0 z0).cls p.1)) p.2=some none:=ac (by dsimp only; rw [aA]; exact ⟨X.qz34,X.fx_NoShade_light⟩) (an)
    exact key (c,f) h
theorem mK (X:Tx K mg a d v):bL P w K mg base CX0 1 (a 4) (d 4) ["self","light"] (spI (a 43) "light"):=JN (k:=0) X.qj X.qz33 jE rfl rfl ⟨by decide +kernel,by decide +kernel,by decide +kernel⟩ ⟨by decide +kernel,by decide +kernel,by decide +kernel,by decide +kernel,by decide +kernel⟩
theorem GX (X:Tx K mg a d v):Gf P w K mg base (Ew K a f0 z0) (T y) 40 C_common :=
  ⟨an,an,an,an,an,an,an,an,an,an,an,an,an,an,an,an,an,an,an,an,an⟩
theorem GE (X:Tx K mg a d v):FO P w K mg base a d 42 0 f0 z0 y ["one","other"] "common":=by
  rw [FO,vQ]; exact dF (T:=T y) X.qa FT (ck X) (GX X) FF (xo X) (Tf.no rfl) rfl (fun _=>by decide) (fun z=>by cases z) (by walk_at "sl") (vV )
theorem yG (X:Tx K mg a d v):Gf P w K mg base (Ew K a f0 z0) (T y) 40 C_is_whole :=
  ⟨an,an,an,an,an,ac (⟨X.qz42,⟨"bool",PyProof.Rows.boot_bool,AE⟩,by decide +kernel⟩) (ac (⟨X.qz45,⟨"int",PyProof.Rows.boot_int,BW⟩,by decide +kernel⟩) (an)),ac (X.qz46) (an),an,an,an,an,an,an,an,an,an,an,an,an,an,an⟩
theorem xZ (X:Tx K mg a d v):FO P w K mg base a d 42 1 f0 z0 y ["thing"] "is_whole":=by
  rw [FO,pR]; exact dF (T:=T y) X.qc yM (ck X) (yG X) xU (xo X) (Tf.no rfl) rfl (fun _=>by decide) (fun z=>by cases z) (by walk_at "sl") (rO hP6)
theorem nU (X:Tx K mg a d v):Gf P w K mg base (Ew K a f0 z0) (T y) 42 C_is_fraction :=
  ⟨ac (⟨_,_,_,⟨(GE X).mono (by decide),X.qb,X.qa.kp,by decide +kernel⟩,MQ X⟩) (ac (⟨_,_,_,⟨(xZ X).mono (by decide),X.qd,X.qc.kp,by decide +kernel⟩,yW X⟩) (an)),an,an,an,an,ac (⟨X.qz53,⟨"tuple",PyProof.Rows.boot_tuple,tX⟩,by decide +kernel⟩) (an),ac (X.qz41) (ac (X.qz46) (ac (X.qz47) (an))),an,an,an,an,an,an,an,an,an,an,an,an,an,an⟩
theorem pD (X:Tx K mg a d v):FO P w K mg base a d 44 2 f0 z0 y ["thing"] "is_fraction":=by
  rw [FO,jP]; exact dF (T:=T y) X.qf oG (ck X) (nU X) oY (xo X) (Tf.no rfl) rfl (fun _=>by decide) (fun z=>by cases z) (by walk_at "sl") (lY hP6)
theorem vW (X:Tx K mg a d v):Gf P w K mg base (Ew K a f0 z0) (T y) 44 C_is_share :=
  ⟨ac (⟨_,_,_,⟨(pD X).mono (by decide),X.qg,X.qf.kp,by decide +kernel⟩,rP X⟩) (an),an,an,an,an,an,an,an,an,an,an,an,an,an,an,an,an,an,an,an,an⟩
theorem wM (X:Tx K mg a d v):FO P w K mg base a d 46 3 f0 z0 y ["thing"] "is_share":=by
  rw [FO,nS]; exact dF (T:=T y) X.qh wL (ck X) (vW X) wY (xo X) (Tf.no rfl) rfl (fun _=>by decide) (fun z=>by cases z) (by walk_at "sl") (rN hP6)
theorem kW (X:Tx K mg a d v):Gf P w K mg base (Ew K a f0 z0) (T y) 46 C_Shade___init__ :=
  ⟨ac (⟨_,_,_,⟨(wM X).mono (by decide),X.qi,X.qh.kp,by decide +kernel⟩,zO X⟩) (an),an,an,an,an,an,ac (X.qz44) (an),an,an,an,an,an,an,an,an,an,an,an,an,an,ac (.inl ⟨"NoShade",_,_,_,"ShadeError","light",by rw [show (Ew K a f0 z0).cls "NoShade"=a 43 from aA]; exact X.qz33,by rw [show (Ew K a f0 z0).cls "NoShade"=a 43 from aA]; exact X.qz24,by rw [show (Ew K a f0 z0).cls "NoShade"=a 43 from aA]; exact (mK X).mono (by decide),eZ X,fun xs G Q q=>by rw [iI] at q; exact q⟩) (an)⟩
theorem bZ (X:Tx K mg a d v):FOX P w K mg base a d 48 5 f0 z0 ["self","ember","leaf","sky"] dD eD:=by
  unfold FOX
  exact AV (T:=T (fun _ _ _ _=>False)) X.qk kS (ck X) (fun x f z=>kW (f0:=f) (z0:=z) (y:=x) X) lC (xo X) rfl (fun _=>by decide) (fun z=>by cases z) (by walk_at "sl") (by walk_at "sl") (jI (T:=T (fun _ _ _ _=>False)) (fun x=>(hP6:P6 (T x))))
theorem aP (X:Tx K mg a d v):FO P w K mg base a d 48 5 f0 z0 y ["self","ember","leaf","sky"] "Shade.__init__":=by
  unfold FO
  rw [gA]
  exact uU (bZ X)
theorem EI (X:Tx K mg a d v):Gf P w K mg base (Ew K a f0 z0) (T y) 40 C_l_cell :=
  ⟨an,an,an,an,an,an,ac (X.qz47) (an),an,an,an,an,an,an,an,an,an,an,an,an,an,an⟩
theorem HP (X:Tx K mg a d v):FO P w K mg base a d 42 6 f0 z0 y ["_law_script","_law_k"] "_law_cell":=by
  rw [FO,vM]; exact dF (T:=T y) X.ql GF (ck X) (EI X) HD (xo X) (Tf.no rfl) rfl (fun _=>by decide) (fun z=>by cases z) (by walk_at "sl") (OU )
theorem GG (X:Tx K mg a d v):Gf P w K mg base (Ew K a f0 z0) (T y) 0 C_l_sort :=
  ⟨an,an,an,an,an,an,ac (X.qz46) (an),an,an,an,an,an,an,an,an,an,an,an,an,an,an⟩
theorem EH (X:Tx K mg a d v):FO P w K mg base a d 2 7 f0 z0 y ["_law_e"] "_law_sort":=by
  rw [FO,wG]; exact dF (T:=T y) X.qo EL (ck X) (GG X) FD (xo X) (Tf.no rfl) rfl (fun z=>by cases z) (fun z=>by cases z) (by walk_at "sl") (xQ hP6)
theorem eT (X:Tx K mg a d v) {k:Nat} (h:2≤k):∃ ad fd ps,Fk P w K mg base (Ew K a f0 z0) (T y) k "_law_sort" ad fd ps∧L2.aR K fd ps []:=⟨_,_,_,⟨(EH X).mono h,X.qp,X.qo.kp,by decide +kernel⟩,JP X⟩
theorem yC (X:Tx K mg a d v):Gf P w K mg base (Ew K a f0 z0) (T y) 40 C_is_shade :=
  ⟨an,an,an,an,ac (by rw [fG]; exact jZ X.qz2 aC) (an),an,ac (X.qz46) (an),an,an,an,an,an,an,an,an,an,an,an,an,an,an⟩
theorem hZ (X:Tx K mg a d v):FO P w K mg base a d 42 8 f0 z0 y ["thing"] "is_shade":=by
  rw [FO,pP]; exact dF (T:=T y) X.qq vJ (ck X) (yC X) yE (xo X) (Tf.no rfl) rfl (fun _=>by decide) (fun z=>by cases z) (by walk_at "sl") (pZ hP6)
theorem pY (X:Tx K mg a d v):Gf P w K mg base (Ew K a f0 z0) (T y) 42 C_need_shade :=
  ⟨ac (⟨_,_,_,⟨(hZ X).mono (by decide),X.qr,X.qq.kp,by decide +kernel⟩,kD X⟩) (an),an,an,an,an,an,an,an,an,an,an,an,an,an,an,an,an,an,an,an,ac (.inl ⟨"NoShade",_,_,_,"ShadeError","light",by rw [show (Ew K a f0 z0).cls "NoShade"=a 43 from aA]; exact X.qz33,by rw [show (Ew K a f0 z0).cls "NoShade"=a 43 from aA]; exact X.qz24,by rw [show (Ew K a f0 z0).cls "NoShade"=a 43 from aA]; exact (mK X).mono (by decide),eZ X,fun xs G Q q=>by rw [iI] at q; exact q⟩) (an)⟩
theorem iJ (X:Tx K mg a d v):FOX P w K mg base a d 44 9 f0 z0 ["thing"] eF cM:=by
  unfold FOX
  exact AV (T:=T (fun _ _ _ _=>False)) X.qt rA (ck X) (fun x f z=>pY (f0:=f) (z0:=z) (y:=x) X) rQ (xo X) rfl (fun _=>by decide) (fun z=>by cases z) (by walk_at "sl") (by walk_at "sl") (mW (T:=T (fun _ _ _ _=>False)) (fun x=>(hP6:P6 (T x))))
theorem pU (X:Tx K mg a d v):FO P w K mg base a d 44 9 f0 z0 y ["thing"] "need_shade":=by
  unfold FO
  rw [kK]
  exact uU (iJ X)
theorem tQ (X:Tx K mg a d v):Gf P w K mg base (Ew K a f0 z0) (T y) 44 C_shares_of :=
  ⟨ac (⟨_,_,_,⟨(pU X).mono (by decide),X.qu,X.qt.kp,by decide +kernel⟩,kJ X⟩) (an),an,an,an,an,an,an,an,an,an,an,an,an,an,an,fun _ _=>rfl,ac (⟨(fun _=>⟨_,_,_,⟨⟨_,_,(iJ X).mono (by decide),fun xs G Q q=>by rw [hW] at q; exact q⟩,X.qu,X.qt.kp,by decide +kernel⟩,kJ X⟩),(fun hm=>absurd hm (by decide +kernel))⟩) (an),an,an,an,an⟩
theorem jM (X:Tx K mg a d v):FOX P w K mg base a d 46 10 f0 z0 ["shade"] bD cM:=by
  unfold FOX
  exact AV (T:=T (fun _ _ _ _=>False)) X.qw tU (ck X) (fun x f z=>tQ (f0:=f) (z0:=z) (y:=x) X) uB (xo X) rfl (fun _=>by decide) (fun z=>by cases z) (by walk_at "sl") (by walk_at "sl") (nX (T:=T (fun _ _ _ _=>False)) (fun x=>(hP6:P6 (T x))))
theorem tS (X:Tx K mg a d v):FO P w K mg base a d 46 10 f0 z0 y ["shade"] "shares_of":=by
  unfold FO
  rw [mJ]
  exact uU (jM X)
theorem eP (X:Tx K mg a d v) {k:Nat} (h:46≤k):∃ ad fd ps,Fk P w K mg base (Ew K a f0 z0) (T y) k "shares_of" ad fd ps∧L2.aR K fd ps []:=⟨_,_,_,⟨(tS X).mono h,X.qx,X.qw.kp,by decide +kernel⟩,mP X⟩
theorem zT (X:Tx K mg a d v):Gf P w K mg base (Ew K a f0 z0) (T y) 46 C_l_asked :=
  ⟨ac (eT X (by decide)) (ac (eP X (by decide)) (an)),an,an,an,an,an,an,an,an,an,an,an,an,an,an,an,an,an,an,an,an⟩
theorem yF (X:Tx K mg a d v):Gf P w K mg base (Ew K a f0 z0) (T y) 46 C_l_asked.inT :=
  ⟨ac (eT X (by decide)) (ac (eP X (by decide)) (an)),an,an,an,an,an,an,an,an,an,an,an,an,an,an,fun _ _=>rfl,ac (⟨(fun _=>⟨_,_,_,⟨⟨_,_,(jM X).mono (by decide),fun xs G Q q=>by rw [jL] at q; exact q⟩,X.qx,X.qw.kp,by decide +kernel⟩,mP X⟩),(fun hm=>absurd hm (by decide +kernel))⟩) (an),an,an,an,an⟩
theorem vO (X:Tx K mg a d v):Gf P w K mg base (Ew K a f0 z0) (T y) 2 C_l_asked.inH :=
  ⟨ac (eT X (by decide)) (an),an,an,an,an,an,an,an,an,an,an,an,an,an,an,an,an,an,an,an,an⟩
theorem wX (X:Tx K mg a d v):LP K mg (Ew K a f0 z0) C_l_asked.cat C_l_asked.cln:=⟨[a 51],ac (X.qz32) (an),rfl,ac (X.co_ShadeError) (an),X.qz35,ac (by rw [show (Ew K a f0 z0).cls "NoShade"=a 43 from aA]; exact X.sc_NoShade_ShadeError) (an)⟩
theorem BF (X:Tx K mg a d v):FO P w K mg base a d 48 11 f0 z0 y ["_law_thing"] "_law_asked":=by
  rw [FO,sV]; exact dF (T:=T y) X.qy AH (ck X) (zT X) zM (xo X) (⟨fun _ x f z=>yF (f0:=f) (z0:=z) (y:=x) X,fun _=>wX X,(fun _ _=>⟨2,by decide,by decide,vO X⟩)⟩) rfl (fun _=>by decide) (fun z=>by cases z) (by walk_at "sl") (tH hP6 (fun x=>(hP6:P6 (T x))) hL6)
theorem FB (X:Tx K mg a d v):Gf P w K mg base (Ew K a f0 z0) (T y) 40 C_l_pick :=
  ⟨an,an,an,an,an,an,an,an,an,an,an,an,an,an,an,an,an,an,an,an,an⟩
theorem GM (X:Tx K mg a d v):FO P w K mg base a d 42 12 f0 z0 y ["_law_purse_here","_law_many"] "_law_pick":=by
  rw [FO,xP]; exact dF (T:=T y) X.qA FP (ck X) (FB X) FC (xo X) (Tf.no rfl) rfl (fun _=>by decide) (fun z=>by cases z) (by walk_at "sl") (KE )
theorem jC (X:Tx K mg a d v) {k:Nat} (h:42≤k):∃ ad fd ps,Fk P w K mg base (Ew K a f0 z0) (T y) k "_law_pick" ad fd ps∧L2.aR K fd ps []:=⟨_,_,_,⟨(GM X).mono h,X.qB,X.qA.kp,by decide +kernel⟩,LB X⟩
theorem MF (X:Tx K mg a d v):Gf P w K mg base (Ew K a f0 z0) (T y) 48 C_l_bad :=
  ⟨ac (jC X (by decide)) (an),ac (⟨"Shade","Shade.__init__",_,_,_,⟨by rw [show (Ew K a f0 z0).cls "Shade"=a 25 from aC]; exact X.qz3,(aP X).mono (by decide),by rw [show (Ew K a f0 z0).cls "Shade"=a 25 from aC]; exact X.qz2,bO hP6,by decide +kernel⟩,bH X⟩) (an),an,an,ac (by rw [fG]; exact jZ X.qz2 aC) (an),an,ac (X.qz47) (an),an,an,an,an,an,an,an,an,an,an,an,an,an,an⟩
theorem yB (X:Tx K mg a d v):FO P w K mg base a d 50 13 f0 z0 y ["_law_purse_here","_law_share_here"] "_law_bad":=by
  rw [FO,DT]; exact dF (T:=T y) X.qC OB (ck X) (MF X) OE (xo X) (Tf.no rfl) rfl (fun _=>by decide) (fun z=>by cases z) (by walk_at "sl") (AU hP6 hLT)
theorem zX (X:Tx K mg a d v):Gf P w K mg base (Ew K a f0 z0) (T y) 40 C_figures :=
  ⟨an,an,an,an,ac (by obtain ⟨t,h⟩:=X.qz36; rw [DZ]; exact KG h) (ac (by obtain ⟨t,h⟩:=X.qz37; rw [gY]; exact KG h) (an)),ac (⟨X.qz52,⟨"str",PyProof.Rows.boot_str,OF⟩,by decide +kernel⟩) (an),ac (X.qz43) (ac (X.qz52) (an)),an,an,an,an,an,an,an,an,an,an,an,an,an,an⟩
theorem AR (X:Tx K mg a d v):FO P w K mg base a d 42 14 f0 z0 y ["number"] "figures":=by
  rw [FO,tE]; exact dF (T:=T y) X.qE zN (ck X) (zX X) BQ (xo X) (Tf.no rfl) rfl (fun _=>by decide) (fun z=>by cases z) (by walk_at "sl") (HI hP6)
theorem BB (X:Tx K mg a d v):Gf P w K mg base (Ew K a f0 z0) (T y) 42 C_written :=
  ⟨ac (⟨_,_,_,⟨(AR X).mono (by decide),X.qF,X.qE.kp,by decide +kernel⟩,GV X⟩) (an),an,an,an,an,an,an,an,an,an,an,an,an,an,an,an,an,an,an,an,an⟩
theorem AA (X:Tx K mg a d v):FO P w K mg base a d 44 15 f0 z0 y ["one"] "written":=by
  rw [FO,sN]; exact dF (T:=T y) X.qG zY (ck X) (BB X) yV (xo X) (Tf.no rfl) rfl (fun _=>by decide) (fun z=>by cases z) (by walk_at "sl") (GN hP6)
theorem lS (X:Tx K mg a d v):Gf P w K mg base (Ew K a f0 z0) (T y) 46 C_Shade___str__ :=
  ⟨ac (eP X (by decide)) (ac (⟨_,_,_,⟨(AA X).mono (by decide),X.qH,X.qG.kp,by decide +kernel⟩,FK X⟩) (an)),an,an,an,an,an,an,an,an,an,an,an,an,an,an,an,an,an,an,an,an⟩
theorem lO (X:Tx K mg a d v):FO P w K mg base a d 48 16 f0 z0 y ["self"] "Shade.__str__":=by
  rw [FO,gX]; exact dF (T:=T y) X.qI mE (ck X) (lS X) lR (xo X) (Tf.no rfl) rfl (fun _=>by decide) (fun z=>by cases z) (by walk_at "sl") (mR hP6)
theorem kN (X:Tx K mg a d v):Gf P w K mg base (Ew K a f0 z0) (T y) 50 C_l_others_right :=
  ⟨ac (⟨_,_,_,⟨(BF X).mono (by decide),X.qz,X.qy.kp,by decide +kernel⟩,FL X⟩) (ac (⟨_,_,_,⟨(yB X).mono (by decide),X.qD,X.qC.kp,by decide +kernel⟩,DD X⟩) (ac (⟨_,_,_,⟨(hZ X).mono (by decide),X.qr,X.qq.kp,by decide +kernel⟩,kD X⟩) (an))),ac (⟨"Shade","Shade.__init__",_,_,_,⟨by rw [show (Ew K a f0 z0).cls "Shade"=a 25 from aC]; exact X.qz3,(aP X).mono (by decide),by rw [show (Ew K a f0 z0).cls "Shade"=a 25 from aC]; exact X.qz2,bO hP6,by decide +kernel⟩,bH X⟩) (an),an,an,ac (by rw [fG]; exact jZ X.qz2 aC) (an),ac (⟨X.qz48,⟨"list",PyProof.Rows.boot_list,OW⟩,by decide +kernel⟩) (ac (⟨X.qz52,⟨"str",PyProof.Rows.boot_str,OF⟩,by decide +kernel⟩) (an)),ac (X.qz46) (ac (X.qz48) (ac (X.qz52) (an))),an,an,an,ac (fun b hb=>by rw [show OS.lookup ("str":Str)=some .str from by decide +kernel] at hb; cases hb; exact ac (⟨_,_,48,"__str__",by decide,rfl,by rw [show (Ew K a f0 z0).cls "Shade"=a 25 from aC]; exact X.qz4,by rw [show (Ew K a f0 z0).cls "Shade"=a 25 from aC]; exact X.qJ,lO X,mY X⟩) (an)) (an),an,an,an,an,an,an,an,an,an,an⟩
theorem lH (X:Tx K mg a d v):FO P w K mg base a d 52 17 f0 z0 y ["_law_purse_here","_law_row"] "_law_others_right":=by
  rw [FO,fZ]; exact dF (T:=T y) X.qK kX (ck X) (kN X) lG (xo X) (Tf.no rfl) rfl (fun _=>by decide) (fun z=>by cases z) (by walk_at "sl") (jF hP6 hLT hL6)
theorem zQ (X:Tx K mg a d v):Gf P w K mg base (Ew K a f0 z0) (T y) 40 C_l_purse :=
  ⟨an,an,an,an,an,ac (⟨X.qz45,⟨"int",PyProof.Rows.boot_int,BW⟩,by decide +kernel⟩) (an),ac (X.qz45) (an),an,an,an,an,an,an,an,an,an,an,an,an,an,an⟩
theorem BL (X:Tx K mg a d v):FO P w K mg base a d 42 18 f0 z0 y ["_law_cell_here"] "_law_purse":=by
  rw [FO,rY]; exact dF (T:=T y) X.qM yU (ck X) (zQ X) zU (xo X) (Tf.no rfl) rfl (fun _=>by decide) (fun z=>by cases z) (by walk_at "sl") (HK )
theorem zB (X:Tx K mg a d v):Gf P w K mg base (Ew K a f0 z0) (T y) 48 C_l_tried :=
  ⟨ac (eT X (by decide)) (an),ac (⟨"Shade","Shade.__init__",_,_,_,⟨by rw [show (Ew K a f0 z0).cls "Shade"=a 25 from aC]; exact X.qz3,(aP X).mono (by decide),by rw [show (Ew K a f0 z0).cls "Shade"=a 25 from aC]; exact X.qz2,bO hP6,by decide +kernel⟩,bH X⟩) (an),an,ac (⟨"Shade","Shade.__init__",_,_,_,⟨by rw [show (Ew K a f0 z0).cls "Shade"=a 25 from aC]; exact X.qz3,(aP X).mono (by decide),by rw [show (Ew K a f0 z0).cls "Shade"=a 25 from aC]; exact X.qz2,bO hP6,by decide +kernel⟩,bK X⟩) (an),ac (by rw [fG]; exact jZ X.qz2 aC) (an),an,an,an,an,an,an,an,an,ac (⟨"Shade","Shade.__init__",_,_,_,⟨by rw [show (Ew K a f0 z0).cls "Shade"=a 25 from aC]; exact X.qz3,(aP X).mono (by decide),by rw [show (Ew K a f0 z0).cls "Shade"=a 25 from aC]; exact X.qz2,bO hP6,by decide +kernel⟩,dB X⟩) (an),an,an,an,an,ac (an) (an),ac (an) (an),an⟩
theorem wT (X:Tx K mg a d v):Gf P w K mg base (Ew K a f0 z0) (T y) 48 C_l_tried.inT :=
  ⟨ac (eT X (by decide)) (an),ac (⟨"Shade","Shade.__init__",_,_,_,⟨by rw [show (Ew K a f0 z0).cls "Shade"=a 25 from aC]; exact X.qz3,(aP X).mono (by decide),by rw [show (Ew K a f0 z0).cls "Shade"=a 25 from aC]; exact X.qz2,bO hP6,by decide +kernel⟩,bH X⟩) (an),an,ac (⟨"Shade","Shade.__init__",_,_,_,⟨by rw [show (Ew K a f0 z0).cls "Shade"=a 25 from aC]; exact X.qz3,(aP X).mono (by decide),by rw [show (Ew K a f0 z0).cls "Shade"=a 25 from aC]; exact X.qz2,bO hP6,by decide +kernel⟩,bK X⟩) (an),ac (by rw [fG]; exact jZ X.qz2 aC) (an),an,an,an,an,an,an,an,an,ac (⟨"Shade","Shade.__init__",_,_,_,⟨by rw [show (Ew K a f0 z0).cls "Shade"=a 25 from aC]; exact X.qz3,(aP X).mono (by decide),by rw [show (Ew K a f0 z0).cls "Shade"=a 25 from aC]; exact X.qz2,bO hP6,by decide +kernel⟩,dB X⟩) (an),an,fun _ _=>rfl,ac (⟨(fun hm=>absurd hm (by decide +kernel)),(fun _=>⟨"Shade","!Shade.__init__",_,_,_,⟨by rw [show (Ew K a f0 z0).cls "Shade"=a 25 from aC]; exact X.qz3,⟨_,_,(bZ X).mono (by decide),fun xs G Q q=>by rw [cC] at q; exact q⟩,by rw [show (Ew K a f0 z0).cls "Shade"=a 25 from aC]; exact X.qz2,gI hP6,by decide +kernel⟩,bH X⟩)⟩) (an),an,ac (ac (fun _=>⟨"Shade","!Shade.__init__",_,_,_,⟨by rw [show (Ew K a f0 z0).cls "Shade"=a 25 from aC]; exact X.qz3,⟨_,_,(bZ X).mono (by decide),fun xs G Q q=>by rw [cC] at q; exact q⟩,by rw [show (Ew K a f0 z0).cls "Shade"=a 25 from aC]; exact X.qz2,gI hP6,by decide +kernel⟩,bK X⟩) (an)) (an),ac (ac (fun _=>⟨"Shade","!Shade.__init__",_,_,_,⟨by rw [show (Ew K a f0 z0).cls "Shade"=a 25 from aC]; exact X.qz3,⟨_,_,(bZ X).mono (by decide),fun xs G Q q=>by rw [cC] at q; exact q⟩,by rw [show (Ew K a f0 z0).cls "Shade"=a 25 from aC]; exact X.qz2,gI hP6,by decide +kernel⟩,dB X⟩) (an)) (an),an⟩
theorem xV (X:Tx K mg a d v):Gf P w K mg base (Ew K a f0 z0) (T y) 2 C_l_tried.inH :=
  ⟨ac (eT X (by decide)) (an),an,an,an,ac (by rw [fG]; exact jZ X.qz2 aC) (an),an,an,an,an,an,an,an,an,an,an,an,an,an,an,an,an⟩
theorem xR (X:Tx K mg a d v):LP K mg (Ew K a f0 z0) C_l_tried.cat C_l_tried.cln:=⟨[a 51],ac (X.qz32) (an),rfl,ac (X.co_ShadeError) (an),X.qz35,ac (by rw [show (Ew K a f0 z0).cls "NoShade"=a 43 from aA]; exact X.sc_NoShade_ShadeError) (an)⟩
theorem zG (X:Tx K mg a d v):FO P w K mg base a d 50 19 f0 z0 y ["_law_way","_law_row"] "_law_tried":=by
  rw [FO,rW]; exact dF (T:=T y) X.qO BG (ck X) (zB X) BJ (xo X) (⟨fun _ x f z=>wT (f0:=f) (z0:=z) (y:=x) X,fun _=>xR X,(fun _ _=>⟨2,by decide,by decide,xV X⟩)⟩) rfl (fun _=>by decide) (fun z=>by cases z) (by walk_at "sl") (vA hP6 (fun x=>(hP6:P6 (T x))) hL6)
theorem BN (X:Tx K mg a d v):Gf P w K mg base (Ew K a f0 z0) (T y) 50 C_l_right :=
  ⟨ac (⟨_,_,_,⟨(yB X).mono (by decide),X.qD,X.qC.kp,by decide +kernel⟩,DD X⟩) (ac (jC X (by decide)) (ac (⟨_,_,_,⟨(zG X).mono (by decide),X.qP,X.qO.kp,by decide +kernel⟩,FS X⟩) (an))),an,an,an,an,ac (⟨X.qz42,⟨"bool",PyProof.Rows.boot_bool,AE⟩,by decide +kernel⟩) (ac (⟨X.qz45,⟨"int",PyProof.Rows.boot_int,BW⟩,by decide +kernel⟩) (an)),ac (X.qz45) (ac (X.qz46) (ac (X.qz51) (an))),an,an,an,an,an,an,an,an,an,an,an,an,an,an⟩
theorem yX (X:Tx K mg a d v):FO P w K mg base a d 52 20 f0 z0 y ["_law_purse_here","_law_row"] "_law_right":=by
  rw [FO,sB]; exact dF (T:=T y) X.qQ AI (ck X) (BN X) yZ (xo X) (Tf.no rfl) rfl (fun _=>by decide) (fun z=>by cases z) (by walk_at "sl") (uC hP6 hLT hL6)
theorem HY (X:Tx K mg a d v):Gf P w K mg base (Ew K a f0 z0) (T y) 40 C_l_low :=
  ⟨an,an,an,an,an,an,ac (X.qz41) (an),an,an,an,an,an,an,an,an,an,an,an,an,an,an⟩
theorem IV (X:Tx K mg a d v):FO P w K mg base a d 42 21 f0 z0 y ["_law_top","_law_bottom"] "_law_low":=by
  rw [FO,CA]; exact dF (T:=T y) X.qS NA (ck X) (HY X) LO (xo X) (Tf.no rfl) rfl (fun _=>by decide) (fun z=>by cases z) (by walk_at "sl") (VU )
theorem BU (X:Tx K mg a d v):Gf P w K mg base (Ew K a f0 z0) (T y) 42 C_l_share :=
  ⟨ac (⟨_,_,_,⟨(IV X).mono (by decide),X.qT,X.qS.kp,by decide +kernel⟩,WD X⟩) (ac (jC X (by decide)) (an)),an,an,an,an,an,an,an,an,an,an,an,an,an,an,an,an,an,an,an,an⟩
theorem AW (X:Tx K mg a d v):FO P w K mg base a d 44 22 f0 z0 y ["_law_purse_here"] "_law_share":=by
  rw [FO,sW]; exact dF (T:=T y) X.qU AT (ck X) (BU X) AC (xo X) (Tf.no rfl) rfl (fun _=>by decide) (fun z=>by cases z) (by walk_at "sl") (ES hLT)
theorem yD (X:Tx K mg a d v):Gf P w K mg base (Ew K a f0 z0) (T y) 44 C_l_shares :=
  ⟨ac (jC X (by decide)) (ac (⟨_,_,_,⟨(AW X).mono (by decide),X.qV,X.qU.kp,by decide +kernel⟩,GR X⟩) (an)),an,an,an,an,ac (⟨X.qz53,⟨"tuple",PyProof.Rows.boot_tuple,tX⟩,by decide +kernel⟩) (an),ac (X.qz51) (ac (X.qz53) (an)),an,an,an,an,an,an,an,an,an,an,an,an,an,an⟩
theorem xH (X:Tx K mg a d v):FO P w K mg base a d 46 23 f0 z0 y ["_law_purse_here"] "_law_shares":=by
  rw [FO,oJ]; exact dF (T:=T y) X.qW xW (ck X) (yD X) yK (xo X) (Tf.no rfl) rfl (fun _=>by decide) (fun z=>by cases z) (by walk_at "sl") (rB hLT)
theorem aCg (X:Tx K mg a d v):Gf P w K mg base (Ew K a f0 z0) (T y) 52 C_law :=
  ⟨ac (⟨_,_,_,⟨(HP X).mono (by decide),X.qm,X.ql.kp,by decide +kernel⟩,MC X⟩) (ac (⟨_,_,_,⟨(lH X).mono (by decide),X.qL,X.qK.kp,by decide +kernel⟩,lU X⟩) (ac (⟨_,_,_,⟨(BL X).mono (by decide),X.qN,X.qM.kp,by decide +kernel⟩,EF X⟩) (ac (⟨_,_,_,⟨(yX X).mono (by decide),X.qR,X.qQ.kp,by decide +kernel⟩,HG X⟩) (ac (⟨_,_,_,⟨(xH X).mono (by decide),X.qX,X.qW.kp,by decide +kernel⟩,AD X⟩) (ac (⟨_,_,_,⟨(hZ X).mono (by decide),X.qr,X.qq.kp,by decide +kernel⟩,kD X⟩) (ac (eP X (by decide)) (an))))))),ac (⟨"Shade","Shade.__init__",_,_,_,⟨by rw [show (Ew K a f0 z0).cls "Shade"=a 25 from aC]; exact X.qz3,(aP X).mono (by decide),by rw [show (Ew K a f0 z0).cls "Shade"=a 25 from aC]; exact X.qz2,bO hP6,by decide +kernel⟩,bH X⟩) (an),an,an,ac (by rw [fG]; exact jZ X.qz2 aC) (an),an,ac (X.qz47) (ac (X.qz49) (ac (X.qz50) (ac (X.qz51) (an)))),an,an,an,an,an,an,an,an,an,an,an,an,an,an⟩
theorem aBk (X:Tx K mg a d v):FO P w K mg base a d 54 24 f0 z0 y ["_law_script"] "law":=by
  rw [FO,YL]; exact dF (T:=T y) X.qY aC6 (ck X) (aCg X) aC4 (xo X) (Tf.no rfl) rfl (fun _=>by decide) (fun z=>by cases z) (by walk_at "sl") (aD8 hP6 hLT hL6)
noncomputable abbrev zA (K:W.Frag) (x:Str) (f:Addr):Prop:=W.nsIn K mainGlobals x=some (some (.ref f))
noncomputable abbrev zL (K:W.Frag) (f:Addr) (x y:Str) (s:Stmt) (d m c:Value):Prop:=K.lookup f=some ⟨.type "function",none,.func (fX x y s d m c), #[]⟩
noncomputable abbrev zC (K:W.Frag) (c:Value) (x:Str):Prop:=W.codeIn K c x=true
noncomputable abbrev zK (K:W.Frag) (f:Addr):Prop:=W.keepIn K (.ref f)=true
theorem aBf {l:W.OpenLaw} {w:World} {K:W.Frag} {h:Heap} {mg:Str→Option Value} {fa:Addr} {f0 f1 f2 f3 f4 f5 f6 f7 f8 f9 f10 f11 f12 f13 f14 f15 f16 f17 f18 f19 f20 f21 f22 f23 f24:Addr} {pm0 cd0 pm1 cd1 pm2 cd2 pm3 cd3 pm4 cd4 pm5 cd5 pm6 cd6 pm7 cd7 pm8 cd8 pm9 cd9 pm10 cd10 pm11 cd11 pm12 cd12 pm13 cd13 pm14 cd14 pm15 cd15 pm16 cd16 pm17 cd17 pm18 cd18 pm19 cd19 pm20 cd20 pm21 cd21 pm22 cd22 pm23 cd23 pm24 cd24:Value} (X:K.In h) (G:h.Ns mainGlobals mg) (hfa:mg "law"=some (.ref fa))
    {C_Shade:Addr} (u1:zA K "Shade" C_Shade) (u2:W.plainGet K C_Shade Str.empty=true) (u3:W.hasDictIn K C_Shade=true) (u4:W.plainOver K C_Shade=true) (u5:W.findIn K (.ref C_Shade) "__setattr__"=some (some (.builtin "object.__setattr__"))) (u6:W.makesIn K C_Shade=true) (u7:zK K C_Shade)
    (u8:W.findIn K (.ref C_Shade) "__class__"=some (some (.builtin "object.__class__"))) (u9:W.specialIn K (.builtin "object.__class__") "__get__"=some (some (.builtin "getset_descriptor.__get__"))) (ua:W.takesIn K (.builtin "object.__class__")=some true) (ub:W.mroIn K C_Shade (.type "object")=some true)
    (uc:W.findIn K (.ref C_Shade) "__ne__"=some (some (.builtin "object.__ne__"))) (ud:W.subIn K (.ref C_Shade) (.type "object")=some true) (ue:W.findIn K (.ref C_Shade) "__bool__"=some none)
    {CX_BookError:Addr} (uf:zA K "BookError" CX_BookError)
    {CX_BookFull:Addr} (u10:zA K "BookFull" CX_BookFull)
    {CX_EmptyMix:Addr} (u11:zA K "EmptyMix" CX_EmptyMix)
    {CX_MixError:Addr} (u12:zA K "MixError" CX_MixError)
    {CX_NameStands:Addr} (u13:zA K "NameStands" CX_NameStands)
    {CX_NoBack:Addr} (u14:zA K "NoBack" CX_NoBack)
    {CX_NoBlend:Addr} (u15:zA K "NoBlend" CX_NoBlend)
    {CX_NoDeed:Addr} (u16:zA K "NoDeed" CX_NoDeed)
    {CX_NoEye:Addr} (u17:zA K "NoEye" CX_NoEye)
    {CX_NoGrade:Addr} (u18:zA K "NoGrade" CX_NoGrade)
    {CX_NoLights:Addr} (u19:zA K "NoLights" CX_NoLights)
    {CX_NoLimit:Addr} (u1a:zA K "NoLimit" CX_NoLimit)
    {CX_NoName:Addr} (u1b:zA K "NoName" CX_NoName)
    {CX_NoNumber:Addr} (u1c:zA K "NoNumber" CX_NoNumber)
    {CX_NoPart:Addr} (u1d:zA K "NoPart" CX_NoPart)
    {CX_NoPlace:Addr} (u1e:zA K "NoPlace" CX_NoPlace)
    {CX_NoRow:Addr} (u1f:zA K "NoRow" CX_NoRow)
    {CX_NoShade:Addr} (u20:zA K "NoShade" CX_NoShade)
    {CX_NoStep:Addr} (u21:zA K "NoStep" CX_NoStep)
    {CX_NoText:Addr} (u22:zA K "NoText" CX_NoText)
    {CX_NoTurn:Addr} (u23:zA K "NoTurn" CX_NoTurn)
    {CX_NoWay:Addr} (u24:zA K "NoWay" CX_NoWay)
    {CX_NoWeight:Addr} (u25:zA K "NoWeight" CX_NoWeight)
    {CX_NoWeights:Addr} (u26:zA K "NoWeights" CX_NoWeights)
    {CX_NoWord:Addr} (u27:zA K "NoWord" CX_NoWord)
    {CX_ShadeError:Addr} (u28:zA K "ShadeError" CX_ShadeError)
    (u29:LX.tW K CX_NoShade [.type "ValueError",.type "Exception",.type "BaseException",.type "object"] "ValueError.__new__" (some (.ref f4))=true) (u2a:W.readsIn K CX_ShadeError (.type "type")=true) (u2b:W.findCls K (.ref CX_ShadeError) (.type "type") "__init__"=some (.val (.builtin "ValueError.__init__"))) (u2c:W.specialIn K (.ref CX_ShadeError) "__getattribute__"=some (some (.builtin "type.__getattribute__"))) (u2d:W.handedIn (.builtin "ValueError.__init__")=true)
    (u2e:W.findIn K (.ref CX_NoShade) "__setattr__"=some (some (.builtin "object.__setattr__"))) (u2f:LX.eS K CX_NoShade=true) (u30:W.takerIn K CX_NoShade "light"=some none) (u31:W.hasDictIn K CX_NoShade=true) (u32:zK K CX_NoShade) (u33:W.isFn K (.ref f4)=true)
    (u34:W.findIn K (.ref CX_NoShade) "__getattribute__"=some (some (.builtin "BaseException.__getattribute__"))) (u35:W.findIn K (.ref CX_NoShade) "__getattr__"=some none) (u36:LX.eS K CX_NoShade=true) (u37:W.hasDictIn K CX_NoShade=true) (u38:W.findIn K (.ref CX_NoShade) "__class__"=some (some (.builtin "object.__class__"))) (u39:W.specialIn K (.builtin "object.__class__") "__get__"=some (some (.builtin "getset_descriptor.__get__"))) (u3a:W.takesIn K (.builtin "object.__class__")=some true) (u3b:W.mroIn K CX_NoShade (.type "object")=some true)
    (u3c:W.kitOne K (.ref CX_NoShade) (.ref CX_NoNumber)=some false)
    (u3d:W.kitOne K (.ref CX_NoShade) (.ref CX_NoShade)=some true)
    (u3e:W.kitOne K (.ref CX_NoShade) (.ref CX_NoPart)=some false)
    (u3f:W.kitOne K (.ref CX_NoShade) (.ref CX_NoDeed)=some false)
    (u40:W.kitOne K (.ref CX_NoShade) (.ref CX_NoTurn)=some false)
    (u41:W.kitOne K (.ref CX_NoShade) (.ref CX_NoWay)=some false)
    (u42:W.kitOne K (.ref CX_NoShade) (.ref CX_NoText)=some false)
    (u43:W.kitOne K (.ref CX_NoShade) (.ref CX_NoGrade)=some false)
    (u44:W.kitOne K (.ref CX_NoShade) (.ref CX_NoStep)=some false)
    (u45:W.kitOne K (.ref CX_NoShade) (.ref CX_NoEye)=some false)
    (u46:W.kitOne K (.ref CX_NoShade) (.ref CX_NoLimit)=some false)
    (u47:W.kitOne K (.ref CX_NoShade) (.ref CX_NoPlace)=some false)
    (u48:W.kitOne K (.ref CX_NoShade) (.ref CX_NoLights)=some false)
    (u49:W.kitOne K (.ref CX_NoShade) (.ref CX_NoRow)=some false)
    (u4a:W.kitOne K (.ref CX_NoShade) (.ref CX_NoWeights)=some false)
    (u4b:W.kitOne K (.ref CX_NoShade) (.ref CX_NoWeight)=some false)
    (u4c:W.kitOne K (.ref CX_NoShade) (.ref CX_EmptyMix)=some false)
    (u4d:W.kitOne K (.ref CX_NoShade) (.ref CX_NoBlend)=some false)
    (u4e:W.kitOne K (.ref CX_NoShade) (.ref CX_NoWord)=some false)
    (u4f:W.kitOne K (.ref CX_NoShade) (.ref CX_NoName)=some false)
    (u50:W.kitOne K (.ref CX_NoShade) (.ref CX_NameStands)=some false)
    (u51:W.kitOne K (.ref CX_NoShade) (.ref CX_BookFull)=some false)
    (u52:W.kitOne K (.ref CX_NoShade) (.ref CX_NoBack)=some false)
    (u53:W.kitOne K (.ref CX_NoShade) (.ref CX_ShadeError)=some true)
    (u54:W.kitOne K (.ref CX_NoShade) (.ref CX_MixError)=some false)
    (u55:W.kitOne K (.ref CX_NoShade) (.ref CX_BookError)=some false)
    (u56:W.kitOne K (.ref CX_NoShade) (.type "ValueError")=some true)
    (u57:W.kitOne K (.ref CX_NoShade) (.type "ArithmeticError")=some false)
    (u58:W.kitOne K (.ref CX_NoShade) (.type "LookupError")=some false)
    (u59:W.findIn K (.ref CX_NoShade) "light"=some none)
    (u5a:LX.jO K CX_ShadeError=true) (u5b:W.typeIn K (.ref CX_ShadeError)=some (.type "type"))
    (u5c:W.subIn K (.type "type") (.type "tuple")=some false)
    (u5d:LX.iC K CX_NoShade [CX_ShadeError]=some true)
    (u5e:W.kitOne K (.type "NoneType") (.ref C_Shade)=some false)
    (u5f:W.kitOne K (.type "bool") (.ref C_Shade)=some false)
    (u60:W.kitOne K (.type "int") (.ref C_Shade)=some false)
    (u61:W.kitOne K (.type "str") (.ref C_Shade)=some false)
    (u62:W.kitOne K (.type "list") (.ref C_Shade)=some false)
    (u63:W.kitOne K (.type "tuple") (.ref C_Shade)=some false)
    (u64:W.kitOne K (.type "dict") (.ref C_Shade)=some false)
    (u65:W.kitOne K (.ref C_Shade) (.type "int")=some false)
    (u66:W.kitOne K (.ref C_Shade) (.type "bool")=some false)
    (u67:W.kitOne K (.ref C_Shade) (.type "tuple")=some false)
    (u68:W.kitOne K (.ref C_Shade) (.type "str")=some false)
    (u69:W.kitOne K (.ref C_Shade) (.type "list")=some false)
    (u6a:W.kitOne K (.ref C_Shade) (.type "dict")=some false)
    (u6b:W.findIn K (.ref C_Shade) "ember"=some none)
    (u6c:W.findIn K (.ref C_Shade) "leaf"=some none)
    (u6d:W.findIn K (.ref C_Shade) "sky"=some none)
    {tk_PIECE:Tok} (u6e:W.nsIn K mainGlobals "PIECE"=some (some (.int 10000000000000000000000000000000000000000000000000000000000000000 tk_PIECE)))
    {tk_PIECE_FIGURES:Tok} (u6f:W.nsIn K mainGlobals "PIECE_FIGURES"=some (some (.int 64 tk_PIECE_FIGURES)))
    (a0:zA K "common" f0)
    (l0:zL K f0 "common" "common" dS .none pm0 cd0) (c0:zC K cd0 "common") (k0:zK K f0)
    (a1:zA K "is_whole" f1)
    (l1:zL K f1 "is_whole" "is_whole" bW .none pm1 cd1) (c1:zC K cd1 "is_whole") (k1:zK K f1)
    (a2:zA K "is_fraction" f2)
    (l2:zL K f2 "is_fraction" "is_fraction" aZ .none pm2 cd2) (c2:zC K cd2 "is_fraction") (k2:zK K f2)
    (a3:zA K "is_share" f3)
    (l3:zL K f3 "is_share" "is_share" bY .none pm3 cd3) (c3:zC K cd3 "is_share") (k3:zK K f3)
    (l4:zL K f4 "__init__" "NoShade.__init__" aX .none pm4 cd4) (c4:zC K cd4 "NoShade.__init__") (k4:zK K f4)
    (a5:W.findIn K (.ref C_Shade) "__init__"=some (some (.ref f5))) (i5:W.isFn K (.ref f5)=true)
    (l5:zL K f5 "__init__" "Shade.__init__" aT .none pm5 cd5) (c5:zC K cd5 "Shade.__init__") (k5:zK K f5)
    (a6:zA K "_law_cell" f6)
    (l6:zL K f6 "_law_cell" "_law_cell" dQ .none pm6 cd6) (c6:zC K cd6 "_law_cell") (k6:zK K f6)
    (a7:zA K "_law_sort" f7)
    (l7:zL K f7 "_law_sort" "_law_sort" dU .none pm7 cd7) (c7:zC K cd7 "_law_sort") (k7:zK K f7)
    (a8:zA K "is_shade" f8)
    (l8:zL K f8 "is_shade" "is_shade" bU .none pm8 cd8) (c8:zC K cd8 "is_shade") (k8:zK K f8)
    (a9:zA K "need_shade" f9)
    (l9:zL K f9 "need_shade" "need_shade" bG .none pm9 cd9) (c9:zC K cd9 "need_shade") (k9:zK K f9)
    (a10:zA K "shares_of" f10)
    (l10:zL K f10 "shares_of" "shares_of" bN .none pm10 cd10) (c10:zC K cd10 "shares_of") (k10:zK K f10)
    (a11:zA K "_law_asked" f11)
    (l11:zL K f11 "_law_asked" "_law_asked" cU .none pm11 cd11) (c11:zC K cd11 "_law_asked") (k11:zK K f11)
    (a12:zA K "_law_pick" f12)
    (l12:zL K f12 "_law_pick" "_law_pick" dR .none pm12 cd12) (c12:zC K cd12 "_law_pick") (k12:zK K f12)
    (a13:zA K "_law_bad" f13)
    (l13:zL K f13 "_law_bad" "_law_bad" eO .none pm13 cd13) (c13:zC K cd13 "_law_bad") (k13:zK K f13)
    (a14:zA K "figures" f14)
    (l14:zL K f14 "figures" "figures" cX .none pm14 cd14) (c14:zC K cd14 "figures") (k14:zK K f14)
    (a15:zA K "written" f15)
    (l15:zL K f15 "written" "written" cP .none pm15 cd15) (c15:zC K cd15 "written") (k15:zK K f15)
    (a16:W.findIn K (.ref C_Shade) "__str__"=some (some (.ref f16))) (i16:W.isFn K (.ref f16)=true)
    (l16:zL K f16 "__str__" "Shade.__str__" aV .none pm16 cd16) (c16:zC K cd16 "Shade.__str__") (k16:zK K f16)
    (a17:zA K "_law_others_right" f17)
    (l17:zL K f17 "_law_others_right" "_law_others_right" aS .none pm17 cd17) (c17:zC K cd17 "_law_others_right") (k17:zK K f17)
    (a18:zA K "_law_purse" f18)
    (l18:zL K f18 "_law_purse" "_law_purse" cR .none pm18 cd18) (c18:zC K cd18 "_law_purse") (k18:zK K f18)
    (a19:zA K "_law_tried" f19)
    (l19:zL K f19 "_law_tried" "_law_tried" cQ .none pm19 cd19) (c19:zC K cd19 "_law_tried") (k19:zK K f19)
    (a20:zA K "_law_right" f20)
    (l20:zL K f20 "_law_right" "_law_right" cY .none pm20 cd20) (c20:zC K cd20 "_law_right") (k20:zK K f20)
    (a21:zA K "_law_low" f21)
    (l21:zL K f21 "_law_low" "_law_low" eR .none pm21 cd21) (c21:zC K cd21 "_law_low") (k21:zK K f21)
    (a22:zA K "_law_share" f22)
    (l22:zL K f22 "_law_share" "_law_share" cV .none pm22 cd22) (c22:zC K cd22 "_law_share") (k22:zK K f22)
    (a23:zA K "_law_shares" f23)
    (l23:zL K f23 "_law_shares" "_law_shares" bV .none pm23 cd23) (c23:zC K cd23 "_law_shares") (k23:zK K f23)
    (a24:zA K "law" f24)
    (l24:zL K f24 "law" "law" iL .none pm24 cd24) (c24:zC K cd24 "law") (k24:zK K f24)
    (u70:W.nsIn K mainGlobals "ArithmeticError"=some none)
    (u71:W.nsIn K mainGlobals "LookupError"=some none)
    (u72:W.nsIn K mainGlobals "ValueError"=some none)
    (u73:W.nsIn K mainGlobals "abs"=some none)
    (u74:W.nsIn K mainGlobals "bool"=some none)
    (u75:W.nsIn K mainGlobals "divmod"=some none)
    (u76:W.nsIn K mainGlobals "enumerate"=some none)
    (u77:W.nsIn K mainGlobals "int"=some none)
    (u78:W.nsIn K mainGlobals "isinstance"=some none)
    (u79:W.nsIn K mainGlobals "len"=some none)
    (u7a:W.nsIn K mainGlobals "list"=some none)
    (u7b:W.nsIn K mainGlobals "max"=some none)
    (u7c:W.nsIn K mainGlobals "min"=some none)
    (u7d:W.nsIn K mainGlobals "range"=some none)
    (u7e:W.nsIn K mainGlobals "str"=some none)
    (u7f:W.nsIn K mainGlobals "tuple"=some none)
    :∃ fd:FuncData,(∀ (s:Shared) (v:Value),BindsTo s fd ⟨[v],[]⟩ [("_law_script",v)])∧∀ base:Heap,K.In base→base.Ns mainGlobals mg→bL l.prog w K mg base CX0 54 fa fd ["_law_script"] (DR K):=by
  have e:=hfa.symm.trans (W.mg_of X G a24)
  have e2:f24=fa:=by injection e with e; injection e with e; exact e.symm
  subst e2
  have T:Tx K mg (fun i=>([f0,f1,f2,f3,f4,f5,f6,f7,f8,f9,f10,f11,f12,f13,f14,f15,f16,f17,f18,f19,f20,f21,f22,f23,f24,C_Shade,CX_BookError,CX_BookFull,CX_EmptyMix,CX_MixError,CX_NameStands,CX_NoBack,CX_NoBlend,CX_NoDeed,CX_NoEye,CX_NoGrade,CX_NoLights,CX_NoLimit,CX_NoName,CX_NoNumber,CX_NoPart,CX_NoPlace,CX_NoRow,CX_NoShade,CX_NoStep,CX_NoText,CX_NoTurn,CX_NoWay,CX_NoWeight,CX_NoWeights,CX_NoWord,CX_ShadeError]:List Addr).getD i 0) (fun i=>([fX "common" "common" dS .none pm0 cd0,fX "is_whole" "is_whole" bW .none pm1 cd1,fX "is_fraction" "is_fraction" aZ .none pm2 cd2,fX "is_share" "is_share" bY .none pm3 cd3,fX "__init__" "NoShade.__init__" aX .none pm4 cd4,fX "__init__" "Shade.__init__" aT .none pm5 cd5,fX "_law_cell" "_law_cell" dQ .none pm6 cd6,fX "_law_sort" "_law_sort" dU .none pm7 cd7,fX "is_shade" "is_shade" bU .none pm8 cd8,fX "need_shade" "need_shade" bG .none pm9 cd9,fX "shares_of" "shares_of" bN .none pm10 cd10,fX "_law_asked" "_law_asked" cU .none pm11 cd11,fX "_law_pick" "_law_pick" dR .none pm12 cd12,fX "_law_bad" "_law_bad" eO .none pm13 cd13,fX "figures" "figures" cX .none pm14 cd14,fX "written" "written" cP .none pm15 cd15,fX "__str__" "Shade.__str__" aV .none pm16 cd16,fX "_law_others_right" "_law_others_right" aS .none pm17 cd17,fX "_law_purse" "_law_purse" cR .none pm18 cd18,fX "_law_tried" "_law_tried" cQ .none pm19 cd19,fX "_law_right" "_law_right" cY .none pm20 cd20,fX "_law_low" "_law_low" eR .none pm21 cd21,fX "_law_share" "_law_share" cV .none pm22 cd22,fX "_law_shares" "_law_shares" bV .none pm23 cd23,fX "law" "law" iL .none pm24 cd24]:List FuncData).getD i (fX "law" "law" iL .none pm24 cd24)) (fun i=>([.none,.none,.none,.none,.none,.none,.none,.none,.none,.none,.none,.none,.none,.none,.none,.none,.none,.none,.none,.none,.none,.none,.none,.none,.none]:List Value).getD i .none) :=
    ⟨aW (st:=dS) l0 c0 k0,
     W.mg_of X G a0,
     aW (st:=bW) l1 c1 k1,
     W.mg_of X G a1,
     aW (st:=aZ) l2 c2 k2,
     W.mg_of X G a2,
     aW (st:=bY) l3 c3 k3,
     W.mg_of X G a3,
     aW (st:=aX) l4 c4 k4,
     aW (st:=aT) l5 c5 k5,
     aW (st:=dQ) l6 c6 k6,
     W.mg_of X G a6,
     aW (st:=dU) l7 c7 k7,
     W.mg_of X G a7,
     aW (st:=bU) l8 c8 k8,
     W.mg_of X G a8,
     aW (st:=bG) l9 c9 k9,
     W.mg_of X G a9,
     aW (st:=bN) l10 c10 k10,
     W.mg_of X G a10,
     aW (st:=cU) l11 c11 k11,
     W.mg_of X G a11,
     aW (st:=dR) l12 c12 k12,
     W.mg_of X G a12,
     aW (st:=eO) l13 c13 k13,
     W.mg_of X G a13,
     aW (st:=cX) l14 c14 k14,
     W.mg_of X G a14,
     aW (st:=cP) l15 c15 k15,
     W.mg_of X G a15,
     aW (st:=aV) l16 c16 k16,
     ⟨a16,i16,k16⟩,
     aW (st:=aS) l17 c17 k17,
     W.mg_of X G a17,
     aW (st:=cR) l18 c18 k18,
     W.mg_of X G a18,
     aW (st:=cQ) l19 c19 k19,
     W.mg_of X G a19,
     aW (st:=cY) l20 c20 k20,
     W.mg_of X G a20,
     aW (st:=eR) l21 c21 k21,
     W.mg_of X G a21,
     aW (st:=cV) l22 c22 k22,
     W.mg_of X G a22,
     aW (st:=bV) l23 c23 k23,
     W.mg_of X G a23,
     aW (st:=iL) l24 c24 k24,
     W.mg_of X G a24,
     ⟨⟨u2,u3,u4,u5⟩,u8,u9,ua,ub⟩,
     W.mg_of X G u1,
     ⟨u6,a5,i5,u7⟩,
     ⟨uc,ud,ue⟩,
     ac (u5e) (ac (u5f) (ac (u60) (ac (u61) (ac (u62) (ac (u63) (ac (u64) (an))))))),
     ac (u65) (ac (u66) (ac (u67) (ac (u68) (ac (u69) (ac (u6a) (an)))))),
     u6b,
     u6c,
     u6d,
     W.mg_of X G uf,
     W.mg_of X G u10,
     W.mg_of X G u11,
     W.mg_of X G u12,
     W.mg_of X G u13,
     W.mg_of X G u14,
     W.mg_of X G u15,
     W.mg_of X G u16,
     W.mg_of X G u17,
     W.mg_of X G u18,
     W.mg_of X G u19,
     W.mg_of X G u1a,
     W.mg_of X G u1b,
     W.mg_of X G u1c,
     W.mg_of X G u1d,
     W.mg_of X G u1e,
     W.mg_of X G u1f,
     W.mg_of X G u20,
     W.mg_of X G u21,
     W.mg_of X G u22,
     W.mg_of X G u23,
     W.mg_of X G u24,
     W.mg_of X G u25,
     W.mg_of X G u26,
     W.mg_of X G u27,
     W.mg_of X G u28,
     ⟨⟨_,_,_,_,CX_ShadeError,PySem.F.excBase_ValueError,u29,W.mg_of X G u28,u2a,u2b,u2d,u2c⟩,u2e,u2f,u30,u31,u32,u33⟩,
     ⟨u34,u35,u36,u37,u38,u39,u3a,u3b⟩,
     u3c,
     u3d,
     u3e,
     u3f,
     u40,
     u41,
     u42,
     u43,
     u44,
     u45,
     u46,
     u47,
     u48,
     u49,
     u4a,
     u4b,
     u4c,
     u4d,
     u4e,
     u4f,
     u50,
     u51,
     u52,
     u53,
     u54,
     u55,
     u56,
     u57,
     u58,
     u59,
     ⟨u5a,u5b⟩,
     u5c,
     u5d,
     ⟨tk_PIECE,W.mg_of X G u6e⟩,
     ⟨tk_PIECE_FIGURES,W.mg_of X G u6f⟩,
     W.mg_none_of X G u70,
     W.mg_none_of X G u71,
     W.mg_none_of X G u72,
     W.mg_none_of X G u73,
     W.mg_none_of X G u74,
     W.mg_none_of X G u75,
     W.mg_none_of X G u76,
     W.mg_none_of X G u77,
     W.mg_none_of X G u78,
     W.mg_none_of X G u79,
     W.mg_none_of X G u7a,
     W.mg_none_of X G u7b,
     W.mg_none_of X G u7c,
     W.mg_none_of X G u7d,
     W.mg_none_of X G u7e,
     W.mg_none_of X G u7f⟩
  refine ⟨fX "law" "law" iL .none pm24 cd24,fun s v=>.of_eq rfl,fun base _ _=>?_⟩
  have ok:=aBk (P:=l.prog) (w:=w) (base:=base) (f0:=fun _=>none) (z0:=fun _=>none) (y:=fun _ _ _ _=>False) T
  unfold FO at ok
  rw [YL] at ok
  exact ok.imp fun vs H Q E h=>aAu (fun _ _ z=>nomatch z) (fun _ _ z=>z) h
theorem wsd:W.OpenLaw.wellSaid PySem.Challenge.rw_lightshares_k06_shades_refused=true:=by kernel_rfl
noncomputable abbrev hk0:W.Hook:=W.kHook K0 aK fun _=>rfl
noncomputable def mo0 (P:Params):Obj:=⟨(.type "dict"),none,.dict #[kE P "__name__" 165 zS0,kE P "__doc__" 166 .none,kE P "__package__" 167 .none,kE P "__loader__" 168 (.builtin "__main__.__loader__#opaque"),kE P "__spec__" 169 .none,kE P "__annotations__" 170 (.ref 6),kE P "__builtins__" 171 (.ref 4),kE P "__file__" 173 (.str "/claim/cut.py" 172),kE P "__cached__" 174 .none,kE P "ShadeError" 206 (.ref 24),kE P "MixError" 226 (.ref 37),kE P "BookError" 244 (.ref 50),kE P "NoNumber" 269 (.ref 70),kE P "NoShade" 294 (.ref 89),kE P "NoPart" 319 (.ref 108)] 15, #[]⟩
noncomputable def M1:Obj:=oT []
noncomputable def M2:Obj:=oL [iV 2,iV 0,.ref 20,iV 4,iV 0,.ref 33,iV 6,iV 0,.ref 46,iV 8,iV 0,.ref 59,iV 13,iV 0,.ref 78,iV 18,iV 0,.ref 97]
noncomputable def M3:Obj:=oC [.str "<module>" 182,.str "<module>" 183,fC 184,iV 1,iV 0,iV 0,iV 0,iV 0,.ref 11,.bool false,iV 181,.ref 12,.none,.none,.none,.none,iV 185,iV 1,fC 186]
noncomputable def M4:Obj:=oR 13 3 (.str "__main__" 164)
noncomputable def M5:Obj:=oT [.type "ValueError"]
noncomputable def M6:Obj:=oB "type.__prepare__" (.type "type")
noncomputable def mo7 (P:Params):Obj:=⟨(.type "dict"),none,.dict #[kE P "__module__" 196 zS0,kE P "__qualname__" 198 (.str "ShadeError" 197),kE P "__firstlineno__" 200 (.int 2 199),kE P "__static_attributes__" 201 (.ref 22)] 4, #[]⟩
noncomputable def M8:Obj:=oL []
noncomputable def M9:Obj:=oC [.str "ShadeError" 191,.str "ShadeError" 192,fC 193,iV 2,iV 0,iV 0,iV 0,iV 0,.ref 18,.bool false,iV 181,.ref 19,.none,.none,.none,.none,iV 194,iV 2,fC 195]
noncomputable def M10:Obj:=oR 20 17 zS0
noncomputable def M11:Obj:=⟨(.type "type"),none,.cls ⟨"ShadeError",[(.type "ValueError")],[(.ref 24),(.type "ValueError"),(.type "Exception"),(.type "BaseException"),(.type "object")],23,"ShadeError",true,[],[(.ref 70),(.ref 89),(.ref 108)],false,none,false⟩, #[(some (.ref 15)),none,(some (.str "ShadeError" 189)),(some (.str "ShadeError" 197)),(some (.builtin "ValueError.__new__")),(some (.bool true))]⟩
noncomputable def M12:Obj:=⟨(.type "getset_descriptor"),none,.fields #[(.str "__weakref__" 202),(.ref 24),(.builtin "ExceptionGroup.__weakref__"),.none], #[]⟩
noncomputable def M13:Obj:=oS 24
noncomputable def M14:Obj:=oB "object.__init_subclass__" (.ref 24)
noncomputable def M15:Obj:=oT [.type "ArithmeticError"]
noncomputable def EE (P:Params):Obj:=⟨(.type "dict"),none,.dict #[kE P "__module__" 214 zS0,kE P "__qualname__" 216 (.str "MixError" 215),kE P "__firstlineno__" 218 (.int 4 217),kE P "__static_attributes__" 219 (.ref 35)] 4, #[]⟩
noncomputable def M17:Obj:=oC [.str "MixError" 209,.str "MixError" 210,fC 211,iV 4,iV 0,iV 0,iV 0,iV 0,.ref 31,.bool false,iV 181,.ref 32,.none,.none,.none,.none,iV 212,iV 4,fC 213]
noncomputable def M18:Obj:=oR 33 30 zS0
noncomputable def M19:Obj:=⟨(.type "type"),none,.cls ⟨"MixError",[(.type "ArithmeticError")],[(.ref 37),(.type "ArithmeticError"),(.type "Exception"),(.type "BaseException"),(.type "object")],36,"MixError",true,[],[],false,none,false⟩, #[(some (.ref 28)),none,(some (.str "MixError" 207)),(some (.str "MixError" 215)),(some (.builtin "ArithmeticError.__new__")),(some (.bool true))]⟩
noncomputable def M20:Obj:=⟨(.type "getset_descriptor"),none,.fields #[(.str "__weakref__" 220),(.ref 37),(.builtin "ExceptionGroup.__weakref__"),.none], #[]⟩
noncomputable def M21:Obj:=oS 37
noncomputable def M22:Obj:=oB "object.__init_subclass__" (.ref 37)
noncomputable def M23:Obj:=oT [.type "LookupError"]
noncomputable def EQ (P:Params):Obj:=⟨(.type "dict"),none,.dict #[kE P "__module__" 234 zS0,kE P "__qualname__" 236 (.str "BookError" 235),kE P "__firstlineno__" 238 (.int 6 237),kE P "__static_attributes__" 239 (.ref 48)] 4, #[]⟩
noncomputable def M25:Obj:=oC [.str "BookError" 229,.str "BookError" 230,fC 231,iV 6,iV 0,iV 0,iV 0,iV 0,.ref 44,.bool false,iV 181,.ref 45,.none,.none,.none,.none,iV 232,iV 6,fC 233]
noncomputable def M26:Obj:=oR 46 43 zS0
noncomputable def M27:Obj:=⟨(.type "type"),none,.cls ⟨"BookError",[(.type "LookupError")],[(.ref 50),(.type "LookupError"),(.type "Exception"),(.type "BaseException"),(.type "object")],49,"BookError",true,[],[],false,none,false⟩, #[(some (.ref 41)),none,(some (.str "BookError" 227)),(some (.str "BookError" 235)),(some (.builtin "LookupError.__new__")),(some (.bool true))]⟩
noncomputable def M28:Obj:=⟨(.type "getset_descriptor"),none,.fields #[(.str "__weakref__" 240),(.ref 50),(.builtin "ExceptionGroup.__weakref__"),.none], #[]⟩
noncomputable def M29:Obj:=oS 50
noncomputable def M30:Obj:=oB "object.__init_subclass__" (.ref 50)
noncomputable def M31:Obj:=oT [.ref 24]
noncomputable def EC (P:Params):Obj:=⟨(.type "dict"),none,.dict #[kE P "__module__" 252 zS0,kE P "__qualname__" 254 (.str "NoNumber" 253),kE P "__firstlineno__" 256 (.int 8 255),kE P "__init__" 264 (.ref 67),kE P "__static_attributes__" 266 (.ref 68)] 5, #[]⟩
noncomputable def M33:Obj:=oL [iV 10,iV 4,.ref 66]
noncomputable def M34:Obj:=oC [.str "NoNumber" 247,.str "NoNumber" 248,fC 249,iV 8,iV 0,iV 0,iV 0,iV 0,.ref 57,.bool false,iV 181,.ref 58,.none,.none,.none,.none,iV 250,iV 8,fC 251]
noncomputable def M35:Obj:=oR 59 56 zS0
noncomputable def M36:Obj:=oT [.str "self" 260,.str "place" 261]
noncomputable def M37:Obj:=oN "__init__" "NoNumber.__init__" (aF (top 4) 0)
noncomputable def M38:Obj:=oC [.str "__init__" 257,.str "NoNumber.__init__" 258,fC 259,iV 10,iV 2,iV 0,iV 0,iV 3,.ref 61,.bool true,iV 181,.ref 62,.none,.ref 63,.ref 64,.ref 65,iV 262,iV 10,fC 263]
noncomputable def M39:Obj:=oF "__init__" "NoNumber.__init__" (aF (top 4) 0) .none zS0 66
noncomputable def M40:Obj:=oT [.str "place" 265]
noncomputable def M41:Obj:=oS 70
noncomputable def M42:Obj:=oB "object.__init_subclass__" (.ref 70)
noncomputable def FW (P:Params):Obj:=⟨(.type "dict"),none,.dict #[kE P "__module__" 277 zS0,kE P "__qualname__" 279 (.str "NoShade" 278),kE P "__firstlineno__" 281 (.int 13 280),kE P "__init__" 289 (.ref 86),kE P "__static_attributes__" 291 (.ref 87)] 5, #[]⟩
noncomputable def M44:Obj:=oL [iV 15,iV 4,.ref 85]
noncomputable def M45:Obj:=oC [.str "NoShade" 272,.str "NoShade" 273,fC 274,iV 13,iV 0,iV 0,iV 0,iV 0,.ref 76,.bool false,iV 181,.ref 77,.none,.none,.none,.none,iV 275,iV 13,fC 276]
noncomputable def M46:Obj:=oR 78 75 zS0
noncomputable def M47:Obj:=oT [.str "self" 285,.str "light" 286]
noncomputable def M48:Obj:=oN "__init__" "NoShade.__init__" aX
noncomputable def M49:Obj:=oT [.str "light" 290]
noncomputable def M50:Obj:=oS 89
noncomputable def M51:Obj:=oB "object.__init_subclass__" (.ref 89)
noncomputable def FH (P:Params):Obj:=⟨(.type "dict"),none,.dict #[kE P "__module__" 302 zS0,kE P "__qualname__" 304 (.str "NoPart" 303),kE P "__firstlineno__" 306 (.int 18 305),kE P "__init__" 314 (.ref 105),kE P "__static_attributes__" 316 (.ref 106)] 5, #[]⟩
noncomputable def M53:Obj:=oL [iV 20,iV 4,.ref 104]
noncomputable def M54:Obj:=oC [.str "NoPart" 297,.str "NoPart" 298,fC 299,iV 18,iV 0,iV 0,iV 0,iV 0,.ref 95,.bool false,iV 181,.ref 96,.none,.none,.none,.none,iV 300,iV 18,fC 301]
noncomputable def M55:Obj:=oR 97 94 zS0
noncomputable def M56:Obj:=oT [.str "self" 310,.str "part" 311]
noncomputable def M57:Obj:=oN "__init__" "NoPart.__init__" (aF (top 6) 0)
noncomputable def M58:Obj:=oC [.str "__init__" 307,.str "NoPart.__init__" 308,fC 309,iV 20,iV 2,iV 0,iV 0,iV 3,.ref 99,.bool true,iV 181,.ref 100,.none,.ref 101,.ref 102,.ref 103,iV 312,iV 20,fC 313]
noncomputable def M59:Obj:=oF "__init__" "NoPart.__init__" (aF (top 6) 0) .none zS0 104
noncomputable def M60:Obj:=oT [.str "part" 315]
noncomputable def M61:Obj:=oS 108
noncomputable def M62:Obj:=oB "object.__init_subclass__" (.ref 108)
noncomputable def aHI (P:Params):Obj:=⟨(.type "dict"),none,.dict #[kE P "__name__" 165 zS0,kE P "__doc__" 166 .none,kE P "__package__" 167 .none,kE P "__loader__" 168 (.builtin "__main__.__loader__#opaque"),kE P "__spec__" 169 .none,kE P "__annotations__" 170 (.ref 6),kE P "__builtins__" 171 (.ref 4),kE P "__file__" 173 (.str "/claim/cut.py" 172),kE P "__cached__" 174 .none,kE P "ShadeError" 206 (.ref 24),kE P "MixError" 226 (.ref 37),kE P "BookError" 244 (.ref 50),kE P "NoNumber" 269 (.ref 70),kE P "NoShade" 294 (.ref 89),kE P "NoPart" 319 (.ref 108),kE P "NoDeed" 344 (.ref 127),kE P "NoTurn" 369 (.ref 146),kE P "NoWay" 394 (.ref 165),kE P "NoText" 419 (.ref 184),kE P "NoGrade" 444 (.ref 203)] 20, #[]⟩
noncomputable def M64:Obj:=oL [iV 2,iV 0,.ref 20,iV 4,iV 0,.ref 33,iV 6,iV 0,.ref 46,iV 8,iV 0,.ref 59,iV 13,iV 0,.ref 78,iV 18,iV 0,.ref 97,iV 23,iV 0,.ref 116,iV 28,iV 0,.ref 135,iV 33,iV 0,.ref 154,iV 38,iV 0,.ref 173,iV 43,iV 0,.ref 192]
noncomputable def M65:Obj:=⟨(.type "type"),none,.cls ⟨"ShadeError",[(.type "ValueError")],[(.ref 24),(.type "ValueError"),(.type "Exception"),(.type "BaseException"),(.type "object")],23,"ShadeError",true,[],[(.ref 70),(.ref 89),(.ref 108),(.ref 127),(.ref 146),(.ref 165),(.ref 184),(.ref 203)],false,none,false⟩, #[(some (.ref 15)),none,(some (.str "ShadeError" 189)),(some (.str "ShadeError" 197)),(some (.builtin "ValueError.__new__")),(some (.bool true))]⟩
noncomputable def MS (P:Params):Obj:=⟨(.type "dict"),none,.dict #[kE P "__module__" 327 zS0,kE P "__qualname__" 329 (.str "NoDeed" 328),kE P "__firstlineno__" 331 (.int 23 330),kE P "__init__" 339 (.ref 124),kE P "__static_attributes__" 341 (.ref 125)] 5, #[]⟩
noncomputable def M67:Obj:=oL [iV 25,iV 4,.ref 123]
noncomputable def M68:Obj:=oC [.str "NoDeed" 322,.str "NoDeed" 323,fC 324,iV 23,iV 0,iV 0,iV 0,iV 0,.ref 114,.bool false,iV 181,.ref 115,.none,.none,.none,.none,iV 325,iV 23,fC 326]
noncomputable def M69:Obj:=oR 116 113 zS0
noncomputable def M70:Obj:=oT [.str "self" 335,.str "place" 336]
noncomputable def M71:Obj:=oN "__init__" "NoDeed.__init__" (aF (top 7) 0)
noncomputable def M72:Obj:=oC [.str "__init__" 332,.str "NoDeed.__init__" 333,fC 334,iV 25,iV 2,iV 0,iV 0,iV 3,.ref 118,.bool true,iV 181,.ref 119,.none,.ref 120,.ref 121,.ref 122,iV 337,iV 25,fC 338]
noncomputable def M73:Obj:=oF "__init__" "NoDeed.__init__" (aF (top 7) 0) .none zS0 123
noncomputable def M74:Obj:=oT [.str "place" 340]
noncomputable def M75:Obj:=oS 127
noncomputable def M76:Obj:=oB "object.__init_subclass__" (.ref 127)
noncomputable def LK (P:Params):Obj:=⟨(.type "dict"),none,.dict #[kE P "__module__" 352 zS0,kE P "__qualname__" 354 (.str "NoTurn" 353),kE P "__firstlineno__" 356 (.int 28 355),kE P "__init__" 364 (.ref 143),kE P "__static_attributes__" 366 (.ref 144)] 5, #[]⟩
noncomputable def M78:Obj:=oL [iV 30,iV 4,.ref 142]
noncomputable def M79:Obj:=oC [.str "NoTurn" 347,.str "NoTurn" 348,fC 349,iV 28,iV 0,iV 0,iV 0,iV 0,.ref 133,.bool false,iV 181,.ref 134,.none,.none,.none,.none,iV 350,iV 28,fC 351]
noncomputable def M80:Obj:=oR 135 132 zS0
noncomputable def M81:Obj:=oT [.str "self" 360,.str "part" 361]
noncomputable def M82:Obj:=oN "__init__" "NoTurn.__init__" (aF (top 8) 0)
noncomputable def M83:Obj:=oC [.str "__init__" 357,.str "NoTurn.__init__" 358,fC 359,iV 30,iV 2,iV 0,iV 0,iV 3,.ref 137,.bool true,iV 181,.ref 138,.none,.ref 139,.ref 140,.ref 141,iV 362,iV 30,fC 363]
noncomputable def M84:Obj:=oF "__init__" "NoTurn.__init__" (aF (top 8) 0) .none zS0 142
noncomputable def M85:Obj:=oT [.str "part" 365]
noncomputable def M86:Obj:=oS 146
noncomputable def M87:Obj:=oB "object.__init_subclass__" (.ref 146)
noncomputable def PH (P:Params):Obj:=⟨(.type "dict"),none,.dict #[kE P "__module__" 377 zS0,kE P "__qualname__" 379 (.str "NoWay" 378),kE P "__firstlineno__" 381 (.int 33 380),kE P "__init__" 389 (.ref 162),kE P "__static_attributes__" 391 (.ref 163)] 5, #[]⟩
noncomputable def M89:Obj:=oL [iV 35,iV 4,.ref 161]
noncomputable def M90:Obj:=oC [.str "NoWay" 372,.str "NoWay" 373,fC 374,iV 33,iV 0,iV 0,iV 0,iV 0,.ref 152,.bool false,iV 181,.ref 153,.none,.none,.none,.none,iV 375,iV 33,fC 376]
noncomputable def M91:Obj:=oR 154 151 zS0
noncomputable def M92:Obj:=oT [.str "self" 385,.str "way" 386]
noncomputable def M93:Obj:=oN "__init__" "NoWay.__init__" (aF (top 9) 0)
noncomputable def M94:Obj:=oC [.str "__init__" 382,.str "NoWay.__init__" 383,fC 384,iV 35,iV 2,iV 0,iV 0,iV 3,.ref 156,.bool true,iV 181,.ref 157,.none,.ref 158,.ref 159,.ref 160,iV 387,iV 35,fC 388]
noncomputable def M95:Obj:=oF "__init__" "NoWay.__init__" (aF (top 9) 0) .none zS0 161
noncomputable def M96:Obj:=oT [.str "way" 390]
noncomputable def M97:Obj:=oS 165
noncomputable def M98:Obj:=oB "object.__init_subclass__" (.ref 165)
noncomputable def IT (P:Params):Obj:=⟨(.type "dict"),none,.dict #[kE P "__module__" 402 zS0,kE P "__qualname__" 404 (.str "NoText" 403),kE P "__firstlineno__" 406 (.int 38 405),kE P "__init__" 414 (.ref 181),kE P "__static_attributes__" 416 (.ref 182)] 5, #[]⟩
noncomputable def NR:Obj:=oL [iV 40,iV 4,.ref 180]
noncomputable def LG:Obj:=oC [.str "NoText" 397,.str "NoText" 398,fC 399,iV 38,iV 0,iV 0,iV 0,iV 0,.ref 171,.bool false,iV 181,.ref 172,.none,.none,.none,.none,iV 400,iV 38,fC 401]
noncomputable def NT:Obj:=oR 173 170 zS0
noncomputable def PC:Obj:=oT [.str "self" 410,.str "row" 411]
noncomputable def MI:Obj:=oN "__init__" "NoText.__init__" (aF (top 10) 0)
noncomputable def HV:Obj:=oC [.str "__init__" 407,.str "NoText.__init__" 408,fC 409,iV 40,iV 2,iV 0,iV 0,iV 3,.ref 175,.bool true,iV 181,.ref 176,.none,.ref 177,.ref 178,.ref 179,iV 412,iV 40,fC 413]
noncomputable def NN:Obj:=oF "__init__" "NoText.__init__" (aF (top 10) 0) .none zS0 180
noncomputable def MR:Obj:=oT [.str "row" 415]
noncomputable def JY:Obj:=oS 184
noncomputable def LW:Obj:=oB "object.__init_subclass__" (.ref 184)
noncomputable def xI (P:Params):Obj:=⟨(.type "dict"),none,.dict #[kE P "__module__" 427 zS0,kE P "__qualname__" 429 (.str "NoGrade" 428),kE P "__firstlineno__" 431 (.int 43 430),kE P "__init__" 439 (.ref 200),kE P "__static_attributes__" 441 (.ref 201)] 5, #[]⟩
noncomputable def OC:Obj:=oL [iV 45,iV 4,.ref 199]
noncomputable def NM:Obj:=oC [.str "NoGrade" 422,.str "NoGrade" 423,fC 424,iV 43,iV 0,iV 0,iV 0,iV 0,.ref 190,.bool false,iV 181,.ref 191,.none,.none,.none,.none,iV 425,iV 43,fC 426]
noncomputable def IJ:Obj:=oR 192 189 zS0
noncomputable def JD:Obj:=oT [.str "self" 435,.str "grade" 436]
noncomputable def OM:Obj:=oN "__init__" "NoGrade.__init__" (aF (top 11) 0)
noncomputable def MZ:Obj:=oC [.str "__init__" 432,.str "NoGrade.__init__" 433,fC 434,iV 45,iV 2,iV 0,iV 0,iV 3,.ref 194,.bool true,iV 181,.ref 195,.none,.ref 196,.ref 197,.ref 198,iV 437,iV 45,fC 438]
noncomputable def HU:Obj:=oF "__init__" "NoGrade.__init__" (aF (top 11) 0) .none zS0 199
noncomputable def MU:Obj:=oT [.str "grade" 440]
noncomputable def JM:Obj:=oS 203
noncomputable def OJ:Obj:=oB "object.__init_subclass__" (.ref 203)
noncomputable def aDq (P:Params):Obj:=⟨(.type "dict"),none,.dict #[kE P "__name__" 165 zS0,kE P "__doc__" 166 .none,kE P "__package__" 167 .none,kE P "__loader__" 168 (.builtin "__main__.__loader__#opaque"),kE P "__spec__" 169 .none,kE P "__annotations__" 170 (.ref 6),kE P "__builtins__" 171 (.ref 4),kE P "__file__" 173 (.str "/claim/cut.py" 172),kE P "__cached__" 174 .none,kE P "ShadeError" 206 (.ref 24),kE P "MixError" 226 (.ref 37),kE P "BookError" 244 (.ref 50),kE P "NoNumber" 269 (.ref 70),kE P "NoShade" 294 (.ref 89),kE P "NoPart" 319 (.ref 108),kE P "NoDeed" 344 (.ref 127),kE P "NoTurn" 369 (.ref 146),kE P "NoWay" 394 (.ref 165),kE P "NoText" 419 (.ref 184),kE P "NoGrade" 444 (.ref 203),kE P "NoStep" 469 (.ref 222),kE P "NoEye" 494 (.ref 241),kE P "NoLimit" 519 (.ref 260),kE P "NoPlace" 544 (.ref 279),kE P "NoLights" 569 (.ref 298)] 25, #[]⟩
noncomputable def aHy:Obj:=oL [iV 2,iV 0,.ref 20,iV 4,iV 0,.ref 33,iV 6,iV 0,.ref 46,iV 8,iV 0,.ref 59,iV 13,iV 0,.ref 78,iV 18,iV 0,.ref 97,iV 23,iV 0,.ref 116,iV 28,iV 0,.ref 135,iV 33,iV 0,.ref 154,iV 38,iV 0,.ref 173,iV 43,iV 0,.ref 192,iV 48,iV 0,.ref 211,iV 53,iV 0,.ref 230,iV 58,iV 0,.ref 249,iV 63,iV 0,.ref 268,iV 68,iV 0,.ref 287]
noncomputable def aGv:Obj:=⟨(.type "type"),none,.cls ⟨"ShadeError",[(.type "ValueError")],[(.ref 24),(.type "ValueError"),(.type "Exception"),(.type "BaseException"),(.type "object")],23,"ShadeError",true,[],[(.ref 70),(.ref 89),(.ref 108),(.ref 127),(.ref 146),(.ref 165),(.ref 184),(.ref 203),(.ref 222),(.ref 241),(.ref 260),(.ref 279),(.ref 298)],false,none,false⟩, #[(some (.ref 15)),none,(some (.str "ShadeError" 189)),(some (.str "ShadeError" 197)),(some (.builtin "ValueError.__new__")),(some (.bool true))]⟩
noncomputable def DV (P:Params):Obj:=⟨(.type "dict"),none,.dict #[kE P "__module__" 452 zS0,kE P "__qualname__" 454 (.str "NoStep" 453),kE P "__firstlineno__" 456 (.int 48 455),kE P "__init__" 464 (.ref 219),kE P "__static_attributes__" 466 (.ref 220)] 5, #[]⟩
noncomputable def PZ:Obj:=oL [iV 50,iV 4,.ref 218]
noncomputable def RL:Obj:=oC [.str "NoStep" 447,.str "NoStep" 448,fC 449,iV 48,iV 0,iV 0,iV 0,iV 0,.ref 209,.bool false,iV 181,.ref 210,.none,.none,.none,.none,iV 450,iV 48,fC 451]
noncomputable def RE:Obj:=oR 211 208 zS0
noncomputable def SD:Obj:=oT [.str "self" 460,.str "light" 461]
noncomputable def QW:Obj:=oN "__init__" "NoStep.__init__" (aF (top 12) 0)
noncomputable def TX:Obj:=oC [.str "__init__" 457,.str "NoStep.__init__" 458,fC 459,iV 50,iV 2,iV 0,iV 0,iV 3,.ref 213,.bool true,iV 181,.ref 214,.none,.ref 215,.ref 216,.ref 217,iV 462,iV 50,fC 463]
noncomputable def VL:Obj:=oF "__init__" "NoStep.__init__" (aF (top 12) 0) .none zS0 218
noncomputable def VS:Obj:=oT [.str "light" 465]
noncomputable def VQ:Obj:=oS 222
noncomputable def UT:Obj:=oB "object.__init_subclass__" (.ref 222)
noncomputable def DU (P:Params):Obj:=⟨(.type "dict"),none,.dict #[kE P "__module__" 477 zS0,kE P "__qualname__" 479 (.str "NoEye" 478),kE P "__firstlineno__" 481 (.int 53 480),kE P "__init__" 489 (.ref 238),kE P "__static_attributes__" 491 (.ref 239)] 5, #[]⟩
noncomputable def SQ:Obj:=oL [iV 55,iV 4,.ref 237]
noncomputable def UX:Obj:=oC [.str "NoEye" 472,.str "NoEye" 473,fC 474,iV 53,iV 0,iV 0,iV 0,iV 0,.ref 228,.bool false,iV 181,.ref 229,.none,.none,.none,.none,iV 475,iV 53,fC 476]
noncomputable def QP:Obj:=oR 230 227 zS0
noncomputable def TR:Obj:=oT [.str "self" 485,.str "eye" 486]
noncomputable def QQ:Obj:=oN "__init__" "NoEye.__init__" (aF (top 13) 0)
noncomputable def WJ:Obj:=oC [.str "__init__" 482,.str "NoEye.__init__" 483,fC 484,iV 55,iV 2,iV 0,iV 0,iV 3,.ref 232,.bool true,iV 181,.ref 233,.none,.ref 234,.ref 235,.ref 236,iV 487,iV 55,fC 488]
noncomputable def RJ:Obj:=oF "__init__" "NoEye.__init__" (aF (top 13) 0) .none zS0 237
noncomputable def UF:Obj:=oT [.str "eye" 490]
noncomputable def QH:Obj:=oS 241
noncomputable def RY:Obj:=oB "object.__init_subclass__" (.ref 241)
noncomputable def CK (P:Params):Obj:=⟨(.type "dict"),none,.dict #[kE P "__module__" 502 zS0,kE P "__qualname__" 504 (.str "NoLimit" 503),kE P "__firstlineno__" 506 (.int 58 505),kE P "__init__" 514 (.ref 257),kE P "__static_attributes__" 516 (.ref 258)] 5, #[]⟩
noncomputable def QI:Obj:=oL [iV 60,iV 4,.ref 256]
noncomputable def UN:Obj:=oC [.str "NoLimit" 497,.str "NoLimit" 498,fC 499,iV 58,iV 0,iV 0,iV 0,iV 0,.ref 247,.bool false,iV 181,.ref 248,.none,.none,.none,.none,iV 500,iV 58,fC 501]
noncomputable def TH:Obj:=oR 249 246 zS0
noncomputable def QZ:Obj:=oT [.str "self" 510,.str "limit" 511]
noncomputable def QS:Obj:=oN "__init__" "NoLimit.__init__" (aF (top 14) 0)
noncomputable def VR:Obj:=oC [.str "__init__" 507,.str "NoLimit.__init__" 508,fC 509,iV 60,iV 2,iV 0,iV 0,iV 3,.ref 251,.bool true,iV 181,.ref 252,.none,.ref 253,.ref 254,.ref 255,iV 512,iV 60,fC 513]
noncomputable def SZ:Obj:=oF "__init__" "NoLimit.__init__" (aF (top 14) 0) .none zS0 256
noncomputable def PY:Obj:=oT [.str "limit" 515]
noncomputable def TJ:Obj:=oS 260
noncomputable def UH:Obj:=oB "object.__init_subclass__" (.ref 260)
noncomputable def CM (P:Params):Obj:=⟨(.type "dict"),none,.dict #[kE P "__module__" 527 zS0,kE P "__qualname__" 529 (.str "NoPlace" 528),kE P "__firstlineno__" 531 (.int 63 530),kE P "__init__" 539 (.ref 276),kE P "__static_attributes__" 541 (.ref 277)] 5, #[]⟩
noncomputable def RH:Obj:=oL [iV 65,iV 4,.ref 275]
noncomputable def UO:Obj:=oC [.str "NoPlace" 522,.str "NoPlace" 523,fC 524,iV 63,iV 0,iV 0,iV 0,iV 0,.ref 266,.bool false,iV 181,.ref 267,.none,.none,.none,.none,iV 525,iV 63,fC 526]
noncomputable def VE:Obj:=oR 268 265 zS0
noncomputable def TF:Obj:=oT [.str "self" 535,.str "place" 536]
noncomputable def SM:Obj:=oN "__init__" "NoPlace.__init__" (aF (top 15) 0)
noncomputable def RM:Obj:=oC [.str "__init__" 532,.str "NoPlace.__init__" 533,fC 534,iV 65,iV 2,iV 0,iV 0,iV 3,.ref 270,.bool true,iV 181,.ref 271,.none,.ref 272,.ref 273,.ref 274,iV 537,iV 65,fC 538]
noncomputable def RC:Obj:=oF "__init__" "NoPlace.__init__" (aF (top 15) 0) .none zS0 275
noncomputable def VD:Obj:=oT [.str "place" 540]
noncomputable def UL:Obj:=oS 279
noncomputable def UZ:Obj:=oB "object.__init_subclass__" (.ref 279)
noncomputable def CJ (P:Params):Obj:=⟨(.type "dict"),none,.dict #[kE P "__module__" 552 zS0,kE P "__qualname__" 554 (.str "NoLights" 553),kE P "__firstlineno__" 556 (.int 68 555),kE P "__init__" 564 (.ref 295),kE P "__static_attributes__" 566 (.ref 296)] 5, #[]⟩
noncomputable def UB:Obj:=oL [iV 70,iV 4,.ref 294]
noncomputable def VN:Obj:=oC [.str "NoLights" 547,.str "NoLights" 548,fC 549,iV 68,iV 0,iV 0,iV 0,iV 0,.ref 285,.bool false,iV 181,.ref 286,.none,.none,.none,.none,iV 550,iV 68,fC 551]
noncomputable def UC:Obj:=oR 287 284 zS0
noncomputable def RU:Obj:=oT [.str "self" 560,.str "place" 561]
noncomputable def TK:Obj:=oN "__init__" "NoLights.__init__" (aF (top 16) 0)
noncomputable def SK:Obj:=oC [.str "__init__" 557,.str "NoLights.__init__" 558,fC 559,iV 70,iV 2,iV 0,iV 0,iV 3,.ref 289,.bool true,iV 181,.ref 290,.none,.ref 291,.ref 292,.ref 293,iV 562,iV 70,fC 563]
noncomputable def QN:Obj:=oF "__init__" "NoLights.__init__" (aF (top 16) 0) .none zS0 294
noncomputable def QO:Obj:=oT [.str "place" 565]
noncomputable def TL:Obj:=oS 298
noncomputable def SG:Obj:=oB "object.__init_subclass__" (.ref 298)
noncomputable def aD5 (P:Params):Obj:=⟨(.type "dict"),none,.dict #[kE P "__name__" 165 zS0,kE P "__doc__" 166 .none,kE P "__package__" 167 .none,kE P "__loader__" 168 (.builtin "__main__.__loader__#opaque"),kE P "__spec__" 169 .none,kE P "__annotations__" 170 (.ref 6),kE P "__builtins__" 171 (.ref 4),kE P "__file__" 173 (.str "/claim/cut.py" 172),kE P "__cached__" 174 .none,kE P "ShadeError" 206 (.ref 24),kE P "MixError" 226 (.ref 37),kE P "BookError" 244 (.ref 50),kE P "NoNumber" 269 (.ref 70),kE P "NoShade" 294 (.ref 89),kE P "NoPart" 319 (.ref 108),kE P "NoDeed" 344 (.ref 127),kE P "NoTurn" 369 (.ref 146),kE P "NoWay" 394 (.ref 165),kE P "NoText" 419 (.ref 184),kE P "NoGrade" 444 (.ref 203),kE P "NoStep" 469 (.ref 222),kE P "NoEye" 494 (.ref 241),kE P "NoLimit" 519 (.ref 260),kE P "NoPlace" 544 (.ref 279),kE P "NoLights" 569 (.ref 298),kE P "NoRow" 594 (.ref 317),kE P "NoWeights" 619 (.ref 336),kE P "NoWeight" 644 (.ref 355),kE P "EmptyMix" 660 (.ref 367),kE P "NoBlend" 676 (.ref 379)] 30, #[]⟩
noncomputable def aHM:Obj:=oL [iV 2,iV 0,.ref 20,iV 4,iV 0,.ref 33,iV 6,iV 0,.ref 46,iV 8,iV 0,.ref 59,iV 13,iV 0,.ref 78,iV 18,iV 0,.ref 97,iV 23,iV 0,.ref 116,iV 28,iV 0,.ref 135,iV 33,iV 0,.ref 154,iV 38,iV 0,.ref 173,iV 43,iV 0,.ref 192,iV 48,iV 0,.ref 211,iV 53,iV 0,.ref 230,iV 58,iV 0,.ref 249,iV 63,iV 0,.ref 268,iV 68,iV 0,.ref 287,iV 73,iV 0,.ref 306,iV 78,iV 0,.ref 325,iV 83,iV 0,.ref 344,iV 88,iV 0,.ref 363,iV 90,iV 0,.ref 375]
noncomputable def LU (P:Params):Obj:=⟨(.type "dict"),none,.dict #[kE P "__module__" 577 zS0,kE P "__qualname__" 579 (.str "NoRow" 578),kE P "__firstlineno__" 581 (.int 73 580),kE P "__init__" 589 (.ref 314),kE P "__static_attributes__" 591 (.ref 315)] 5, #[]⟩
noncomputable def aBE:Obj:=oL [iV 75,iV 4,.ref 313]
noncomputable def aAb:Obj:=oC [.str "NoRow" 572,.str "NoRow" 573,fC 574,iV 73,iV 0,iV 0,iV 0,iV 0,.ref 304,.bool false,iV 181,.ref 305,.none,.none,.none,.none,iV 575,iV 73,fC 576]
noncomputable def aCW:Obj:=oR 306 303 zS0
noncomputable def aAq:Obj:=oT [.str "self" 585,.str "row" 586]
noncomputable def aAK:Obj:=oN "__init__" "NoRow.__init__" (aF (top 17) 0)
noncomputable def aC2:Obj:=oC [.str "__init__" 582,.str "NoRow.__init__" 583,fC 584,iV 75,iV 2,iV 0,iV 0,iV 3,.ref 308,.bool true,iV 181,.ref 309,.none,.ref 310,.ref 311,.ref 312,iV 587,iV 75,fC 588]
noncomputable def aCO:Obj:=oF "__init__" "NoRow.__init__" (aF (top 17) 0) .none zS0 313
noncomputable def aAr:Obj:=oT [.str "row" 590]
noncomputable def aCq:Obj:=oS 317
noncomputable def aCf:Obj:=oB "object.__init_subclass__" (.ref 317)
noncomputable def mZ:Obj:=oT [.ref 37]
noncomputable def OI (P:Params):Obj:=⟨(.type "dict"),none,.dict #[kE P "__module__" 602 zS0,kE P "__qualname__" 604 (.str "NoWeights" 603),kE P "__firstlineno__" 606 (.int 78 605),kE P "__init__" 614 (.ref 333),kE P "__static_attributes__" 616 (.ref 334)] 5, #[]⟩
noncomputable def aAO:Obj:=oL [iV 80,iV 4,.ref 332]
noncomputable def aA9:Obj:=oC [.str "NoWeights" 597,.str "NoWeights" 598,fC 599,iV 78,iV 0,iV 0,iV 0,iV 0,.ref 323,.bool false,iV 181,.ref 324,.none,.none,.none,.none,iV 600,iV 78,fC 601]
noncomputable def aAC:Obj:=oR 325 322 zS0
noncomputable def aAe:Obj:=oT [.str "self" 610,.str "many" 611]
noncomputable def aBz:Obj:=oN "__init__" "NoWeights.__init__" (aF (top 18) 0)
noncomputable def aA8:Obj:=oC [.str "__init__" 607,.str "NoWeights.__init__" 608,fC 609,iV 80,iV 2,iV 0,iV 0,iV 3,.ref 327,.bool true,iV 181,.ref 328,.none,.ref 329,.ref 330,.ref 331,iV 612,iV 80,fC 613]
noncomputable def aBl:Obj:=oF "__init__" "NoWeights.__init__" (aF (top 18) 0) .none zS0 332
noncomputable def aAd:Obj:=oT [.str "many" 615]
noncomputable def aCZ:Obj:=oS 336
noncomputable def aBj:Obj:=oB "object.__init_subclass__" (.ref 336)
noncomputable def NE (P:Params):Obj:=⟨(.type "dict"),none,.dict #[kE P "__module__" 627 zS0,kE P "__qualname__" 629 (.str "NoWeight" 628),kE P "__firstlineno__" 631 (.int 83 630),kE P "__init__" 639 (.ref 352),kE P "__static_attributes__" 641 (.ref 353)] 5, #[]⟩
noncomputable def aC5:Obj:=oL [iV 85,iV 4,.ref 351]
noncomputable def aAk:Obj:=oC [.str "NoWeight" 622,.str "NoWeight" 623,fC 624,iV 83,iV 0,iV 0,iV 0,iV 0,.ref 342,.bool false,iV 181,.ref 343,.none,.none,.none,.none,iV 625,iV 83,fC 626]
noncomputable def aBS:Obj:=oR 344 341 zS0
noncomputable def aDb:Obj:=oT [.str "self" 635,.str "weight" 636]
noncomputable def aBU:Obj:=oN "__init__" "NoWeight.__init__" (aF (top 19) 0)
noncomputable def aC7:Obj:=oC [.str "__init__" 632,.str "NoWeight.__init__" 633,fC 634,iV 85,iV 2,iV 0,iV 0,iV 3,.ref 346,.bool true,iV 181,.ref 347,.none,.ref 348,.ref 349,.ref 350,iV 637,iV 85,fC 638]
noncomputable def ZU:Obj:=oF "__init__" "NoWeight.__init__" (aF (top 19) 0) .none zS0 351
noncomputable def aAm:Obj:=oT [.str "weight" 640]
noncomputable def aAa:Obj:=oS 355
noncomputable def aCa:Obj:=oB "object.__init_subclass__" (.ref 355)
noncomputable def LF (P:Params):Obj:=⟨(.type "dict"),none,.dict #[kE P "__module__" 652 zS0,kE P "__qualname__" 654 (.str "EmptyMix" 653),kE P "__firstlineno__" 656 (.int 88 655),kE P "__static_attributes__" 657 (.ref 365)] 4, #[]⟩
noncomputable def aAB:Obj:=oC [.str "EmptyMix" 647,.str "EmptyMix" 648,fC 649,iV 88,iV 0,iV 0,iV 0,iV 0,.ref 361,.bool false,iV 181,.ref 362,.none,.none,.none,.none,iV 650,iV 88,fC 651]
noncomputable def aA2:Obj:=oR 363 360 zS0
noncomputable def aAS:Obj:=oS 367
noncomputable def aBL:Obj:=oB "object.__init_subclass__" (.ref 367)
noncomputable def IY (P:Params):Obj:=⟨(.type "dict"),none,.dict #[kE P "__module__" 668 zS0,kE P "__qualname__" 670 (.str "NoBlend" 669),kE P "__firstlineno__" 672 (.int 90 671),kE P "__static_attributes__" 673 (.ref 377)] 4, #[]⟩
noncomputable def aCK:Obj:=oC [.str "NoBlend" 663,.str "NoBlend" 664,fC 665,iV 90,iV 0,iV 0,iV 0,iV 0,.ref 373,.bool false,iV 181,.ref 374,.none,.none,.none,.none,iV 666,iV 90,fC 667]
noncomputable def aDa:Obj:=oR 375 372 zS0
noncomputable def aC8:Obj:=oS 379
noncomputable def aBC:Obj:=oB "object.__init_subclass__" (.ref 379)
noncomputable def aDw (P:Params):Obj:=⟨(.type "dict"),none,.dict #[kE P "__name__" 165 zS0,kE P "__doc__" 166 .none,kE P "__package__" 167 .none,kE P "__loader__" 168 (.builtin "__main__.__loader__#opaque"),kE P "__spec__" 169 .none,kE P "__annotations__" 170 (.ref 6),kE P "__builtins__" 171 (.ref 4),kE P "__file__" 173 (.str "/claim/cut.py" 172),kE P "__cached__" 174 .none,kE P "ShadeError" 206 (.ref 24),kE P "MixError" 226 (.ref 37),kE P "BookError" 244 (.ref 50),kE P "NoNumber" 269 (.ref 70),kE P "NoShade" 294 (.ref 89),kE P "NoPart" 319 (.ref 108),kE P "NoDeed" 344 (.ref 127),kE P "NoTurn" 369 (.ref 146),kE P "NoWay" 394 (.ref 165),kE P "NoText" 419 (.ref 184),kE P "NoGrade" 444 (.ref 203),kE P "NoStep" 469 (.ref 222),kE P "NoEye" 494 (.ref 241),kE P "NoLimit" 519 (.ref 260),kE P "NoPlace" 544 (.ref 279),kE P "NoLights" 569 (.ref 298),kE P "NoRow" 594 (.ref 317),kE P "NoWeights" 619 (.ref 336),kE P "NoWeight" 644 (.ref 355),kE P "EmptyMix" 660 (.ref 367),kE P "NoBlend" 676 (.ref 379),kE P "NoWord" 701 (.ref 398),kE P "NoName" 726 (.ref 417),kE P "NameStands" 751 (.ref 436),kE P "BookFull" 776 (.ref 455),kE P "NoBack" 792 (.ref 467)] 35, #[]⟩
noncomputable def aG8:Obj:=oL [iV 2,iV 0,.ref 20,iV 4,iV 0,.ref 33,iV 6,iV 0,.ref 46,iV 8,iV 0,.ref 59,iV 13,iV 0,.ref 78,iV 18,iV 0,.ref 97,iV 23,iV 0,.ref 116,iV 28,iV 0,.ref 135,iV 33,iV 0,.ref 154,iV 38,iV 0,.ref 173,iV 43,iV 0,.ref 192,iV 48,iV 0,.ref 211,iV 53,iV 0,.ref 230,iV 58,iV 0,.ref 249,iV 63,iV 0,.ref 268,iV 68,iV 0,.ref 287,iV 73,iV 0,.ref 306,iV 78,iV 0,.ref 325,iV 83,iV 0,.ref 344,iV 88,iV 0,.ref 363,iV 90,iV 0,.ref 375,iV 92,iV 0,.ref 387,iV 97,iV 0,.ref 406,iV 102,iV 0,.ref 425,iV 107,iV 0,.ref 444,iV 112,iV 0,.ref 463]
noncomputable def rM:Obj:=oT [.ref 50]
noncomputable def YQ (P:Params):Obj:=⟨(.type "dict"),none,.dict #[kE P "__module__" 684 zS0,kE P "__qualname__" 686 (.str "NoWord" 685),kE P "__firstlineno__" 688 (.int 92 687),kE P "__init__" 696 (.ref 395),kE P "__static_attributes__" 698 (.ref 396)] 5, #[]⟩
noncomputable def aFF:Obj:=oL [iV 94,iV 4,.ref 394]
noncomputable def aD6:Obj:=oC [.str "NoWord" 679,.str "NoWord" 680,fC 681,iV 92,iV 0,iV 0,iV 0,iV 0,.ref 385,.bool false,iV 181,.ref 386,.none,.none,.none,.none,iV 682,iV 92,fC 683]
noncomputable def aE1:Obj:=oR 387 384 zS0
noncomputable def aEs:Obj:=oT [.str "self" 692,.str "word" 693]
noncomputable def aEr:Obj:=oN "__init__" "NoWord.__init__" (aF (top 22) 0)
noncomputable def aEX:Obj:=oC [.str "__init__" 689,.str "NoWord.__init__" 690,fC 691,iV 94,iV 2,iV 0,iV 0,iV 3,.ref 389,.bool true,iV 181,.ref 390,.none,.ref 391,.ref 392,.ref 393,iV 694,iV 94,fC 695]
noncomputable def aEy:Obj:=oF "__init__" "NoWord.__init__" (aF (top 22) 0) .none zS0 394
noncomputable def aE4:Obj:=oT [.str "word" 697]
noncomputable def aEF:Obj:=oS 398
noncomputable def aDU:Obj:=oB "object.__init_subclass__" (.ref 398)
noncomputable def ZE (P:Params):Obj:=⟨(.type "dict"),none,.dict #[kE P "__module__" 709 zS0,kE P "__qualname__" 711 (.str "NoName" 710),kE P "__firstlineno__" 713 (.int 97 712),kE P "__init__" 721 (.ref 414),kE P "__static_attributes__" 723 (.ref 415)] 5, #[]⟩
noncomputable def aFl:Obj:=oL [iV 99,iV 4,.ref 413]
noncomputable def aFm:Obj:=oC [.str "NoName" 704,.str "NoName" 705,fC 706,iV 97,iV 0,iV 0,iV 0,iV 0,.ref 404,.bool false,iV 181,.ref 405,.none,.none,.none,.none,iV 707,iV 97,fC 708]
noncomputable def aDg:Obj:=oR 406 403 zS0
noncomputable def aEm:Obj:=oT [.str "self" 717,.str "name" 718]
noncomputable def aEJ:Obj:=oN "__init__" "NoName.__init__" (aF (top 23) 0)
noncomputable def aE7:Obj:=oC [.str "__init__" 714,.str "NoName.__init__" 715,fC 716,iV 99,iV 2,iV 0,iV 0,iV 3,.ref 408,.bool true,iV 181,.ref 409,.none,.ref 410,.ref 411,.ref 412,iV 719,iV 99,fC 720]
noncomputable def aDo:Obj:=oF "__init__" "NoName.__init__" (aF (top 23) 0) .none zS0 413
noncomputable def aDH:Obj:=oT [.str "name" 722]
noncomputable def aE3:Obj:=oS 417
noncomputable def aFf:Obj:=oB "object.__init_subclass__" (.ref 417)
noncomputable def WL (P:Params):Obj:=⟨(.type "dict"),none,.dict #[kE P "__module__" 734 zS0,kE P "__qualname__" 736 (.str "NameStands" 735),kE P "__firstlineno__" 738 (.int 102 737),kE P "__init__" 746 (.ref 433),kE P "__static_attributes__" 748 (.ref 434)] 5, #[]⟩
noncomputable def aDB:Obj:=oL [iV 104,iV 4,.ref 432]
noncomputable def aFJ:Obj:=oC [.str "NameStands" 729,.str "NameStands" 730,fC 731,iV 102,iV 0,iV 0,iV 0,iV 0,.ref 423,.bool false,iV 181,.ref 424,.none,.none,.none,.none,iV 732,iV 102,fC 733]
noncomputable def aD4:Obj:=oR 425 422 zS0
noncomputable def aEU:Obj:=oT [.str "self" 742,.str "name" 743]
noncomputable def aFN:Obj:=oN "__init__" "NameStands.__init__" (aF (top 24) 0)
noncomputable def aFb:Obj:=oC [.str "__init__" 739,.str "NameStands.__init__" 740,fC 741,iV 104,iV 2,iV 0,iV 0,iV 3,.ref 427,.bool true,iV 181,.ref 428,.none,.ref 429,.ref 430,.ref 431,iV 744,iV 104,fC 745]
noncomputable def aFj:Obj:=oF "__init__" "NameStands.__init__" (aF (top 24) 0) .none zS0 432
noncomputable def aDs:Obj:=oT [.str "name" 747]
noncomputable def aFO:Obj:=oS 436
noncomputable def aEQ:Obj:=oB "object.__init_subclass__" (.ref 436)
noncomputable def YZ (P:Params):Obj:=⟨(.type "dict"),none,.dict #[kE P "__module__" 759 zS0,kE P "__qualname__" 761 (.str "BookFull" 760),kE P "__firstlineno__" 763 (.int 107 762),kE P "__init__" 771 (.ref 452),kE P "__static_attributes__" 773 (.ref 453)] 5, #[]⟩
noncomputable def aE0:Obj:=oL [iV 109,iV 4,.ref 451]
noncomputable def aDm:Obj:=oC [.str "BookFull" 754,.str "BookFull" 755,fC 756,iV 107,iV 0,iV 0,iV 0,iV 0,.ref 442,.bool false,iV 181,.ref 443,.none,.none,.none,.none,iV 757,iV 107,fC 758]
noncomputable def aDe:Obj:=oR 444 441 zS0
noncomputable def aEt:Obj:=oT [.str "self" 767,.str "many" 768]
noncomputable def aDz:Obj:=oN "__init__" "BookFull.__init__" (aF (top 25) 0)
noncomputable def aEo:Obj:=oC [.str "__init__" 764,.str "BookFull.__init__" 765,fC 766,iV 109,iV 2,iV 0,iV 0,iV 3,.ref 446,.bool true,iV 181,.ref 447,.none,.ref 448,.ref 449,.ref 450,iV 769,iV 109,fC 770]
noncomputable def aDn:Obj:=oF "__init__" "BookFull.__init__" (aF (top 25) 0) .none zS0 451
noncomputable def aFy:Obj:=oT [.str "many" 772]
noncomputable def aFd:Obj:=oS 455
noncomputable def aFG:Obj:=oB "object.__init_subclass__" (.ref 455)
noncomputable def YN (P:Params):Obj:=⟨(.type "dict"),none,.dict #[kE P "__module__" 784 zS0,kE P "__qualname__" 786 (.str "NoBack" 785),kE P "__firstlineno__" 788 (.int 112 787),kE P "__static_attributes__" 789 (.ref 465)] 4, #[]⟩
noncomputable def aFP:Obj:=oC [.str "NoBack" 779,.str "NoBack" 780,fC 781,iV 112,iV 0,iV 0,iV 0,iV 0,.ref 461,.bool false,iV 181,.ref 462,.none,.none,.none,.none,iV 782,iV 112,fC 783]
noncomputable def aFz:Obj:=oR 463 460 zS0
noncomputable def aD9:Obj:=oS 467
noncomputable def aDt:Obj:=oB "object.__init_subclass__" (.ref 467)
noncomputable def aGt:Obj:=oL [iV 2,iV 0,.ref 20,iV 4,iV 0,.ref 33,iV 6,iV 0,.ref 46,iV 8,iV 0,.ref 59,iV 13,iV 0,.ref 78,iV 18,iV 0,.ref 97,iV 23,iV 0,.ref 116,iV 28,iV 0,.ref 135,iV 33,iV 0,.ref 154,iV 38,iV 0,.ref 173,iV 43,iV 0,.ref 192,iV 48,iV 0,.ref 211,iV 53,iV 0,.ref 230,iV 58,iV 0,.ref 249,iV 63,iV 0,.ref 268,iV 68,iV 0,.ref 287,iV 73,iV 0,.ref 306,iV 78,iV 0,.ref 325,iV 83,iV 0,.ref 344,iV 88,iV 0,.ref 363,iV 90,iV 0,.ref 375,iV 92,iV 0,.ref 387,iV 97,iV 0,.ref 406,iV 102,iV 0,.ref 425,iV 107,iV 0,.ref 444,iV 112,iV 0,.ref 463,iV 117,iV 0,.ref 475,iV 119,iV 0,.ref 482,iV 123,iV 0,.ref 489,iV 128,iV 0,.ref 496,iV 135,iV 0,.ref 503,iV 140,iV 0,.ref 510,iV 142,iV 0,.ref 517,iV 163,iV 0,.ref 562,iV 165,iV 0,.ref 569,iV 168,iV 0,.ref 576,iV 172,iV 0,.ref 583,iV 179,iV 0,.ref 590,iV 181,iV 0,.ref 597,iV 190,iV 0,.ref 604,iV 197,iV 0,.ref 611,iV 201,iV 0,.ref 616,iV 210,iV 0,.ref 623,iV 228,iV 0,.ref 630,iV 235,iV 0,.ref 637,iV 246,iV 0,.ref 644,iV 252,iV 0,.ref 649,iV 263,iV 0,.ref 656,iV 272,iV 0,.ref 663]
noncomputable def aGr:Obj:=oT [.str "thing" 804]
noncomputable def aFY:Obj:=oN "is_whole" "is_whole" bW
noncomputable def aGE:Obj:=oT [.str "one" 811,.str "other" 812]
noncomputable def aHp:Obj:=oN "common" "common" dS
noncomputable def aHR:Obj:=oT [.str "thing" 819,.str "top" 820,.str "bottom" 821]
noncomputable def aGl:Obj:=oN "is_fraction" "is_fraction" aZ
noncomputable def aGY:Obj:=oT [.str "number" 828,.str "pieces" 829,.str "piece" 830]
noncomputable def aHd:Obj:=oN "figures" "figures" cX
noncomputable def aHg:Obj:=oT [.str "one" 837]
noncomputable def aHl:Obj:=oN "written" "written" cP
noncomputable def aF3:Obj:=oT [.str "thing" 846]
noncomputable def aGi:Obj:=oN "is_share" "is_share" bY
noncomputable def aFx (P:Params):Obj:=⟨(.type "dict"),none,.dict #[kE P "__module__" 857 zS2,kE P "__qualname__" 859 (.str "Shade" 858),kE P "__firstlineno__" 861 (.int 142 860),kE P "__init__" 873 (.ref 525),kE P "__eq__" 881 (.ref 532),kE P "__len__" 887 (.ref 537),kE P "__str__" 893 (.ref 542),kE P "__repr__" 900 (.ref 549),kE P "__static_attributes__" 904 (.ref 550)] 9, #[]⟩
noncomputable def aGL:Obj:=oL [iV 144,iV 4,.ref 524,iV 152,iV 4,.ref 531,iV 155,iV 4,.ref 536,iV 158,iV 4,.ref 541,iV 161,iV 4,.ref 548]
noncomputable def aGd:Obj:=oC [.str "Shade" 852,.str "Shade" 853,fC 854,iV 142,iV 0,iV 0,iV 0,iV 0,.ref 515,.bool false,iV 181,.ref 516,.none,.none,.none,.none,iV 855,iV 142,fC 856]
noncomputable def aHD:Obj:=oR 517 514 zS2
noncomputable def aGT:Obj:=oT [.str "self" 865,.str "ember" 866,.str "leaf" 867,.str "sky" 868,.str "light" 869,.str "share" 870]
noncomputable def aGA:Obj:=oN "__init__" "Shade.__init__" aT
noncomputable def aGM:Obj:=oT [.str "self" 877,.str "other" 878]
noncomputable def aGm:Obj:=oN "__eq__" "Shade.__eq__" (aF (top 37) 1)
noncomputable def aHm:Obj:=oC [.str "__eq__" 874,.str "Shade.__eq__" 875,fC 876,iV 152,iV 2,iV 0,iV 0,iV 3,.ref 526,.bool true,iV 181,.ref 527,.none,.ref 528,.ref 529,.ref 530,iV 879,iV 152,fC 880]
noncomputable def aGN:Obj:=oF "__eq__" "Shade.__eq__" (aF (top 37) 1) .none zS2 531
noncomputable def aGs:Obj:=oN "__len__" "Shade.__len__" (aF (top 37) 2)
noncomputable def aG9:Obj:=oC [.str "__len__" 882,.str "Shade.__len__" 883,fC 884,iV 155,iV 1,iV 0,iV 0,iV 3,.ref 533,.bool true,iV 181,.ref 534,.none,.none,.none,.ref 535,iV 885,iV 155,fC 886]
noncomputable def aF1:Obj:=oF "__len__" "Shade.__len__" (aF (top 37) 2) .none zS2 536
noncomputable def aGo:Obj:=oN "__str__" "Shade.__str__" aV
noncomputable def aHt:Obj:=oT [.str "self" 897]
noncomputable def aGH:Obj:=oN "__repr__" "Shade.__repr__" (aF (top 37) 4)
noncomputable def aG0:Obj:=oC [.str "__repr__" 894,.str "Shade.__repr__" 895,fC 896,iV 161,iV 1,iV 0,iV 0,iV 3,.ref 543,.bool true,iV 181,.ref 544,.none,.ref 545,.ref 546,.ref 547,iV 898,iV 161,fC 899]
noncomputable def aGX:Obj:=oF "__repr__" "Shade.__repr__" (aF (top 37) 4) .none zS2 548
noncomputable def aG6:Obj:=oT [.str "ember" 901,.str "leaf" 902,.str "sky" 903]
noncomputable def aHr:Obj:=⟨(.type "getset_descriptor"),none,.fields #[(.str "__dict__" 905),(.ref 552),(.builtin "function.__dict__"),(.builtin "function.__dict__#set")], #[]⟩
noncomputable def aHQ:Obj:=⟨(.type "getset_descriptor"),none,.fields #[(.str "__weakref__" 907),(.ref 552),(.builtin "ExceptionGroup.__weakref__"),.none], #[]⟩
noncomputable def aFZ:Obj:=oS 552
noncomputable def aGP:Obj:=oB "object.__init_subclass__" (.ref 552)
noncomputable def aF5:Obj:=oT [.str "thing" 916]
noncomputable def aHz:Obj:=oN "is_shade" "is_shade" bU
noncomputable def aGB:Obj:=oT [.str "thing" 923]
noncomputable def aHw:Obj:=oN "need_shade" "need_shade" bG
noncomputable def aHO:Obj:=oT [.str "shade" 930]
noncomputable def aHE:Obj:=oN "shares_of" "shares_of" bN
noncomputable def aHa:Obj:=oT [.str "_law_script" 939,.str "_law_k" 940,.str "_law_state" 941,.str "_law_cell_here" 942]
noncomputable def aGZ:Obj:=oN "_law_cell" "_law_cell" dQ
noncomputable def aHH:Obj:=oT [.str "_law_cell_here" 949]
noncomputable def aHc:Obj:=oN "_law_purse" "_law_purse" cR
noncomputable def aGn:Obj:=oT [.str "_law_purse_here" 956,.str "_law_many" 957,.str "_law_state" 958,.str "_law_taken" 959]
noncomputable def aHo:Obj:=oN "_law_pick" "_law_pick" dR
noncomputable def aGe:Obj:=oT [.str "_law_top" 966,.str "_law_bottom" 967,.str "_law_one" 968,.str "_law_other" 969]
noncomputable def aHG:Obj:=oN "_law_low" "_law_low" eR
noncomputable def aHB:Obj:=oT [.str "_law_purse_here" 976,.str "_law_way" 977,.str "_law_bottom" 978]
noncomputable def aGq:Obj:=oN "_law_share" "_law_share" cV
noncomputable def aHi:Obj:=oN "_law_shares" "_law_shares" bV
noncomputable def aG7:Obj:=oT [.str "_law_e" 991,.str "_law_some" 992,.str "_law_at" 993,.str "_law_bases" 994,.str "_law_kinds" 995,.str "_law_due" 996,.str "_law_words" 997]
noncomputable def aHq:Obj:=oN "_law_sort" "_law_sort" dU
noncomputable def aF8:Obj:=oT [.str "_law_purse_here" 1004,.str "_law_share_here" 1005,.str "_law_top" 1006,.str "_law_bottom" 1007,.str "_law_some" 1008]
noncomputable def aHu:Obj:=oN "_law_bad" "_law_bad" eO
noncomputable def aG1:Obj:=oT [.str "_law_way" 1015,.str "_law_row" 1016,.str "_law_e" 1017]
noncomputable def aHA:Obj:=oN "_law_tried" "_law_tried" cQ
noncomputable def aGx:Obj:=oT [.str "_law_thing" 1024,.str "_law_e" 1025]
noncomputable def aGy:Obj:=oN "_law_asked" "_law_asked" cU
noncomputable def aHs:Obj:=oN "_law_right" "_law_right" cY
noncomputable def aHP:Obj:=oT [.str "_law_purse_here" 1038,.str "_law_row" 1039,.str "_law_thing" 1040,.str "_law_some" 1041,.str "_law_one" 1042]
noncomputable def aHN:Obj:=oN "_law_others_right" "_law_others_right" aS
noncomputable def aGO:Obj:=oT [.str "_law_script" 1049,.str "_law_k" 1050,.str "_law_purse_here" 1051,.str "_law_row" 1052,.str "_law_turn" 1053,.str "_law_shade" 1054]
noncomputable def aGI:Obj:=oN "law" "law" iL
noncomputable abbrev pW:Program:=PySem.Challenge.pw_lightshares_k06_shades_refused
noncomputable abbrev bdy:List Stmt:=W.behindTheImports pW
noncomputable abbrev env0:Env:={ scope:=pW.main.scope,locals:=mainNs,globals:=mainNs,cells:=[],code:=(.ref 13),frame:=some 14 }
noncomputable abbrev cE0:Code:=.body bdy env0
noncomputable abbrev B0:List Frame:=[W.topFrame ⟨0,0,0,0⟩]
noncomputable abbrev S0 (w:World) (os:OsState):Shared:=⟨W.boot_heap w.params,Array.mk [],W.boot_drawn,W.boot_toks,os⟩
theorem aHh:∀ w:World,(W.fencedOpening treeTable pW w 14506).map (fun s=>(s.heap,s.gens,s.drawn,s.toks))=some (W.boot_heap w.params,Array.mk [],W.boot_drawn,W.boot_toks):=W.boot_open (by rfl) (by decide) (fun _=>by rfl)
theorem aGR:∀ w:World,((W.boot_heap w.params).isNs mainGlobals && (Array.mk []:Array GenState).size == 0,(W.boot_heap w.params).objs.size,(W.boot_heap w.params).nsMap mainGlobals "__annotations__")=(true,11,(some (.ref 6))):=by
  intro w
  kernel_rfl
noncomputable def Sa (w:World) (os:OsState):Shared:=aEI (W.topGo treeTable pW w 11 (some (.ref 6)) 12 (S0 w os) (W.topStub pW)) (S0 w os)
theorem aFc:∀ (w:World) (os:OsState),W.topGo treeTable pW w 11 (some (.ref 6)) 12 (S0 w os) (W.topStub pW)=some (Sa w os,⟨denote treeTable cE0,cE0,⟨0,0,0,0⟩,B0⟩):=by
  intro w os
  kernel_rfl
noncomputable def Sb (w:World) (os:OsState):Shared:=aFv (W.segRun treeTable pW w 11 (some (.ref 6)) 1 1 (Sa w os) (W.blockOf bdy env0 cE0 ⟨0,0,0,0⟩ B0)) (S0 w os)
theorem aEh:∀ (w:World) (os:OsState),W.segRun treeTable pW w 11 (some (.ref 6)) 1 1 (Sa w os) (W.blockOf bdy env0 cE0 ⟨0,0,0,0⟩ B0)=some (.next,Sb w os,cE0,⟨0,0,0,0⟩):=by
  intro w os
  kernel_rfl
noncomputable def hm0 (P:Params):Heap:=⟨#[W.boot_o_0 P,W.boot_o_1 P,ko2 P,mo0 P,W.boot_o_4 P,W.boot_o_5 P,W.boot_o_6 P,W.boot_o_7 P,W.boot_o_8 P,W.boot_o_9 P,W.boot_o_10 P,M1,M2,M3,M4,M5,M6,mo7 P,M1,M8,M9,M10,M1,BK P,M11,M12,M13,M14,M15,M6,EE P,M1,M8,M17,M18,M1,AM P,M19,M20,M21,M22,M23,M6,EQ P,M1,M8,M25,M26,M1,AF P,M27,M28,M29,M30,M31,M6,EC P,M1,M33,M34,M35,M1,M8,M36,M1,M37,M38,M39,M40,yR P,AG P,M41,M42,M31,M6,FW P,M1,M44,M45,M46,M1,M8,M47,M1,M48,AS P,BH P,M49,zZ P,zJ P,M50,M51,M31,M6,FH P,M1,M53,M54,M55,M1,M8,M56,M1,M57,M58,M59,M60,oQ P,nM P,M61,M62],(W.boot_heap P).life⟩
noncomputable abbrev Sm0 (w:World) (os:OsState):Shared:=⟨hm0 w.params,Array.mk [],W.boot_drawn,320,os⟩
noncomputable abbrev l0:List Stmt:=bdy.take 7
noncomputable abbrev r0:List Stmt:=bdy.drop 7
theorem aHf:∀ (w:World),∀ os:OsState,W.segRun treeTable pW w 11 (some (.ref 6)) 1 1313 (Sb w os) (W.piecesOf l0 env0 cE0 ⟨0,0,0,0⟩ B0)=some (.next,Sm0 w os,cE0,⟨18,0,22,24⟩):=by
  intro w os
  kernel_rfl
noncomputable def hm1 (P:Params):Heap:=⟨#[W.boot_o_0 P,W.boot_o_1 P,ko2 P,aHI P,W.boot_o_4 P,W.boot_o_5 P,W.boot_o_6 P,W.boot_o_7 P,W.boot_o_8 P,W.boot_o_9 P,W.boot_o_10 P,M1,M64,M3,M4,M5,M6,mo7 P,M1,M8,M9,M10,M1,BK P,M65,M12,M13,M14,M15,M6,EE P,M1,M8,M17,M18,M1,AM P,M19,M20,M21,M22,M23,M6,EQ P,M1,M8,M25,M26,M1,AF P,M27,M28,M29,M30,M31,M6,EC P,M1,M33,M34,M35,M1,M8,M36,M1,M37,M38,M39,M40,yR P,AG P,M41,M42,M31,M6,FW P,M1,M44,M45,M46,M1,M8,M47,M1,M48,AS P,BH P,M49,zZ P,zJ P,M50,M51,M31,M6,FH P,M1,M53,M54,M55,M1,M8,M56,M1,M57,M58,M59,M60,oQ P,nM P,M61,M62,M31,M6,MS P,M1,M67,M68,M69,M1,M8,M70,M1,M71,M72,M73,M74,sX P,tD P,M75,M76,M31,M6,LK P,M1,M78,M79,M80,M1,M8,M81,M1,M82,M83,M84,M85,sI P,sJ P,M86,M87,M31,M6,PH P,M1,M89,M90,M91,M1,M8,M92,M1,M93,M94,M95,M96,sG P,sZ P,M97,M98,M31,M6,IT P,M1,NR,LG,NT,M1,M8,PC,M1,MI,HV,NN,MR,rX P,tF P,JY,LW,M31,M6,xI P,M1,OC,NM,IJ,M1,M8,JD,M1,OM,MZ,HU,MU,sA P,sT P,JM,OJ],(W.boot_heap P).life⟩
noncomputable abbrev Sm1 (w:World) (os:OsState):Shared:=⟨hm1 w.params,Array.mk [],W.boot_drawn,445,os⟩
noncomputable abbrev l1:List Stmt:=r0.take 5
noncomputable abbrev r1:List Stmt:=r0.drop 5
theorem aHK:∀ (w:World),∀ os:OsState,W.segRun treeTable pW w 11 (some (.ref 6)) 1 1226 (Sm0 w os) (W.piecesOf l1 env0 cE0 ⟨18,0,22,24⟩ B0)=some (.next,Sm1 w os,cE0,⟨43,0,47,26⟩):=by
  intro w os
  kernel_rfl
noncomputable def hm2 (P:Params):Heap:=⟨#[W.boot_o_0 P,W.boot_o_1 P,ko2 P,aDq P,W.boot_o_4 P,W.boot_o_5 P,W.boot_o_6 P,W.boot_o_7 P,W.boot_o_8 P,W.boot_o_9 P,W.boot_o_10 P,M1,aHy,M3,M4,M5,M6,mo7 P,M1,M8,M9,M10,M1,BK P,aGv,M12,M13,M14,M15,M6,EE P,M1,M8,M17,M18,M1,AM P,M19,M20,M21,M22,M23,M6,EQ P,M1,M8,M25,M26,M1,AF P,M27,M28,M29,M30,M31,M6,EC P,M1,M33,M34,M35,M1,M8,M36,M1,M37,M38,M39,M40,yR P,AG P,M41,M42,M31,M6,FW P,M1,M44,M45,M46,M1,M8,M47,M1,M48,AS P,BH P,M49,zZ P,zJ P,M50,M51,M31,M6,FH P,M1,M53,M54,M55,M1,M8,M56,M1,M57,M58,M59,M60,oQ P,nM P,M61,M62,M31,M6,MS P,M1,M67,M68,M69,M1,M8,M70,M1,M71,M72,M73,M74,sX P,tD P,M75,M76,M31,M6,LK P,M1,M78,M79,M80,M1,M8,M81,M1,M82,M83,M84,M85,sI P,sJ P,M86,M87,M31,M6,PH P,M1,M89,M90,M91,M1,M8,M92,M1,M93,M94,M95,M96,sG P,sZ P,M97,M98,M31,M6,IT P,M1,NR,LG,NT,M1,M8,PC,M1,MI,HV,NN,MR,rX P,tF P,JY,LW,M31,M6,xI P,M1,OC,NM,IJ,M1,M8,JD,M1,OM,MZ,HU,MU,sA P,sT P,JM,OJ,M31,M6,DV P,M1,PZ,RL,RE,M1,M8,SD,M1,QW,TX,VL,VS,vX P,wV P,VQ,UT,M31,M6,DU P,M1,SQ,UX,QP,M1,M8,TR,M1,QQ,WJ,RJ,UF,wE P,wZ P,QH,RY,M31,M6,CK P,M1,QI,UN,TH,M1,M8,QZ,M1,QS,VR,SZ,PY,wR P,xF P,TJ,UH,M31,M6,CM P,M1,RH,UO,VE,M1,M8,TF,M1,SM,RM,RC,VD,wJ P,wA P,UL,UZ,M31,M6,CJ P,M1,UB,VN,UC,M1,M8,RU,M1,TK,SK,QN,QO,xO P,wN P,TL,SG],(W.boot_heap P).life⟩
noncomputable abbrev Sm2 (w:World) (os:OsState):Shared:=⟨hm2 w.params,Array.mk [],W.boot_drawn,570,os⟩
noncomputable abbrev l2:List Stmt:=r1.take 5
noncomputable abbrev r2:List Stmt:=r1.drop 5
theorem aHb:∀ (w:World),∀ os:OsState,W.segRun treeTable pW w 11 (some (.ref 6)) 1 1226 (Sm1 w os) (W.piecesOf l2 env0 cE0 ⟨43,0,47,26⟩ B0)=some (.next,Sm2 w os,cE0,⟨68,0,72,26⟩):=by
  intro w os
  kernel_rfl
noncomputable def hm3 (P:Params):Heap:=⟨#[W.boot_o_0 P,W.boot_o_1 P,ko2 P,aD5 P,W.boot_o_4 P,W.boot_o_5 P,W.boot_o_6 P,W.boot_o_7 P,W.boot_o_8 P,W.boot_o_9 P,W.boot_o_10 P,M1,aHM,M3,M4,M5,M6,mo7 P,M1,M8,M9,M10,M1,BK P,UU P,M12,M13,M14,M15,M6,EE P,M1,M8,M17,M18,M1,AM P,WI P,M20,M21,M22,M23,M6,EQ P,M1,M8,M25,M26,M1,AF P,M27,M28,M29,M30,M31,M6,EC P,M1,M33,M34,M35,M1,M8,M36,M1,M37,M38,M39,M40,yR P,AG P,M41,M42,M31,M6,FW P,M1,M44,M45,M46,M1,M8,M47,M1,M48,AS P,BH P,M49,zZ P,zJ P,M50,M51,M31,M6,FH P,M1,M53,M54,M55,M1,M8,M56,M1,M57,M58,M59,M60,oQ P,nM P,M61,M62,M31,M6,MS P,M1,M67,M68,M69,M1,M8,M70,M1,M71,M72,M73,M74,sX P,tD P,M75,M76,M31,M6,LK P,M1,M78,M79,M80,M1,M8,M81,M1,M82,M83,M84,M85,sI P,sJ P,M86,M87,M31,M6,PH P,M1,M89,M90,M91,M1,M8,M92,M1,M93,M94,M95,M96,sG P,sZ P,M97,M98,M31,M6,IT P,M1,NR,LG,NT,M1,M8,PC,M1,MI,HV,NN,MR,rX P,tF P,JY,LW,M31,M6,xI P,M1,OC,NM,IJ,M1,M8,JD,M1,OM,MZ,HU,MU,sA P,sT P,JM,OJ,M31,M6,DV P,M1,PZ,RL,RE,M1,M8,SD,M1,QW,TX,VL,VS,vX P,wV P,VQ,UT,M31,M6,DU P,M1,SQ,UX,QP,M1,M8,TR,M1,QQ,WJ,RJ,UF,wE P,wZ P,QH,RY,M31,M6,CK P,M1,QI,UN,TH,M1,M8,QZ,M1,QS,VR,SZ,PY,wR P,xF P,TJ,UH,M31,M6,CM P,M1,RH,UO,VE,M1,M8,TF,M1,SM,RM,RC,VD,wJ P,wA P,UL,UZ,M31,M6,CJ P,M1,UB,VN,UC,M1,M8,RU,M1,TK,SK,QN,QO,xO P,wN P,TL,SG,M31,M6,LU P,M1,aBE,aAb,aCW,M1,M8,aAq,M1,aAK,aC2,aCO,aAr,CD P,CH P,aCq,aCf,mZ,M6,OI P,M1,aAO,aA9,aAC,M1,M8,aAe,M1,aBz,aA8,aBl,aAd,CP P,DA P,aCZ,aBj,mZ,M6,NE P,M1,aC5,aAk,aBS,M1,M8,aDb,M1,aBU,aC7,ZU,aAm,DO P,DJ P,aAa,aCa,mZ,M6,LF P,M1,M8,aAB,aA2,M1,DK P,CG P,aAS,aBL,mZ,M6,IY P,M1,M8,aCK,aDa,M1,BX P,CU P,aC8,aBC],(W.boot_heap P).life⟩
noncomputable abbrev Sm3 (w:World) (os:OsState):Shared:=⟨hm3 w.params,Array.mk [],W.boot_drawn,677,os⟩
noncomputable abbrev l3:List Stmt:=r2.take 5
noncomputable abbrev r3:List Stmt:=r2.drop 5
theorem aHj:∀ (w:World),∀ os:OsState,W.segRun treeTable pW w 11 (some (.ref 6)) 1 1162 (Sm2 w os) (W.piecesOf l3 env0 cE0 ⟨68,0,72,26⟩ B0)=some (.next,Sm3 w os,cE0,⟨90,0,91,8⟩):=by
  intro w os
  kernel_rfl
noncomputable def hm4 (P:Params):Heap:=⟨#[W.boot_o_0 P,W.boot_o_1 P,ko2 P,aDw P,W.boot_o_4 P,W.boot_o_5 P,W.boot_o_6 P,W.boot_o_7 P,W.boot_o_8 P,W.boot_o_9 P,W.boot_o_10 P,M1,aG8,M3,M4,M5,M6,mo7 P,M1,M8,M9,M10,M1,BK P,UU P,M12,M13,M14,M15,M6,EE P,M1,M8,M17,M18,M1,AM P,WI P,M20,M21,M22,M23,M6,EQ P,M1,M8,M25,M26,M1,AF P,aCI P,M28,M29,M30,M31,M6,EC P,M1,M33,M34,M35,M1,M8,M36,M1,M37,M38,M39,M40,yR P,AG P,M41,M42,M31,M6,FW P,M1,M44,M45,M46,M1,M8,M47,M1,M48,AS P,BH P,M49,zZ P,zJ P,M50,M51,M31,M6,FH P,M1,M53,M54,M55,M1,M8,M56,M1,M57,M58,M59,M60,oQ P,nM P,M61,M62,M31,M6,MS P,M1,M67,M68,M69,M1,M8,M70,M1,M71,M72,M73,M74,sX P,tD P,M75,M76,M31,M6,LK P,M1,M78,M79,M80,M1,M8,M81,M1,M82,M83,M84,M85,sI P,sJ P,M86,M87,M31,M6,PH P,M1,M89,M90,M91,M1,M8,M92,M1,M93,M94,M95,M96,sG P,sZ P,M97,M98,M31,M6,IT P,M1,NR,LG,NT,M1,M8,PC,M1,MI,HV,NN,MR,rX P,tF P,JY,LW,M31,M6,xI P,M1,OC,NM,IJ,M1,M8,JD,M1,OM,MZ,HU,MU,sA P,sT P,JM,OJ,M31,M6,DV P,M1,PZ,RL,RE,M1,M8,SD,M1,QW,TX,VL,VS,vX P,wV P,VQ,UT,M31,M6,DU P,M1,SQ,UX,QP,M1,M8,TR,M1,QQ,WJ,RJ,UF,wE P,wZ P,QH,RY,M31,M6,CK P,M1,QI,UN,TH,M1,M8,QZ,M1,QS,VR,SZ,PY,wR P,xF P,TJ,UH,M31,M6,CM P,M1,RH,UO,VE,M1,M8,TF,M1,SM,RM,RC,VD,wJ P,wA P,UL,UZ,M31,M6,CJ P,M1,UB,VN,UC,M1,M8,RU,M1,TK,SK,QN,QO,xO P,wN P,TL,SG,M31,M6,LU P,M1,aBE,aAb,aCW,M1,M8,aAq,M1,aAK,aC2,aCO,aAr,CD P,CH P,aCq,aCf,mZ,M6,OI P,M1,aAO,aA9,aAC,M1,M8,aAe,M1,aBz,aA8,aBl,aAd,CP P,DA P,aCZ,aBj,mZ,M6,NE P,M1,aC5,aAk,aBS,M1,M8,aDb,M1,aBU,aC7,ZU,aAm,DO P,DJ P,aAa,aCa,mZ,M6,LF P,M1,M8,aAB,aA2,M1,DK P,CG P,aAS,aBL,mZ,M6,IY P,M1,M8,aCK,aDa,M1,BX P,CU P,aC8,aBC,rM,M6,YQ P,M1,aFF,aD6,aE1,M1,M8,aEs,M1,aEr,aEX,aEy,aE4,IB P,LD P,aEF,aDU,rM,M6,ZE P,M1,aFl,aFm,aDg,M1,M8,aEm,M1,aEJ,aE7,aDo,aDH,IG P,JR P,aE3,aFf,rM,M6,WL P,M1,aDB,aFJ,aD4,M1,M8,aEU,M1,aFN,aFb,aFj,aDs,LS P,NP P,aFO,aEQ,rM,M6,YZ P,M1,aE0,aDm,aDe,M1,M8,aEt,M1,aDz,aEo,aDn,aFy,NS P,OG P,aFd,aFG,rM,M6,YN P,M1,M8,aFP,aFz,M1,IU P,HZ P,aD9,aDt],(W.boot_heap P).life⟩
noncomputable abbrev Sm4 (w:World) (os:OsState):Shared:=⟨hm4 w.params,Array.mk [],W.boot_drawn,793,os⟩
noncomputable abbrev l4:List Stmt:=r3.take 5
noncomputable abbrev r4:List Stmt:=r3.drop 5
theorem aGz:∀ (w:World),∀ os:OsState,W.segRun treeTable pW w 11 (some (.ref 6)) 1 1194 (Sm3 w os) (W.piecesOf l4 env0 cE0 ⟨90,0,91,8⟩ B0)=some (.next,Sm4 w os,cE0,⟨112,0,113,8⟩):=by
  intro w os
  kernel_rfl
noncomputable def hm5 (P:Params):Heap:=⟨#[W.boot_o_0 P,W.boot_o_1 P,ko2 P,ko3 P,W.boot_o_4 P,W.boot_o_5 P,W.boot_o_6 P,W.boot_o_7 P,W.boot_o_8 P,W.boot_o_9 P,W.boot_o_10 P,M1,aGt,M3,M4,M5,M6,mo7 P,M1,M8,M9,M10,M1,BK P,UU P,M12,M13,M14,M15,M6,EE P,M1,M8,M17,M18,M1,AM P,WI P,M20,M21,M22,M23,M6,EQ P,M1,M8,M25,M26,M1,AF P,aCI P,M28,M29,M30,M31,M6,EC P,M1,M33,M34,M35,M1,M8,M36,M1,M37,M38,M39,M40,yR P,AG P,M41,M42,M31,M6,FW P,M1,M44,M45,M46,M1,M8,M47,M1,M48,AS P,BH P,M49,zZ P,zJ P,M50,M51,M31,M6,FH P,M1,M53,M54,M55,M1,M8,M56,M1,M57,M58,M59,M60,oQ P,nM P,M61,M62,M31,M6,MS P,M1,M67,M68,M69,M1,M8,M70,M1,M71,M72,M73,M74,sX P,tD P,M75,M76,M31,M6,LK P,M1,M78,M79,M80,M1,M8,M81,M1,M82,M83,M84,M85,sI P,sJ P,M86,M87,M31,M6,PH P,M1,M89,M90,M91,M1,M8,M92,M1,M93,M94,M95,M96,sG P,sZ P,M97,M98,M31,M6,IT P,M1,NR,LG,NT,M1,M8,PC,M1,MI,HV,NN,MR,rX P,tF P,JY,LW,M31,M6,xI P,M1,OC,NM,IJ,M1,M8,JD,M1,OM,MZ,HU,MU,sA P,sT P,JM,OJ,M31,M6,DV P,M1,PZ,RL,RE,M1,M8,SD,M1,QW,TX,VL,VS,vX P,wV P,VQ,UT,M31,M6,DU P,M1,SQ,UX,QP,M1,M8,TR,M1,QQ,WJ,RJ,UF,wE P,wZ P,QH,RY,M31,M6,CK P,M1,QI,UN,TH,M1,M8,QZ,M1,QS,VR,SZ,PY,wR P,xF P,TJ,UH,M31,M6,CM P,M1,RH,UO,VE,M1,M8,TF,M1,SM,RM,RC,VD,wJ P,wA P,UL,UZ,M31,M6,CJ P,M1,UB,VN,UC,M1,M8,RU,M1,TK,SK,QN,QO,xO P,wN P,TL,SG,M31,M6,LU P,M1,aBE,aAb,aCW,M1,M8,aAq,M1,aAK,aC2,aCO,aAr,CD P,CH P,aCq,aCf,mZ,M6,OI P,M1,aAO,aA9,aAC,M1,M8,aAe,M1,aBz,aA8,aBl,aAd,CP P,DA P,aCZ,aBj,mZ,M6,NE P,M1,aC5,aAk,aBS,M1,M8,aDb,M1,aBU,aC7,ZU,aAm,DO P,DJ P,aAa,aCa,mZ,M6,LF P,M1,M8,aAB,aA2,M1,DK P,CG P,aAS,aBL,mZ,M6,IY P,M1,M8,aCK,aDa,M1,BX P,CU P,aC8,aBC,rM,M6,YQ P,M1,aFF,aD6,aE1,M1,M8,aEs,M1,aEr,aEX,aEy,aE4,IB P,LD P,aEF,aDU,rM,M6,ZE P,M1,aFl,aFm,aDg,M1,M8,aEm,M1,aEJ,aE7,aDo,aDH,IG P,JR P,aE3,aFf,rM,M6,WL P,M1,aDB,aFJ,aD4,M1,M8,aEU,M1,aFN,aFb,aFj,aDs,LS P,NP P,aFO,aEQ,rM,M6,YZ P,M1,aE0,aDm,aDe,M1,M8,aEt,M1,aDz,aEo,aDn,aFy,NS P,OG P,aFd,aFG,rM,M6,YN P,M1,M8,aFP,aFz,M1,IU P,HZ P,aD9,aDt,M1,M8,aGr,M1,aFY,XV P,YD P,M1,M8,aGE,M1,aHp,WR P,ZG P,M1,M8,aHR,M1,aGl,WN P,YW P,M1,M8,aGY,M1,aHd,XE P,XW P,M1,M8,aHg,M1,aHl,XQ P,WQ P,M1,M8,aF3,M1,aGi,WW P,YK P,M1,M6,aFx P,M1,aGL,aGd,aHD,M1,M8,aGT,M1,aGA,ZC P,ZJ P,M1,M8,aGM,M1,aGm,aHm,aGN,M1,M8,aGs,aG9,aF1,M1,M8,aGo,YT P,XB P,M1,M8,aHt,M1,aGH,aG0,aGX,aG6,XY P,YO P,aHr,aHQ,aFZ,aGP,M1,M8,aF5,M1,aHz,WM P,ZA P,M1,M8,aGB,M1,aHw,WT P,YA P,M1,M8,aHO,M1,aHE,XM P,WY P,M1,M8,aHa,M1,aGZ,WX P,YE P,M1,M8,aHH,M1,aHc,XS P,YM P,M1,M8,aGn,M1,aHo,YF P,YX P,M1,M8,aGe,M1,aHG,XI P,XO P,M1,M8,aHB,M1,aGq,YI P,YB P,M1,M8,aHi,YG P,ZD P,M1,M8,aG7,M1,aHq,YR P,WP P,M1,M8,aF8,M1,aHu,WK P,YU P,M1,M8,aG1,M1,aHA,ZB P,WU P,M1,M8,aGx,M1,aGy,WV P,XH P,M1,M8,aHs,YH P,XZ P,M1,M8,aHP,M1,aHN,XT P,ZI P,M1,M8,aGO,M1,aGI,ZF P,XF P],(W.boot_heap P).life⟩
noncomputable abbrev Sm5 (w:World) (os:OsState):Shared:=⟨hm5 w.params,Array.mk [],W.boot_drawn,1058,os⟩
noncomputable abbrev l5:List Stmt:=r4.take 28
noncomputable abbrev r5:List Stmt:=r4.drop 28
theorem aHF:∀ (w:World),∀ os:OsState,W.segRun treeTable pW w 11 (some (.ref 6)) 1 1075 (Sm4 w os) (W.piecesOf l5 env0 cE0 ⟨112,0,113,8⟩ B0)=some (.next,Sm5 w os,cE0,⟨272,0,282,15⟩):=by
  intro w os
  kernel_rfl
theorem aDE:∀ (w:World) (os:OsState),(W.topRun treeTable pW w 11 (some (.ref 6)) 21 (Sm5 w os) (W.restOf r5 env0 cE0 ⟨272,0,282,15⟩ B0)).map (fun s₁=>(W.staticsOk (importedModules pW.main.body) (W.boot_heap w.params) s₁.heap && W.namesBound pW s₁.heap && W.gensDone s₁ && W.laidKept (W.boot_heap w.params) s₁.heap,W.openSeen qv lo (importedModules pW.main.body) (fun s=>W.recOk [] s) true s₁,hk0.obs s₁))=some (true,W.openGood qv lo,hk0.val w):=by
  intro w os
  kernel_rfl
theorem hlt:W.LeftO PySem.Challenge.pw_lightshares_k06_shades_refused qv lo (fun s=>W.recOk [] s) hk0.obs hk0.val 14506:=by
  refine L3.aDC (M:=12 + (1 + (1313 + (1226 + (1226 + (1162 + (1194 + (1075 + 21)))))))) aHh aGR (by decide) fun w os=>?_
  obtain ⟨s₁,e,h⟩:=Option.map_eq_some_iff.mp (aDE w os)
  refine ⟨s₁,W.go_top (aFc w os) (W.piece_block (aEh w os) ?_),h⟩
  rw [show bdy=l0 ++ r0 from (List.take_append_drop _ _).symm]
  refine W.piece_app (aHf w os) ?_
  rw [show r0=l1 ++ r1 from (List.take_append_drop _ _).symm]
  refine W.piece_app (aHK w os) ?_
  rw [show r1=l2 ++ r2 from (List.take_append_drop _ _).symm]
  refine W.piece_app (aHb w os) ?_
  rw [show r2=l3 ++ r3 from (List.take_append_drop _ _).symm]
  refine W.piece_app (aHj w os) ?_
  rw [show r3=l4 ++ r4 from (List.take_append_drop _ _).symm]
  refine W.piece_app (aGz w os) ?_
  rw [show r4=l5 ++ r5 from (List.take_append_drop _ _).symm]
  refine W.piece_app (aHF w os) ?_
  exact e
end My
open PySem PySem.W PyProof.Rows
set_option maxRecDepth 100000 in
set_option maxHeartbeats 0 in
theorem PySem.Challenge.cw_lightshares_k06_shades_refused_holds : PySem.Challenge.rw_lightshares_k06_shades_refused.Holds := by
  w_on
  refine W.holds_law My.wsd fun said=>?_
  refine W.holds_open (q:=My.qv) (loose:=My.lo) (N:=14506) (XP:=fun _ _=>True)
    (Xt:=fun s=>W.recOk [] s)
    (Yf:=My.hk0.obs) (Ya:=My.hk0.val) (YP:=My.hk0.says)
    My.hlt My.hk0.of My.hk0.keeps
    (fun _ _=>trivial) (fun _ _ _ _ _=>trivial) (by rfl) (by rfl) (by rfl)
    (fun s e=>W.recFacts_of e) (by rfl) (by assumption) (by decide +kernel)
    ⟨rfl,rfl,rfl,rfl,rfl,by decide +kernel⟩ ?hw ?hc
  case hw=>w_witness2
  refine L2.ID (K:=My.K0) (l:=PySem.Challenge.rw_lightshares_k06_shades_refused) (n:=63) (k:=54) (x:="_law_script") (CX:=L2.CX0) (sp:=L3.DR)
    rfl (by decide) rfl ⟨fun _=>rfl,by decide,by decide,fun _=>rfl⟩ (fun w h Y=>W.kIn_of Y) ?F (fun K H a ns hl hO hS=>L3.HM hl hO hS) (fun _ _ _ _ z=>z)
  case F =>
    intro w mg fa h KX G hmg
    refine' My.aBf (C_Shade:=552)
      (CX_BookError:=50)
      (CX_BookFull:=455)
      (CX_EmptyMix:=367)
      (CX_MixError:=37)
      (CX_NameStands:=436)
      (CX_NoBack:=467)
      (CX_NoBlend:=379)
      (CX_NoDeed:=127)
      (CX_NoEye:=241)
      (CX_NoGrade:=203)
      (CX_NoLights:=298)
      (CX_NoLimit:=260)
      (CX_NoName:=417)
      (CX_NoNumber:=70)
      (CX_NoPart:=108)
      (CX_NoPlace:=279)
      (CX_NoRow:=317)
      (CX_NoShade:=89)
      (CX_NoStep:=222)
      (CX_NoText:=184)
      (CX_NoTurn:=146)
      (CX_NoWay:=165)
      (CX_NoWeight:=355)
      (CX_NoWeights:=336)
      (CX_NoWord:=398)
      (CX_ShadeError:=24)
      (f0:=483) (pm0:=My.zS3) (cd0:=(.ref 482))
      (f1:=476) (pm1:=My.zS3) (cd1:=(.ref 475))
      (f2:=490) (pm2:=My.zS3) (cd2:=(.ref 489))
      (f3:=511) (pm3:=My.zS2) (cd3:=(.ref 510))
      (f4:=86) (pm4:=My.zS0) (cd4:=(.ref 85))
      (f5:=525) (pm5:=My.zS2) (cd5:=(.ref 524))
      (f6:=584) (pm6:=My.zS1) (cd6:=(.ref 583))
      (f7:=624) (pm7:=My.zS1) (cd7:=(.ref 623))
      (f8:=563) (pm8:=My.zS2) (cd8:=(.ref 562))
      (f9:=570) (pm9:=My.zS2) (cd9:=(.ref 569))
      (f10:=577) (pm10:=My.zS2) (cd10:=(.ref 576))
      (f11:=645) (pm11:=My.zS1) (cd11:=(.ref 644))
      (f12:=598) (pm12:=My.zS1) (cd12:=(.ref 597))
      (f13:=631) (pm13:=My.zS1) (cd13:=(.ref 630))
      (f14:=497) (pm14:=My.zS3) (cd14:=(.ref 496))
      (f15:=504) (pm15:=My.zS3) (cd15:=(.ref 503))
      (f16:=542) (pm16:=My.zS2) (cd16:=(.ref 541))
      (f17:=657) (pm17:=My.zS1) (cd17:=(.ref 656))
      (f18:=591) (pm18:=My.zS1) (cd18:=(.ref 590))
      (f19:=638) (pm19:=My.zS1) (cd19:=(.ref 637))
      (f20:=650) (pm20:=My.zS1) (cd20:=(.ref 649))
      (f21:=605) (pm21:=My.zS1) (cd21:=(.ref 604))
      (f22:=612) (pm22:=My.zS1) (cd22:=(.ref 611))
      (f23:=617) (pm23:=My.zS1) (cd23:=(.ref 616))
      (f24:=664) (pm24:=My.zS1) (cd24:=(.ref 663))
      (tk_PIECE:=799)
      (tk_PIECE_FIGURES:=795) KX G hmg ?nn_Shade ?no_Shade ?nb_Shade ?aC_Shade ?pg_Shade ?hd_Shade ?po_Shade ?sa_Shade ?LQ ?kc_Shade ?ha_Shade ?hn_Shade ?ht_Shade ?hm_Shade ?aX_BookError ?aX_BookFull ?aX_EmptyMix ?aX_MixError ?aX_NameStands ?aX_NoBack ?aX_NoBlend ?aX_NoDeed ?aX_NoEye ?aX_NoGrade ?aX_NoLights ?aX_NoLimit ?aX_NoName ?aX_NoNumber ?aX_NoPart ?aX_NoPlace ?aX_NoRow ?aX_NoShade ?aX_NoStep ?aX_NoText ?aX_NoTurn ?aX_NoWay ?aX_NoWeight ?aX_NoWeights ?aX_NoWord ?aX_ShadeError ?xi_NoShade ?rd_NoShade ?fc_NoShade ?sg_NoShade ?hh_NoShade ?xs_NoShade ?xv_NoShade ?xn_NoShade ?xd_NoShade ?xk_NoShade ?xf_NoShade ?ya_NoShade ?yb_NoShade ?yc_NoShade ?yd_NoShade ?ye_NoShade ?yf_NoShade ?yg_NoShade ?yh_NoShade ?kx_NoShade_NoNumber ?kx_NoShade_NoShade ?kx_NoShade_NoPart ?kx_NoShade_NoDeed ?kx_NoShade_NoTurn ?kx_NoShade_NoWay ?kx_NoShade_NoText ?kx_NoShade_NoGrade ?kx_NoShade_NoStep ?kx_NoShade_NoEye ?kx_NoShade_NoLimit ?kx_NoShade_NoPlace ?kx_NoShade_NoLights ?kx_NoShade_NoRow ?kx_NoShade_NoWeights ?kx_NoShade_NoWeight ?kx_NoShade_EmptyMix ?kx_NoShade_NoBlend ?kx_NoShade_NoWord ?kx_NoShade_NoName ?kx_NoShade_NameStands ?kx_NoShade_BookFull ?kx_NoShade_NoBack ?kx_NoShade_ShadeError ?kx_NoShade_MixError ?kx_NoShade_BookError ?kx_NoShade_ValueError ?kx_NoShade_ArithmeticError ?kx_NoShade_LookupError ?fx_NoShade_light ?co_ShadeError ?ct_ShadeError ?sbtup ?sc_NoShade_ShadeError ?kp_Shade_NoneType ?kp_Shade_bool ?kp_Shade_int ?kp_Shade_str ?kp_Shade_list ?kp_Shade_tuple ?kp_Shade_dict ?ko_Shade_int ?ko_Shade_bool ?ko_Shade_tuple ?ko_Shade_str ?ko_Shade_list ?ko_Shade_dict ?na_Shade_ember ?na_Shade_leaf ?na_Shade_sky ?cc_PIECE ?cc_PIECE_FIGURES ?a0 ?l0 ?c0 ?k0 ?a1 ?l1 ?c1 ?k1 ?a2 ?l2 ?c2 ?k2 ?a3 ?l3 ?c3 ?k3 ?l4 ?c4 ?k4 ?a5 ?i5 ?l5 ?c5 ?k5 ?a6 ?l6 ?c6 ?k6 ?a7 ?l7 ?c7 ?k7 ?a8 ?l8 ?c8 ?k8 ?a9 ?l9 ?c9 ?k9 ?a10 ?l10 ?c10 ?k10 ?a11 ?l11 ?c11 ?k11 ?a12 ?l12 ?c12 ?k12 ?a13 ?l13 ?c13 ?k13 ?a14 ?l14 ?c14 ?k14 ?a15 ?l15 ?c15 ?k15 ?a16 ?i16 ?l16 ?c16 ?k16 ?a17 ?l17 ?c17 ?k17 ?a18 ?l18 ?c18 ?k18 ?a19 ?l19 ?c19 ?k19 ?a20 ?l20 ?c20 ?k20 ?a21 ?l21 ?c21 ?k21 ?a22 ?l22 ?c22 ?k22 ?a23 ?l23 ?c23 ?k23 ?a24 ?l24 ?c24 ?k24 ?z_ArithmeticError ?z_LookupError ?z_ValueError ?z_abs ?z_bool ?z_divmod ?z_enumerate ?z_int ?z_isinstance ?z_len ?z_list ?z_max ?z_min ?z_range ?z_str ?z_tuple
    all_goals kernel_rfl
